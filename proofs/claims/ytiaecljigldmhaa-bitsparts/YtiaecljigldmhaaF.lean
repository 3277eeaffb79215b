/- The contracts of the reference's Runs, of bits.Runs and bits.Longest. -/
import Derived.Test.YtiaecljigldmhaaE
import Derived.Test.YtiaecljigldmhaaRunsMath
import Derived.Deep.LoopGhost
import Derived.WalkMore
namespace Go.Proofs.Ytiaecljigldmhaa
open Go.RowKit

theorem cut_at {zs rs : List Int} {i f : Nat} {x y : Int} (h1 : 1 ≤ i) (h : stt zs (i - 1) = (rs, f)) (hx : zs[i]? = some x) (hy : zs[f]? = some y) (he : (x != y) = true) : stt zs i = (rs ++ [(i : Int) - (f : Int)], i) := by
  have := stt_cut h (by rw [show i - 1 + 1 = i by omega]; simp only [List.getD, hx, hy]; simpa using he)
  rwa [show i - 1 + 1 = i by omega] at this
theorem stay_at {zs rs : List Int} {i f : Nat} {x y : Int} (h1 : 1 ≤ i) (h : stt zs (i - 1) = (rs, f)) (hi : i < zs.length) (hx : zs[i]? = some x) (hy : zs[f]? = some y) (he : (x != y) = false) : stt zs i = (rs, f) := by
  have := stt_stay h (by omega) (by rw [show i - 1 + 1 = i by omega]; simp only [List.getD, hx, hy]; simpa using he)
  rwa [show i - 1 + 1 = i by omega] at this
theorem last_at {zs rs : List Int} {i f : Nat} (h1 : 1 ≤ i) (h : stt zs (i - 1) = (rs, f)) (hi : i = zs.length) : stt zs i = (rs ++ [(i : Int) - (f : Int)], i) := by
  have := stt_last h (by omega)
  rwa [show i - 1 + 1 = i by omega] at this
theorem from_le {zs rs : List Int} {i f : Nat} (h : stt zs i = (rs, f)) (hi : i < zs.length) : f ≤ i := by
  have := (stt_inv zs i hi).1; rw [h] at this; exact this
theorem runs_small (zs : List Int) (i : Nat) (h : i < zs.length) : (stt zs i).1.length ≤ i := by
  induction i with
  | zero => simp [stt]
  | succ i ih =>
    have := ih (by omega)
    simp only [stt, stp]
    split <;> simp <;> omega

theorem belowN {B : Nat} {a w : World} (h : Below B a w) (n : Nat) : Below B a (w.drewN n) := ⟨h.os, h.tape, h.output, h.size, h.block⟩

set_option maxHeartbeats 800000 in
theorem rruns_ok (A : Option Addr) (n cap : Nat) (zs : List Int) (w : World) (hr : Il w A n zs) (hn : n ≤ 100000) :
    Calls Try.prog 20 #[.slice A n cap] w (SlOne (runs zs) w) := by
  have HO := Lib.hid (Own.lit w w.heap.size [] (Nat.le_refl _) (by simp))
  go_enter Try.func20, Try.ntmps20
  go_wp2
  go_loopw [3, 4, 5] (fun v f i wr => ∃ (j g : Nat) (rs : List Int), 1 ≤ j ∧ j ≤ n + 1 ∧ i = .int .i64 j ∧ f = .int .i64 g ∧ stt zs (j - 1) = (rs, g) ∧ Own wr w.heap.size v rs ∧ Below w.heap.size w wr) (fun _ _ i _ => n + 1 - (intOf i).toNat)
  case atStart => exact ⟨1, 0, [], Nat.le_refl _, by omega, rfl, rfl, rfl, HO.out, (Below.refl _ _).alloc (Nat.le_refl _) _⟩
  case round =>
    obtain ⟨j, g, rs, hj, hjn, rfl, rfl, hst, hown, hbel⟩ := hrel
    by_cases hlt : j ≤ n
    · have hg := from_le hst (by rw [hr.1]; omega)
      have hrs : rs.length ≤ j - 1 := by have := runs_small zs (j - 1) (by rw [hr.1]; omega); rw [hst] at this; exact this
      have HL := Lib.hid hr.1
      have hsz := hbel.size
      by_cases hjn' : j = n
      · have hb : ((j : Int) == (n : Int)) = true := by simp; omega
        have HE := Lib.hid (last_at hj hst (by rw [HL.out]; exact hjn'))
        have HS := Lib.hid hst; have HR := Lib.hid hr; have HW := Lib.hid hown
        clear hst hr hown hjn'
        go_wp2
        go_quiet (fail)
        have HW2 := Lib.hid (show Own (wr.drewN nq) w.heap.size _ rs from HW.out)
        have hb2 : Below w.heap.size w (wr.drewN nq) := belowN hbel nq
        clear HW hbel hsz
        generalize wr.drewN nq = w2 at *
        have hsz := hb2.size
        go_wp2_with (at_builtin; (refine append_ints _ rfl (.tmp 28) (.tmp 32) rfl w.heap.size _ rs rfl (HW2.out.alloc _) _ 1 1 [(j : Int) - (g : Int)] rfl (Arr.new w2 .i64 3 [(j : Int) - (g : Int)]).il (by omega) (by simp; omega) ?_); intro v1 w1 ho hg1)
        go_roundw
        case rel => exact ⟨j + 1, j, _, by omega, by omega, by go_num, rfl, HE.out, ho, (hb2.alloc hsz _).grown hg1 (by simp; omega) HW2.out.row⟩
        case measure => simp [intOf]; omega
      · have hb : ((j : Int) == (n : Int)) = false := by simp; omega
        obtain ⟨ad, x, rfl, hx, hc⟩ := (hr.below hbel).at_ (show j < n by omega)
        obtain ⟨ad', y, e, hy, hd⟩ := (hr.below hbel).at_ (show g < n by omega)
        injection e with e; subst e
        cases hxy : (x != y)
        · have HE := Lib.hid (stay_at hj hst (by rw [HL.out]; omega) hx hy hxy)
          have HS := Lib.hid hst; have HR := Lib.hid hr; have HW := Lib.hid hown; have HX := Lib.hid hx; have HY := Lib.hid hy
          clear hst hr hown hx hy
          go_wp2
          go_quiet (fail)
          have HW2 := Lib.hid (show Own (wr.drewN nq) w.heap.size _ rs from HW.out)
          have hb2 : Below w.heap.size w (wr.drewN nq) := belowN hbel nq
          clear HW hbel hsz
          generalize wr.drewN nq = w2 at *
          go_wp2
          go_roundw
          case rel => exact ⟨j + 1, g, rs, by omega, by omega, by go_num, rfl, HE.out, HW2.out, hb2⟩
          case measure => simp [intOf]; omega
        · have HE := Lib.hid (cut_at hj hst hx hy hxy)
          have HS := Lib.hid hst; have HR := Lib.hid hr; have HW := Lib.hid hown; have HX := Lib.hid hx; have HY := Lib.hid hy
          clear hst hr hown hx hy
          go_wp2
          go_quiet (fail)
          have HW2 := Lib.hid (show Own (wr.drewN nq) w.heap.size _ rs from HW.out)
          have hb2 : Below w.heap.size w (wr.drewN nq) := belowN hbel nq
          clear HW hbel hsz
          generalize wr.drewN nq = w2 at *
          have hsz := hb2.size
          go_wp2_with (at_builtin; (refine append_ints _ rfl (.tmp 28) (.tmp 32) rfl w.heap.size _ rs rfl (HW2.out.alloc _) _ 1 1 [(j : Int) - (g : Int)] rfl (Arr.new w2 .i64 3 [(j : Int) - (g : Int)]).il (by omega) (by simp; omega) ?_); intro v1 w1 ho hg1)
          go_roundw
          case rel => exact ⟨j + 1, j, _, by omega, by omega, by go_num, rfl, HE.out, ho, (hb2.alloc hsz _).grown hg1 (by simp; omega) HW2.out.row⟩
          case measure => simp [intOf]; omega
    · have e : zs.length = j - 1 := by rw [hr.1]; omega
      have hrs : runs zs = rs := by unfold runs; rw [e, hst]
      have HS := Lib.hid hst; have HR := Lib.hid hr; have HQ := Lib.hid hrs; have HE := Lib.hid e
      obtain ⟨A', cap', rfl, hil⟩ := hown.il
      have HI := Lib.hid hil
      clear hst hr hrs e hil hown
      go_wp2
      go_ret
      unfold SlOne
      rw [HQ.out]
      exact ⟨A', cap', rfl, HI.out, hbel⟩
end Go.Proofs.Ytiaecljigldmhaa
