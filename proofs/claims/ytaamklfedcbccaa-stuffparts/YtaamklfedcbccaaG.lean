/- The contracts of bits.Runs and bits.Longest. -/
import Derived.Test.YtaamklfedcbccaaF
namespace Go.Proofs.Ytaamklfedcbccaa
open Go.RowKit

/-- Within a run that began at f: m of it are alike. -/
def Within (zs rs : List Int) (f m : Nat) : Prop := m = 0 ∨ stt zs (f + m - 1) = (rs, f)
theorem Within.stay {zs rs : List Int} {f m : Nat} {x y : Int} (h : Within zs rs f m) (h0 : stt zs f = (rs, f)) (hl : f + m < zs.length) (hx : zs[f + m]? = some x) (hy : zs[f]? = some y) (he : (x != y) = false) : Within zs rs f (m + 1) := by
  rcases Nat.eq_zero_or_pos m with rfl | hm
  · exact .inr h0
  · rcases h with h | h
    · omega
    · exact .inr (stay_at (i := f + m) (by omega) h hl hx hy he)
theorem Within.cut {zs rs : List Int} {f m : Nat} {x y : Int} (h : Within zs rs f m) (hx : zs[f + m]? = some x) (hy : zs[f]? = some y) (he : (x != y) = true) : 1 ≤ m ∧ stt zs (f + m) = (rs ++ [(m : Int)], f + m) := by
  rcases Nat.eq_zero_or_pos m with rfl | hm
  · rw [Nat.add_zero, hy] at hx; injection hx with hx; subst hx; simp at he
  · rcases h with h | h
    · omega
    · refine ⟨hm, ?_⟩
      have := rcut_at (i := f + m) (by omega) h hx hy he
      rw [this]; congr 3; omega
theorem Within.last {zs rs : List Int} {f m : Nat} (h : Within zs rs f m) (hm : 1 ≤ m) (he : f + m = zs.length) : stt zs (f + m) = (rs ++ [(m : Int)], f + m) := by
  rcases h with h | h
  · omega
  · rw [last_at (i := f + m) (by omega) h he]; congr 3; omega

set_option maxHeartbeats 1000000 in
theorem runs_ok (A : Option Addr) (n cap : Nat) (zs : List Int) (w : World) (hr : Il w A n zs) (hn : n ≤ 100000) :
    Calls Try.prog 24 #[.slice A n cap] w (SlOne (runs zs) w) := by
  go_enter Try.func24, Try.ntmps24
  go_wp2
  go_step3
  go_wp2
  go_step3
  go_wp2
  go_loopg [3, 4] n (fun g s3 s4 wx => ∃ (f : Nat) (rs : List Int), f + g = n ∧ s4 = .int .i64 f ∧ stt zs f = (rs, f) ∧ rs.length ≤ f ∧ Own wx w.heap.size s3 rs ∧ Below w.heap.size w wx)
  case atStart => exact ⟨0, [], by omega, rfl, rfl, Nat.le_refl _, Own.nil _ _, Below.refl _ _⟩
  case round =>
    obtain ⟨f, rs, hfg, rfl, hst, hrl, hown, hbel⟩ := hrel
    have HR := Lib.hid hr; have HS := Lib.hid hst
    clear hr hst
    cases gk with
    | zero =>
      have hz : ¬ ((f : Int) < (n : Int)) := by omega
      obtain ⟨A', cap', rfl, hil⟩ := hown.il
      have HI := Lib.hid hil; have HW := Lib.hid hown
      clear hil hown
      go_wp2
      go_ret
      have e : runs zs = rs := by unfold runs; rw [HR.out.1, show n = f by omega, HS.out]
      unfold SlOne
      rw [e]
      exact ⟨A', cap', rfl, HI.out, hbel⟩
    | succ g =>
      have HW := Lib.hid hown
      clear hown
      have hz : (f : Int) < (n : Int) := by omega
      have hsz := hbel.size
      go_wp2
      go_loopg [3, 4, 14] (g + 1) (fun g2 t3 t4 t14 wy => ∃ (m : Nat), m + g2 = g + 1 ∧ t4 = .int .i64 f ∧ t14 = .int .i64 m ∧ Within zs rs f m ∧ Own wy w.heap.size t3 rs ∧ Below w.heap.size w wy)
      case atStart => exact ⟨0, by omega, rfl, rfl, .inl rfl, HW.out, hbel⟩
      case round =>
        obtain ⟨m, hmg, rfl, rfl, hwi, hw2, hb2⟩ := hrel
        have HI := Lib.hid hwi; have HW2 := Lib.hid hw2
        clear hwi hw2 HW hbel hsz
        have hsz2 := hb2.size
        cases gk with
        | zero =>
          have hz2 : ¬ ((m : Int) < (n : Int) - (f : Int)) := by omega
          go_wp2_with (at_builtin; (refine append_ints _ rfl (.tmp 36) (.tmp 41) rfl w.heap.size _ rs rfl (HW2.out.alloc _) _ 1 1 [(n : Int) - (f : Int)] rfl (Arr.new wr .i64 3 [(n : Int) - (f : Int)]).il (by omega) (by simp; omega) ?_); intro v1 w1 ho hg1)
          obtain ⟨A', cap', rfl, hil⟩ := ho.il
          go_ret
          have e : runs zs = rs ++ [(n : Int) - (f : Int)] := by
            have h1 := HI.out.last (by omega) (by rw [HR.out.1]; omega)
            rw [show f + m = n by omega] at h1
            unfold runs
            rw [HR.out.1, h1, show (n : Int) - (f : Int) = (m : Int) by omega]
          unfold SlOne
          rw [e]
          exact ⟨A', cap', rfl, hil, (hb2.alloc hsz2 _).grown hg1 (by simp; omega) HW2.out.row⟩
        | succ g2 =>
          have hz2 : (m : Int) < (n : Int) - (f : Int) := by omega
          obtain ⟨ad, x, rfl, hx, hc⟩ := (HR.out.below hb2).at_ (show f + m < n by omega)
          obtain ⟨ad', y, e, hy, hd⟩ := (HR.out.below hb2).at_ (show f < n by omega)
          injection e with e; subst e
          have HX := Lib.hid hx; have HY := Lib.hid hy
          clear hx hy
          have e1 : IntKind.i64.wrap ((f : Int) + (m : Int)) = (f : Int) + (m : Int) := IntWalk.i64_in _ (by omega)
          have e2 : ((f : Int) + (m : Int)).toNat = f + m := by omega
          cases hxy : (x != y)
          · go_wp2
            go_quiet (fail)
            clear e1 e2
            go_wp2
            go_roundg g2
            case measure => omega
            case rel => exact ⟨m + 1, by omega, rfl, by go_num, HI.out.stay HS.out (by rw [HR.out.1]; omega) HX.out HY.out hxy, HW2.out, belowN hb2 _⟩
          · go_wp2
            go_quiet (fail)
            clear e1 e2
            have HW3 := Lib.hid (show Own (wr.drewN nq) w.heap.size _ rs from HW2.out)
            have hb3 : Below w.heap.size w (wr.drewN nq) := belowN hb2 nq
            clear HW2 hb2
            generalize wr.drewN nq = w3 at *
            have hsz3 := hb3.size
            go_wp2_with (at_builtin; (refine append_ints _ rfl (.tmp 28) (.tmp 30) rfl w.heap.size _ rs rfl (HW3.out.alloc _) _ 1 1 [(m : Int)] rfl (Arr.new w3 .i64 3 [(m : Int)]).il (by omega) (by simp; omega) ?_); intro v1 w1 ho hg1)
            have hq := HI.out.cut HX.out HY.out hxy
            go_roundg (g + 1 - m)
            case measure => omega
            case rel => exact ⟨f + m, _, by omega, by go_num, hq.2, by simp; omega, ho, (hb3.alloc hsz3 _).grown hg1 (by simp; omega) HW3.out.row⟩
end Go.Proofs.Ytaamklfedcbccaa
