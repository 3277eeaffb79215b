/- The helpers of layer 4's laws: levels, kind, awake. -/
import Derived.Test.YtclinogamfpooaaFt
import Derived.Test.YtclinogamfpooaaFx
import Derived.Test.YtclinogamfpooaaEq
namespace Go.Proofs.Ytclinogamfpooaa
open Go.RowKit

theorem led_lvl_end {zs : List Int} {k n : Nat} (h : k ≤ led lvl zs) (hn : zs.length = n) (hk : ¬ k < n) : true = decide (chk zs < 0) := by
  have := led_le lvl zs
  rw [chk, fst_end lvl zs (by omega)]; rfl
theorem led_lvl_stop {zs : List Int} {k : Nat} {z : Int} (h : k ≤ led lvl zs) (hz : zs[k]? = some z) (hv : lvl z = false) : false = decide (chk zs < 0) := by
  rw [chk, fst_stop lvl zs k z h hz hv]; simp

set_option maxHeartbeats 400000 in
theorem levels04 (A : Option Addr) (n cap : Nat) (zs : List Int) (w : World) (hr : Il w A n zs) (hn : n ≤ 100000) :
    Calls Try.prog 18 #[.slice A n cap] w fun e w' => e = .returned (.bool (decide (chk zs < 0))) ∧ w = w' := by
  go_enter Try.func18, Try.ntmps18
  go_wp2
  go_loop [3] (fun i => ∃ k : Nat, k ≤ n ∧ i = .int .i64 k ∧ k ≤ led lvl zs) (fun i => n - (intOf i).toNat)
  case atStart => exact ⟨0, Nat.zero_le _, rfl, Nat.zero_le _⟩
  case round =>
    obtain ⟨k, hk, rfl, hld⟩ := hrel
    by_cases hlt : k < n
    · obtain ⟨ad, z, rfl, hz, hc⟩ := hr.at_ hlt
      have HR := Lib.hid hr; have HZ := Lib.hid hz
      clear hr hz
      cases h0 : (z == 0)
      · cases h1 : (z == 1)
        · have n0 : (z != 0) = true := by simp [bne, h0]
          have n1 : (z != 1) = true := by simp [bne, h1]
          go_wp2
          go_ret
          exact ⟨ret_bool (led_lvl_stop hld HZ.out (lvl_false h0 h1)), rfl⟩
        · have n0 : (z != 0) = true := by simp [bne, h0]
          have n1 : (z != 1) = false := by simp [bne, h1]
          go_wp2
          go_round
          case rel => exact ⟨k + 1, by omega, by go_num, led_succ lvl zs k z hld HZ.out (lvl_true (.inr h1))⟩
          case measure => simp [intOf]; omega
      · have n0 : (z != 0) = false := by simp [bne, h0]
        go_wp2
        go_round
        case rel => exact ⟨k + 1, by omega, by go_num, led_succ lvl zs k z hld HZ.out (lvl_true (.inl h0))⟩
        case measure => simp [intOf]; omega
    · go_wp2
      go_ret
      exact ⟨ret_bool (led_lvl_end hld hr.1 hlt), rfl⟩

def nine : List Int := [0, 1, 2, 3, 4, 5, 6, 7, 8, 9]
theorem nine_at (k : Nat) (h : k < 10) : nine[k]? = some (k : Int) := by
  rcases (show k = 0 ∨ k = 1 ∨ k = 2 ∨ k = 3 ∨ k = 4 ∨ k = 5 ∨ k = 6 ∨ k = 7 ∨ k = 8 ∨ k = 9 by omega) with rfl | rfl | rfl | rfl | rfl | rfl | rfl | rfl | rfl | rfl <;> rfl

set_option maxHeartbeats 400000 in
theorem kind_ok (x : Nat) (w : World) (hx : x ≤ 9) :
    Calls Try.prog 21 #[.int .i64 (x : Int)] w fun e w' => e = .returned (.int .i64 (x : Int)) ∧ Below w.heap.size w w' := by
  have HI := Lib.hid (show Il (w.alloc (.cells (nine.map (Value.int .i64)).toArray 3)) (some ⟨w.heap.size, 0, none⟩) 10 nine from (Arr.new w .i64 3 nine).il)
  have HB := Lib.hid ((Below.refl w.heap.size w).alloc (Nat.le_refl _) (.cells (nine.map (Value.int .i64)).toArray 3))
  rw [show (nine.map (Value.int .i64)).toArray = #[.int .i64 0, .int .i64 1, .int .i64 2, .int .i64 3, .int .i64 4, .int .i64 5, .int .i64 6, .int .i64 7, .int .i64 8, .int .i64 9] from rfl] at HI HB
  go_enter Try.func21, Try.ntmps21
  go_wp2
  go_loop [4] (fun i => ∃ k : Nat, k ≤ x ∧ i = .int .i64 k) (fun i => 10 - (intOf i).toNat)
  case atStart => exact ⟨0, Nat.zero_le _, rfl⟩
  case round =>
    obtain ⟨k, hk, rfl⟩ := hrel
    obtain ⟨ad, z, e, hz, hc⟩ := HI.out.at_ (show k < 10 by omega)
    injection e with e
    subst e
    rw [nine_at k (by omega)] at hz
    injection hz with hz
    subst hz
    rw [add_zero_off] at hc
    by_cases hlt : k < x
    · have hne : ((k : Int) == (x : Int)) = false := by rw [beq_eq_false_iff_ne]; omega
      go_wp2
      go_round
      case rel => exact ⟨k + 1, by omega, by go_num⟩
      case measure => simp [intOf]; omega
    · have e : k = x := by omega
      subst e
      go_wp2
      go_ret
      exact ⟨rfl, HB.out⟩

def f1 : Fr := ⟨1, false, false, 0, fun _ => 0⟩
def lone : List Int := [0, 0, 0, 0, 0, 0, 0, 0, 0, 0, 0, 1, 0, 0, 0, 0, 0, 0, 0]
theorem f1_may : f1.may = true := by decide
theorem f1_wf : f1.wf := fun k _ => ⟨by show (0 : Int) ≤ 0; omega, by show (0 : Int) ≤ 255; omega⟩
theorem f1_bts : bts f1 = lone := by decide
theorem f1_next : nout (hW lone) 19 0 = .tuple #[.int .i64 4, .int .i64 0, .int .i64 0] := by rfl
theorem f1_ahead : aout lone = .tuple #[.int .i64 19, .int .i64 0] := by rfl
theorem alls_len (f : Fr) : (alls f).length = (bts f).length + 25 := by
  unfold alls; rw [List.length_append, List.length_append, ofB_len]; simp
theorem f1_alls : (alls f1).length = 44 := by rw [alls_len, f1_bts]; rfl
theorem f1_frame : fout lone = .tuple #[f1.val, .int .i64 0] := by
  have e : frm lone = f1 := by
    unfold frm frk f1
    simp only [Fr.mk.injEq]
    refine ⟨by decide, by decide, by decide, by decide, ?_⟩
    funext j
    rw [if_neg (by rw [show hDat lone / 8 = 0 by decide]; omega)]
  unfold fout
  rw [if_neg (by decide), if_neg (by decide), e]
end Go.Proofs.Ytclinogamfpooaa
