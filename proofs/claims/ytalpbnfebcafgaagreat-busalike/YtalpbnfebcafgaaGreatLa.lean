/- The helpers of layer 4's laws: levels, kind, awake. -/
import Derived.Test.YtalpbnfebcafgaaGreatFt
import Derived.Test.YtalpbnfebcafgaaGreatFx
import Derived.Test.YtalpbnfebcafgaaGreatEq
namespace Go.Proofs.YtalpbnfebcafgaaGreat
set_option maxRecDepth 20000
open Go.RowKit

theorem led_lvl_end {zs : List Int} {k n : Nat} (h : k ≤ led lvl zs) (hn : zs.length = n) (hk : ¬ k < n) : true = decide (chk zs < 0) := by
  have := led_le lvl zs
  rw [chk, fst_end lvl zs (by omega)]; rfl
theorem led_lvl_stop {zs : List Int} {k : Nat} {z : Int} (h : k ≤ led lvl zs) (hz : zs[k]? = some z) (hv : lvl z = false) : false = decide (chk zs < 0) := by
  rw [chk, fst_stop lvl zs k z h hz hv]; simp

def nine : List Int := [0, 1, 2, 3, 4, 5, 6, 7, 8, 9]
theorem nine_at (k : Nat) (h : k < 10) : nine[k]? = some (k : Int) := by
  rcases (show k = 0 ∨ k = 1 ∨ k = 2 ∨ k = 3 ∨ k = 4 ∨ k = 5 ∨ k = 6 ∨ k = 7 ∨ k = 8 ∨ k = 9 by omega) with rfl | rfl | rfl | rfl | rfl | rfl | rfl | rfl | rfl | rfl <;> rfl

def f1 : Fr := ⟨1, false, false, 0, fun _ => 0⟩
def lone : List Int := [0, 0, 0, 0, 0, 0, 0, 0, 0, 0, 0, 1, 0, 0, 0, 0, 0, 0, 0]
theorem f1_may : f1.may = true := by decide
theorem f1_wf : f1.wf := fun k _ => ⟨by show (0 : Int) ≤ 0; omega, by show (0 : Int) ≤ 255; omega⟩
theorem f1_bts : bts f1 = lone := by decide
theorem f1_next : nout (hW lone) 19 0 = .tuple #[.int .i64 4, .int .i64 0, .int .i64 0] := by rfl
theorem f1_ahead : aout lone = .tuple #[.int .i64 19, .int .i64 0] := by rfl
theorem alls_len (f : Fr) : (alls f).length = (bts f).length + 25 := by
  unfold alls; rw [List.length_append, List.length_append, ofB_len]; simp
theorem f1_alls : (alls f1).length = 44 := by rw [alls_len, f1_bts]; rfl
theorem f1_frame : fout lone = .tuple #[f1.val, .int .i64 0] := by
  have e : frm lone = f1 := by
    unfold frm frk f1
    simp only [Fr.mk.injEq]
    refine ⟨by decide, by decide, by decide, by decide, ?_⟩
    funext j
    rw [if_neg (by rw [show hDat lone / 8 = 0 by decide]; omega)]
  unfold fout
  rw [if_neg (by decide), if_neg (by decide), e]
end Go.Proofs.YtalpbnfebcafgaaGreat
