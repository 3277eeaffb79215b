/- The contracts of the reference of layer 2: Of, Value, Poly, Behind, Sum. -/
import Derived.Test.YtclinogamfpooaaK2
import Derived.Test.YtclinogamfpooaaW2
namespace Go.Proofs.Ytclinogamfpooaa
open Go.RowKit

theorem halfI (s k : Nat) : ((s / 2 ^ k : Nat) : Int) / 2 = ((s / 2 ^ (k + 1) : Nat) : Int) := by
  rw [Nat.pow_succ, ← Nat.div_div_eq_div_mul]; omega
theorem bitI (s k : Nat) : ((s / 2 ^ k : Nat) : Int) % 2 = bit s k := by unfold bit; omega

theorem poly_ok (w : World) : Calls Try.prog 59 #[] w (fun e w' => e = .returned (.slice (some ⟨w.heap.size, 0, none⟩) 15 15) ∧ Il w' (some ⟨w.heap.size, 0, none⟩) 15 poly ∧ Below w.heap.size w w') := by
  have HB := Lib.hid (Arr.new w .i64 3 poly)
  go_enter Try.func59, Try.ntmps59
  go_wp2
  go_ret
  exact ⟨rfl, HB.out.il, (Below.refl _ _).alloc (Nat.le_refl _) _⟩
end Go.Proofs.Ytclinogamfpooaa
