/- Two slices in a block, and a row laid behind it. -/
import Derived.Test.YtaamklfedcbccaaM
namespace Go.Proofs.Ytaamklfedcbccaa
open Go.RowKit

theorem own_box (w : World) (o : Obj) : Own ((w.alloc o).alloc (.cells #[] 3)) (w.heap.size + 1) (.slice (some ⟨w.heap.size + 1, 0, none⟩) 0 0) [] := by
  have h := Own.lit (w.alloc o) (w.heap.size + 1) [] (by simp) (by simp)
  simpa using h
theorem below_box {w w' : World} {o o' : Obj} {n c : Nat} (h : ((w.alloc o).alloc o').drew.grownBy w' (Value.slice (some ⟨w.heap.size + 1, 0, none⟩) n c).ownBlock) : Below (w.heap.size + 1) (w.alloc o) w' :=
  (((Below.refl _ _).alloc (by simp) _).drew).grown h (by simp) (by intro j hj; injection hj with hj; subst hj; simp)
theorem box_cells (w : World) (u v : Value) (t : TypeId) : (w.alloc (.cells #[u, v] t)).cell? ⟨w.heap.size, 0, none⟩ = some u ∧ (w.alloc (.cells #[u, v] t)).cell? ⟨w.heap.size, 1, none⟩ = some v := by
  constructor <;> simp
end Go.Proofs.Ytaamklfedcbccaa
