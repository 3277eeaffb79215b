/- The walk of the law Crc15Xors. -/
import Derived.Test.YtafcabnjkkbfiaaQ6
import Derived.StillTailTactics
namespace Go.Proofs.Ytafcabnjkkbfiaa
open Go.RowKit

/-- Numbers xor others, one by one. -/
def xors (xs ys : List Int) : List Int := List.zipWith (fun a b => bits .xor .i64 a b) xs ys
theorem xors_step {xs ys : List Int} {k : Nat} {x y : Int} (hx : xs[k]? = some x) (hy : ys[k]? = some y) : xors (xs.take (k + 1)) (ys.take (k + 1)) = xors (xs.take k) (ys.take k) ++ [bits .xor .i64 x y] := by
  have h1 : k < xs.length := by
    rcases Nat.lt_or_ge k xs.length with h | h
    · exact h
    · rw [List.getElem?_eq_none h] at hx; cases hx
  have h2 : k < ys.length := by
    rcases Nat.lt_or_ge k ys.length with h | h
    · exact h
    · rw [List.getElem?_eq_none h] at hy; cases hy
  unfold xors
  rw [List.take_add_one, List.take_add_one, hx, hy]
  exact List.zipWith_append (by rw [List.length_take, List.length_take]; omega)
theorem xor_lvl {x y : Int} (hx : x = 0 ∨ x = 1) (hy : y = 0 ∨ y = 1) : bits .xor .i64 x y = xr x y := by
  rcases hx with rfl | rfl <;> rcases hy with rfl | rfl <;> decide
theorem xors_lvl : ∀ {xs ys : List Int}, (∀ z ∈ xs, lvl z = true) → (∀ z ∈ ys, lvl z = true) → xors xs ys = List.zipWith xr xs ys := by
  intro xs
  induction xs with
  | nil => intro ys _ _; rfl
  | cons x xs ih =>
    intro ys hx hy
    cases ys with
    | nil => rfl
    | cons y ys =>
      have h := ih (fun z hz => hx z (by simp [hz])) (ys := ys) (fun z hz => hy z (by simp [hz]))
      unfold xors at h ⊢
      rw [List.zipWith_cons_cons, List.zipWith_cons_cons, h, xor_lvl (lvl_01 (hx x (by simp))) (lvl_01 (hy y (by simp)))]
theorem xors_csum {xs ys : List Int} (hl : xs.length = ys.length) (hx : ∀ z ∈ xs, lvl z = true) (hy : ∀ z ∈ ys, lvl z = true) : csum (xors xs ys) = csum xs ^^^ csum ys := by
  rw [xors_lvl hx hy]
  exact (run_xor xs ys 0 0 (by omega) (by omega) hl hx hy).symm
theorem xors_all {xs ys : List Int} (hx : ∀ z ∈ xs, lvl z = true) (hy : ∀ z ∈ ys, lvl z = true) : ∀ z ∈ xors xs ys, lvl z = true := by
  rw [xors_lvl hx hy]; exact xrs_lvl xs ys

/-- What the first loop has behind k rounds. -/
structure Three (w : World) (base : Nat) (xs ys : List Int) (k : Nat) (vx va vb : Value) : Prop where
  x : Own w base vx (xors (xs.take k) (ys.take k))
  a : Own w base va (xs.take k)
  b : Own w base vb (ys.take k)
  xa : Sep vx va
  xb : Sep vx vb
  ab : Sep va vb
theorem own_empty (w : World) (base : Nat) (hb : base ≤ w.heap.size) : Own (w.alloc (.cells #[] 3)) base (.slice (some ⟨w.heap.size, 0, none⟩) 0 0) [] := Own.lit w base [] hb (by simp)
theorem Three.start (w : World) (xs ys : List Int) : Three (((w.alloc (.cells #[] 3)).alloc (.cells #[] 3)).alloc (.cells #[] 3)) w.heap.size xs ys 0 (.slice (some ⟨w.heap.size, 0, none⟩) 0 0) (.slice (some ⟨w.heap.size + 1, 0, none⟩) 0 0) (.slice (some ⟨w.heap.size + 1 + 1, 0, none⟩) 0 0) := by
  have e1 : (w.alloc (.cells #[] 3)).heap.size = w.heap.size + 1 := by simp
  have e2 : ((w.alloc (.cells #[] 3)).alloc (.cells #[] 3)).heap.size = w.heap.size + 1 + 1 := by simp
  have h1 := own_empty w w.heap.size (Nat.le_refl _)
  have h2 := own_empty (w.alloc (.cells #[] 3)) w.heap.size (by rw [e1]; omega)
  have h3 := own_empty ((w.alloc (.cells #[] 3)).alloc (.cells #[] 3)) w.heap.size (by rw [e2]; omega)
  rw [e1] at h2
  rw [e2] at h3
  exact ⟨(h1.alloc _).alloc _, h2.alloc _, h3, .inr (by simp [Value.ownBlock]), .inr (by simp [Value.ownBlock]; omega), .inr (by simp [Value.ownBlock])⟩
section
variable {w w2 : World} {o : Obj} {base k : Nat} {xs ys : List Int} {vx va vb v' : Value}
theorem Three.pushA (h : Three w base xs ys k vx va vb) (hg : (w.alloc o).grownBy w2 va.ownBlock) (hl : Lies (w.alloc o) va v') :
    Own w2 base vx (xors (xs.take k) (ys.take k)) ∧ Own w2 base vb (ys.take k) ∧ Sep vx v' ∧ Sep vb v' ∧ Sep vx vb :=
  ⟨(h.x.alloc o).kept hg h.xa, (h.b.alloc o).kept hg h.ab.symm, h.xa.lies (h.x.alloc o) hl, h.ab.symm.lies (h.b.alloc o) hl, h.xb⟩
end
end Go.Proofs.Ytafcabnjkkbfiaa
