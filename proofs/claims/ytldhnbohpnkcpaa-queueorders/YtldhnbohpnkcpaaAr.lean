/- The contracts of frame.Arb, bothMayBe, place, Less and Rival. -/
import Derived.Test.YtldhnbohpnkcpaaCk
import Derived.Deep.RegionHeld3
namespace Go.Proofs.Ytldhnbohpnkcpaa
open Go.RowKit

theorem err_ok {f : Fr} (h : f.may = true) : f.err = 0 := by simp [Fr.err, h]
theorem err_no {f : Fr} (h : f.may = false) : f.err = 14 := by simp [Fr.err, h]
theorem boxed (f : Fr) (w : World) : Below w.heap.size w (w.alloc (.cells f.cells 34)) := (Below.refl _ _).alloc (Nat.le_refl _) _
theorem wid_le (f : Fr) : f.wid ≤ 64 := by unfold Fr.wid; split <;> omega
theorem num_lt {f : Fr} (h : f.may = true) : f.num < 4294967296 := by
  obtain ⟨h0, h1, _⟩ := may_parts h
  unfold Fr.most at h1
  unfold Fr.num
  have hr : f.rtr.toNat ≤ 1 := by cases f.rtr <;> decide
  split at h1 <;> simp_all <;> omega
theorem num_short_lt {f : Fr} (h : f.may = true) (hx : f.ext = false) : f.num < 8192 := by
  obtain ⟨h0, h1, _⟩ := may_parts h
  simp only [Fr.most, hx] at h1
  simp only [Fr.num, hx]
  have hr : f.rtr.toNat ≤ 1 := by cases f.rtr <;> decide
  simp at h1 ⊢
  omega

/-- The number by which frames stand in their order. -/
def Fr.plc (f : Fr) : Nat := if f.ext then f.num else f.num * 524288

/-- Block g holds the frame f. -/
def Bx (w : World) (g : Nat) (f : Fr) : Prop := w.cell? ⟨g, 0, none⟩ = some (.int .i64 f.id) ∧ w.cell? ⟨g, 1, none⟩ = some (.bool f.ext) ∧ w.cell? ⟨g, 2, none⟩ = some (.bool f.rtr) ∧ w.cell? ⟨g, 3, none⟩ = some (.int .i64 f.len) ∧ w.cell? ⟨g, 4, none⟩ = some (.int .u8 (f.d 0)) ∧ w.cell? ⟨g, 5, none⟩ = some (.int .u8 (f.d 1)) ∧ w.cell? ⟨g, 6, none⟩ = some (.int .u8 (f.d 2)) ∧ w.cell? ⟨g, 7, none⟩ = some (.int .u8 (f.d 3)) ∧ w.cell? ⟨g, 8, none⟩ = some (.int .u8 (f.d 4)) ∧ w.cell? ⟨g, 9, none⟩ = some (.int .u8 (f.d 5)) ∧ w.cell? ⟨g, 10, none⟩ = some (.int .u8 (f.d 6)) ∧ w.cell? ⟨g, 11, none⟩ = some (.int .u8 (f.d 7))
theorem bx_of {w : World} {g : Nat} {f : Fr} (h : w.heap[g]? = some (.cells f.cells 34)) : Bx w g f := by
  unfold Bx
  simp only [World.cell?, h]
  refine ⟨rfl, rfl, rfl, rfl, rfl, rfl, rfl, rfl, rfl, rfl, rfl, rfl⟩
theorem bx_new (w : World) (f : Fr) : Bx (w.alloc (.cells f.cells 34)) w.heap.size f := bx_of (heap_alloc_new w _)
theorem Bx.below {w w' : World} {g : Nat} {f : Fr} (h : Bx w g f) (hb : Below w.heap.size w w') (hg : g < w.heap.size) : Bx w' g f := by
  unfold Bx at h ⊢
  have e : ∀ k, w'.cell? ⟨g, k, none⟩ = w.cell? ⟨g, k, none⟩ := fun k => hb.cell hg
  simp only [e]
  exact h
theorem bx_past {w w' : World} {f : Fr} (hb : Below (w.alloc (.cells f.cells 34)).heap.size (w.alloc (.cells f.cells 34)) w') : Bx w' w.heap.size f :=
  (bx_new w f).below hb (by simp)

end Go.Proofs.Ytldhnbohpnkcpaa
