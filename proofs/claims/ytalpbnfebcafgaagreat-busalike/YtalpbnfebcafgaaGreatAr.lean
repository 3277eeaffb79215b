/- The contracts of frame.Arb, bothMayBe, place, Less and Rival. -/
import Derived.Test.YtalpbnfebcafgaaGreatCk
import Derived.Deep.RegionHeld3
namespace Go.Proofs.YtalpbnfebcafgaaGreat
set_option maxRecDepth 20000
open Go.RowKit

theorem err_ok {f : Fr} (h : f.may = true) : f.err = 0 := by simp [Fr.err, h]
theorem err_no {f : Fr} (h : f.may = false) : f.err = 14 := by simp [Fr.err, h]
theorem boxed (f : Fr) (w : World) : Below w.heap.size w (w.alloc (.cells f.cells 31)) := (Below.refl _ _).alloc (Nat.le_refl _) _
theorem wid_le (f : Fr) : f.wid ≤ 64 := by unfold Fr.wid; split <;> omega
theorem num_lt {f : Fr} (h : f.may = true) : f.num < 4294967296 := by
  obtain ⟨h0, h1, _⟩ := may_parts h
  unfold Fr.most at h1
  unfold Fr.num
  have hr : f.rtr.toNat ≤ 1 := by cases f.rtr <;> decide
  split at h1 <;> simp_all <;> omega
theorem num_short_lt {f : Fr} (h : f.may = true) (hx : f.ext = false) : f.num < 8192 := by
  obtain ⟨h0, h1, _⟩ := may_parts h
  simp only [Fr.most, hx] at h1
  simp only [Fr.num, hx]
  have hr : f.rtr.toNat ≤ 1 := by cases f.rtr <;> decide
  simp at h1 ⊢
  omega

/-- The number by which frames stand in their order. -/
def Fr.plc (f : Fr) : Nat := if f.ext then f.num else f.num * 524288

/-- Block g holds the frame f. -/
def Bx (w : World) (g : Nat) (f : Fr) : Prop := w.cell? ⟨g, 0, none⟩ = some (.int .i64 f.id) ∧ w.cell? ⟨g, 1, none⟩ = some (.bool f.ext) ∧ w.cell? ⟨g, 2, none⟩ = some (.bool f.rtr) ∧ w.cell? ⟨g, 3, none⟩ = some (.int .i64 f.len) ∧ w.cell? ⟨g, 4, none⟩ = some (.int .u8 (f.d 0)) ∧ w.cell? ⟨g, 5, none⟩ = some (.int .u8 (f.d 1)) ∧ w.cell? ⟨g, 6, none⟩ = some (.int .u8 (f.d 2)) ∧ w.cell? ⟨g, 7, none⟩ = some (.int .u8 (f.d 3)) ∧ w.cell? ⟨g, 8, none⟩ = some (.int .u8 (f.d 4)) ∧ w.cell? ⟨g, 9, none⟩ = some (.int .u8 (f.d 5)) ∧ w.cell? ⟨g, 10, none⟩ = some (.int .u8 (f.d 6)) ∧ w.cell? ⟨g, 11, none⟩ = some (.int .u8 (f.d 7))
theorem bx_of {w : World} {g : Nat} {f : Fr} (h : w.heap[g]? = some (.cells f.cells 31)) : Bx w g f := by
  unfold Bx
  simp only [World.cell?, h]
  refine ⟨rfl, rfl, rfl, rfl, rfl, rfl, rfl, rfl, rfl, rfl, rfl, rfl⟩
theorem bx_new (w : World) (f : Fr) : Bx (w.alloc (.cells f.cells 31)) w.heap.size f := bx_of (heap_alloc_new w _)
theorem Bx.below {w w' : World} {g : Nat} {f : Fr} (h : Bx w g f) (hb : Below w.heap.size w w') (hg : g < w.heap.size) : Bx w' g f := by
  unfold Bx at h ⊢
  have e : ∀ k, w'.cell? ⟨g, k, none⟩ = w.cell? ⟨g, k, none⟩ := fun k => hb.cell hg
  simp only [e]
  exact h
theorem bx_past {w w' : World} {f : Fr} (hb : Below (w.alloc (.cells f.cells 31)).heap.size (w.alloc (.cells f.cells 31)) w') : Bx w' w.heap.size f :=
  (bx_new w f).below hb (by simp)

set_option maxHeartbeats 400000 in
theorem arb_bad (f : Fr) (w : World) (h : f.may = false) :
    Calls Tryz.prog 70 #[f.val] w fun e w' => e = .returned (.tuple #[.slice none 0 0, .int .i64 14]) ∧ Below w.heap.size w w' := by
  go_enter Tryz.func70, Tryz.ntmps70
  go_wp2_with fail
  refine (fcheck_any f _).mono ?_
  rintro e w1 ⟨rfl, hb1⟩
  rw [err_no h]
  go_wp2
  go_ret2
  exact ⟨rfl, nxt (boxed f w) hb1⟩

set_option maxHeartbeats 400000 in
theorem arb_ok (f : Fr) (w : World) (h : f.may = true) :
    Calls Tryz.prog 70 #[f.val] w (SlOk (ofB f.num f.wid) w) := by
  have HW := Lib.hid (wid_le f)
  have HN := Lib.hid (num_lt h)
  have HM := Lib.hid h
  have HB := Lib.hid (boxed f w)
  clear h
  go_enter Tryz.func70, Tryz.ntmps70
  go_wp2_with fail
  refine (fcheck_any f _).mono ?_
  rintro e w1 ⟨rfl, hb1⟩
  rw [err_ok HM.out]
  have HB1 := Lib.hid (nxt HB.out hb1)
  obtain ⟨c0, c1, c2, c3, c4, c5, c6, c7, c8, c9, c10, c11⟩ := bx_past hb1
  go_wp2_with fail
  refine (levels_ok f _ HM.out).mono ?_
  rintro e w2 ⟨rfl, hb2⟩
  go_wp2_with fail
  refine (of_ok _ _ _ (by have := HN.out; omega) HW.out).mono ?_
  rintro e w3 ⟨A, cap, rfl, hi, hb3⟩
  go_wp2
  go_ret2
  exact ⟨A, cap, rfl, hi, nxt (nxt HB1.out hb2) hb3⟩
end Go.Proofs.YtalpbnfebcafgaaGreat
