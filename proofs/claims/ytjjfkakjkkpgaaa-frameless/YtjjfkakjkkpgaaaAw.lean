/- The contract of awake of layer 3's laws: the chapter's examples. -/
import Derived.Test.YtjjfkakjkkpgaaaPa
import Derived.Test.YtjjfkakjkkpgaaaLs
import Derived.Test.YtjjfkakjkkpgaaaEq
namespace Go.Proofs.Ytjjfkakjkkpgaaa
open Go.RowKit

def F1 : Fr := ⟨291, false, false, 2, fun j => if j = 0 then 17 else if j = 1 then 162 else 0⟩
def F2 : Fr := ⟨303, true, true, 4, fun _ => 0⟩
def F3 : Fr := ⟨1, false, false, 0, fun _ => 0⟩
theorem F1_wf : F1.wf := by
  unfold Fr.wf; decide +kernel
theorem parse1 (w : World) : Calls Try.prog 20 #[.string ⟨#[49, 50, 51, 35, 49, 49, 65, 50]⟩] w fun e w' => e = .returned (.tuple #[.agg #[.int .i64 291, .bool false, .bool false, .int .i64 2, .int .u8 17, .int .u8 162, .int .u8 0, .int .u8 0, .int .u8 0, .int .u8 0, .int .u8 0, .int .u8 0], .int .i64 0]) ∧ Below w.heap.size w w' := by
  have h := parse_any [49, 50, 51, 35, 49, 49, 65, 50] w (by decide)
  rw [show (pout [49, 50, 51, 35, 49, 49, 65, 50]).val = .agg #[.int .i64 291, .bool false, .bool false, .int .i64 2, .int .u8 17, .int .u8 162, .int .u8 0, .int .u8 0, .int .u8 0, .int .u8 0, .int .u8 0, .int .u8 0] by kernel_rfl, show perr [49, 50, 51, 35, 49, 49, 65, 50] = 0 by decide +kernel] at h
  exact h
theorem parse2 (w : World) : Calls Try.prog 20 #[.string ⟨#[57, 50, 51, 35]⟩] w fun e w' => e = .returned (.tuple #[.agg #[.int .i64 0, .bool false, .bool false, .int .i64 0, .int .u8 0, .int .u8 0, .int .u8 0, .int .u8 0, .int .u8 0, .int .u8 0, .int .u8 0, .int .u8 0], .int .i64 14]) ∧ Below w.heap.size w w' := by
  have h := parse_any [57, 50, 51, 35] w (by decide)
  rw [show (pout [57, 50, 51, 35]).val = .agg #[.int .i64 0, .bool false, .bool false, .int .i64 0, .int .u8 0, .int .u8 0, .int .u8 0, .int .u8 0, .int .u8 0, .int .u8 0, .int .u8 0, .int .u8 0] by kernel_rfl, show perr [57, 50, 51, 35] = 14 by decide +kernel] at h
  exact h
theorem parse3 (w : World) : Calls Try.prog 20 #[.string ⟨#[49, 50, 51, 35, 49]⟩] w fun e w' => e = .returned (.tuple #[.agg #[.int .i64 0, .bool false, .bool false, .int .i64 0, .int .u8 0, .int .u8 0, .int .u8 0, .int .u8 0, .int .u8 0, .int .u8 0, .int .u8 0, .int .u8 0], .int .i64 11]) ∧ Below w.heap.size w w' := by
  have h := parse_any [49, 50, 51, 35, 49] w (by decide)
  rw [show (pout [49, 50, 51, 35, 49]).val = .agg #[.int .i64 0, .bool false, .bool false, .int .i64 0, .int .u8 0, .int .u8 0, .int .u8 0, .int .u8 0, .int .u8 0, .int .u8 0, .int .u8 0, .int .u8 0] by kernel_rfl, show perr [49, 50, 51, 35, 49] = 11 by decide +kernel] at h
  exact h
theorem parse4 (w : World) : Calls Try.prog 20 #[.string ⟨#[48, 48, 48, 48, 48, 49, 50, 70, 35, 82, 52]⟩] w fun e w' => e = .returned (.tuple #[.agg #[.int .i64 303, .bool true, .bool true, .int .i64 4, .int .u8 0, .int .u8 0, .int .u8 0, .int .u8 0, .int .u8 0, .int .u8 0, .int .u8 0, .int .u8 0], .int .i64 0]) ∧ Below w.heap.size w w' := by
  have h := parse_any [48, 48, 48, 48, 48, 49, 50, 70, 35, 82, 52] w (by decide)
  rw [show (pout [48, 48, 48, 48, 48, 49, 50, 70, 35, 82, 52]).val = .agg #[.int .i64 303, .bool true, .bool true, .int .i64 4, .int .u8 0, .int .u8 0, .int .u8 0, .int .u8 0, .int .u8 0, .int .u8 0, .int .u8 0, .int .u8 0] by kernel_rfl, show perr [48, 48, 48, 48, 48, 49, 50, 70, 35, 82, 52] = 0 by decide +kernel] at h
  exact h
theorem text1 (w : World) : Calls Try.prog 18 #[.agg #[.int .i64 291, .bool false, .bool false, .int .i64 2, .int .u8 17, .int .u8 162, .int .u8 0, .int .u8 0, .int .u8 0, .int .u8 0, .int .u8 0, .int .u8 0]] w fun e w' => e = .returned (.tuple #[.string ⟨#[49, 50, 51, 35, 49, 49, 65, 50]⟩, .int .i64 0]) ∧ Below w.heap.size w w' := by
  have h := text_ok F1 w (by decide +kernel) F1_wf
  rw [show F1.val = .agg #[.int .i64 291, .bool false, .bool false, .int .i64 2, .int .u8 17, .int .u8 162, .int .u8 0, .int .u8 0, .int .u8 0, .int .u8 0, .int .u8 0, .int .u8 0] by kernel_rfl, show str F1.text = ⟨#[49, 50, 51, 35, 49, 49, 65, 50]⟩ by kernel_rfl] at h
  exact h
theorem arb3 (w : World) : Calls Try.prog 9 #[.agg #[.int .i64 1, .bool false, .bool false, .int .i64 0, .int .u8 0, .int .u8 0, .int .u8 0, .int .u8 0, .int .u8 0, .int .u8 0, .int .u8 0, .int .u8 0]] w (SlOk [0, 0, 0, 0, 0, 0, 0, 0, 0, 0, 1, 0, 0] w) := by
  have h := arb_ok F3 w (by decide +kernel)
  rw [show F3.val = .agg #[.int .i64 1, .bool false, .bool false, .int .i64 0, .int .u8 0, .int .u8 0, .int .u8 0, .int .u8 0, .int .u8 0, .int .u8 0, .int .u8 0, .int .u8 0] by kernel_rfl, show ofB F3.num F3.wid = [0, 0, 0, 0, 0, 0, 0, 0, 0, 0, 1, 0, 0] by decide +kernel] at h
  exact h
theorem less12 (w : World) : Calls Try.prog 15 #[.agg #[.int .i64 291, .bool false, .bool false, .int .i64 2, .int .u8 17, .int .u8 162, .int .u8 0, .int .u8 0, .int .u8 0, .int .u8 0, .int .u8 0, .int .u8 0], .agg #[.int .i64 303, .bool true, .bool true, .int .i64 4, .int .u8 0, .int .u8 0, .int .u8 0, .int .u8 0, .int .u8 0, .int .u8 0, .int .u8 0, .int .u8 0]] w fun e w' => e = .returned (.bool false) ∧ Below w.heap.size w w' := by
  have h := less_yes F1 F2 w (by decide +kernel) (by decide +kernel)
  rw [show F1.val = .agg #[.int .i64 291, .bool false, .bool false, .int .i64 2, .int .u8 17, .int .u8 162, .int .u8 0, .int .u8 0, .int .u8 0, .int .u8 0, .int .u8 0, .int .u8 0] by kernel_rfl, show F2.val = .agg #[.int .i64 303, .bool true, .bool true, .int .i64 4, .int .u8 0, .int .u8 0, .int .u8 0, .int .u8 0, .int .u8 0, .int .u8 0, .int .u8 0, .int .u8 0] by kernel_rfl, show decide (F1.plc < F2.plc) = false by decide +kernel] at h
  exact h

theorem lit_next (w : World) (o : Obj) (l : List Int) : Il ((w.alloc o).alloc (.cells (l.map (Value.int .i64)).toArray 3)) (some ⟨w.heap.size + 1, 0, none⟩) l.length l := by
  have h := (Arr.new (w.alloc o) .i64 3 l).il
  rw [show (w.alloc o).heap.size = w.heap.size + 1 by simp] at h
  exact h

set_option maxHeartbeats 3200000 in
theorem awake_ok (w : World) : Calls Try.prog 12 #[] w fun e w' => e = .returned (.bool true) ∧ Below w.heap.size w w' := by
  go_enter Try.func12, Try.ntmps12
  go_wp2_with fail
  refine (parse1 _).mono ?_
  rintro e w1 ⟨rfl, hb1⟩
  go_wp2_with fail
  refine (text1 _).mono ?_
  rintro e w2 ⟨rfl, hb2⟩
  have HB2 := Lib.hid (nxt (hb1.alloc hb1.size _) hb2)
  have HX1 := Lib.hid (bx_past (f := F1) hb2)
  have L1 := Lib.hid HX1.out.lt
  clear hb1 hb2
  go_wp2_with fail
  refine (arb3 _).mono ?_
  rintro e w3 ⟨A, cap, rfl, hi, hb3⟩
  have hi' : Il w3 A 13 [0, 0, 0, 0, 0, 0, 0, 0, 0, 0, 1, 0, 0] := hi
  have HI := Lib.hid hi'
  have HB3 := Lib.hid (nxt HB2.out hb3)
  have HX2 := Lib.hid (HX1.out.below hb3 L1.out)
  clear hi hi' hb3 HB2 HX1 L1
  go_wp2_with fail
  refine (parse2 _).mono ?_
  rintro e w4 ⟨rfl, hb4⟩
  have HI4 := Lib.hid (HI.out.below hb4)
  have HB4 := Lib.hid (nxt HB3.out hb4)
  have HX4 := Lib.hid (HX2.out.below hb4 HX2.out.lt)
  clear hb4 HB3 HX2 HI
  go_wp2_with fail
  refine (parse3 _).mono ?_
  rintro e w5 ⟨rfl, hb5⟩
  have HI5 := Lib.hid ((HI4.out.alloc _).below hb5)
  have HB5 := Lib.hid (nxt (HB4.out.alloc HB4.out.size _) hb5)
  have HX5 := Lib.hid ((HX4.out.below ((Below.refl _ _).alloc (Nat.le_refl _) _) HX4.out.lt).below hb5 (by have := HX4.out.lt; simp; omega))
  clear hb5 HB4 HX4 HI4
  go_wp2_with fail
  refine (parse4 _).mono ?_
  rintro e w6 ⟨rfl, hb6⟩
  have HI6 := Lib.hid ((HI5.out.alloc _).below hb6)
  have HB6 := Lib.hid (nxt (HB5.out.alloc HB5.out.size _) hb6)
  have HX6 := Lib.hid ((HX5.out.below ((Below.refl _ _).alloc (Nat.le_refl _) _) HX5.out.lt).below hb6 (by have := HX5.out.lt; simp; omega))
  clear hb6 HB5 HX5 HI5
  have HY := Lib.hid (bx_new w6 F2)
  have HB7 := Lib.hid (HB6.out.alloc HB6.out.size (.cells F2.cells 24))
  have hlt := HX6.out.lt
  have hx := HX6.out
  simp [Bx, F1] at hx
  have h22 := eq22
  obtain ⟨c0, c1, c2, c3, c4, c5, c6, c7, c8, c9, c10, c11⟩ := hx
  go_wp2_with fail
  clear c0 c1 c2 c3 c4 c5 c6 c7 c8 c9 c10 c11
  have HN := Lib.hid (lit_next w6 (.cells F2.cells 24) [0, 0, 0, 0, 0, 0, 0, 0, 0, 0, 1, 0, 0])
  have HB8 := Lib.hid (HB7.out.alloc HB7.out.size (.cells (([0, 0, 0, 0, 0, 0, 0, 0, 0, 0, 1, 0, 0] : List Int).map (Value.int .i64)).toArray 3))
  have HX8 := Lib.hid (((HX6.out.below ((Below.refl _ _).alloc (Nat.le_refl _) (.cells F2.cells 24)) HX6.out.lt)).below ((Below.refl _ _).alloc (Nat.le_refl _) (.cells (([0, 0, 0, 0, 0, 0, 0, 0, 0, 0, 1, 0, 0] : List Int).map (Value.int .i64)).toArray 3)) (by simp; omega))
  have HY8 := Lib.hid (HY.out.below ((Below.refl _ _).alloc (Nat.le_refl _) (.cells (([0, 0, 0, 0, 0, 0, 0, 0, 0, 0, 1, 0, 0] : List Int).map (Value.int .i64)).toArray 3)) HY.out.lt)
  refine (ints_b _ _ _ _ _ _ _ _ _ ((HI6.out.alloc _).alloc _) HN.out (by omega)).mono ?_
  rintro e w9 ⟨rfl, hb9⟩
  rw [show (([0, 0, 0, 0, 0, 0, 0, 0, 0, 0, 1, 0, 0] : List Int) == [0, 0, 0, 0, 0, 0, 0, 0, 0, 0, 1, 0, 0]) = true from rfl]
  have HB9 := Lib.hid (nxt HB8.out hb9)
  have hx := HX8.out.below hb9 HX8.out.lt
  have hy := HY8.out.below hb9 HY8.out.lt
  simp [Bx, F1] at hx
  simp [Bx, F2] at hy
  obtain ⟨c0, c1, c2, c3, c4, c5, c6, c7, c8, c9, c10, c11⟩ := hx
  obtain ⟨b0, b1, b2, b3, b4, b5, b6, b7, b8, b9, b10, b11⟩ := hy
  clear HB8 HX8 HY8 HN hb9 HI6 HB6 HX6 HY HB7
  go_wp2_with fail
  refine (less12 _).mono ?_
  rintro e w10 ⟨rfl, hb10⟩
  go_wp2
  go_ret
  exact ⟨rfl, nxt HB9.out hb10⟩
end Go.Proofs.Ytjjfkakjkkpgaaa
