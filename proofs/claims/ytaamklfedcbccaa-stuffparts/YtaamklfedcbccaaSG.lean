/- The chapter's examples: awake. -/
import Derived.Test.YtaamklfedcbccaaSF
namespace Go.Proofs.Ytaamklfedcbccaa
open Go.RowKit

theorem most9 (w : World) : Calls Try.prog 15 #[.int .i64 9] w fun e w' => e = .returned (.tuple #[.int .i64 2, .int .i64 0]) ∧ w = w' := most_ok 9 w (by omega)
theorem take6 (A : Option Addr) (cap : Nat) (w : World) (hr : Il w A 6 [0, 0, 0, 0, 0, 0]) :
    Calls Try.prog 16 #[.slice A 6 cap] w fun e w' => ∃ A' cap', e = .returned (.tuple #[.slice A' 0 cap', .int .i64 5, .int .i64 17]) ∧ Below w.heap.size w w' :=
  (take_any A 6 cap _ w hr (by omega)).mono fun e w' ⟨A', cap', he, _, _, hb⟩ => by
    rw [show tkR [0, 0, 0, 0, 0, 0] = [] by decide, show tkAt [0, 0, 0, 0, 0, 0] = 5 by decide, show tkE [0, 0, 0, 0, 0, 0] = 17 by decide] at he
    exact ⟨A', cap', he, hb⟩
theorem take5 (A : Option Addr) (cap : Nat) (w : World) (hr : Il w A 5 [0, 0, 0, 0, 0]) :
    Calls Try.prog 16 #[.slice A 5 cap] w fun e w' => ∃ A' cap', e = .returned (.tuple #[.slice A' 0 cap', .int .i64 5, .int .i64 13]) ∧ Below w.heap.size w w' :=
  (take_any A 5 cap _ w hr (by omega)).mono fun e w' ⟨A', cap', he, _, _, hb⟩ => by
    rw [show tkR [0, 0, 0, 0, 0] = [] by decide, show tkAt [0, 0, 0, 0, 0] = 5 by decide, show tkE [0, 0, 0, 0, 0] = 13 by decide] at he
    exact ⟨A', cap', he, hb⟩
theorem add6 (A : Option Addr) (cap : Nat) (w : World) (hr : Il w A 6 [0, 0, 0, 0, 0, 1]) :
    Calls Try.prog 13 #[.slice A 6 cap] w fun e w' => ∃ A' cap', e = .returned (.slice A' 7 cap') ∧ Il w' A' 7 [0, 0, 0, 0, 0, 1, 1] ∧ Below w.heap.size w w' :=
  (add_ok A 6 cap _ w hr (by omega) (by decide)).mono fun e w' ⟨A', cap', he, hi, _, hb⟩ => by
    rw [show stf [0, 0, 0, 0, 0, 1] = [0, 0, 0, 0, 0, 1, 1] by decide] at he hi
    exact ⟨A', cap', he, hi, hb⟩
theorem add9 (A : Option Addr) (cap : Nat) (w : World) (hr : Il w A 9 [1, 1, 1, 1, 1, 1, 1, 1, 1]) :
    Calls Try.prog 13 #[.slice A 9 cap] w fun e w' => ∃ A' cap', e = .returned (.slice A' 10 cap') ∧ Il w' A' 10 [1, 1, 1, 1, 1, 0, 1, 1, 1, 1] ∧ Below w.heap.size w w' :=
  (add_ok A 9 cap _ w hr (by omega) (by decide)).mono fun e w' ⟨A', cap', he, hi, _, hb⟩ => by
    rw [show stf [1, 1, 1, 1, 1, 1, 1, 1, 1] = [1, 1, 1, 1, 1, 0, 1, 1, 1, 1] by decide] at he hi
    exact ⟨A', cap', he, hi, hb⟩
theorem count9 (A : Option Addr) (cap : Nat) (w : World) (hr : Il w A 9 [1, 1, 1, 1, 1, 0, 0, 0, 0]) :
    Calls Try.prog 14 #[.slice A 9 cap] w fun e w' => e = .returned (.int .i64 2) ∧ Below w.heap.size w w' :=
  (count_ok A 9 cap _ w hr (by omega) (by decide)).mono fun e w' ⟨he, hb⟩ => by
    rw [show (stf [1, 1, 1, 1, 1, 0, 0, 0, 0]).length = 11 by decide] at he
    exact ⟨he, hb⟩
theorem lit_il (w : World) (zs : List Int) : Il (w.alloc (.cells (zs.map (Value.int .i64)).toArray 3)) (some ⟨w.heap.size, 0, none⟩) zs.length zs := (Arr.new w .i64 3 zs).il
theorem lit_below (w : World) (o : Obj) : Below w.heap.size w (w.alloc o) := (Below.refl _ _).alloc (Nat.le_refl _) _

set_option maxHeartbeats 1600000 in
theorem awake5 (w : World) : Calls Try.prog 9 #[] w fun e w' => e = .returned (.bool true) ∧ Below w.heap.size w w' := by
  go_enter Try.func9, Try.ntmps9
  go_wp2_with fail
  refine (most9 _).mono ?_
  rintro e w' ⟨rfl, rfl⟩
  go_wp2_with fail
  refine (take6 _ _ _ (lit_il w [0, 0, 0, 0, 0, 0])).mono ?_
  rintro e w1 ⟨A1, cap1, rfl, hb1⟩
  have HB1 := Lib.hid (nxt (lit_below w _) hb1)
  clear hb1
  go_wp2_with fail
  refine (take5 _ _ _ (lit_il w1 [0, 0, 0, 0, 0])).mono ?_
  rintro e w2 ⟨A2, cap2, rfl, hb2⟩
  have HB2 := Lib.hid (nxt HB1.out (nxt (lit_below w1 _) hb2))
  clear hb2 HB1
  go_wp2_with fail
  refine (add6 _ _ _ (lit_il w2 [0, 0, 0, 0, 0, 1])).mono ?_
  rintro e w3 ⟨A3, cap3, rfl, hi3, hb3⟩
  have HB3 := Lib.hid (nxt HB2.out (nxt (lit_below w2 _) hb3))
  have HI3 := Lib.hid (hi3.below (lit_below w3 (.cells (([0, 0, 0, 0, 0, 1, 1] : List Int).map (Value.int .i64)).toArray 3)))
  clear hb3 hi3 HB2
  go_wp2_with fail
  refine (ints_b _ _ _ _ _ _ _ _ _ HI3.out (lit_il w3 [0, 0, 0, 0, 0, 1, 1]) (by omega)).mono ?_
  rintro e w4 ⟨rfl, hb4⟩
  have HB4 := Lib.hid (nxt HB3.out (nxt (lit_below w3 _) hb4))
  clear hb4 HB3 HI3
  go_wp2_with fail
  refine (add9 _ _ _ (lit_il w4 [1, 1, 1, 1, 1, 1, 1, 1, 1])).mono ?_
  rintro e w5 ⟨A5, cap5, rfl, hi5, hb5⟩
  have HB5 := Lib.hid (nxt HB4.out (nxt (lit_below w4 _) hb5))
  have HI5 := Lib.hid (hi5.below (lit_below w5 (.cells (([1, 1, 1, 1, 1, 0, 1, 1, 1, 1] : List Int).map (Value.int .i64)).toArray 3)))
  clear hb5 hi5 HB4
  go_wp2_with fail
  refine (ints_b _ _ _ _ _ _ _ _ _ HI5.out (lit_il w5 [1, 1, 1, 1, 1, 0, 1, 1, 1, 1]) (by omega)).mono ?_
  rintro e w6 ⟨rfl, hb6⟩
  have HB6 := Lib.hid (nxt HB5.out (nxt (lit_below w5 _) hb6))
  clear hb6 HB5 HI5
  go_wp2_with fail
  refine (count9 _ _ _ (lit_il w6 [1, 1, 1, 1, 1, 0, 0, 0, 0])).mono ?_
  rintro e w7 ⟨rfl, hb7⟩
  go_wp2
  go_ret
  exact ⟨rfl, nxt HB6.out (nxt (lit_below w6 _) hb7)⟩
end Go.Proofs.Ytaamklfedcbccaa
