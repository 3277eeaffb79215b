/- The walk of the law FrameChecks. -/
import Derived.Test.YtjjfkakjkkpgaaaRa
import Derived.Test.YtjjfkakjkkpgaaaAw
namespace Go.Proofs.Ytjjfkakjkkpgaaa
open Go.RowKit

set_option maxHeartbeats 3200000 in
theorem law_checks (f : Fr) (w : World) :
    Calls Try.prog 3 #[f.val] w fun e w' => e = .returned (.bool true) ∧ Below w.heap.size w w' := by
  have HB := Lib.hid (boxed f w)
  cases hm : f.may
  · have HM := Lib.hid hm
    clear hm
    go_enter Try.func3, Try.ntmps3
    go_wp2_with fail
    refine (arb_bad f _ HM.out).mono ?_
    rintro e w1 ⟨rfl, hb1⟩
    have HX1 := Lib.hid (bx_past hb1)
    have HB1 := Lib.hid (nxt HB.out hb1)
    obtain ⟨c0, c1, c2, c3, c4, c5, c6, c7, c8, c9, c10, c11⟩ := HX1.out
    clear hb1 HB
    go_wp2_with fail
    refine (rcheck_any f _).mono ?_
    rintro e w2 ⟨rfl, hb2⟩
    rw [err_no HM.out]
    have HX2 := Lib.hid (HX1.out.below hb2 HX1.out.lt)
    have HB2 := Lib.hid (nxt HB1.out hb2)
    clear c0 c1 c2 c3 c4 c5 c6 c7 c8 c9 c10 c11
    clear hb2 HB1 HX1
    obtain ⟨c0, c1, c2, c3, c4, c5, c6, c7, c8, c9, c10, c11⟩ := HX2.out
    go_wp2_with fail
    refine (check_any f _).mono ?_
    rintro e w3 ⟨rfl, hb3⟩
    rw [err_no HM.out]
    go_wp2_with fail
    refine (awake_ok _).mono ?_
    rintro e w4 ⟨rfl, hb4⟩
    go_wp2
    go_ret
    exact ⟨rfl, nxt (nxt HB2.out hb3) hb4⟩
  · have HM := Lib.hid hm
    clear hm
    have hl : (ofB f.num f.wid).length ≤ 64 := by rw [ofB_len]; exact wid_le f
    have HA := Lib.hid (arb_ok f · HM.out)
    have HR := Lib.hid (rarb_ok f · HM.out)
    obtain ⟨l, hll⟩ : ∃ l, ofB f.num f.wid = l := ⟨_, rfl⟩
    rw [hll] at HA HR hl
    clear hll
    go_enter Try.func3, Try.ntmps3
    go_wp2_with fail
    refine (HA.out _).mono ?_
    rintro e w1 ⟨A, cap, rfl, hi1, hb1⟩
    have HX1 := Lib.hid (bx_past hb1)
    have HB1 := Lib.hid (nxt HB.out hb1)
    have HI1 := Lib.hid hi1
    obtain ⟨c0, c1, c2, c3, c4, c5, c6, c7, c8, c9, c10, c11⟩ := HX1.out
    clear hb1 HB hi1
    go_wp2_with fail
    refine (rcheck_any f _).mono ?_
    rintro e w2 ⟨rfl, hb2⟩
    rw [err_ok HM.out]
    have HX2 := Lib.hid (HX1.out.below hb2 HX1.out.lt)
    have HB2 := Lib.hid (nxt HB1.out hb2)
    have HI2 := Lib.hid (HI1.out.below hb2)
    clear c0 c1 c2 c3 c4 c5 c6 c7 c8 c9 c10 c11
    clear hb2 HB1 HX1 HI1
    obtain ⟨c0, c1, c2, c3, c4, c5, c6, c7, c8, c9, c10, c11⟩ := HX2.out
    go_wp2_with fail
    refine (check_any f _).mono ?_
    rintro e w3 ⟨rfl, hb3⟩
    rw [err_ok HM.out]
    have HX3 := Lib.hid (HX2.out.below hb3 HX2.out.lt)
    have HB3 := Lib.hid (nxt HB2.out hb3)
    have HI3 := Lib.hid (HI2.out.below hb3)
    clear c0 c1 c2 c3 c4 c5 c6 c7 c8 c9 c10 c11
    clear hb3 HB2 HX2 HI2
    obtain ⟨c0, c1, c2, c3, c4, c5, c6, c7, c8, c9, c10, c11⟩ := HX3.out
    go_wp2_with fail
    refine (HR.out _).mono ?_
    rintro e w4 ⟨A4, cap4, rfl, hi4, hb4⟩
    have HI4 := Lib.hid hi4
    have HB4 := Lib.hid (nxt HB3.out hb4)
    have HI34 := Lib.hid (HI3.out.below hb4)
    clear hi4 hb4 HB3 HI3
    go_wp2_with fail
    refine (ints_b _ _ _ _ _ _ _ _ _ HI34.out HI4.out (by omega)).mono ?_
    rintro e w5 ⟨rfl, hb5⟩
    rw [show (l == l) = true by simp]
    go_wp2_with fail
    refine (awake_ok _).mono ?_
    rintro e w6 ⟨rfl, hb6⟩
    go_wp2
    go_ret
    exact ⟨rfl, nxt (nxt HB4.out hb5) hb6⟩
end Go.Proofs.Ytjjfkakjkkpgaaa
