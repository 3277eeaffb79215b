/- The walk of the law FieldBits. -/
import Derived.Test.YtclinogamfpooaaR5
namespace Go.Proofs.Ytclinogamfpooaa
open Go.RowKit

set_option maxHeartbeats 800000 in
theorem bits4_bad (f : Fr) (w : World) (hm : f.may = false) :
    Calls Try.prog 3 #[f.val] w fun e w' => e = .returned (.bool true) ∧ Below w.heap.size w w' := by
  have HM := Lib.hid hm
  clear hm
  go_enter Try.func3, Try.ntmps3
  go_wp2_with fail
  refine (fbits_bad f _ HM.out).mono ?_
  rintro e w1 ⟨rfl, hb1⟩
  have HB1 := Lib.hid (nxt (boxed f w) hb1)
  have F1 : Fb w1 w.heap.size f := (fb_new w f).below hb1 (by simp)
  have HF1 := Lib.hid F1
  obtain ⟨c0, c1, c2, c3, c4, c5, c6, c7, c8, c9, c10, c11⟩ := F1.bx
  clear hb1 F1
  go_wp2_with fail
  refine (fall_bad f _ HM.out).mono ?_
  rintro e w2 ⟨rfl, hb2⟩
  have HB2 := Lib.hid (nxt HB1.out hb2)
  have F2 := HF1.out.below hb2 HF1.out.lt
  clear c0 c1 c2 c3 c4 c5 c6 c7 c8 c9 c10 c11
  obtain ⟨c0, c1, c2, c3, c4, c5, c6, c7, c8, c9, c10, c11⟩ := F2.bx
  clear hb2 F2 HF1
  go_wp2_with fail
  refine (rfcheck_any f _).mono ?_
  rintro e w3 ⟨rfl, hb3⟩
  rw [err_no HM.out]
  go_wp2_with fail
  refine (awake04 _).mono ?_
  rintro e wa ⟨rfl, hba⟩
  go_wp2
  go_ret
  exact ⟨rfl, nxt (nxt HB2.out hb3) hba⟩

set_option maxHeartbeats 1600000 in
theorem bits_ok4 (f : Fr) (w : World) (hm : f.may = true) (hwf : f.wf) :
    Calls Try.prog 3 #[f.val] w fun e w' => e = .returned (.bool true) ∧ Below w.heap.size w w' := by
  have HM := Lib.hid hm; have HWF := Lib.hid hwf
  have HLE := Lib.hid (bts_le hm)
  have HAL := Lib.hid (alls_len f)
  clear hm hwf
  go_enter Try.func3, Try.ntmps3
  go_wp2_with fail
  refine (fbits_ok f _ HM.out HWF.out).mono ?_
  rintro e w1 ⟨v1, rfl, ho1, hb1⟩
  obtain ⟨A1, cap1, rfl, hi1, hcap1⟩ := ho1.il2
  have HI1 := Lib.hid hi1
  have HB1 := Lib.hid (nxt (boxed f w) hb1)
  have F1 : Fb w1 w.heap.size f := (fb_new w f).below hb1 (by simp)
  have HF1 := Lib.hid F1
  obtain ⟨c0, c1, c2, c3, c4, c5, c6, c7, c8, c9, c10, c11⟩ := F1.bx
  clear hb1 F1 hi1 ho1
  go_wp2_with fail
  refine (fall_ok f _ HM.out HWF.out).mono ?_
  rintro e w2 ⟨v2, rfl, ho2, hb2⟩
  obtain ⟨A2, cap2, rfl, hi2, hcap2⟩ := ho2.il2
  have HI2 := Lib.hid hi2
  have HJ2 := Lib.hid (HI1.out.below hb2)
  have HB2 := Lib.hid (nxt HB1.out hb2)
  have HF2 := Lib.hid (HF1.out.below hb2 HF1.out.lt)
  clear c0 c1 c2 c3 c4 c5 c6 c7 c8 c9 c10 c11 hb2 HF1 hi2 ho2 HI1 HB1
  obtain ⟨c0, c1, c2, c3, c4, c5, c6, c7, c8, c9, c10, c11⟩ := HF2.out.bx
  go_wp2_with fail
  refine (rfcheck_any f _).mono ?_
  rintro e w3 ⟨rfl, hb3⟩
  rw [err_ok HM.out]
  have HI3 := Lib.hid (HI2.out.below hb3)
  have HJ3 := Lib.hid (HJ2.out.below hb3)
  have HB3 := Lib.hid (nxt HB2.out hb3)
  have HF3 := Lib.hid (HF2.out.below hb3 HF2.out.lt)
  clear c0 c1 c2 c3 c4 c5 c6 c7 c8 c9 c10 c11 hb3 HF2 HI2 HJ2 HB2
  obtain ⟨c0, c1, c2, c3, c4, c5, c6, c7, c8, c9, c10, c11⟩ := HF3.out.bx
  go_wp2_with fail
  refine (rb_ok f _ HM.out HWF.out).mono ?_
  rintro e w4 ⟨v4, rfl, ho4, hb4⟩
  obtain ⟨A4, cap4, rfl, hi4, _⟩ := ho4.il2
  have HI4 := Lib.hid (HI3.out.below hb4)
  have HJ4 := Lib.hid (HJ3.out.below hb4)
  have HB4 := Lib.hid (nxt HB3.out hb4)
  have HF4 := Lib.hid (HF3.out.below hb4 HF3.out.lt)
  have HK4 := Lib.hid hi4
  clear c0 c1 c2 c3 c4 c5 c6 c7 c8 c9 c10 c11 hb4 HF3 HI3 HJ3 HB3 hi4 ho4
  go_wp2_with fail
  refine (ints_b _ _ _ _ _ _ (bts f) (bts f) _ HJ4.out HK4.out (by have := HLE.out; omega)).mono ?_
  rintro e w5 ⟨rfl, hb5⟩
  rw [show (bts f == bts f) = true by simp]
  have HI5 := Lib.hid (HI4.out.below hb5)
  have HB5 := Lib.hid (nxt HB4.out hb5)
  have HF5 := Lib.hid (HF4.out.below hb5 HF4.out.lt)
  clear hb5 HF4 HI4 HJ4 HB4 HK4
  obtain ⟨c0, c1, c2, c3, c4, c5, c6, c7, c8, c9, c10, c11⟩ := HF5.out.bx
  go_wp2_with fail
  refine (ra_ok f _ HM.out HWF.out).mono ?_
  rintro e w6 ⟨v6, rfl, ho6, hb6⟩
  obtain ⟨A6, cap6, rfl, hi6, _⟩ := ho6.il2
  have HI6 := Lib.hid (HI5.out.below hb6)
  have HB6 := Lib.hid (nxt HB5.out hb6)
  have HK6 := Lib.hid hi6
  clear c0 c1 c2 c3 c4 c5 c6 c7 c8 c9 c10 c11 hb6 HF5 HI5 HB5 hi6 ho6
  go_wp2_with fail
  refine (ints_b _ _ _ _ _ _ (alls f) (alls f) _ HI6.out HK6.out (by have := HLE.out; rw [HAL.out]; omega)).mono ?_
  rintro e w7 ⟨rfl, hb7⟩
  rw [show (alls f == alls f) = true by simp]
  go_wp2_with fail
  refine (awake04 _).mono ?_
  rintro e wa ⟨rfl, hba⟩
  go_wp2
  go_ret
  exact ⟨rfl, nxt (nxt HB6.out hb7) hba⟩
theorem law_bits4 (f : Fr) (w : World) (hwf : f.wf) :
    Calls Try.prog 3 #[f.val] w fun e w' => e = .returned (.bool true) ∧ Below w.heap.size w w' := by
  cases hm : f.may
  · exact bits4_bad f w hm
  · exact bits_ok4 f w hm hwf
end Go.Proofs.Ytclinogamfpooaa
