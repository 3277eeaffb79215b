/- The walk of the law CodecEncodes. -/
import Derived.Test.YtffhhegpkejdgaaZCG
namespace Go.Proofs.Ytffhhegpkejdgaa
open Go.RowKit

/-- What the law asks of Longest. -/
theorem lgst_size (n : Nat) (b : Bool) : ((lgst n b : Nat) : Int) = (if b then 54 + 8 * (n : Int) else 34 + 8 * (n : Int)) + ((if b then 54 + 8 * (n : Int) else 34 + 8 * (n : Int)) - 1) / 4 + 10 := by
  unfold lgst own6
  cases b <;> simp <;> omega

set_option maxRecDepth 100000 in
set_option maxHeartbeats 3200000 in
/-- Behind the part on Longest. -/
theorem cenc_bad (f : Fr) (b : Bool) (x : Int) (w : World) (hx : x < 0 ∨ 8 < x) (hwf : f.wf) :
    Calls Try.prog 3 #[f.val, .bool b, .int .i64 x] w fun e w' => e = .returned (.bool true) ∧ Below w.heap.size w w' := by
  have HX := Lib.hid hx; have HWF := Lib.hid hwf
  have hq1 : (decide (x < 0) = true) ∨ (decide (x < 0) = false ∧ decide (8 < x) = true) := by
    rcases Int.lt_or_le x 0 with h | h
    · exact .inl (by simpa using h)
    · exact .inr ⟨by simp; omega, by simp; omega⟩
  clear hx hwf
  cases hm : f.may with
  | false =>
    have HM := Lib.hid hm
    have HE := Lib.hid (show f.err = 14 by unfold Fr.err; rw [hm]; rfl)
    clear hm
    go_enter Try.func3, Try.ntmps3
    go_wp2_with fail
    refine (encode_bad f _ _ HM.out).mono ?_
    rintro e w1 ⟨rfl, hb1⟩
    have HB1 := Lib.hid (nxt (boxed f w) hb1)
    have HF1 := Lib.hid (show Fb w1 w.heap.size f from (fb_new w f).below hb1 (by simp))
    obtain ⟨c0, c1, c2, c3, c4, c5, c6, c7, c8, c9, c10, c11⟩ := HF1.out.bx
    clear hb1
    go_wp2_with fail
    refine (length_bad f _ HM.out).mono ?_
    rintro e w2 ⟨rfl, hb2⟩
    have HB2 := Lib.hid (nxt HB1.out hb2)
    have HF2 := Lib.hid (HF1.out.below hb2 HF1.out.lt)
    clear hb2 c0 c1 c2 c3 c4 c5 c6 c7 c8 c9 c10 c11
    obtain ⟨c0, c1, c2, c3, c4, c5, c6, c7, c8, c9, c10, c11⟩ := HF2.out.bx
    go_wp2_with fail
    refine (longest_bad x b _ HX.out).mono ?_
    rintro e w' ⟨rfl, rfl⟩
    rcases hq1 with h1 | ⟨h1, h2⟩
    all_goals
      go_wp2_with fail
      refine (rfcheck_any f _).mono ?_
      rintro e w3 ⟨rfl, hb3⟩
      rw [HE.out]
      have HB3 := Lib.hid (nxt HB2.out hb3)
      clear hb3
      go_wp2_with fail
      refine (awake6 _).mono ?_
      rintro e w4 ⟨rfl, hb4⟩
      go_wp2
      go_ret
      exact ⟨rfl, nxt HB3.out hb4⟩
  | true =>
    have HM := Lib.hid hm
    have HE := Lib.hid (show f.err = 0 by unfold Fr.err; rw [hm]; rfl)
    obtain ⟨L, hL⟩ : ∃ L, (stf (raw f)).length = L := ⟨_, rfl⟩
    have hL2 : L ≤ 300 := by rw [← hL]; exact stf_raw_le hm
    have HEL := Lib.hid (show (enc f b).length = L + 10 by rw [enc_len, hL])
    have HSL := Lib.hid hL
    clear hm hL
    go_enter Try.func3, Try.ntmps3
    go_wp2_with fail
    refine (encode_ok f b _ HM.out HWF.out).mono ?_
    rintro e w1 ⟨v, rfl, ho1, hb1⟩
    obtain ⟨A1, cap1, rfl, hi1, hcap1⟩ := ho1.il2
    rw [HEL.out] at hi1 ⊢
    have HI1 := Lib.hid hi1
    have HB1 := Lib.hid (nxt (boxed f w) hb1)
    have HF1 := Lib.hid (show Fb w1 w.heap.size f from (fb_new w f).below hb1 (by simp))
    obtain ⟨c0, c1, c2, c3, c4, c5, c6, c7, c8, c9, c10, c11⟩ := HF1.out.bx
    clear hb1 ho1 hi1 hcap1
    go_wp2_with fail
    refine (length_ok f _ HM.out HWF.out).mono ?_
    rintro e w2 ⟨rfl, hb2⟩
    rw [HSL.out]
    have HB2 := Lib.hid (nxt HB1.out hb2)
    have HF2 := Lib.hid (HF1.out.below hb2 HF1.out.lt)
    have HI2 := Lib.hid (HI1.out.below hb2)
    clear hb2 c0 c1 c2 c3 c4 c5 c6 c7 c8 c9 c10 c11
    obtain ⟨c0, c1, c2, c3, c4, c5, c6, c7, c8, c9, c10, c11⟩ := HF2.out.bx
    go_wp2_with fail
    refine (longest_bad x b _ HX.out).mono ?_
    rintro e w' ⟨rfl, rfl⟩
    rcases hq1 with h1 | ⟨h1, h2⟩
    all_goals
      go_wp2_with fail
      refine (rfcheck_any f _).mono ?_
      rintro e w3 ⟨rfl, hb3⟩
      rw [HE.out]
      have HB3 := Lib.hid (nxt HB2.out hb3)
      have HF3 := Lib.hid (HF2.out.below hb3 HF2.out.lt)
      have HI3 := Lib.hid (HI2.out.below hb3)
      clear hb3 c0 c1 c2 c3 c4 c5 c6 c7 c8 c9 c10 c11
      obtain ⟨c0, c1, c2, c3, c4, c5, c6, c7, c8, c9, c10, c11⟩ := HF3.out.bx
      go_wp2_with fail
      refine (renc_ok f b _ HM.out HWF.out).mono ?_
      rintro e w4 ⟨v, rfl, ho4, hb4⟩
      obtain ⟨A4, cap4, rfl, hi4, hcap4⟩ := ho4.il2
      rw [HEL.out] at hi4 ⊢
      have HI4 := Lib.hid hi4
      have HB4 := Lib.hid (nxt HB3.out hb4)
      have HJ4 := Lib.hid (HI3.out.below hb4)
      clear hb4 ho4 hi4 hcap4
      go_wp2_with fail
      refine (ints_b _ _ _ _ _ _ _ _ _ HJ4.out HI4.out (by omega)).mono ?_
      rintro e w5 ⟨rfl, hb5⟩
      rw [show (enc f b == enc f b) = true from by simp]
      have HB5 := Lib.hid (nxt HB4.out hb5)
      clear hb5
      go_wp2_with fail
      refine (awake6 _).mono ?_
      rintro e w6 ⟨rfl, hb6⟩
      go_wp2
      go_ret
      exact ⟨rfl, nxt HB5.out hb6⟩

set_option maxRecDepth 100000 in
set_option maxHeartbeats 6400000 in
theorem cenc_ok (f : Fr) (b : Bool) (n : Nat) (w : World) (hn : n ≤ 8) (hwf : f.wf) :
    Calls Try.prog 3 #[f.val, .bool b, .int .i64 (n : Nat)] w fun e w' => e = .returned (.bool true) ∧ Below w.heap.size w w' := by
  have HWF := Lib.hid hwf
  have HN := Lib.hid hn
  have n0 : (0 : Int) ≤ (n : Int) := by omega
  have n8 : (n : Int) ≤ 8 := by omega
  obtain ⟨p, hp⟩ : ∃ p : Nat, own6 n b = p := ⟨_, rfl⟩
  have hp1 : p ≤ 118 := by rw [← hp]; unfold own6; split <;> omega
  have hp2 : 34 ≤ p := by rw [← hp]; unfold own6; split <;> omega
  obtain ⟨r, hr⟩ : ∃ r : Nat, (p - 1) / 4 = r := ⟨_, rfl⟩
  have hr2 : r ≤ 30 := by omega
  have HLG := Lib.hid (show lgst n b = p + r + 10 by unfold lgst; rw [hp, hr])
  have hpr : ((p : Int) - 1) / 4 = (r : Int) := by omega
  have hpt : ((p : Int) - 1).tdiv 4 = (r : Int) := by rw [Int.tdiv_eq_ediv_of_nonneg (by omega)]; exact hpr
  have HPB := Lib.hid hp
  clear hwf hp hr
  cases hm : f.may with
  | false =>
    have HM := Lib.hid hm
    have HE := Lib.hid (show f.err = 14 by unfold Fr.err; rw [hm]; rfl)
    clear hm
    go_enter Try.func3, Try.ntmps3
    go_wp2_with fail
    refine (encode_bad f _ _ HM.out).mono ?_
    rintro e w1 ⟨rfl, hb1⟩
    have HB1 := Lib.hid (nxt (boxed f w) hb1)
    have HF1 := Lib.hid (show Fb w1 w.heap.size f from (fb_new w f).below hb1 (by simp))
    obtain ⟨c0, c1, c2, c3, c4, c5, c6, c7, c8, c9, c10, c11⟩ := HF1.out.bx
    clear hb1
    go_wp2_with fail
    refine (length_bad f _ HM.out).mono ?_
    rintro e w2 ⟨rfl, hb2⟩
    have HB2 := Lib.hid (nxt HB1.out hb2)
    have HF2 := Lib.hid (HF1.out.below hb2 HF1.out.lt)
    clear hb2 c0 c1 c2 c3 c4 c5 c6 c7 c8 c9 c10 c11
    obtain ⟨c0, c1, c2, c3, c4, c5, c6, c7, c8, c9, c10, c11⟩ := HF2.out.bx
    go_wp2_with fail
    refine (longest_ok6 n b _ HN.out).mono ?_
    rintro e w' ⟨rfl, rfl⟩
    rw [HLG.out]
    cases b
    · have hpe : (34 : Int) + 8 * (n : Int) = (p : Int) := by have := HPB.out; unfold own6 at this; simp at this; omega
      go_wp2_with fail
      refine (rfcheck_any f _).mono ?_
      rintro e w3 ⟨rfl, hb3⟩
      rw [HE.out]
      have HB3 := Lib.hid (nxt HB2.out hb3)
      clear hb3
      go_wp2_with fail
      refine (awake6 _).mono ?_
      rintro e w4 ⟨rfl, hb4⟩
      go_wp2
      go_ret
      exact ⟨rfl, nxt HB3.out hb4⟩
    · obtain ⟨u, hu⟩ : ∃ u : Nat, (34 : Int) + 8 * (n : Int) = (u : Int) := ⟨34 + 8 * n, by omega⟩
      have hue : (u : Int) + 20 = (p : Int) := by have := HPB.out; unfold own6 at this; simp at this; omega
      go_wp2_with fail
      refine (rfcheck_any f _).mono ?_
      rintro e w3 ⟨rfl, hb3⟩
      rw [HE.out]
      have HB3 := Lib.hid (nxt HB2.out hb3)
      clear hb3
      go_wp2_with fail
      refine (awake6 _).mono ?_
      rintro e w4 ⟨rfl, hb4⟩
      go_wp2
      go_ret
      exact ⟨rfl, nxt HB3.out hb4⟩
  | true =>
    have HM := Lib.hid hm
    have HE := Lib.hid (show f.err = 0 by unfold Fr.err; rw [hm]; rfl)
    obtain ⟨L, hL⟩ : ∃ L, (stf (raw f)).length = L := ⟨_, rfl⟩
    have hL2 : L ≤ 300 := by rw [← hL]; exact stf_raw_le hm
    have HEL := Lib.hid (show (enc f b).length = L + 10 by rw [enc_len, hL])
    have HSL := Lib.hid hL
    clear hm hL
    go_enter Try.func3, Try.ntmps3
    go_wp2_with fail
    refine (encode_ok f b _ HM.out HWF.out).mono ?_
    rintro e w1 ⟨v, rfl, ho1, hb1⟩
    obtain ⟨A1, cap1, rfl, hi1, hcap1⟩ := ho1.il2
    rw [HEL.out] at hi1 ⊢
    have HI1 := Lib.hid hi1
    have HB1 := Lib.hid (nxt (boxed f w) hb1)
    have HF1 := Lib.hid (show Fb w1 w.heap.size f from (fb_new w f).below hb1 (by simp))
    obtain ⟨c0, c1, c2, c3, c4, c5, c6, c7, c8, c9, c10, c11⟩ := HF1.out.bx
    clear hb1 ho1 hi1 hcap1
    go_wp2_with fail
    refine (length_ok f _ HM.out HWF.out).mono ?_
    rintro e w2 ⟨rfl, hb2⟩
    rw [HSL.out]
    have HB2 := Lib.hid (nxt HB1.out hb2)
    have HF2 := Lib.hid (HF1.out.below hb2 HF1.out.lt)
    have HI2 := Lib.hid (HI1.out.below hb2)
    clear hb2 c0 c1 c2 c3 c4 c5 c6 c7 c8 c9 c10 c11
    obtain ⟨c0, c1, c2, c3, c4, c5, c6, c7, c8, c9, c10, c11⟩ := HF2.out.bx
    go_wp2_with fail
    refine (longest_ok6 n b _ HN.out).mono ?_
    rintro e w' ⟨rfl, rfl⟩
    rw [HLG.out]
    obtain ⟨u, hu⟩ : ∃ u : Nat, (34 : Int) + 8 * (n : Int) = (u : Int) := ⟨34 + 8 * n, by omega⟩
    have hue : (b = false ∧ (u : Int) = (p : Int)) ∨ (b = true ∧ (u : Int) + 20 = (p : Int)) := by
      have := HPB.out
      cases b
      · left; unfold own6 at this; simp at this; exact ⟨rfl, by omega⟩
      · right; unfold own6 at this; simp at this; exact ⟨rfl, by omega⟩
    rcases hue with ⟨rfl, hue⟩ | ⟨rfl, hue⟩
    · rw [hue] at hu
      clear hue
      go_wp2_with fail
      refine (rfcheck_any f _).mono ?_
      rintro e w3 ⟨rfl, hb3⟩
      rw [HE.out]
      have HB3 := Lib.hid (nxt HB2.out hb3)
      have HF3 := Lib.hid (HF2.out.below hb3 HF2.out.lt)
      have HI3 := Lib.hid (HI2.out.below hb3)
      clear hb3 c0 c1 c2 c3 c4 c5 c6 c7 c8 c9 c10 c11
      obtain ⟨c0, c1, c2, c3, c4, c5, c6, c7, c8, c9, c10, c11⟩ := HF3.out.bx
      go_wp2_with fail
      refine (renc_ok f false _ HM.out HWF.out).mono ?_
      rintro e w4 ⟨v, rfl, ho4, hb4⟩
      obtain ⟨A4, cap4, rfl, hi4, hcap4⟩ := ho4.il2
      rw [HEL.out] at hi4 ⊢
      have HI4 := Lib.hid hi4
      have HB4 := Lib.hid (nxt HB3.out hb4)
      have HJ4 := Lib.hid (HI3.out.below hb4)
      clear hb4 ho4 hi4 hcap4
      go_wp2_with fail
      refine (ints_b _ _ _ _ _ _ _ _ _ HJ4.out HI4.out (by omega)).mono ?_
      rintro e w5 ⟨rfl, hb5⟩
      rw [show (enc f false == enc f false) = true from by simp]
      have HB5 := Lib.hid (nxt HB4.out hb5)
      clear hb5
      go_wp2_with fail
      refine (awake6 _).mono ?_
      rintro e w6 ⟨rfl, hb6⟩
      go_wp2
      go_ret
      exact ⟨rfl, nxt HB5.out hb6⟩
    · go_wp2_with fail
      refine (rfcheck_any f _).mono ?_
      rintro e w3 ⟨rfl, hb3⟩
      rw [HE.out]
      have HB3 := Lib.hid (nxt HB2.out hb3)
      have HF3 := Lib.hid (HF2.out.below hb3 HF2.out.lt)
      have HI3 := Lib.hid (HI2.out.below hb3)
      clear hb3 c0 c1 c2 c3 c4 c5 c6 c7 c8 c9 c10 c11
      obtain ⟨c0, c1, c2, c3, c4, c5, c6, c7, c8, c9, c10, c11⟩ := HF3.out.bx
      go_wp2_with fail
      refine (renc_ok f true _ HM.out HWF.out).mono ?_
      rintro e w4 ⟨v, rfl, ho4, hb4⟩
      obtain ⟨A4, cap4, rfl, hi4, hcap4⟩ := ho4.il2
      rw [HEL.out] at hi4 ⊢
      have HI4 := Lib.hid hi4
      have HB4 := Lib.hid (nxt HB3.out hb4)
      have HJ4 := Lib.hid (HI3.out.below hb4)
      clear hb4 ho4 hi4 hcap4
      go_wp2_with fail
      refine (ints_b _ _ _ _ _ _ _ _ _ HJ4.out HI4.out (by omega)).mono ?_
      rintro e w5 ⟨rfl, hb5⟩
      rw [show (enc f true == enc f true) = true from by simp]
      have HB5 := Lib.hid (nxt HB4.out hb5)
      clear hb5
      go_wp2_with fail
      refine (awake6 _).mono ?_
      rintro e w6 ⟨rfl, hb6⟩
      go_wp2
      go_ret
      exact ⟨rfl, nxt HB5.out hb6⟩

theorem cenc_any (f : Fr) (b : Bool) (x : Int) (w : World) (hwf : f.wf) :
    Calls Try.prog 3 #[f.val, .bool b, .int .i64 x] w fun e w' => e = .returned (.bool true) ∧ Below w.heap.size w w' := by
  by_cases hx : x < 0 ∨ 8 < x
  · exact cenc_bad f b x w hx hwf
  · obtain ⟨n, rfl⟩ := Int.eq_ofNat_of_zero_le (show 0 ≤ x by omega)
    exact cenc_ok f b n w (by omega) hwf
end Go.Proofs.Ytffhhegpkejdgaa
