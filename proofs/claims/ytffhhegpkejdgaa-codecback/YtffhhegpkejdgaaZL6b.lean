/- The walk of the law CodecBack. -/
import Derived.Test.YtffhhegpkejdgaaX610
namespace Go.Proofs.Ytffhhegpkejdgaa
open Go.RowKit

set_option maxRecDepth 100000 in
set_option maxHeartbeats 3200000 in
theorem cback_far (f : Fr) (A : Option Addr) (n cap : Nat) (x : Int) (w : World) (hn : 40 < n) :
    Calls Try.prog 5 #[f.val, .slice A n cap, .int .i64 x] w fun e w' => e = .returned (.bool true) ∧ Below w.heap.size w w' := by
  have g0 : decide ((40 : Int) < (n : Int)) = true := by simp; omega
  go_enter Try.func5, Try.ntmps5
  go_wp2_with (go_at_call 14; (refine (awake6 _).mono ?_); rintro e w1 ⟨rfl, hb1⟩)
  go_ret
  exact ⟨rfl, nxt (boxed f w) hb1⟩

set_option maxRecDepth 100000 in
set_option maxHeartbeats 3200000 in
theorem cback_bad (f : Fr) (A : Option Addr) (n cap : Nat) (x : Int) (w : World) (hn : n ≤ 40) (hm : f.may = false) :
    Calls Try.prog 5 #[f.val, .slice A n cap, .int .i64 x] w fun e w' => e = .returned (.bool true) ∧ Below w.heap.size w w' := by
  have HM := Lib.hid hm
  have HE := Lib.hid (show f.err = 14 by unfold Fr.err; rw [hm]; rfl)
  have g0 : decide ((40 : Int) < (n : Int)) = false := by simp; omega
  clear hm
  go_enter Try.func5, Try.ntmps5
  go_wp2_with fail
  refine (encode_bad f _ _ HM.out).mono ?_
  rintro e w1 ⟨rfl, hb1⟩
  have HB1 := Lib.hid (nxt (boxed f w) hb1)
  obtain ⟨c0, c1, c2, c3, c4, c5, c6, c7, c8, c9, c10, c11⟩ := ((fb_new w f).below hb1 (by simp)).bx
  clear hb1
  go_wp2_with fail
  refine (fcheck_any f _).mono ?_
  rintro e w2 ⟨rfl, hb2⟩
  rw [HE.out]
  have HB2 := Lib.hid (nxt HB1.out hb2)
  clear hb2 c0 c1 c2 c3 c4 c5 c6 c7 c8 c9 c10 c11
  go_wp2_with fail
  refine (awake6 _).mono ?_
  rintro e w3 ⟨rfl, hb3⟩
  go_wp2
  go_ret
  exact ⟨rfl, nxt HB2.out hb3⟩

set_option maxRecDepth 100000 in
set_option maxHeartbeats 3200000 in
theorem cback_ok (f : Fr) (A : Option Addr) (n cap : Nat) (zs : List Int) (x : Int) (w : World) (hn : n ≤ 40) (hr : Il w A n zs) (hm : f.may = true) (hwf : f.wf) :
    Calls Try.prog 5 #[f.val, .slice A n cap, .int .i64 x] w fun e w' => e = .returned (.bool true) ∧ Below w.heap.size w w' := by
  have HM := Lib.hid hm; have HWF := Lib.hid hwf; have HR := Lib.hid hr
  have h22 := eq22
  have g0 : decide ((40 : Int) < (n : Int)) = false := by simp; omega
  obtain ⟨b, hb⟩ : ∃ b, (x.tmod 2 == 0) = b := ⟨_, rfl⟩
  obtain ⟨L, hL⟩ : ∃ L, (enc f b).length = L := ⟨_, rfl⟩
  have hL2 : L ≤ 310 := by rw [← hL, enc_len]; have := stf_raw_le hm; omega
  have hL1 : 10 ≤ L := by rw [← hL, enc_len]; omega
  have HEL := Lib.hid hL
  have HDV := Lib.hid (enc_dV hm hwf b zs)
  have HSH := Lib.hid (fun j (hj : j < L) => short_dV hm b (j := j) (by rw [hL]; exact hj))
  rw [hL] at HDV
  clear hm hwf hL hr
  go_enter Try.func5, Try.ntmps5
  go_wp2_with fail
  refine (encode_ok f b _ HM.out HWF.out).mono ?_
  rintro e w1 ⟨v, rfl, ho1, hb1⟩
  obtain ⟨q, cap1, rfl, hq, hcap1⟩ := ho1.shape (by rw [HEL.out]; omega)
  rw [HEL.out] at ho1 hcap1 ⊢
  have HB1 := Lib.hid (nxt (boxed f w) hb1)
  have HF1 := Lib.hid (show Fb w1 w.heap.size f from (fb_new w f).below hb1 (by simp))
  have HI1 := Lib.hid (show Il w1 (some ⟨q, 0, none⟩) L (enc f b) from ho1.il_at)
  have HR1 := Lib.hid (HR.out.below HB1.out)
  have HO := Lib.hid (Own.lit w1 w1.heap.size [] (Nat.le_refl _) (by simp))
  clear hb1 ho1 hq
  go_wp2_with (first
    | (at_builtin; (refine append_ints2 _ rfl (.tmp 42) (.tmp 43) rfl w1.heap.size _ [] rfl HO.out _ L _ (enc f b) rfl (HI1.out.alloc _) (by simp; omega) (by simp) ?_); intro v4 w4 ho4 hg4 _; have hb4 := below_lit hg4; clear hg4; have HO4 := Lib.hid ho4; clear ho4)
    | (at_builtin; (refine append_ints2 _ rfl (.tmp 44) (.tmp 45) rfl w1.heap.size v4 ([] ++ enc f b) rfl HO4.out A n cap zs rfl (HR1.out.below hb4) (by rw [List.nil_append, HEL.out]; omega) hb4.size ?_); intro v5 w5 ho5 hg5 _; have hb5 := hb4.grown hg5 hb4.size HO4.out.row; have HO5 := Lib.hid ho5.il2; clear ho5 hg5)
    | fail)
  obtain ⟨A5, cap5, rfl, hi5, hc5⟩ := HO5.out
  have HI5 := Lib.hid hi5
  have hl5 : ([] ++ enc f b ++ zs).length = L + n := by rw [List.nil_append, List.length_append, HEL.out, HR.out.1]
  rw [hl5] at HI5 ⊢
  rw [List.nil_append] at HI5
  have HB5 := Lib.hid (nxt HB1.out hb5)
  have HF5 := Lib.hid (HF1.out.below hb5 HF1.out.lt)
  have HE5 := Lib.hid (HI1.out.below hb5)
  clear HO5 HO4 HO hi5 hc5 hl5 hb4 hb5 HR1
  go_wp2_with fail
  refine (decode_any _ (L + n) cap5 _ _ HI5.out (by omega)).mono ?_
  rintro e w2 ⟨rfl, hb2⟩
  rw [HDV.out]
  have HB2 := Lib.hid (nxt HB5.out hb2)
  have F2 := HF5.out.below hb2 HF5.out.lt
  have hl2 := F2.lt
  obtain ⟨c0, c1, c2, c3, c4, c5, c6, c7, c8, c9, c10, c11⟩ := F2.bx
  have hne : w2.heap.size ≠ w.heap.size := by omega
  have HE2 := Lib.hid (HE5.out.below hb2)
  have s1 := beq_self_eq_true [f.d 0, f.d 1, f.d 2, f.d 3, f.d 4, f.d 5, f.d 6, f.d 7]
  clear F2 hb2
  rcases Int.lt_or_le x 0 with hx | hx
  · go_wp2_with fail
    refine (awake6 _).mono ?_
    rintro e w3 ⟨rfl, hb3⟩
    go_wp2
    go_ret
    exact ⟨rfl, nxt (HB2.out.alloc HB2.out.size _) hb3⟩
  obtain ⟨j, rfl⟩ := Int.eq_ofNat_of_zero_le hx
  rcases Nat.lt_or_ge j L with hj | hj
  · have j0 : (0 : Int) ≤ (j : Int) := by omega
    have j1 : (j : Int) < (L : Int) := by omega
    have j2 : (j : Int) ≤ (cap1 : Int) := by omega
    have j3 : j ≤ cap1 := by omega
    have HD := Lib.hid (HSH.out j hj)
    have HEJ := Lib.hid ((HE2.out.alloc (.cells f.cells 24)).take j (by omega))
    have HB3 := Lib.hid (HB2.out.alloc HB2.out.size (.cells f.cells 24))
    clear hx
    go_wp2_with fail
    refine (decode_any _ j cap1 _ _ HEJ.out (by omega)).mono ?_
    rintro e w4 ⟨rfl, hb4⟩
    rw [HD.out]
    have HB4 := Lib.hid (nxt HB3.out hb4)
    clear hb4 c0 c1 c2 c3 c4 c5 c6 c7 c8 c9 c10 c11
    go_wp2_with fail
    refine (awake6 _).mono ?_
    rintro e w5 ⟨rfl, hb5⟩
    go_wp2
    go_ret
    exact ⟨rfl, nxt (HB4.out.alloc HB4.out.size _) hb5⟩
  · have j1 : (L : Int) ≤ (j : Int) := by omega
    go_wp2_with fail
    refine (awake6 _).mono ?_
    rintro e w3 ⟨rfl, hb3⟩
    go_wp2
    go_ret
    exact ⟨rfl, nxt (HB2.out.alloc HB2.out.size _) hb3⟩

theorem cback_any (f : Fr) (A : Option Addr) (n cap : Nat) (zs : List Int) (x : Int) (w : World) (hr : Il w A n zs) (hwf : f.wf) :
    Calls Try.prog 5 #[f.val, .slice A n cap, .int .i64 x] w fun e w' => e = .returned (.bool true) ∧ Below w.heap.size w w' := by
  rcases Nat.lt_or_ge 40 n with hn | hn
  · exact cback_far f A n cap x w hn
  · cases hm : f.may with
    | false => exact cback_bad f A n cap x w hn hm
    | true => exact cback_ok f A n cap zs x w hn hr hm hwf
end Go.Proofs.Ytffhhegpkejdgaa
