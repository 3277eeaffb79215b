/- The walk of the law FieldLong. -/
import Derived.Test.YtclinogamfpooaaFz
import Derived.Test.YtclinogamfpooaaLw
namespace Go.Proofs.Ytclinogamfpooaa
open Go.RowKit

theorem bit4 (t : Nat) : ofB t 4 = [bit t 3, bit t 2, bit t 1, bit t 0] := rfl
/-- Levels with the first k of the four told anew. -/
def tld (f : Fr) (t k : Nat) : List Int := ctlP f ++ ((ofB t 4).take k ++ (ofB 8 4).drop k) ++ (datB f.d (nDat f) ++ [])
theorem tld_len (f : Fr) (t k : Nat) (h : k ≤ 4) : (tld f t k).length = hEnd f.ext + 8 * nDat f := by
  unfold tld
  rw [List.length_append, List.length_append, List.length_append, List.length_append, List.length_take, List.length_drop, ofB_len, ofB_len, datB_len]
  have := ctlP_len f
  simp; omega
theorem tld_step (f : Fr) (t k : Nat) (h : k < 4) : (tld f t k).set (hEnd f.ext - 4 + k) (bit t (3 - k)) = tld f t (k + 1) := by
  have hl : (ctlP f).length = hEnd f.ext - 4 := by have := ctlP_len f; omega
  unfold tld
  rw [List.append_assoc, List.append_assoc, List.set_append_right _ _ (by omega), hl, show hEnd f.ext - 4 + k - (hEnd f.ext - 4) = k by omega, bit4, bit4]
  rcases (show k = 0 ∨ k = 1 ∨ k = 2 ∨ k = 3 by omega) with rfl | rfl | rfl | rfl <;> simp
theorem tld_zero {f : Fr} (t : Nat) (h : f.len = 8) : bts f = tld f t 0 := by
  have := bts_hdr (f := f) (n := 8) (by omega) (by omega) []
  rw [List.append_nil] at this
  rw [this]
  unfold tld hdr; simp
theorem tld_four (f : Fr) (t : Nat) : tld f t 4 = hdr f t [] := by
  unfold tld hdr
  rw [List.take_of_length_le (by rw [ofB_len]; omega), List.drop_eq_nil_of_le (by rw [ofB_len]; omega), List.append_nil]
theorem hdr_more (f : Fr) (t : Nat) (r : List Int) : hdr f t [] ++ r = hdr f t r := by unfold hdr; simp
theorem hdr_fout {f : Fr} {t : Nat} (r : List Int) (hm : f.may = true) (hwf : f.wf) (ht : t < 16) (hl : min t 8 = f.len.toNat) : fout (hdr f t r) = .tuple #[f.val, .int .i64 0] := by
  obtain ⟨h0, _, h2, _⟩ := may_parts hm
  obtain ⟨i, hi⟩ := Int.eq_ofNat_of_zero_le h0
  obtain ⟨n, hn⟩ := Int.eq_ofNat_of_zero_le h2
  unfold fout
  rw [hdr_ext hi, hdr_len, hdr_ahead hi ht hn (by rw [hl, hn]; simp), if_neg (by omega), hdr_zero, hdr_frame hm hwf ht hl]
  simp
theorem hdr_aout {f : Fr} {t : Nat} (r : List Int) (hm : f.may = true) (ht : t < 16) (hl : min t 8 = f.len.toNat) : aout (hdr f t r) = .tuple #[.int .i64 ((hEnd f.ext + 8 * nDat f : Nat) : Int), .int .i64 0] := by
  obtain ⟨h0, _, h2, _⟩ := may_parts hm
  obtain ⟨i, hi⟩ := Int.eq_ofNat_of_zero_le h0
  obtain ⟨n, hn⟩ := Int.eq_ofNat_of_zero_le h2
  unfold aout
  rw [hdr_ext hi, hdr_len, hdr_ahead hi ht hn (by rw [hl, hn]; simp), if_neg (by omega)]
theorem hdr_all (f : Fr) (t : Nat) {r : List Int} (hr : ∀ z ∈ r, lvl z = true) : ∀ z ∈ hdr f t r, lvl z = true := by
  unfold hdr ctlP
  exact all_append (all_append (all_append (all_append (by intro z hz; simp at hz; subst hz; rfl) (ofB_all _ _)) (ofB_all _ _)) (ofB_all _ _)) (all_append (datB_all _ _) hr)

set_option maxHeartbeats 800000 in
theorem long_bad (f : Fr) (T : Int) (A : Option Addr) (n cap : Nat) (w : World) (hm : f.may = false) :
    Calls Try.prog 8 #[f.val, .int .i64 T, .slice A n cap] w fun e w' => e = .returned (.bool true) ∧ Below w.heap.size w w' := by
  have HM := Lib.hid hm
  clear hm
  go_enter Try.func8, Try.ntmps8
  go_wp2_with fail
  refine (fbits_bad f _ HM.out).mono ?_
  rintro e w1 ⟨rfl, hb1⟩
  have HB1 := Lib.hid (nxt (boxed f w) hb1)
  clear hb1
  go_wp2_with fail
  refine (awake04 _).mono ?_
  rintro e wa ⟨rfl, hba⟩
  go_wp2
  go_ret
  exact ⟨rfl, nxt HB1.out hba⟩
set_option maxHeartbeats 800000 in
theorem long_t9 (f : Fr) (T : Int) (A : Option Addr) (n cap : Nat) (w : World) (hm : f.may = true) (hwf : f.wf) (hc : T < 9) :
    Calls Try.prog 8 #[f.val, .int .i64 T, .slice A n cap] w fun e w' => e = .returned (.bool true) ∧ Below w.heap.size w w' := by
  have HM := Lib.hid hm; have HWF := Lib.hid hwf
  have d1 := decide_eq_true hc
  clear hm hwf hc
  go_enter Try.func8, Try.ntmps8
  go_wp2_with fail
  refine (fbits_ok f _ HM.out HWF.out).mono ?_
  rintro e w1 ⟨v1, rfl, ho1, hb1⟩
  have HB1 := Lib.hid (nxt (boxed f w) hb1)
  obtain ⟨A1, cap1, rfl, _, _⟩ := ho1.il2
  generalize (bts f).length = L at *
  clear hb1 ho1
  go_wp2_with fail
  refine (awake04 _).mono ?_
  rintro e wa ⟨rfl, hba⟩
  go_wp2
  go_ret
  exact ⟨rfl, nxt HB1.out hba⟩
set_option maxHeartbeats 800000 in
theorem long_t15 (f : Fr) (T : Int) (A : Option Addr) (n cap : Nat) (w : World) (hm : f.may = true) (hwf : f.wf) (hc : 15 < T) :
    Calls Try.prog 8 #[f.val, .int .i64 T, .slice A n cap] w fun e w' => e = .returned (.bool true) ∧ Below w.heap.size w w' := by
  have HM := Lib.hid hm; have HWF := Lib.hid hwf
  have d1 : decide (T < 9) = false := by simp; omega
  have d2 := decide_eq_true hc
  clear hm hwf hc
  go_enter Try.func8, Try.ntmps8
  go_wp2_with fail
  refine (fbits_ok f _ HM.out HWF.out).mono ?_
  rintro e w1 ⟨v1, rfl, ho1, hb1⟩
  have HB1 := Lib.hid (nxt (boxed f w) hb1)
  obtain ⟨A1, cap1, rfl, _, _⟩ := ho1.il2
  generalize (bts f).length = L at *
  clear hb1 ho1
  go_wp2_with fail
  refine (awake04 _).mono ?_
  rintro e wa ⟨rfl, hba⟩
  go_wp2
  go_ret
  exact ⟨rfl, nxt HB1.out hba⟩
set_option maxHeartbeats 800000 in
theorem long_len (f : Fr) (T : Int) (A : Option Addr) (n cap : Nat) (w : World) (hm : f.may = true) (hwf : f.wf) (h1 : 9 ≤ T) (h2 : T ≤ 15) (hc : f.len ≠ 8) :
    Calls Try.prog 8 #[f.val, .int .i64 T, .slice A n cap] w fun e w' => e = .returned (.bool true) ∧ Below w.heap.size w w' := by
  have HM := Lib.hid hm; have HWF := Lib.hid hwf
  have d1 : decide (T < 9) = false := by simp; omega
  have d2 : decide (15 < T) = false := by simp; omega
  have d3 : (f.len != 8) = true := by simpa [bne] using hc
  clear hm hwf hc
  go_enter Try.func8, Try.ntmps8
  go_wp2_with fail
  refine (fbits_ok f _ HM.out HWF.out).mono ?_
  rintro e w1 ⟨v1, rfl, ho1, hb1⟩
  have HB1 := Lib.hid (nxt (boxed f w) hb1)
  obtain ⟨c0, c1, c2, c3, c4, c5, c6, c7, c8, c9, c10, c11⟩ := bx_past hb1
  obtain ⟨A1, cap1, rfl, _, _⟩ := ho1.il2
  generalize (bts f).length = L at *
  clear hb1 ho1
  go_wp2_with fail
  refine (awake04 _).mono ?_
  rintro e wa ⟨rfl, hba⟩
  go_wp2
  go_ret
  exact ⟨rfl, nxt HB1.out hba⟩
set_option maxHeartbeats 800000 in
theorem long_n20 (f : Fr) (T : Int) (A : Option Addr) (n cap : Nat) (w : World) (hm : f.may = true) (hwf : f.wf) (h1 : 9 ≤ T) (h2 : T ≤ 15) (h8 : f.len = 8) (hc : 20 < n) :
    Calls Try.prog 8 #[f.val, .int .i64 T, .slice A n cap] w fun e w' => e = .returned (.bool true) ∧ Below w.heap.size w w' := by
  have HM := Lib.hid hm; have HWF := Lib.hid hwf
  have d4 : decide ((20 : Int) < (n : Int)) = true := by simp; omega
  have d1 : decide (T < 9) = false := by simp; omega
  have d2 : decide (15 < T) = false := by simp; omega
  have H8 := Lib.hid h8
  clear h8
  clear hm hwf hc
  go_enter Try.func8, Try.ntmps8
  go_wp2_with fail
  refine (fbits_ok f _ HM.out HWF.out).mono ?_
  rintro e w1 ⟨v1, rfl, ho1, hb1⟩
  have HB1 := Lib.hid (nxt (boxed f w) hb1)
  obtain ⟨c0, c1, c2, c3, c4, c5, c6, c7, c8, c9, c10, c11⟩ := bx_past hb1
  rw [H8.out] at c3
  obtain ⟨A1, cap1, rfl, _, _⟩ := ho1.il2
  generalize (bts f).length = L at *
  clear hb1 ho1
  go_wp2_with fail
  refine (awake04 _).mono ?_
  rintro e wa ⟨rfl, hba⟩
  go_wp2
  go_ret
  exact ⟨rfl, nxt HB1.out hba⟩
set_option maxHeartbeats 800000 in
theorem long_lev (f : Fr) (T : Int) (A : Option Addr) (n cap : Nat) (zs : List Int) (w : World) (hm : f.may = true) (hwf : f.wf) (h1 : 9 ≤ T) (h2 : T ≤ 15) (h8 : f.len = 8) (h20 : n ≤ 20) (hr : Il w A n zs) (hc : ¬ chk zs < 0) :
    Calls Try.prog 8 #[f.val, .int .i64 T, .slice A n cap] w fun e w' => e = .returned (.bool true) ∧ Below w.heap.size w w' := by
  have HM := Lib.hid hm; have HWF := Lib.hid hwf
  have d1 : decide (T < 9) = false := by simp; omega
  have d2 : decide (15 < T) = false := by simp; omega
  have HC := Lib.hid (show decide (chk zs < 0) = false by simpa using hc)
  have HR := Lib.hid hr
  clear hr
  have H8 := Lib.hid h8
  clear h8
  clear hm hwf hc
  go_enter Try.func8, Try.ntmps8
  go_wp2_with fail
  refine (fbits_ok f _ HM.out HWF.out).mono ?_
  rintro e w1 ⟨v1, rfl, ho1, hb1⟩
  have HB1 := Lib.hid (nxt (boxed f w) hb1)
  obtain ⟨c0, c1, c2, c3, c4, c5, c6, c7, c8, c9, c10, c11⟩ := bx_past hb1
  rw [H8.out] at c3
  obtain ⟨A1, cap1, rfl, _, _⟩ := ho1.il2
  generalize (bts f).length = L at *
  clear hb1 ho1
  go_wp2_with fail
  refine (levels04 A n cap zs _ (HR.out.below HB1.out) (by omega)).mono ?_
  rintro e w' ⟨rfl, rfl⟩
  rw [HC.out]
  go_wp2_with fail
  refine (awake04 _).mono ?_
  rintro e wa ⟨rfl, hba⟩
  go_wp2
  go_ret
  exact ⟨rfl, nxt HB1.out hba⟩
end Go.Proofs.Ytclinogamfpooaa
