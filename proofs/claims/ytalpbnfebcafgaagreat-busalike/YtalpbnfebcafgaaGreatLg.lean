/- The walk of the law FieldLong. -/
import Derived.Test.YtalpbnfebcafgaaGreatFz
import Derived.Test.YtalpbnfebcafgaaGreatLw
namespace Go.Proofs.YtalpbnfebcafgaaGreat
set_option maxRecDepth 20000
open Go.RowKit

theorem bit4 (t : Nat) : ofB t 4 = [bit t 3, bit t 2, bit t 1, bit t 0] := rfl
/-- Levels with the first k of the four told anew. -/
def tld (f : Fr) (t k : Nat) : List Int := ctlP f ++ ((ofB t 4).take k ++ (ofB 8 4).drop k) ++ (datB f.d (nDat f) ++ [])
theorem tld_len (f : Fr) (t k : Nat) (h : k ≤ 4) : (tld f t k).length = hEnd f.ext + 8 * nDat f := by
  unfold tld
  rw [List.length_append, List.length_append, List.length_append, List.length_append, List.length_take, List.length_drop, ofB_len, ofB_len, datB_len]
  have := ctlP_len f
  simp; omega
theorem tld_step (f : Fr) (t k : Nat) (h : k < 4) : (tld f t k).set (hEnd f.ext - 4 + k) (bit t (3 - k)) = tld f t (k + 1) := by
  have hl : (ctlP f).length = hEnd f.ext - 4 := by have := ctlP_len f; omega
  unfold tld
  rw [List.append_assoc, List.append_assoc, List.set_append_right _ _ (by omega), hl, show hEnd f.ext - 4 + k - (hEnd f.ext - 4) = k by omega, bit4, bit4]
  rcases (show k = 0 ∨ k = 1 ∨ k = 2 ∨ k = 3 by omega) with rfl | rfl | rfl | rfl <;> simp
theorem tld_zero {f : Fr} (t : Nat) (h : f.len = 8) : bts f = tld f t 0 := by
  have := bts_hdr (f := f) (n := 8) (by omega) (by omega) []
  rw [List.append_nil] at this
  rw [this]
  unfold tld hdr; simp
theorem tld_four (f : Fr) (t : Nat) : tld f t 4 = hdr f t [] := by
  unfold tld hdr
  rw [List.take_of_length_le (by rw [ofB_len]; omega), List.drop_eq_nil_of_le (by rw [ofB_len]; omega), List.append_nil]
theorem hdr_more (f : Fr) (t : Nat) (r : List Int) : hdr f t [] ++ r = hdr f t r := by unfold hdr; simp
theorem hdr_fout {f : Fr} {t : Nat} (r : List Int) (hm : f.may = true) (hwf : f.wf) (ht : t < 16) (hl : min t 8 = f.len.toNat) : fout (hdr f t r) = .tuple #[f.val, .int .i64 0] := by
  obtain ⟨h0, _, h2, _⟩ := may_parts hm
  obtain ⟨i, hi⟩ := Int.eq_ofNat_of_zero_le h0
  obtain ⟨n, hn⟩ := Int.eq_ofNat_of_zero_le h2
  unfold fout
  rw [hdr_ext hi, hdr_len, hdr_ahead hi ht hn (by rw [hl, hn]; simp), if_neg (by omega), hdr_zero, hdr_frame hm hwf ht hl]
  simp
theorem hdr_aout {f : Fr} {t : Nat} (r : List Int) (hm : f.may = true) (ht : t < 16) (hl : min t 8 = f.len.toNat) : aout (hdr f t r) = .tuple #[.int .i64 ((hEnd f.ext + 8 * nDat f : Nat) : Int), .int .i64 0] := by
  obtain ⟨h0, _, h2, _⟩ := may_parts hm
  obtain ⟨i, hi⟩ := Int.eq_ofNat_of_zero_le h0
  obtain ⟨n, hn⟩ := Int.eq_ofNat_of_zero_le h2
  unfold aout
  rw [hdr_ext hi, hdr_len, hdr_ahead hi ht hn (by rw [hl, hn]; simp), if_neg (by omega)]
theorem hdr_all (f : Fr) (t : Nat) {r : List Int} (hr : ∀ z ∈ r, lvl z = true) : ∀ z ∈ hdr f t r, lvl z = true := by
  unfold hdr ctlP
  exact all_append (all_append (all_append (all_append (by intro z hz; simp at hz; subst hz; rfl) (ofB_all _ _)) (ofB_all _ _)) (ofB_all _ _)) (all_append (datB_all _ _) hr)

end Go.Proofs.YtalpbnfebcafgaaGreat
