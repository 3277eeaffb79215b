/- The walk of the law FieldBack. -/
import Derived.Test.YtalpbnfebcafgaaGreatLg
import Derived.Test.YtalpbnfebcafgaaGreatFy
namespace Go.Proofs.YtalpbnfebcafgaaGreat
set_option maxRecDepth 20000
open Go.RowKit

/-! What a frame's own levels tell, and what they tell with one turned. -/
theorem alls_hdr {f : Fr} {n : Nat} (hn : f.len = (n : Int)) (h : n < 16) : alls f = hdr f n (ofB (csum (bts f)) 15 ++ List.replicate 10 1) := by
  unfold alls; rw [List.append_assoc]; exact bts_hdr hn h _
theorem alls_all (f : Fr) : ∀ z ∈ alls f, lvl z = true := by
  unfold alls
  exact all_append (all_append (bts_all f) (ofB_all _ _)) (by intro z hz; simp at hz; subst hz; rfl)
/-- The header is asked of the first levels alone. -/
theorem take_hdr {f : Fr} {n k : Nat} {r : List Int} (h : (hdr f n r).length - r.length ≤ k) : (hdr f n r).take k = hdr f n (r.take (k - ((hdr f n r).length - r.length))) := by
  unfold hdr at h ⊢
  rw [← List.append_assoc, ← List.append_assoc, List.take_append]
  simp only [List.length_append] at h ⊢
  rw [List.take_of_length_le (by simp only [List.length_append]; omega)]
  congr 2
  omega
/-- One level turned, behind the control levels and ahead of the sum's end. -/
def trn (f : Fr) (p : Nat) : List Int := (alls f).set p (1 - (alls f).getD p 0)
theorem trn_all (f : Fr) (p : Nat) : ∀ z ∈ trn f p, lvl z = true := by
  intro z hz
  rcases List.mem_or_eq_of_mem_set hz with h | h
  · exact alls_all f z h
  · rcases Nat.lt_or_ge p (alls f).length with hp | hp
    · have := lvl_01 (alls_all f _ (List.mem_of_getElem? (getD_some _ p hp)))
      subst h
      rcases this with e | e <;> rw [e] <;> rfl
    · subst h
      rw [List.getD_eq_getElem?_getD, List.getElem?_eq_none hp]; rfl
section
variable {f : Fr} (hm : f.may = true)
include hm
theorem len_nat : ∃ n : Nat, f.len = (n : Int) ∧ n ≤ 8 := by
  obtain ⟨_, _, h2, h3, _⟩ := may_parts hm
  obtain ⟨n, hn⟩ := Int.eq_ofNat_of_zero_le h2
  exact ⟨n, hn, by omega⟩
theorem id_nat : ∃ i : Nat, f.id = (i : Int) := by
  obtain ⟨h0, _⟩ := may_parts hm
  exact Int.eq_ofNat_of_zero_le h0
theorem alls_aout : aout (alls f) = .tuple #[.int .i64 ((hEnd f.ext + 8 * nDat f : Nat) : Int), .int .i64 0] := by
  obtain ⟨n, hn, h8⟩ := len_nat hm
  rw [alls_hdr hn (by omega)]
  exact hdr_aout _ hm (by omega) (by rw [hn]; simp; omega)
theorem alls_ahead : ahead (alls f) = (bts f).length := by
  obtain ⟨n, hn, h8⟩ := len_nat hm
  obtain ⟨i, hi⟩ := id_nat hm
  rw [alls_hdr hn (by omega), hdr_ahead hi (by omega) hn (by omega), bts_len]
theorem alls_ext : hEx (alls f) = f.ext := by
  obtain ⟨n, hn, h8⟩ := len_nat hm
  obtain ⟨i, hi⟩ := id_nat hm
  rw [alls_hdr hn (by omega), hdr_ext hi]
theorem alls_rout : rout (alls f) = .tuple #[.bool true, .int .i64 0] := by
  unfold rout
  rw [alls_ext hm, alls_ahead hm, alls_len, bts_len, if_neg (by omega), ← bts_len]
  have e : (alls f).take ((bts f).length + 15) = bts f ++ ofB (csum (bts f)) 15 := by
    unfold alls
    rw [List.take_append_of_le_length (by rw [List.length_append, ofB_len]; omega), List.take_of_length_le (by rw [List.length_append, ofB_len]; omega)]
  rw [e, rgt_own _ (bts_all f) (csum_lt _)]
  simp
theorem alls_fout (hwf : f.wf) {k : Nat} (h : (bts f).length ≤ k) : fout ((alls f).take k) = .tuple #[f.val, .int .i64 0] := by
  obtain ⟨n, hn, h8⟩ := len_nat hm
  have hb := bts_len f
  rw [alls_hdr hn (by omega), take_hdr (f := f) (by rw [hdr_len]; omega)]
  exact hdr_fout _ hm hwf (by omega) (by rw [hn]; simp; omega)
theorem trn_rout {p : Nat} (h1 : hEnd f.ext ≤ p) (h2 : p < (bts f).length + 15) : rout (trn f p) = .tuple #[.bool false, .int .i64 0] := by
  have hbl := bts_len f
  have hal := alls_len f
  have hlen : (trn f p).length = (bts f).length + 25 := by unfold trn; rw [List.length_set, hal]
  have et : (trn f p).take p = (alls f).take p := by unfold trn; rw [List.take_set_of_le (Nat.le_refl _)]
  have ek : (alls f).take p = (trn f p).take p := et.symm
  have hh : hEnd (hEx (alls f)) ≤ p := by rw [alls_ext hm]; exact h1
  have hext : hEx (trn f p) = f.ext := by rw [← hEx_take ek (Nat.lt_of_lt_of_le (hEnd_13 _) hh), alls_ext hm]
  have hah : ahead (trn f p) = (bts f).length := by rw [← ahead_take ek hh (by omega) (by omega), alls_ahead hm]
  unfold rout
  rw [hext, hah, hlen, if_neg (by omega)]
  have htl : ((trn f p).take ((bts f).length + 15)).length = (bts f).length + 15 := by rw [List.length_take]; omega
  have hal2 : ((alls f).take ((bts f).length + 15)).length = (bts f).length + 15 := by rw [List.length_take]; omega
  rw [rgt_sum _ (all_take (trn_all f p) _) (by omega)]
  have e : (alls f).take ((bts f).length + 15) = bts f ++ ofB (csum (bts f)) 15 := by
    unfold alls
    rw [List.take_append_of_le_length (by rw [List.length_append, ofB_len]; omega), List.take_of_length_le (by rw [List.length_append, ofB_len]; omega)]
  have e0 : csum ((alls f).take ((bts f).length + 15)) = 0 := by
    rw [e, csum_own _ (csum_lt _)]
  have hne : csum ((trn f p).take ((bts f).length + 15)) ≠ 0 := by
    rw [← e0]
    intro hc
    have := csum_burst (p := p) (by omega) (all_take (trn_all f p) _) (all_take (alls_all f) _) (by rw [List.take_take, List.take_take, Nat.min_eq_left (by omega), et])
      (by
        rw [List.drop_take, List.drop_take]
        unfold trn
        rw [List.drop_set_of_lt (by omega)]) hc
    have g := congrArg (fun l : List Int => l[p]?) this
    simp only [List.getElem?_take_of_lt h2] at g
    unfold trn at g
    rw [List.getElem?_set_self (by omega), getD_some _ p (by omega)] at g
    injection g with g
    omega
  simp [hne]
end
end Go.Proofs.YtalpbnfebcafgaaGreat
