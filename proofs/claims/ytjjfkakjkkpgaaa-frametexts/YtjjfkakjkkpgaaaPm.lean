/- Where a text's mark stands, and what it is the frame of. -/
import Derived.Test.YtjjfkakjkkpgaaaTm
namespace Go.Proofs.Ytjjfkakjkkpgaaa

theorem mrk_35 {l : List UInt8} (h : mrk l < l.length) : l[mrk l]? = some 35 := by
  have e := split_mrk h
  have hl : (l.take (mrk l)).length = mrk l := by rw [List.length_take]; omega
  have : (l.take (mrk l) ++ 35 :: l.drop (mrk l + 1))[mrk l]? = some 35 := by
    rw [List.getElem?_append_right (by rw [hl]; exact Nat.le_refl _), hl, Nat.sub_self]; rfl
  rwa [← e] at this
theorem split_at {l : List UInt8} {p : Nat} (h : l[p]? = some 35) : l = l.take p ++ 35 :: l.drop (p + 1) := by
  obtain ⟨hp, e⟩ := List.getElem?_eq_some_iff.1 h
  have e2 : l.drop p = 35 :: l.drop (p + 1) := by rw [List.drop_eq_getElem_cons hp, e]
  rw [← e2, List.take_append_drop]
theorem mrk_at {l : List UInt8} {p : Nat} (h : l[p]? = some 35) (ha : ∀ c ∈ l.take p, hok c = true) : mrk l = p := by
  have hp : p < l.length := (List.getElem?_eq_some_iff.1 h).1
  have e := mrk_app (a := l.take p) (b := l.drop (p + 1)) ha
  rw [← split_at h, List.length_take] at e
  omega
theorem pfm_parts {l : List UInt8} (h : pfm l = true) : mrk l < l.length ∧ (mrk l = 3 ∨ mrk l = 8) ∧ (∀ c ∈ l.take (mrk l), hok c = true) ∧ cok (l.drop (mrk l + 1)) = true := by
  unfold pfm at h
  simp only [Bool.and_eq_true, decide_eq_true_eq, Bool.or_eq_true, beq_iff_eq] at h
  exact ⟨h.1.1.1, h.1.1.2, List.all_eq_true.1 h.1.2, h.2⟩
theorem perr_no {l : List UInt8} (h : pfm l = false) : perr l = 11 ∧ pout l = Fr.zero := by
  have e : perr l = 11 := by unfold perr; rw [h]; rfl
  exact ⟨e, by unfold pout; rw [e]; rfl⟩
theorem pfm_none {l : List UInt8} (h3 : l[3]? ≠ some 35) (h8 : l[8]? ≠ some 35) : pfm l = false := by
  cases h : pfm l
  · rfl
  · obtain ⟨h1, h2, _⟩ := pfm_parts h
    have := mrk_35 h1
    rcases h2 with h2 | h2 <;> rw [h2] at this
    · exact absurd this h3
    · exact absurd this h8
theorem cok_no35 {t : List UInt8} {k : Nat} (hk : 2 ≤ k) (h : t[k]? = some 35) : cok t = false := by
  have hl : k < t.length := (List.getElem?_eq_some_iff.1 h).1
  unfold cok
  by_cases hh : t.head? = some 82
  · rw [if_pos hh, show (t.length == 2) = false by simp; omega]; rfl
  · rw [if_neg hh]
    have : t.all hok = false := by
      cases ha : t.all hok
      · rfl
      · have := List.all_eq_true.1 ha 35 (List.mem_of_getElem? h)
        rw [hok_35] at this; cases this
    rw [this, Bool.and_false]
theorem pfm_bad8 {l : List UInt8} (h8 : l[8]? = some 35) (ha : ¬ ∀ c ∈ l.take 8, hok c = true) : pfm l = false := by
  cases h : pfm l
  · rfl
  · obtain ⟨h1, h2, h3, h4⟩ := pfm_parts h
    rcases h2 with h2 | h2
    · rw [h2] at h4
      have : (l.drop (3 + 1))[4]? = some 35 := by rw [List.getElem?_drop]; exact h8
      rw [cok_no35 (by omega) this] at h4; cases h4
    · rw [h2] at h3; exact absurd h3 ha
theorem pfm_bad3 {l : List UInt8} (h8 : l[8]? ≠ some 35) (ha : ¬ ∀ c ∈ l.take 3, hok c = true) : pfm l = false := by
  cases h : pfm l
  · rfl
  · obtain ⟨h1, h2, h4, _⟩ := pfm_parts h
    rcases h2 with h2 | h2
    · rw [h2] at h4; exact absurd h4 ha
    · have := mrk_35 h1
      rw [h2] at this; exact absurd this h8
theorem pfm_at {l : List UInt8} {p : Nat} (hp : p = 3 ∨ p = 8) (h : l[p]? = some 35) (ha : ∀ c ∈ l.take p, hok c = true) : pfm l = cok (l.drop (p + 1)) ∧ pfr l = { cfr (l.drop (p + 1)) with id := (hval (l.take p) : Int), ext := p == 8 } := by
  have hm := mrk_at h ha
  have hlt : p < l.length := (List.getElem?_eq_some_iff.1 h).1
  constructor
  · unfold pfm
    rw [hm, List.all_eq_true.2 ha, show decide (p < l.length) = true by simpa using hlt]
    rcases hp with rfl | rfl <;> simp
  · unfold pfr; rw [hm]
theorem perr_ok {l : List UInt8} (h : pfm l = true) : perr l = (pfr l).err ∧ ((pfr l).err = 0 ∧ pout l = pfr l ∨ (pfr l).err = 14 ∧ pout l = Fr.zero) := by
  have e : perr l = (pfr l).err := by unfold perr; rw [h]; rfl
  refine ⟨e, ?_⟩
  cases hm : (pfr l).may
  · exact .inr ⟨err_no hm, by unfold pout; rw [e, err_no hm]; rfl⟩
  · exact .inl ⟨err_ok hm, by unfold pout; rw [e, err_ok hm]; rfl⟩
end Go.Proofs.Ytjjfkakjkkpgaaa
