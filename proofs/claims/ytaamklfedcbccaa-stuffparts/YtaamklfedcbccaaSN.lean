/- Plain mathematics: where six are alike first, and what Take tells. -/
import Derived.Test.YtaamklfedcbccaaSM
namespace Go.Proofs.Ytaamklfedcbccaa

theorem take_endr {t : List Int} {k : Nat} {z : Int} (h : t[k]? = some z) : endr (t.take (k + 1)) = tel (endr (t.take k)) z := by rw [take_snoc t k z h, endr_snoc]
/-- Are no six alike at the level k? -/
def noSix (t : List Int) (k : Nat) : Bool := decide (alk (t.take (k + 1)) ≤ 5)
/-- How many levels are ahead of the first one that is like the five ahead of it. -/
def sx (t : List Int) : Nat := led (noSix t) (List.range t.length)
theorem range_some {n k : Nat} (h : k < n) : (List.range n)[k]? = some k := by simp [h]
theorem sx_le (t : List Int) : sx t ≤ t.length := by have := led_le (noSix t) (List.range t.length); rwa [List.length_range] at this
theorem sx_succ {t : List Int} {k : Nat} (h : k ≤ sx t) (hk : k < t.length) (h5 : alk (t.take (k + 1)) ≤ 5) : k + 1 ≤ sx t :=
  led_succ (noSix t) _ k k h (range_some hk) (by unfold noSix; simpa using h5)
theorem sx_stop {t : List Int} {k : Nat} (h : k ≤ sx t) (hk : k < t.length) (h5 : ¬ alk (t.take (k + 1)) ≤ 5) : sx t = k :=
  led_stop (noSix t) _ k k h (range_some hk) (by unfold noSix; simpa using h5)
theorem sx_all {t : List Int} (h : t.length ≤ sx t) : okk t := by
  have ha := led_all (noSix t) (List.range t.length) (by rw [List.length_range]; exact h)
  intro k hk
  rcases k with _ | k
  · simp [alk_nil]
  · have := ha k (by simp; omega)
    unfold noSix at this
    simpa using this
theorem sx_of {t : List Int} (h : okk t) : sx t = t.length := by
  unfold sx
  rw [led_of_all, List.length_range]
  intro k hk
  simp at hk
  unfold noSix
  simpa using h (k + 1) (by omega)

def tkE (t : List Int) : Int := if 0 ≤ chk t then 10 else if sx t < t.length then 17 else if alk t = 5 then 13 else 0
def tkAt (t : List Int) : Int := if 0 ≤ chk t then chk t else if sx t < t.length then sx t else if alk t = 5 then t.length else 0
def tkR (t : List Int) : List Int := if tkE t = 0 then stk t else []
theorem chk_lvl {t : List Int} (h : ∀ z ∈ t, lvl z = true) : ¬ 0 ≤ chk t := by rw [show chk t = -1 from fst_of_all lvl t h]; omega
theorem tk_bad {t : List Int} (h : 0 ≤ chk t) : tkE t = 10 ∧ tkAt t = chk t ∧ tkR t = [] := by
  have e : tkE t = 10 := by unfold tkE; rw [if_pos h]
  exact ⟨e, by unfold tkAt; rw [if_pos h], by unfold tkR; rw [e]; rfl⟩
theorem tk_six {t : List Int} (h : ¬ 0 ≤ chk t) (h6 : sx t < t.length) : tkE t = 17 ∧ tkAt t = sx t ∧ tkR t = [] := by
  have e : tkE t = 17 := by unfold tkE; rw [if_neg h, if_pos h6]
  exact ⟨e, by unfold tkAt; rw [if_neg h, if_pos h6], by unfold tkR; rw [e]; rfl⟩
theorem tk_short {t : List Int} (h : ¬ 0 ≤ chk t) (h6 : ¬ sx t < t.length) (h5 : alk t = 5) : tkE t = 13 ∧ tkAt t = t.length ∧ tkR t = [] := by
  have e : tkE t = 13 := by unfold tkE; rw [if_neg h, if_neg h6, if_pos h5]
  exact ⟨e, by unfold tkAt; rw [if_neg h, if_neg h6, if_pos h5], by unfold tkR; rw [e]; rfl⟩
theorem tk_ok {t : List Int} (h : ¬ 0 ≤ chk t) (h6 : ¬ sx t < t.length) (h5 : ¬ alk t = 5) : tkE t = 0 ∧ tkAt t = 0 ∧ tkR t = stk t := by
  have e : tkE t = 0 := by unfold tkE; rw [if_neg h, if_neg h6, if_neg h5]
  exact ⟨e, by unfold tkAt; rw [if_neg h, if_neg h6, if_neg h5], by unfold tkR; rw [e]; rfl⟩
theorem tkR_len (t : List Int) : (tkR t).length ≤ t.length := by
  unfold tkR; split
  · exact stk_len t
  · exact Nat.zero_le _
theorem tkAt_in (t : List Int) : 0 ≤ tkAt t ∧ tkAt t ≤ t.length := by
  have h1 := sx_le t
  have h2 := fst_range lvl t
  unfold tkAt
  split
  · rename_i h; exact ⟨h, h2.2.1⟩
  · split
    · omega
    · split <;> omega
theorem tkE_in (t : List Int) : tkE t = 0 ∨ tkE t = 10 ∨ tkE t = 13 ∨ tkE t = 17 := by
  unfold tkE
  split
  · exact .inr (.inl rfl)
  · split
    · exact .inr (.inr (.inr rfl))
    · split
      · exact .inr (.inr (.inl rfl))
      · exact .inl rfl
theorem tkR_none {t : List Int} (h : ¬ tkE t = 0) : tkR t = [] := by unfold tkR; rw [if_neg h]
/-- What is stuffed is taken as it was. -/
theorem tk_stf {l : List Int} (h : ∀ z ∈ l, lvl z = true) : tkE (stf l) = 0 ∧ tkAt (stf l) = 0 ∧ tkR (stf l) = l := by
  obtain ⟨h1, h2⟩ := stf_back l
  have ha := alk_stf l
  have := tk_ok (chk_lvl (stf_lvl l h)) (by rw [sx_of h1]; omega) (show ¬ alk (stf l) = 5 by omega)
  rw [h2] at this
  exact this
/-- What is taken is stuffed as it stood, and is levels. -/
theorem stf_tk {m : List Int} (h : tkE m = 0) : stf (tkR m) = m ∧ ∀ z ∈ tkR m, lvl z = true := by
  rcases Int.lt_or_le (chk m) 0 with h0 | h0
  · rcases Nat.lt_or_ge (sx m) m.length with h6 | h6
    · rw [(tk_six (by omega) h6).1] at h; omega
    · rcases Classical.em (alk m = 5) with h5 | h5
      · rw [(tk_short (by omega) (by omega) h5).1] at h; omega
      · rw [(tk_ok (by omega) (by omega) h5).2.2]
        have hl := fst_neg lvl m h0
        have e := stk_stf hl (sx_all h6) h5
        refine ⟨e, ?_⟩
        have : ∀ t : List Int, (∀ z ∈ t, lvl z = true) → ∀ z ∈ stk t, lvl z = true := by
          refine snoc_ind (fun _ z hz => by cases hz) ?_
          intro t z ih ht y hy
          obtain ⟨t1, t2⟩ := all_snoc ht
          rcases Classical.em (5 ≤ alk t) with h | h
          · rw [stk_five h] at hy; exact ih t1 y hy
          · rw [stk_else h] at hy
            rcases List.mem_append.1 hy with hy | hy
            · exact ih t1 y hy
            · rw [List.mem_singleton] at hy; rw [hy]; exact t2
        exact this m hl
  · rw [(tk_bad h0).1] at h; omega
end Go.Proofs.Ytaamklfedcbccaa
