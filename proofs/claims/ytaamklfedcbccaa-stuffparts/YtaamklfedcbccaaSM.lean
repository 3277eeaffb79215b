/- Plain mathematics of stuffing: how many alike a row ends with, a row stuffed, a row taken. -/
import Derived.Test.YtaamklfedcbccaaMath
import Derived.Test.YtaamklfedcbccaaRunsMath
namespace Go.Proofs.Ytaamklfedcbccaa

theorem snoc_ind {P : List Int → Prop} (h0 : P []) (h : ∀ l z, P l → P (l ++ [z])) : ∀ l, P l := by
  intro l
  rw [← l.reverse_reverse]
  induction l.reverse with
  | nil => exact h0
  | cons z l ih => rw [List.reverse_cons]; exact h _ _ ih

/-- What is known behind a level that is told: the last one, and how many alike there are. -/
def tel (s : Int × Nat) (z : Int) : Int × Nat := if z = s.1 then (s.1, s.2 + 1) else (z, 1)
def endr (t : List Int) : Int × Nat := t.foldl tel (0, 0)
def lst (t : List Int) : Int := (endr t).1
def alk (t : List Int) : Nat := (endr t).2
theorem endr_snoc (t : List Int) (z : Int) : endr (t ++ [z]) = tel (endr t) z := by simp [endr]
theorem lst_snoc (t : List Int) (z : Int) : lst (t ++ [z]) = z := by
  unfold lst; rw [endr_snoc]; unfold tel; split
  · rename_i h; exact h.symm
  · rfl
theorem alk_same {t : List Int} {z : Int} (h : z = lst t) : alk (t ++ [z]) = alk t + 1 := by
  unfold alk; rw [endr_snoc]; unfold tel; rw [if_pos (show z = (endr t).1 from h)]
theorem alk_other {t : List Int} {z : Int} (h : ¬ z = lst t) : alk (t ++ [z]) = 1 := by
  unfold alk; rw [endr_snoc]; unfold tel; rw [if_neg (show ¬ z = (endr t).1 from h)]
theorem alk_nil : alk [] = 0 := rfl
theorem alk_pos (t : List Int) (z : Int) : 1 ≤ alk (t ++ [z]) := by
  rcases Classical.em (z = lst t) with h | h
  · rw [alk_same h]; omega
  · rw [alk_other h]; omega
theorem alk_up (t : List Int) (z : Int) : alk (t ++ [z]) ≤ alk t + 1 := by
  rcases Classical.em (z = lst t) with h | h
  · rw [alk_same h]; omega
  · rw [alk_other h]; omega
theorem take_snoc (t : List Int) (k : Nat) (z : Int) (h : t[k]? = some z) : t.take (k + 1) = t.take k ++ [z] := by
  rw [List.take_add_one, h]; rfl
theorem getD_snoc_lt (t : List Int) (z : Int) (j : Nat) (h : j < t.length) : (t ++ [z]).getD j 0 = t.getD j 0 := by
  simp [List.getD, List.getElem?_append_left h]
theorem getD_snoc_end (t : List Int) (z : Int) : (t ++ [z]).getD t.length 0 = z := by simp [List.getD]

theorem alk_spec : ∀ t : List Int, alk t ≤ t.length ∧ (∀ j, t.length - alk t ≤ j → j < t.length → t.getD j 0 = lst t) ∧ (alk t < t.length → t.getD (t.length - 1 - alk t) 0 ≠ lst t) := by
  refine snoc_ind ⟨Nat.le_refl _, fun j _ h => by simp at h, fun h => by simp [alk_nil] at h⟩ ?_
  intro t z ⟨h1, h2, h3⟩
  rw [lst_snoc, List.length_append, List.length_singleton]
  rcases Classical.em (z = lst t) with h | h
  · rw [alk_same h]
    refine ⟨by omega, fun j ha hb => ?_, fun hl => ?_⟩
    · rcases Nat.lt_or_ge j t.length with hj | hj
      · rw [getD_snoc_lt t z j hj, h]; exact h2 j (by omega) hj
      · rw [show j = t.length by omega, getD_snoc_end]
    · rw [getD_snoc_lt t z _ (by omega), h, show t.length + 1 - 1 - (alk t + 1) = t.length - 1 - alk t by omega]
      exact h3 (by omega)
  · rw [alk_other h]
    refine ⟨by omega, fun j ha hb => ?_, fun hl => ?_⟩
    · rw [show j = t.length by omega, getD_snoc_end]
    · rw [getD_snoc_lt t z _ (by omega), show t.length + 1 - 1 - 1 = t.length - 1 by omega]
      rcases Nat.eq_zero_or_pos (alk t) with h0 | h0
      · have := h3 (by omega)
        rw [h0] at this
        exact absurd (h3 (by omega)) (by
          exfalso
          have hp : t ≠ [] := by intro e; subst e; simp at hl
          have := alk_pos t.dropLast (t.getLast hp)
          rw [List.dropLast_concat_getLast hp] at this
          omega)
      · rw [h2 (t.length - 1) (by omega) (by omega)]; exact fun e => h e.symm

/-- The last five are alike. -/
theorem five_yes {t : List Int} (h : 5 ≤ alk t) : 5 ≤ t.length ∧ ∀ i, t.length - 5 ≤ i → i < t.length → t.getD i 0 = lst t := by
  obtain ⟨h1, h2, _⟩ := alk_spec t
  exact ⟨by omega, fun i ha hb => h2 i (by omega) hb⟩
theorem five_no {t : List Int} (h : alk t < 5) (hl : 5 ≤ t.length) : ∃ i, t.length - 4 ≤ i ∧ i < t.length ∧ t.getD i 0 ≠ t.getD (t.length - 5) 0 := by
  obtain ⟨h1, h2, h3⟩ := alk_spec t
  have h4 := h3 (by omega)
  have hp : 1 ≤ alk t := by
    have hp : t ≠ [] := by intro e; subst e; simp at hl
    have := alk_pos t.dropLast (t.getLast hp)
    rwa [List.dropLast_concat_getLast hp] at this
  have h5 := h2 (t.length - 1) (by omega) (by omega)
  rcases Classical.em (t.getD (t.length - 5) 0 = lst t) with he | he
  · refine ⟨t.length - 1 - alk t, ?_, by omega, by rw [he]; exact h4⟩
    rcases Nat.lt_or_ge (alk t) 4 with ha | ha
    · omega
    · rw [show t.length - 1 - alk t = t.length - 5 by omega] at h4
      exact absurd he h4
  · exact ⟨t.length - 1, by omega, by omega, by rw [h5]; exact fun e => he e.symm⟩

/-- A level told, and what is added behind it. -/
def sput (o : List Int) (z : Int) : List Int := if alk (o ++ [z]) = 5 then o ++ [z] ++ [1 - z] else o ++ [z]
/-- A row, stuffed. -/
def stf (l : List Int) : List Int := l.foldl sput []
theorem stf_snoc (l : List Int) (z : Int) : stf (l ++ [z]) = sput (stf l) z := by simp [stf]
theorem stf_step {l : List Int} {k : Nat} {z : Int} (h : l[k]? = some z) : stf (l.take (k + 1)) = sput (stf (l.take k)) z := by rw [take_snoc l k z h, stf_snoc]
theorem sput_five {o : List Int} {z : Int} (h : alk (o ++ [z]) = 5) : sput o z = o ++ [z] ++ [1 - z] := by unfold sput; rw [if_pos h]
theorem sput_else {o : List Int} {z : Int} (h : ¬ alk (o ++ [z]) = 5) : sput o z = o ++ [z] := by unfold sput; rw [if_neg h]
theorem flip_ne (z : Int) : ¬ 1 - z = z := by omega

theorem alk_sput {o : List Int} {z : Int} (h : alk o ≤ 4) : alk (sput o z) ≤ 4 := by
  have := alk_up o z
  rcases Classical.em (alk (o ++ [z]) = 5) with h5 | h5
  · rw [sput_five h5, alk_other (by rw [lst_snoc]; exact flip_ne z)]; omega
  · rw [sput_else h5]; omega
theorem alk_stf : ∀ l : List Int, alk (stf l) ≤ 4 := snoc_ind (by decide) fun l z h => by rw [stf_snoc]; exact alk_sput h

/-- Nowhere six alike. -/
def okk (t : List Int) : Prop := ∀ k, k ≤ t.length → alk (t.take k) ≤ 5
theorem okk_nil : okk [] := by intro k _; simp [alk_nil]
theorem okk_snoc {t : List Int} {z : Int} (h : okk t) (hz : alk (t ++ [z]) ≤ 5) : okk (t ++ [z]) := by
  intro k hk
  rw [List.length_append, List.length_singleton] at hk
  rcases Nat.lt_or_ge k (t.length + 1) with h1 | h1
  · rw [List.take_append_of_le_length (by omega)]; exact h k (by omega)
  · rw [List.take_of_length_le (by rw [List.length_append, List.length_singleton]; exact h1)]; exact hz
theorem okk_front {t : List Int} {z : Int} (h : okk (t ++ [z])) : okk t ∧ alk (t ++ [z]) ≤ 5 := by
  refine ⟨fun k hk => ?_, ?_⟩
  · have := h k (by rw [List.length_append]; omega)
    rwa [List.take_append_of_le_length hk] at this
  · have := h (t.length + 1) (by simp)
    rwa [List.take_of_length_le (by simp)] at this
theorem okk_alk {t : List Int} (h : okk t) : alk t ≤ 5 := by
  have := h t.length (Nat.le_refl _)
  rwa [List.take_length] at this

/-- What is taken of levels, whatever they are. -/
def gett (s : (Int × Nat) × List Int) (z : Int) : (Int × Nat) × List Int := (tel s.1 z, if 5 ≤ s.1.2 then s.2 else s.2 ++ [z])
def stk (t : List Int) : List Int := (t.foldl gett ((0, 0), [])).2
theorem gett_fst : ∀ t : List Int, (t.foldl gett ((0, 0), [])).1 = endr t := snoc_ind rfl fun t z h => by rw [endr_snoc, ← h]; simp [gett]
theorem gett_yes {s : (Int × Nat) × List Int} {z : Int} (h : 5 ≤ s.1.2) : (gett s z).2 = s.2 := by unfold gett; exact if_pos h
theorem gett_no {s : (Int × Nat) × List Int} {z : Int} (h : ¬ 5 ≤ s.1.2) : (gett s z).2 = s.2 ++ [z] := by unfold gett; exact if_neg h
theorem stk_five {t : List Int} {z : Int} (h : 5 ≤ alk t) : stk (t ++ [z]) = stk t := by
  unfold stk; rw [List.foldl_append]
  exact gett_yes (by rw [gett_fst]; exact h)
theorem stk_else {t : List Int} {z : Int} (h : ¬ 5 ≤ alk t) : stk (t ++ [z]) = stk t ++ [z] := by
  unfold stk; rw [List.foldl_append]
  exact gett_no (by rw [gett_fst]; exact h)
theorem stk_step_five {t : List Int} {k : Nat} {z : Int} (hz : t[k]? = some z) (h : 5 ≤ alk (t.take k)) : stk (t.take (k + 1)) = stk (t.take k) := by rw [take_snoc t k z hz, stk_five h]
theorem stk_step_else {t : List Int} {k : Nat} {z : Int} (hz : t[k]? = some z) (h : ¬ 5 ≤ alk (t.take k)) : stk (t.take (k + 1)) = stk (t.take k) ++ [z] := by rw [take_snoc t k z hz, stk_else h]
theorem stk_len : ∀ t : List Int, (stk t).length ≤ t.length := snoc_ind (by decide) fun t z h => by
  rcases Classical.em (5 ≤ alk t) with h5 | h5
  · rw [stk_five h5, List.length_append]; omega
  · rw [stk_else h5, List.length_append, List.length_append]; simp; exact h
theorem stk_more : ∀ (t u : List Int), ∃ r, stk (t ++ u) = stk t ++ r := by
  intro t
  refine snoc_ind ⟨[], by simp⟩ ?_
  intro u z ⟨r, hr⟩
  rw [← List.append_assoc]
  rcases Classical.em (5 ≤ alk (t ++ u)) with h5 | h5
  · exact ⟨r, by rw [stk_five h5, hr]⟩
  · exact ⟨r ++ [z], by rw [stk_else h5, hr, List.append_assoc]⟩

/-- What is stuffed has nowhere six alike, and is taken as it was. -/
theorem stf_back : ∀ l : List Int, okk (stf l) ∧ stk (stf l) = l := by
  refine snoc_ind ⟨okk_nil, rfl⟩ ?_
  intro l z ⟨h1, h2⟩
  have ha := alk_stf l
  have hu := alk_up (stf l) z
  rw [stf_snoc]
  have hn : ¬ 5 ≤ alk (stf l) := by omega
  have ho := okk_snoc h1 (show alk (stf l ++ [z]) ≤ 5 by omega)
  rcases Classical.em (alk (stf l ++ [z]) = 5) with h5 | h5
  · rw [sput_five h5]
    refine ⟨okk_snoc ho ?_, ?_⟩
    · rw [alk_other (by rw [lst_snoc]; exact flip_ne z)]; omega
    · rw [stk_five (by omega), stk_else hn, h2]
  · rw [sput_else h5]
    exact ⟨ho, by rw [stk_else hn, h2]⟩

theorem all_snoc {t : List Int} {z : Int} (h : ∀ y ∈ t ++ [z], lvl y = true) : (∀ y ∈ t, lvl y = true) ∧ lvl z = true := ⟨fun y hy => h y (by simp [hy]), h z (by simp)⟩
theorem lst_lvl : ∀ t : List Int, (∀ y ∈ t, lvl y = true) → lvl (lst t) = true := snoc_ind (fun _ => by decide) fun t z _ h => by rw [lst_snoc]; exact (all_snoc h).2
/-- What is taken is stuffed as it stood. -/
theorem stk_back : ∀ m : List Int, (∀ y ∈ m, lvl y = true) → okk m → stf (stk m) = if alk m = 5 then m ++ [1 - lst m] else m := by
  refine snoc_ind (fun _ _ => rfl) ?_
  intro m z ih hl ho
  obtain ⟨hl1, hl2⟩ := all_snoc hl
  obtain ⟨ho1, ho2⟩ := okk_front ho
  have h := ih hl1 ho1
  have h5 := okk_alk ho1
  rcases Classical.em (alk m = 5) with ha | ha
  · rw [if_pos ha] at h
    have hne : ¬ z = lst m := fun e => by rw [alk_same e] at ho2; omega
    have e : 1 - lst m = z := by
      have a1 := lvl_01 hl2
      have a2 := lvl_01 (lst_lvl m hl1)
      omega
    rw [stk_five (by omega), h, e, if_neg (by rw [alk_other hne]; omega)]
  · rw [if_neg ha] at h
    rw [stk_else (by omega), stf_snoc, h, lst_snoc]
    rfl
theorem stk_stf {m : List Int} (hl : ∀ y ∈ m, lvl y = true) (ho : okk m) (ha : ¬ alk m = 5) : stf (stk m) = m := by rw [stk_back m hl ho, if_neg ha]

/-- No more are added than may be. -/
theorem stf_few : ∀ l : List Int, 4 * ((stf l).length - l.length) + alk (stf l) ≤ l.length ∧ l.length ≤ (stf l).length := by
  refine snoc_ind (by decide) ?_
  intro l z ⟨h1, h2⟩
  have ha := alk_stf l
  have hu := alk_up (stf l) z
  rw [stf_snoc]
  rcases Classical.em (alk (stf l ++ [z]) = 5) with h5 | h5
  · rw [sput_five h5, alk_other (by rw [lst_snoc]; exact flip_ne z)]
    simp only [List.length_append, List.length_singleton]
    omega
  · rw [sput_else h5]
    simp only [List.length_append, List.length_singleton]
    omega
theorem alk_stf_pos {l : List Int} (h : 0 < l.length) : 1 ≤ alk (stf l) := by
  have hp : l ≠ [] := by intro e; subst e; simp at h
  rw [← List.dropLast_concat_getLast hp, stf_snoc]
  unfold sput
  split <;> exact alk_pos _ _
theorem stf_most (l : List Int) : (stf l).length - l.length ≤ (l.length - 1) / 4 := by
  have h := stf_few l
  rcases Nat.eq_zero_or_pos l.length with h0 | h0
  · omega
  · have := alk_stf_pos h0
    omega
theorem stf_len (l : List Int) : l.length ≤ (stf l).length ∧ (stf l).length ≤ 2 * l.length := by
  have h := stf_few l
  omega
theorem stf_lvl : ∀ l : List Int, (∀ y ∈ l, lvl y = true) → ∀ y ∈ stf l, lvl y = true := by
  refine snoc_ind (fun _ y hy => by cases hy) ?_
  intro l z ih hl y hy
  obtain ⟨hl1, hl2⟩ := all_snoc hl
  have hf : lvl (1 - z) = true := by rcases lvl_01 hl2 with rfl | rfl <;> rfl
  rw [stf_snoc] at hy
  unfold sput at hy
  split at hy
  · rcases List.mem_append.1 hy with hy | hy
    · rcases List.mem_append.1 hy with hy | hy
      · exact ih hl1 y hy
      · rw [List.mem_singleton] at hy; rw [hy]; exact hl2
    · rw [List.mem_singleton] at hy; rw [hy]; exact hf
  · rcases List.mem_append.1 hy with hy | hy
    · exact ih hl1 y hy
    · rw [List.mem_singleton] at hy; rw [hy]; exact hl2
/-- A longer row is stuffed as the shorter one ahead, and on. -/
theorem stf_more (a : List Int) : ∀ b : List Int, ∃ r, stf (a ++ b) = stf a ++ r := by
  refine snoc_ind ⟨[], by simp⟩ ?_
  intro u z ⟨r, hr⟩
  rw [← List.append_assoc, stf_snoc]
  unfold sput
  split
  · exact ⟨r ++ [z] ++ [1 - z], by rw [hr]; simp⟩
  · exact ⟨r ++ [z], by rw [hr]; simp⟩

/-- Levels turned. -/
def flp (l : List Int) : List Int := l.map (fun z => 1 - z)
theorem flp_snoc (l : List Int) (z : Int) : flp (l ++ [z]) = flp l ++ [1 - z] := by simp [flp]
theorem alk_flp : ∀ t : List Int, alk (flp t) = alk t ∧ (t ≠ [] → lst (flp t) = 1 - lst t) := by
  refine snoc_ind ⟨rfl, fun h => absurd rfl h⟩ ?_
  intro t z ⟨h1, h2⟩
  rw [flp_snoc]
  refine ⟨?_, fun _ => by rw [lst_snoc, lst_snoc]⟩
  rcases Classical.em (t = []) with he | he
  · subst he
    have e1 : ∀ z : Int, alk ([] ++ [z]) = 1 := fun z => by
      rcases Classical.em (z = lst []) with h | h
      · rw [alk_same h]; rfl
      · rw [alk_other h]
    exact (e1 _).trans (e1 _).symm
  · have hl := h2 he
    rcases Classical.em (z = lst t) with h | h
    · rw [alk_same h, alk_same (by rw [hl, h]), h1]
    · rw [alk_other h, alk_other (by rw [hl]; omega)]
theorem stf_flp : ∀ l : List Int, stf (flp l) = flp (stf l) := by
  refine snoc_ind rfl ?_
  intro l z ih
  rw [flp_snoc, stf_snoc, stf_snoc, ih]
  have e := (alk_flp (stf l ++ [z])).1
  rw [flp_snoc] at e
  unfold sput
  rw [e]
  split
  · rw [flp_snoc, flp_snoc]
  · rw [flp_snoc]
end Go.Proofs.Ytaamklfedcbccaa
