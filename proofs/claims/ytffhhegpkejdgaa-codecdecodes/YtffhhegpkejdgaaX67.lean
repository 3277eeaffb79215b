/- Plain mathematics of stuffing: how many alike a row ends with, a row stuffed, a row taken. -/
import Derived.Test.YtffhhegpkejdgaaX60
import Derived.Test.YtffhhegpkejdgaaX66
import Derived.Test.YtffhhegpkejdgaaX61
namespace Go.Proofs.Ytffhhegpkejdgaa

theorem snoc_ind {P : List Int → Prop} (h0 : P []) (h : ∀ l z, P l → P (l ++ [z])) : ∀ l, P l := by
  intro l
  rw [← l.reverse_reverse]
  induction l.reverse with
  | nil => exact h0
  | cons z l ih => rw [List.reverse_cons]; exact h _ _ ih

/-- What is known behind a level that is told: the last one, and how many alike there are. -/
def tel (s : Int × Nat) (z : Int) : Int × Nat := if z = s.1 then (s.1, s.2 + 1) else (z, 1)
def endr (t : List Int) : Int × Nat := t.foldl tel (0, 0)
def lst (t : List Int) : Int := (endr t).1
def alk (t : List Int) : Nat := (endr t).2
theorem endr_snoc (t : List Int) (z : Int) : endr (t ++ [z]) = tel (endr t) z := by simp [endr]
theorem lst_snoc (t : List Int) (z : Int) : lst (t ++ [z]) = z := by
  unfold lst; rw [endr_snoc]; unfold tel; split
  · rename_i h; exact h.symm
  · rfl
theorem alk_same {t : List Int} {z : Int} (h : z = lst t) : alk (t ++ [z]) = alk t + 1 := by
  unfold alk; rw [endr_snoc]; unfold tel; rw [if_pos (show z = (endr t).1 from h)]
theorem alk_other {t : List Int} {z : Int} (h : ¬ z = lst t) : alk (t ++ [z]) = 1 := by
  unfold alk; rw [endr_snoc]; unfold tel; rw [if_neg (show ¬ z = (endr t).1 from h)]
theorem alk_nil : alk [] = 0 := rfl
theorem alk_pos (t : List Int) (z : Int) : 1 ≤ alk (t ++ [z]) := by
  rcases Classical.em (z = lst t) with h | h
  · rw [alk_same h]; omega
  · rw [alk_other h]; omega
theorem alk_up (t : List Int) (z : Int) : alk (t ++ [z]) ≤ alk t + 1 := by
  rcases Classical.em (z = lst t) with h | h
  · rw [alk_same h]; omega
  · rw [alk_other h]; omega
theorem take_snoc (t : List Int) (k : Nat) (z : Int) (h : t[k]? = some z) : t.take (k + 1) = t.take k ++ [z] := by
  rw [List.take_add_one, h]; rfl
theorem getD_snoc_lt (t : List Int) (z : Int) (j : Nat) (h : j < t.length) : (t ++ [z]).getD j 0 = t.getD j 0 := by
  simp [List.getD, List.getElem?_append_left h]
theorem getD_snoc_end (t : List Int) (z : Int) : (t ++ [z]).getD t.length 0 = z := by simp [List.getD]

theorem alk_spec : ∀ t : List Int, alk t ≤ t.length ∧ (∀ j, t.length - alk t ≤ j → j < t.length → t.getD j 0 = lst t) ∧ (alk t < t.length → t.getD (t.length - 1 - alk t) 0 ≠ lst t) := by
  refine snoc_ind ⟨Nat.le_refl _, fun j _ h => by simp at h, fun h => by simp [alk_nil] at h⟩ ?_
  intro t z ⟨h1, h2, h3⟩
  rw [lst_snoc, List.length_append, List.length_singleton]
  rcases Classical.em (z = lst t) with h | h
  · rw [alk_same h]
    refine ⟨by omega, fun j ha hb => ?_, fun hl => ?_⟩
    · rcases Nat.lt_or_ge j t.length with hj | hj
      · rw [getD_snoc_lt t z j hj, h]; exact h2 j (by omega) hj
      · rw [show j = t.length by omega, getD_snoc_end]
    · rw [getD_snoc_lt t z _ (by omega), h, show t.length + 1 - 1 - (alk t + 1) = t.length - 1 - alk t by omega]
      exact h3 (by omega)
  · rw [alk_other h]
    refine ⟨by omega, fun j ha hb => ?_, fun hl => ?_⟩
    · rw [show j = t.length by omega, getD_snoc_end]
    · rw [getD_snoc_lt t z _ (by omega), show t.length + 1 - 1 - 1 = t.length - 1 by omega]
      rcases Nat.eq_zero_or_pos (alk t) with h0 | h0
      · have := h3 (by omega)
        rw [h0] at this
        exact absurd (h3 (by omega)) (by
          exfalso
          have hp : t ≠ [] := by intro e; subst e; simp at hl
          have := alk_pos t.dropLast (t.getLast hp)
          rw [List.dropLast_concat_getLast hp] at this
          omega)
      · rw [h2 (t.length - 1) (by omega) (by omega)]; exact fun e => h e.symm

/-- The last five are alike. -/
theorem five_yes {t : List Int} (h : 5 ≤ alk t) : 5 ≤ t.length ∧ ∀ i, t.length - 5 ≤ i → i < t.length → t.getD i 0 = lst t := by
  obtain ⟨h1, h2, _⟩ := alk_spec t
  exact ⟨by omega, fun i ha hb => h2 i (by omega) hb⟩
theorem five_no {t : List Int} (h : alk t < 5) (hl : 5 ≤ t.length) : ∃ i, t.length - 4 ≤ i ∧ i < t.length ∧ t.getD i 0 ≠ t.getD (t.length - 5) 0 := by
  obtain ⟨h1, h2, h3⟩ := alk_spec t
  have h4 := h3 (by omega)
  have hp : 1 ≤ alk t := by
    have hp : t ≠ [] := by intro e; subst e; simp at hl
    have := alk_pos t.dropLast (t.getLast hp)
    rwa [List.dropLast_concat_getLast hp] at this
  have h5 := h2 (t.length - 1) (by omega) (by omega)
  rcases Classical.em (t.getD (t.length - 5) 0 = lst t) with he | he
  · refine ⟨t.length - 1 - alk t, ?_, by omega, by rw [he]; exact h4⟩
    rcases Nat.lt_or_ge (alk t) 4 with ha | ha
    · omega
    · rw [show t.length - 1 - alk t = t.length - 5 by omega] at h4
      exact absurd he h4
  · exact ⟨t.length - 1, by omega, by omega, by rw [h5]; exact fun e => he e.symm⟩

/-- A level told, and what is added behind it. -/
def sput (o : List Int) (z : Int) : List Int := if alk (o ++ [z]) = 5 then o ++ [z] ++ [1 - z] else o ++ [z]
/-- A row, stuffed. -/
def stf (l : List Int) : List Int := l.foldl sput []
theorem stf_snoc (l : List Int) (z : Int) : stf (l ++ [z]) = sput (stf l) z := by simp [stf]
theorem stf_step {l : List Int} {k : Nat} {z : Int} (h : l[k]? = some z) : stf (l.take (k + 1)) = sput (stf (l.take k)) z := by rw [take_snoc l k z h, stf_snoc]
theorem sput_five {o : List Int} {z : Int} (h : alk (o ++ [z]) = 5) : sput o z = o ++ [z] ++ [1 - z] := by unfold sput; rw [if_pos h]
theorem sput_else {o : List Int} {z : Int} (h : ¬ alk (o ++ [z]) = 5) : sput o z = o ++ [z] := by unfold sput; rw [if_neg h]
theorem flip_ne (z : Int) : ¬ 1 - z = z := by omega

theorem alk_sput {o : List Int} {z : Int} (h : alk o ≤ 4) : alk (sput o z) ≤ 4 := by
  have := alk_up o z
  rcases Classical.em (alk (o ++ [z]) = 5) with h5 | h5
  · rw [sput_five h5, alk_other (by rw [lst_snoc]; exact flip_ne z)]; omega
  · rw [sput_else h5]; omega
theorem alk_stf : ∀ l : List Int, alk (stf l) ≤ 4 := snoc_ind (by decide) fun l z h => by rw [stf_snoc]; exact alk_sput h

/-- Nowhere six alike. -/
def okk (t : List Int) : Prop := ∀ k, k ≤ t.length → alk (t.take k) ≤ 5
theorem okk_nil : okk [] := by intro k _; simp [alk_nil]
theorem okk_snoc {t : List Int} {z : Int} (h : okk t) (hz : alk (t ++ [z]) ≤ 5) : okk (t ++ [z]) := by
  intro k hk
  rw [List.length_append, List.length_singleton] at hk
  rcases Nat.lt_or_ge k (t.length + 1) with h1 | h1
  · rw [List.take_append_of_le_length (by omega)]; exact h k (by omega)
  · rw [List.take_of_length_le (by rw [List.length_append, List.length_singleton]; exact h1)]; exact hz
theorem okk_front {t : List Int} {z : Int} (h : okk (t ++ [z])) : okk t ∧ alk (t ++ [z]) ≤ 5 := by
  refine ⟨fun k hk => ?_, ?_⟩
  · have := h k (by rw [List.length_append]; omega)
    rwa [List.take_append_of_le_length hk] at this
  · have := h (t.length + 1) (by simp)
    rwa [List.take_of_length_le (by simp)] at this
theorem okk_alk {t : List Int} (h : okk t) : alk t ≤ 5 := by
  have := h t.length (Nat.le_refl _)
  rwa [List.take_length] at this

/-- What is taken of levels, whatever they are. -/
def gett (s : (Int × Nat) × List Int) (z : Int) : (Int × Nat) × List Int := (tel s.1 z, if 5 ≤ s.1.2 then s.2 else s.2 ++ [z])
def stk (t : List Int) : List Int := (t.foldl gett ((0, 0), [])).2
theorem gett_fst : ∀ t : List Int, (t.foldl gett ((0, 0), [])).1 = endr t := snoc_ind rfl fun t z h => by rw [endr_snoc, ← h]; simp [gett]
theorem gett_yes {s : (Int × Nat) × List Int} {z : Int} (h : 5 ≤ s.1.2) : (gett s z).2 = s.2 := by unfold gett; exact if_pos h
theorem gett_no {s : (Int × Nat) × List Int} {z : Int} (h : ¬ 5 ≤ s.1.2) : (gett s z).2 = s.2 ++ [z] := by unfold gett; exact if_neg h
theorem stk_five {t : List Int} {z : Int} (h : 5 ≤ alk t) : stk (t ++ [z]) = stk t := by
  unfold stk; rw [List.foldl_append]
  exact gett_yes (by rw [gett_fst]; exact h)
theorem stk_else {t : List Int} {z : Int} (h : ¬ 5 ≤ alk t) : stk (t ++ [z]) = stk t ++ [z] := by
  unfold stk; rw [List.foldl_append]
  exact gett_no (by rw [gett_fst]; exact h)
theorem stk_step_five {t : List Int} {k : Nat} {z : Int} (hz : t[k]? = some z) (h : 5 ≤ alk (t.take k)) : stk (t.take (k + 1)) = stk (t.take k) := by rw [take_snoc t k z hz, stk_five h]
theorem stk_step_else {t : List Int} {k : Nat} {z : Int} (hz : t[k]? = some z) (h : ¬ 5 ≤ alk (t.take k)) : stk (t.take (k + 1)) = stk (t.take k) ++ [z] := by rw [take_snoc t k z hz, stk_else h]
theorem stk_len : ∀ t : List Int, (stk t).length ≤ t.length := snoc_ind (by decide) fun t z h => by
  rcases Classical.em (5 ≤ alk t) with h5 | h5
  · rw [stk_five h5, List.length_append]; omega
  · rw [stk_else h5, List.length_append, List.length_append]; simp; exact h
theorem stk_more : ∀ (t u : List Int), ∃ r, stk (t ++ u) = stk t ++ r := by
  intro t
  refine snoc_ind ⟨[], by simp⟩ ?_
  intro u z ⟨r, hr⟩
  rw [← List.append_assoc]
  rcases Classical.em (5 ≤ alk (t ++ u)) with h5 | h5
  · exact ⟨r, by rw [stk_five h5, hr]⟩
  · exact ⟨r ++ [z], by rw [stk_else h5, hr, List.append_assoc]⟩

/-- What is stuffed has nowhere six alike, and is taken as it was. -/
theorem stf_back : ∀ l : List Int, okk (stf l) ∧ stk (stf l) = l := by
  refine snoc_ind ⟨okk_nil, rfl⟩ ?_
  intro l z ⟨h1, h2⟩
  have ha := alk_stf l
  have hu := alk_up (stf l) z
  rw [stf_snoc]
  have hn : ¬ 5 ≤ alk (stf l) := by omega
  have ho := okk_snoc h1 (show alk (stf l ++ [z]) ≤ 5 by omega)
  rcases Classical.em (alk (stf l ++ [z]) = 5) with h5 | h5
  · rw [sput_five h5]
    refine ⟨okk_snoc ho ?_, ?_⟩
    · rw [alk_other (by rw [lst_snoc]; exact flip_ne z)]; omega
    · rw [stk_five (by omega), stk_else hn, h2]
  · rw [sput_else h5]
    exact ⟨ho, by rw [stk_else hn, h2]⟩

theorem all_snoc {t : List Int} {z : Int} (h : ∀ y ∈ t ++ [z], lvl y = true) : (∀ y ∈ t, lvl y = true) ∧ lvl z = true := ⟨fun y hy => h y (by simp [hy]), h z (by simp)⟩
theorem lst_lvl : ∀ t : List Int, (∀ y ∈ t, lvl y = true) → lvl (lst t) = true := snoc_ind (fun _ => by decide) fun t z _ h => by rw [lst_snoc]; exact (all_snoc h).2
/-- What is taken is stuffed as it stood. -/
theorem stk_back : ∀ m : List Int, (∀ y ∈ m, lvl y = true) → okk m → stf (stk m) = if alk m = 5 then m ++ [1 - lst m] else m := by
  refine snoc_ind (fun _ _ => rfl) ?_
  intro m z ih hl ho
  obtain ⟨hl1, hl2⟩ := all_snoc hl
  obtain ⟨ho1, ho2⟩ := okk_front ho
  have h := ih hl1 ho1
  have h5 := okk_alk ho1
  rcases Classical.em (alk m = 5) with ha | ha
  · rw [if_pos ha] at h
    have hne : ¬ z = lst m := fun e => by rw [alk_same e] at ho2; omega
    have e : 1 - lst m = z := by
      have a1 := lvl_01 hl2
      have a2 := lvl_01 (lst_lvl m hl1)
      omega
    rw [stk_five (by omega), h, e, if_neg (by rw [alk_other hne]; omega)]
  · rw [if_neg ha] at h
    rw [stk_else (by omega), stf_snoc, h, lst_snoc]
    rfl
theorem stk_stf {m : List Int} (hl : ∀ y ∈ m, lvl y = true) (ho : okk m) (ha : ¬ alk m = 5) : stf (stk m) = m := by rw [stk_back m hl ho, if_neg ha]

/-- No more are added than may be. -/
theorem stf_few : ∀ l : List Int, 4 * ((stf l).length - l.length) + alk (stf l) ≤ l.length ∧ l.length ≤ (stf l).length := by
  refine snoc_ind (by decide) ?_
  intro l z ⟨h1, h2⟩
  have ha := alk_stf l
  have hu := alk_up (stf l) z
  rw [stf_snoc]
  rcases Classical.em (alk (stf l ++ [z]) = 5) with h5 | h5
  · rw [sput_five h5, alk_other (by rw [lst_snoc]; exact flip_ne z)]
    simp only [List.length_append, List.length_singleton]
    omega
  · rw [sput_else h5]
    simp only [List.length_append, List.length_singleton]
    omega
theorem alk_stf_pos {l : List Int} (h : 0 < l.length) : 1 ≤ alk (stf l) := by
  have hp : l ≠ [] := by intro e; subst e; simp at h
  rw [← List.dropLast_concat_getLast hp, stf_snoc]
  unfold sput
  split <;> exact alk_pos _ _
theorem stf_most (l : List Int) : (stf l).length - l.length ≤ (l.length - 1) / 4 := by
  have h := stf_few l
  rcases Nat.eq_zero_or_pos l.length with h0 | h0
  · omega
  · have := alk_stf_pos h0
    omega
theorem stf_len (l : List Int) : l.length ≤ (stf l).length ∧ (stf l).length ≤ 2 * l.length := by
  have h := stf_few l
  omega
theorem stf_lvl : ∀ l : List Int, (∀ y ∈ l, lvl y = true) → ∀ y ∈ stf l, lvl y = true := by
  refine snoc_ind (fun _ y hy => by cases hy) ?_
  intro l z ih hl y hy
  obtain ⟨hl1, hl2⟩ := all_snoc hl
  have hf : lvl (1 - z) = true := by rcases lvl_01 hl2 with rfl | rfl <;> rfl
  rw [stf_snoc] at hy
  unfold sput at hy
  split at hy
  · rcases List.mem_append.1 hy with hy | hy
    · rcases List.mem_append.1 hy with hy | hy
      · exact ih hl1 y hy
      · rw [List.mem_singleton] at hy; rw [hy]; exact hl2
    · rw [List.mem_singleton] at hy; rw [hy]; exact hf
  · rcases List.mem_append.1 hy with hy | hy
    · exact ih hl1 y hy
    · rw [List.mem_singleton] at hy; rw [hy]; exact hl2
/-- A longer row is stuffed as the shorter one ahead, and on. -/
theorem stf_more (a : List Int) : ∀ b : List Int, ∃ r, stf (a ++ b) = stf a ++ r := by
  refine snoc_ind ⟨[], by simp⟩ ?_
  intro u z ⟨r, hr⟩
  rw [← List.append_assoc, stf_snoc]
  unfold sput
  split
  · exact ⟨r ++ [z] ++ [1 - z], by rw [hr]; simp⟩
  · exact ⟨r ++ [z], by rw [hr]; simp⟩

/-- Levels turned. -/
def flp (l : List Int) : List Int := l.map (fun z => 1 - z)
theorem flp_snoc (l : List Int) (z : Int) : flp (l ++ [z]) = flp l ++ [1 - z] := by simp [flp]
theorem alk_flp : ∀ t : List Int, alk (flp t) = alk t ∧ (t ≠ [] → lst (flp t) = 1 - lst t) := by
  refine snoc_ind ⟨rfl, fun h => absurd rfl h⟩ ?_
  intro t z ⟨h1, h2⟩
  rw [flp_snoc]
  refine ⟨?_, fun _ => by rw [lst_snoc, lst_snoc]⟩
  rcases Classical.em (t = []) with he | he
  · subst he
    have e1 : ∀ z : Int, alk ([] ++ [z]) = 1 := fun z => by
      rcases Classical.em (z = lst []) with h | h
      · rw [alk_same h]; rfl
      · rw [alk_other h]
    exact (e1 _).trans (e1 _).symm
  · have hl := h2 he
    rcases Classical.em (z = lst t) with h | h
    · rw [alk_same h, alk_same (by rw [hl, h]), h1]
    · rw [alk_other h, alk_other (by rw [hl]; omega)]
theorem stf_flp : ∀ l : List Int, stf (flp l) = flp (stf l) := by
  refine snoc_ind rfl ?_
  intro l z ih
  rw [flp_snoc, stf_snoc, stf_snoc, ih]
  have e := (alk_flp (stf l ++ [z])).1
  rw [flp_snoc] at e
  unfold sput
  rw [e]
  split
  · rw [flp_snoc, flp_snoc]
  · rw [flp_snoc]
end Go.Proofs.Ytffhhegpkejdgaa

/- Plain mathematics: where six are alike first, and what Take tells. -/
namespace Go.Proofs.Ytffhhegpkejdgaa

theorem take_endr {t : List Int} {k : Nat} {z : Int} (h : t[k]? = some z) : endr (t.take (k + 1)) = tel (endr (t.take k)) z := by rw [take_snoc t k z h, endr_snoc]
/-- Are no six alike at the level k? -/
def noSix (t : List Int) (k : Nat) : Bool := decide (alk (t.take (k + 1)) ≤ 5)
/-- How many levels are ahead of the first one that is like the five ahead of it. -/
def sx (t : List Int) : Nat := led (noSix t) (List.range t.length)
theorem range_some {n k : Nat} (h : k < n) : (List.range n)[k]? = some k := by simp [h]
theorem sx_le (t : List Int) : sx t ≤ t.length := by have := led_le (noSix t) (List.range t.length); rwa [List.length_range] at this
theorem sx_succ {t : List Int} {k : Nat} (h : k ≤ sx t) (hk : k < t.length) (h5 : alk (t.take (k + 1)) ≤ 5) : k + 1 ≤ sx t :=
  led_succ (noSix t) _ k k h (range_some hk) (by unfold noSix; simpa using h5)
theorem sx_stop {t : List Int} {k : Nat} (h : k ≤ sx t) (hk : k < t.length) (h5 : ¬ alk (t.take (k + 1)) ≤ 5) : sx t = k :=
  led_stop (noSix t) _ k k h (range_some hk) (by unfold noSix; simpa using h5)
theorem sx_all {t : List Int} (h : t.length ≤ sx t) : okk t := by
  have ha := led_all (noSix t) (List.range t.length) (by rw [List.length_range]; exact h)
  intro k hk
  rcases k with _ | k
  · simp [alk_nil]
  · have := ha k (by simp; omega)
    unfold noSix at this
    simpa using this
theorem sx_of {t : List Int} (h : okk t) : sx t = t.length := by
  unfold sx
  rw [led_of_all, List.length_range]
  intro k hk
  simp at hk
  unfold noSix
  simpa using h (k + 1) (by omega)

def tkE (t : List Int) : Int := if 0 ≤ chk t then 10 else if sx t < t.length then 17 else if alk t = 5 then 13 else 0
def tkAt (t : List Int) : Int := if 0 ≤ chk t then chk t else if sx t < t.length then sx t else if alk t = 5 then t.length else 0
def tkR (t : List Int) : List Int := if tkE t = 0 then stk t else []
theorem chk_lvl {t : List Int} (h : ∀ z ∈ t, lvl z = true) : ¬ 0 ≤ chk t := by rw [show chk t = -1 from fst_of_all lvl t h]; omega
theorem tk_bad {t : List Int} (h : 0 ≤ chk t) : tkE t = 10 ∧ tkAt t = chk t ∧ tkR t = [] := by
  have e : tkE t = 10 := by unfold tkE; rw [if_pos h]
  exact ⟨e, by unfold tkAt; rw [if_pos h], by unfold tkR; rw [e]; rfl⟩
theorem tk_six {t : List Int} (h : ¬ 0 ≤ chk t) (h6 : sx t < t.length) : tkE t = 17 ∧ tkAt t = sx t ∧ tkR t = [] := by
  have e : tkE t = 17 := by unfold tkE; rw [if_neg h, if_pos h6]
  exact ⟨e, by unfold tkAt; rw [if_neg h, if_pos h6], by unfold tkR; rw [e]; rfl⟩
theorem tk_short {t : List Int} (h : ¬ 0 ≤ chk t) (h6 : ¬ sx t < t.length) (h5 : alk t = 5) : tkE t = 13 ∧ tkAt t = t.length ∧ tkR t = [] := by
  have e : tkE t = 13 := by unfold tkE; rw [if_neg h, if_neg h6, if_pos h5]
  exact ⟨e, by unfold tkAt; rw [if_neg h, if_neg h6, if_pos h5], by unfold tkR; rw [e]; rfl⟩
theorem tk_ok {t : List Int} (h : ¬ 0 ≤ chk t) (h6 : ¬ sx t < t.length) (h5 : ¬ alk t = 5) : tkE t = 0 ∧ tkAt t = 0 ∧ tkR t = stk t := by
  have e : tkE t = 0 := by unfold tkE; rw [if_neg h, if_neg h6, if_neg h5]
  exact ⟨e, by unfold tkAt; rw [if_neg h, if_neg h6, if_neg h5], by unfold tkR; rw [e]; rfl⟩
theorem tkR_len (t : List Int) : (tkR t).length ≤ t.length := by
  unfold tkR; split
  · exact stk_len t
  · exact Nat.zero_le _
theorem tkAt_in (t : List Int) : 0 ≤ tkAt t ∧ tkAt t ≤ t.length := by
  have h1 := sx_le t
  have h2 := fst_range lvl t
  unfold tkAt
  split
  · rename_i h; exact ⟨h, h2.2.1⟩
  · split
    · omega
    · split <;> omega
theorem tkE_in (t : List Int) : tkE t = 0 ∨ tkE t = 10 ∨ tkE t = 13 ∨ tkE t = 17 := by
  unfold tkE
  split
  · exact .inr (.inl rfl)
  · split
    · exact .inr (.inr (.inr rfl))
    · split
      · exact .inr (.inr (.inl rfl))
      · exact .inl rfl
theorem tkR_none {t : List Int} (h : ¬ tkE t = 0) : tkR t = [] := by unfold tkR; rw [if_neg h]
/-- What is stuffed is taken as it was. -/
theorem tk_stf {l : List Int} (h : ∀ z ∈ l, lvl z = true) : tkE (stf l) = 0 ∧ tkAt (stf l) = 0 ∧ tkR (stf l) = l := by
  obtain ⟨h1, h2⟩ := stf_back l
  have ha := alk_stf l
  have := tk_ok (chk_lvl (stf_lvl l h)) (by rw [sx_of h1]; omega) (show ¬ alk (stf l) = 5 by omega)
  rw [h2] at this
  exact this
/-- What is taken is stuffed as it stood, and is levels. -/
theorem stf_tk {m : List Int} (h : tkE m = 0) : stf (tkR m) = m ∧ ∀ z ∈ tkR m, lvl z = true := by
  rcases Int.lt_or_le (chk m) 0 with h0 | h0
  · rcases Nat.lt_or_ge (sx m) m.length with h6 | h6
    · rw [(tk_six (by omega) h6).1] at h; omega
    · rcases Classical.em (alk m = 5) with h5 | h5
      · rw [(tk_short (by omega) (by omega) h5).1] at h; omega
      · rw [(tk_ok (by omega) (by omega) h5).2.2]
        have hl := fst_neg lvl m h0
        have e := stk_stf hl (sx_all h6) h5
        refine ⟨e, ?_⟩
        have : ∀ t : List Int, (∀ z ∈ t, lvl z = true) → ∀ z ∈ stk t, lvl z = true := by
          refine snoc_ind (fun _ z hz => by cases hz) ?_
          intro t z ih ht y hy
          obtain ⟨t1, t2⟩ := all_snoc ht
          rcases Classical.em (5 ≤ alk t) with h | h
          · rw [stk_five h] at hy; exact ih t1 y hy
          · rw [stk_else h] at hy
            rcases List.mem_append.1 hy with hy | hy
            · exact ih t1 y hy
            · rw [List.mem_singleton] at hy; rw [hy]; exact t2
        exact this m hl
  · rw [(tk_bad h0).1] at h; omega
end Go.Proofs.Ytffhhegpkejdgaa

/- Plain mathematics of layer 6: how levels on the bus are gone through. -/
namespace Go.Proofs.Ytffhhegpkejdgaa

/-- The field of the level that comes behind others. -/
def kd (o : List Int) : Nat := (nx (hW o) o.length 0).1
theorem hW_len (o : List Int) : (hW o).length = 9 := rfl
theorem kd_le (o : List Int) : kd o ≤ 9 := by
  unfold kd
  rcases Nat.lt_or_ge o.length (sumW (hW o)) with h | h
  · have := (nx_lt (hW o) o.length 0 h).2; rw [hW_len] at this; omega
  · rw [nx_end _ _ _ h]; simp [hW_len]
theorem kd_lt {o : List Int} (h : kd o < 9) : o.length < sumW (hW o) := by
  rcases Nat.lt_or_ge o.length (sumW (hW o)) with h1 | h1
  · exact h1
  · unfold kd at h; rw [nx_end _ _ _ h1] at h; simp [hW_len] at h
theorem kd_nine {o : List Int} (h : kd o = 9) : sumW (hW o) ≤ o.length := by
  rcases Nat.lt_or_ge o.length (sumW (hW o)) with h1 | h1
  · have := (nx_lt (hW o) o.length 0 h1).2; rw [hW_len] at this; unfold kd at h; omega
  · exact h1
theorem kd_nil : kd [] = 0 := by decide
theorem tup3 {a b c a' b' c' : Value} (h : Value.tuple #[a, b, c] = .tuple #[a', b', c']) : a = a' ∧ b = b' ∧ c = c' := by
  injection h with h
  injection h with h
  injection h with h1 h
  injection h with h2 h
  injection h with h3 h
  exact ⟨h1, h2, h3⟩
/-- With one more, levels are told by the same fields. -/
theorem kd_next {o : List Int} {z : Int} (h : kd o < 9) : o.length + 1 ≤ sumW (hW (o ++ [z])) := by
  have hlt := kd_lt h
  have e := nout_take (zs := o ++ [z]) (k := o.length) (by simp)
  rw [List.take_append_of_le_length (Nat.le_refl _), List.take_length, nout_nx _ _ _ (Nat.le_of_lt hlt)] at e
  rcases Nat.lt_or_ge o.length (sumW (hW (o ++ [z]))) with h1 | h1
  · exact h1
  · exfalso
    rcases Nat.lt_or_ge (sumW (hW (o ++ [z]))) o.length with h2 | h2
    · rw [nout_long _ _ _ h2] at e
      have := (tup3 e).2.2
      injection this with _ this
      omega
    · rw [nout_nx _ _ _ h2, nx_end _ _ _ h1] at e
      have := (tup3 e).1
      injection this with _ this
      unfold kd at h
      simp [hW_len] at this
      omega
theorem nout_kd {o : List Int} {z : Int} (h : kd o < 9) : ∃ p : Nat, nout (hW (o ++ [z])) (o.length + 1) 0 = .tuple #[.int .i64 (kd (o ++ [z]) : Nat), .int .i64 (p : Nat), .int .i64 0] := by
  have := kd_next (z := z) h
  refine ⟨(nx (hW (o ++ [z])) (o.length + 1) 0).2, ?_⟩
  rw [nout_nx _ _ _ this]
  unfold kd
  rw [List.length_append, List.length_singleton]
/-- The field behind a beginning is told by the whole's. -/
theorem kd_take {zs : List Int} {k : Nat} (hz : k ≤ zs.length) (hs : k ≤ sumW (hW zs)) : kd (zs.take k) = (nx (hW zs) k 0).1 := by
  have e := nout_take hz
  have hl : (zs.take k).length = k := by rw [List.length_take]; omega
  rw [nout_nx (hW zs) _ _ hs] at e
  rcases Nat.lt_or_ge (sumW (hW (zs.take k))) k with h2 | h2
  · rw [nout_long _ _ _ h2] at e
    have := (tup3 e).2.2
    injection this with _ this
    omega
  · rw [nout_nx _ _ _ h2] at e
    have := (tup3 e).1
    injection this with _ this
    unfold kd
    rw [hl]
    omega

/-- The sum in levels has come, and is right. -/
def rok (o : List Int) : Bool := !(decide (o.length < hEnd (hEx o) ∨ o.length < ahead o + 15)) && rgt (o.take (ahead o + 15))
/-- What is wrong with a level as the frame's next one. -/
def nrc (z : Int) : Int := if z = 1 then 0 else 11
def wr (o : List Int) (z : Int) : Int :=
  if kd o = 0 then (if z = 0 then 0 else 11)
  else if kd o = 5 then (if rok o then nrc z else 18)
  else if kd o = 7 ∨ kd o = 8 then nrc z else 0
/-- What one number does: an error, all that came, and those that were not added. -/
def stq (t o : List Int) (z : Int) : Int × List Int × List Int :=
  if lvl z = false then (10, t, o)
  else if kd o ≤ 5 ∧ 5 ≤ alk t then (if z = lst t then (17, t, o) else (0, t ++ [z], o))
  else if wr o z ≠ 0 then (wr o z, t, o)
  else (0, t ++ [z], o ++ [z])
/-- Numbers are gone through: an error, the place, the frame's own levels. -/
def dcd : List Int → Nat → List Int → List Int → Int × Nat × List Int
  | [], k, _, o => (13, k, o)
  | z :: l, k, t, o =>
    if (stq t o z).1 ≠ 0 then ((stq t o z).1, k, o)
    else if kd (stq t o z).2.2 = 9 then (0, k + 1, (stq t o z).2.2)
    else dcd l (k + 1) (stq t o z).2.1 (stq t o z).2.2
theorem stq_bad {t o : List Int} {z : Int} (h : lvl z = false) : stq t o z = (10, t, o) := by unfold stq; rw [if_pos h]
theorem stq_six {t o : List Int} {z : Int} (h : lvl z = true) (h1 : kd o ≤ 5) (h2 : 5 ≤ alk t) (h3 : z = lst t) : stq t o z = (17, t, o) := by
  unfold stq; rw [if_neg (by simp [h]), if_pos ⟨h1, h2⟩, if_pos h3]
theorem stq_add {t o : List Int} {z : Int} (h : lvl z = true) (h1 : kd o ≤ 5) (h2 : 5 ≤ alk t) (h3 : ¬ z = lst t) : stq t o z = (0, t ++ [z], o) := by
  unfold stq; rw [if_neg (by simp [h]), if_pos ⟨h1, h2⟩, if_neg h3]
theorem stq_wr {t o : List Int} {z : Int} (h : lvl z = true) (h1 : ¬ (kd o ≤ 5 ∧ 5 ≤ alk t)) (h2 : wr o z ≠ 0) : stq t o z = (wr o z, t, o) := by
  unfold stq; rw [if_neg (by simp [h]), if_neg h1, if_pos h2]
theorem stq_own {t o : List Int} {z : Int} (h : lvl z = true) (h1 : ¬ (kd o ≤ 5 ∧ 5 ≤ alk t)) (h2 : wr o z = 0) : stq t o z = (0, t ++ [z], o ++ [z]) := by
  unfold stq; rw [if_neg (by simp [h]), if_neg h1, if_neg (by simp [h2])]
theorem wr_cases (o : List Int) (z : Int) : wr o z = 0 ∨ wr o z = 11 ∨ wr o z = 18 := by
  unfold wr nrc
  split
  · split <;> simp
  · split
    · split
      · split <;> simp
      · simp
    · split
      · split <;> simp
      · simp
/-- One number, in four cases. -/
theorem stq_cases (t o : List Int) (z : Int) :
    ((stq t o z).1 ≠ 0 ∧ (stq t o z).1 ≠ 13 ∧ (stq t o z).2 = (t, o)) ∨
    (lvl z = true ∧ kd o ≤ 5 ∧ stq t o z = (0, t ++ [z], o)) ∨ (lvl z = true ∧ wr o z = 0 ∧ stq t o z = (0, t ++ [z], o ++ [z])) := by
  cases h : lvl z with
  | false => rw [stq_bad h]; exact .inl ⟨by simp, by simp, rfl⟩
  | true =>
    by_cases h1 : kd o ≤ 5 ∧ 5 ≤ alk t
    · by_cases h3 : z = lst t
      · rw [stq_six h h1.1 h1.2 h3]; exact .inl ⟨by simp, by simp, rfl⟩
      · exact .inr (.inl ⟨rfl, h1.1, stq_add h h1.1 h1.2 h3⟩)
    · by_cases h2 : wr o z = 0
      · exact .inr (.inr ⟨rfl, h2, stq_own h h1 h2⟩)
      · rw [stq_wr h h1 h2]
        refine .inl ⟨h2, ?_, rfl⟩
        rcases wr_cases o z with e | e | e <;> rw [e] <;> simp
theorem dcd_err {z : Int} {l : List Int} {k : Nat} {t o : List Int} (h : (stq t o z).1 ≠ 0) : dcd (z :: l) k t o = ((stq t o z).1, k, o) := by
  rw [dcd, if_pos h]
theorem dcd_end {z : Int} {l : List Int} {k : Nat} {t o t' o' : List Int} (h : stq t o z = (0, t', o')) (h9 : kd o' = 9) : dcd (z :: l) k t o = (0, k + 1, o') := by
  rw [dcd, h, if_neg (by simp), if_pos h9]
theorem dcd_go {z : Int} {l : List Int} {k : Nat} {t o t' o' : List Int} (h : stq t o z = (0, t', o')) (h9 : ¬ kd o' = 9) : dcd (z :: l) k t o = dcd l (k + 1) t' o' := by
  rw [dcd, h, if_neg (by simp), if_neg h9]
/-- Where one is wrong, what is ahead is not; and what is behind a whole one is not asked. -/
theorem dcd_pre : ∀ (l : List Int) (k : Nat) (t o : List Int), ∃ e n p, dcd l k t o = (e, k + n, p) ∧ n ≤ l.length ∧
    (e = 0 → dcd (l.take n) k t o = (0, k + n, p)) ∧ (e ≠ 0 → (e = 13 ↔ n = l.length) ∧ ∃ q, dcd (l.take n) k t o = (13, k + n, q)) := by
  intro l
  induction l with
  | nil => intro k t o; exact ⟨13, 0, o, rfl, Nat.le_refl _, by simp, fun _ => ⟨by simp, o, rfl⟩⟩
  | cons z l ih =>
    intro k t o
    have go : ∀ t' o', stq t o z = (0, t', o') → ∃ e n p, dcd (z :: l) k t o = (e, k + n, p) ∧ n ≤ (z :: l).length ∧
        (e = 0 → dcd ((z :: l).take n) k t o = (0, k + n, p)) ∧ (e ≠ 0 → (e = 13 ↔ n = (z :: l).length) ∧ ∃ q, dcd ((z :: l).take n) k t o = (13, k + n, q)) := by
      intro t' o' hs
      by_cases h9 : kd o' = 9
      · refine ⟨0, 1, o', dcd_end hs h9, by simp, fun _ => ?_, fun h => absurd rfl h⟩
        exact dcd_end hs h9
      · obtain ⟨e, n, p, h1, h2, h3, h4⟩ := ih (k + 1) t' o'
        refine ⟨e, n + 1, p, ?_, by simp; omega, fun he => ?_, fun he => ?_⟩
        · rw [dcd_go hs h9, h1]; simp; omega
        · rw [List.take_succ_cons, dcd_go hs h9, h3 he]; simp; omega
        · obtain ⟨h5, q, h6⟩ := h4 he
          refine ⟨by rw [h5]; simp, q, ?_⟩
          rw [List.take_succ_cons, dcd_go hs h9, h6]; simp; omega
    rcases stq_cases t o z with ⟨h1, h2, h3⟩ | ⟨_, _, hs⟩ | ⟨_, _, hs⟩
    · refine ⟨(stq t o z).1, 0, o, dcd_err h1, by simp, fun h => absurd h h1, fun _ => ⟨⟨fun h => absurd h h2, fun h => by simp at h⟩, o, rfl⟩⟩
    · exact go _ _ hs
    · exact go _ _ hs
/-- What a whole frame's own levels are like. -/
structure Whole (o : List Int) (n : Nat) : Prop where
  len : o.length = sumW (hW o)
  lev : ∀ z ∈ o, lvl z = true
  zero : one o 0 = false
  le : o.length ≤ n
theorem one_snoc {o : List Int} {z : Int} (h : one o 0 = false) (h0 : o = [] → z = 0) : one (o ++ [z]) 0 = false := by
  cases o with
  | nil => rw [h0 rfl]; rfl
  | cons a o => exact h
theorem all_push {o : List Int} {z : Int} (h : ∀ y ∈ o, lvl y = true) (hz : lvl z = true) : ∀ y ∈ o ++ [z], lvl y = true := all_append h (by intro y hy; simp at hy; subst hy; exact hz)
theorem wr_first {z : Int} (h : wr [] z = 0) : z = 0 := by
  unfold wr at h
  rw [if_pos kd_nil] at h
  by_cases e : z = 0
  · exact e
  · rw [if_neg e] at h; simp at h
theorem dcd_whole : ∀ (l : List Int) (k : Nat) (t o : List Int) (n : Nat) (p : List Int), dcd l k t o = (0, n, p) → kd o < 9 → (∀ z ∈ o, lvl z = true) → one o 0 = false → o.length ≤ k → Whole p n := by
  intro l
  induction l with
  | nil => intro k t o n p h; simp [dcd] at h
  | cons z l ih =>
    intro k t o n p h hk hl h0 hle
    rcases stq_cases t o z with ⟨h1, h2, h3⟩ | ⟨_, h5, hs⟩ | ⟨hz, hw, hs⟩
    · rw [dcd_err h1] at h
      injection h with h _
      exact absurd h h1
    · rw [dcd_go hs (by omega)] at h
      exact ih _ _ _ _ _ h hk hl h0 (by omega)
    · have ha := all_push hl hz
      have ho := one_snoc h0 (z := z) (fun e => by subst e; exact wr_first hw)
      by_cases h9 : kd (o ++ [z]) = 9
      · rw [dcd_end hs h9] at h
        injection h with _ h
        injection h with h1 h2
        subst h1 h2
        have := kd_next (z := z) hk
        have := kd_nine h9
        refine ⟨by simp at this ⊢; omega, ha, ho, by simp; omega⟩
      · rw [dcd_go hs h9] at h
        have := kd_le (o ++ [z])
        exact ih _ _ _ _ _ h (by omega) ha ho (by simp; omega)
theorem sumW_hW (o : List Int) : sumW (hW o) = ahead o + 25 := by
  unfold hW wds ahead
  simp only [sumW]
  have := hEnd_eq (hEx o)
  omega
theorem whole_fout {o : List Int} {n : Nat} (h : Whole o n) : fout o = .tuple #[(frm o).val, .int .i64 0] := by
  have h1 := h.len
  rw [sumW_hW] at h1
  unfold fout
  rw [if_neg, h.zero]
  · rfl
  · have : hEnd (hEx o) ≤ ahead o := by unfold ahead; omega
    omega

/-- The errno, the place and the frame that Decode answers. -/
def dE (zs : List Int) : Int := (dcd zs 0 [] []).1
def dN (zs : List Int) : Nat := (dcd zs 0 [] []).2.1
def dO (zs : List Int) : List Int := (dcd zs 0 [] []).2.2
def dF (zs : List Int) : Fr := if dE zs = 0 then frm (dO zs) else Fr.zero
theorem dcd_parts (zs : List Int) : dcd zs 0 [] [] = (dE zs, dN zs, dO zs) := rfl
theorem d_whole {zs : List Int} (h : dE zs = 0) : Whole (dO zs) (dN zs) := by
  have e := dcd_parts zs
  rw [h] at e
  exact dcd_whole _ _ _ _ _ _ e (by rw [kd_nil]; omega) (by simp) rfl (by simp)
end Go.Proofs.Ytffhhegpkejdgaa

/- The contracts of stuff's helpers: the closure that levels are told to, what makes it, other, Most. -/
namespace Go.Proofs.Ytffhhegpkejdgaa
open Go.RowKit

theorem Arr.off {k : IntKind} {t : TypeId} {w : World} {g : Nat} {zs : List Int} (h : Arr k t w g zs) {g' i : Nat} (hne : g' ≠ g) (v : Value) : Arr k t (w.setCell ⟨g', i, none⟩ v) g zs := by
  unfold Arr at h ⊢
  simp [World.setCell, Array.getElem?_modify, hne, h]
/-- The two variables that the closure keeps: the last level, and how many alike. -/
def Two (w : World) (g : Nat) (s : Int × Nat) : Prop := Arr .i64 3 w g [s.1] ∧ Arr .i64 3 w (g + 1) [(s.2 : Int)]
theorem below_at (g g' : Nat) (w : World) (v : Value) (h : g ≤ g') : Below g w (w.setCell ⟨g', 0, none⟩ v) := (Below.refl g w).setCell (p := ⟨g', 0, none⟩) h v

/-- All but the two blocks from g on are as they were. -/
structure Still2 (g : Nat) (w w' : World) : Prop where
  bel : Below g w w'
  size : w'.heap.size = w.heap.size
  block : ∀ b, b ≠ g → b ≠ g + 1 → w'.heap[b]? = w.heap[b]?
theorem Still2.put (g g' : Nat) (w : World) (v : Value) (h : g' = g ∨ g' = g + 1) : Still2 g w (w.setCell ⟨g', 0, none⟩ v) :=
  ⟨below_at g g' w v (by omega), by simp [World.setCell], fun b h1 h2 => by simp [World.setCell, Array.getElem?_modify]; intro e; omega⟩
theorem Still2.trans {g : Nat} {a b c : World} (h : Still2 g a b) (k : Still2 g b c) : Still2 g a c :=
  ⟨h.bel.trans k.bel, k.size.trans h.size, fun i h1 h2 => (k.block i h1 h2).trans (h.block i h1 h2)⟩
/-- The row v lies apart from the two blocks from g on. -/
def Apart (v : Value) (g : Nat) : Prop := v.ownBlock ≠ some g ∧ v.ownBlock ≠ some (g + 1)
theorem Own.still {w w' : World} {base g : Nat} {v : Value} {zs : List Int} (h : Own w base v zs) (hs : Still2 g w w') (ha : Apart v g) : Own w' base v zs := by
  refine ⟨h.1, ?_⟩
  rcases h.2 with hn | ⟨g', cap, cur, rfl, hbg, hgg, rest⟩
  · exact .inl hn
  · refine .inr ⟨g', cap, cur, rfl, hbg, (hs.block g' ?_ ?_).trans hgg, rest⟩
    · intro e; exact ha.1 (by rw [e]; rfl)
    · intro e; exact ha.2 (by rw [e]; rfl)
theorem Two.lt {w : World} {g : Nat} {s : Int × Nat} (h : Two w g s) : g + 1 < w.heap.size := h.2.lt
theorem Two.pushed {w w' : World} {g : Nat} {s : Int × Nat} {v : Value} {o : Obj} (h : Two w g s) (hg : (w.alloc o).grownBy w' v.ownBlock) (ha : Apart v g) : Two w' g s := by
  have hlt := h.lt
  have hs : (w.alloc o).heap.size = w.heap.size + 1 := by simp
  refine ⟨?_, ?_⟩
  · exact ((hg.block g (by omega) (fun e => ha.1 e.symm)).trans (heap_alloc_old w o (r := g) (by omega))).trans h.1
  · exact ((hg.block (g + 1) (by omega) (fun e => ha.2 e.symm)).trans (heap_alloc_old w o (r := g + 1) (by omega))).trans h.2
theorem Apart.lies {w : World} {g : Nat} {s : Int × Nat} {v v' : Value} {o : Obj} (h : Apart v g) (hl : Lies (w.alloc o) v v') (ht : Two w g s) : Apart v' g := by
  have hlt := ht.lt
  have hs : (w.alloc o).heap.size = w.heap.size + 1 := by simp
  rcases hl with e | e
  · unfold Apart; rw [e]; exact h
  · unfold Apart; rw [e, hs]
    exact ⟨by intro e; injection e with e; omega, by intro e; injection e with e; omega⟩

set_option maxHeartbeats 400000 in
theorem tell_any (s : Int × Nat) (z : Int) (g : Nat) (w : World) (hs : s.2 ≤ 100000) (ht : Two w g s) :
    Calls Try.prog 64 #[.int .i64 z, .pointer (some ⟨g, 0, none⟩), .pointer (some ⟨g + 1, 0, none⟩)] w fun e w' => e = .returned (.int .i64 (((tel s z).2 : Nat) : Int)) ∧ Two w' g (tel s z) ∧ Still2 g w w' := by
  obtain ⟨l, a⟩ := s
  obtain ⟨h1, h2⟩ := ht
  dsimp only at hs h1 h2
  have c1 := h1.cell (i := 0) (by simp)
  have c2 := h2.cell (i := 0) (by simp)
  have f1 := h1.frozen 0
  have f2 := h2.frozen 0
  have H1 := Lib.hid h1
  have H2 := Lib.hid h2
  have hne : g ≠ g + 1 := by omega
  have hne2 : g + 1 ≠ g := by omega
  clear h1 h2
  by_cases h : z = l
  · have ez : tel (l, a) z = (l, a + 1) := by unfold tel; rw [if_pos h]
    have hb : (z != l) = false := by simp [h]
    have HE := Lib.hid ez
    rw [ez]
    clear ez h
    go_enter Try.func64, Try.ntmps64
    go_wp2
    go_ret
    refine ⟨ret_int (by push_cast; rfl), ⟨H1.out.off hne2 _, ?_⟩, Still2.put _ _ _ _ (by omega)⟩
    have := H2.out.put 0 ((a : Int) + 1)
    exact this
  · have ez : tel (l, a) z = (z, 1) := by unfold tel; rw [if_neg h]
    have hb : (z != l) = true := by simpa using h
    have HE := Lib.hid ez
    rw [ez]
    clear ez h
    have c3 := (((H2.out.off (i := 0) hne (.int .i64 z)).put 0 0).put 0 1).cell (i := 0) (by simp)
    go_enter Try.func64, Try.ntmps64
    go_wp2
    go_ret
    refine ⟨rfl, ⟨?_, ?_⟩, ?_⟩
    · exact ((H1.out.put 0 z).off hne2 _).off hne2 _
    · exact ((H2.out.off hne _).put 0 0).put 0 1
    · exact ((Still2.put g g w _ (.inl rfl)).trans (Still2.put g (g + 1) _ _ (.inr rfl))).trans (Still2.put g (g + 1) _ _ (.inr rfl))

theorem two_new (w : World) : Two ((w.alloc (.cells #[.int .i64 0] 3)).alloc (.cells #[.int .i64 0] 3)) w.heap.size (0, 0) := by
  refine ⟨?_, ?_⟩
  · have h := Arr.new w .i64 3 [0]
    exact h.below ((Below.refl (w.heap.size + 1) _).alloc (by simp) _) (Nat.lt_succ_self _)
  · have h := Arr.new (w.alloc (.cells #[.int .i64 0] 3)) .i64 3 [0]
    rwa [show (w.alloc (.cells #[.int .i64 0] 3)).heap.size = w.heap.size + 1 by simp] at h

theorem teller_any (w : World) :
    Calls Try.prog 42 #[] w fun e w' => e = .returned (.func (.func 64) #[] #[.pointer (some ⟨w.heap.size, 0, none⟩), .pointer (some ⟨w.heap.size + 1, 0, none⟩)]) ∧ Two w' w.heap.size (0, 0) ∧ Below w.heap.size w w' := by
  have hmf : ∀ (fn : Fn) (first cap : Array Value) (w : World), (Instr.makeFunc fn first cap).run Try.prog w = .ok (.func fn first cap) w := fun _ _ _ _ => rfl
  go_enter Try.func42, Try.ntmps42
  go_wp2
  go_ret
  exact ⟨rfl, two_new w, ((Below.refl _ _).alloc (Nat.le_refl _) _).alloc (by simp) _⟩

theorem other_any (z : Int) (w : World) (hz : z = 0 ∨ z = 1) :
    Calls Try.prog 43 #[.int .i64 z] w fun e w' => e = .returned (.int .i64 (1 - z)) ∧ w = w' := by
  rcases hz with rfl | rfl
  · go_enter Try.func43, Try.ntmps43
    go_wp2
    go_ret
    exact ⟨rfl, rfl⟩
  · go_enter Try.func43, Try.ntmps43
    go_wp2
    go_ret
    exact ⟨rfl, rfl⟩

theorem most_ok (n : Nat) (w : World) (hn : n ≤ 9223372036854775807) :
    Calls Try.prog 24 #[.int .i64 n] w fun e w' => e = .returned (.tuple #[.int .i64 (((n - 1) / 4 : Nat) : Int), .int .i64 0]) ∧ w = w' := by
  rcases n with _ | m
  · go_enter Try.func24, Try.ntmps24
    go_wp2
    go_ret2
    exact ⟨rfl, rfl⟩
  · rw [show ((m + 1 : Nat) : Int) = (m : Int) + 1 from by omega]
    go_enter Try.func24, Try.ntmps24
    go_wp2
    go_ret2
    exact ⟨rfl, rfl⟩
theorem most_bad (n : Int) (w : World) (hn : n < 0) :
    Calls Try.prog 24 #[.int .i64 n] w fun e w' => e = .returned (.tuple #[.int .i64 0, .int .i64 10]) ∧ w = w' := by
  go_enter Try.func24, Try.ntmps24
  go_wp2
  go_ret2
  exact ⟨rfl, rfl⟩

/-- make with room, and nothing in it. -/
theorem make0 (n m : Nat) (hn : n + m ≤ 100000) (w : World) : (Instr.makeSlice 25 (.int .i64 0) (.int .i64 ((n : Int) + (m : Int)))).run Try.prog w =
    .ok (.slice (some ⟨w.heap.size, 0, none⟩) 0 (n + m)) (w.alloc (.cells (Array.replicate (n + m) (Value.int .i64 0)) 3)) := by
  obtain ⟨i, hi, hz, hs, hb⟩ := info3
  have hr := run_make (P := Try.prog) w 25 3 i _ Try.underlying25 hi hz .i64 .i64 0 ((n : Int) + (m : Int)) (by omega) (by omega) (by rw [hb]; omega) (by omega)
  have et : ((n : Int) + (m : Int)).toNat = n + m := by omega
  have e : madeCells (Value.int .i64 0).cells ((n + m) * i.size) = (Array.replicate (n + m) (Value.int .i64 0)) := by
    rw [hs, Nat.mul_one]
    apply Array.toList_inj.1
    show (madeCells #[Value.int .i64 0] (n + m)).toList = _
    rw [toList_madeCells_one]; simp
  rw [hr, et, e]; rfl
theorem make1 (n : Nat) (hn : n ≤ 100000) (w : World) : (Instr.makeSlice 25 (.int .i64 0) (.int .i64 (n : Int))).run Try.prog w =
    .ok (.slice (some ⟨w.heap.size, 0, none⟩) 0 n) (w.alloc (.cells (Array.replicate n (Value.int .i64 0)) 3)) := make0 n 0 (by omega) w
theorem Own.room (w : World) (base m : Nat) (hb : base ≤ w.heap.size) (hl : m ≤ 100000) :
    Own (w.alloc (.cells (Array.replicate m (Value.int .i64 0)) 3)) base (.slice (some ⟨w.heap.size, 0, none⟩) 0 m) [] := by
  refine ⟨by simp, .inr ⟨w.heap.size, m, _, rfl, hb, heap_alloc_new w _, Nat.zero_le _, by unfold maxLen; omega, by simp, by simp⟩⟩
/-- An answer that is a row of its own, as long as its room at most. -/
def SlIn (zs : List Int) (w : World) (e : Ending) (w' : World) : Prop := ∃ A cap, e = .returned (.slice A zs.length cap) ∧ Il w' A zs.length zs ∧ zs.length ≤ cap ∧ Below w.heap.size w w'
end Go.Proofs.Ytffhhegpkejdgaa

