/- Plain mathematics of runs. -/
import Derived.Test.YtalpbnfebcafgaaGreatMath
import Derived.Test.YtalpbnfebcafgaaGreatLb4
import Derived.Test.YtalpbnfebcafgaaGreatW2
import Derived.WalkMore
import Derived.Test.YtalpbnfebcafgaaGreatM
import Derived.Deep.LoopGhost
import Derived.Test.YtalpbnfebcafgaaGreatSl
namespace Go.Proofs.YtalpbnfebcafgaaGreat
set_option maxRecDepth 20000

/-- One step of going through a row from the left: the runs so far, and where the last one began. -/
def rstp (zs : List Int) (i : Nat) (s : List Int × Nat) : List Int × Nat :=
  if i = zs.length ∨ zs.getD i 0 ≠ zs.getD s.2 0 then (s.1 ++ [(i : Int) - (s.2 : Int)], i) else s
def stt (zs : List Int) : Nat → List Int × Nat
  | 0 => ([], 0)
  | i + 1 => rstp zs (i + 1) (stt zs i)
/-- The runs of a row. -/
def runs (zs : List Int) : List Int := (stt zs zs.length).1

theorem stt_stay {zs : List Int} {i : Nat} {s : List Int × Nat} (h : stt zs i = s) (hi : i + 1 < zs.length) (he : zs.getD (i + 1) 0 = zs.getD s.2 0) : stt zs (i + 1) = s := by
  simp only [stt, rstp, h]; rw [if_neg (by simp only [not_or]; exact ⟨by omega, by simpa using he⟩)]
theorem stt_cut {zs : List Int} {i : Nat} {s : List Int × Nat} (h : stt zs i = s) (he : zs.getD (i + 1) 0 ≠ zs.getD s.2 0) : stt zs (i + 1) = (s.1 ++ [((i + 1 : Nat) : Int) - (s.2 : Int)], i + 1) := by
  simp only [stt, rstp, h]; rw [if_pos (.inr he)]
theorem stt_last {zs : List Int} {i : Nat} {s : List Int × Nat} (h : stt zs i = s) (he : i + 1 = zs.length) : stt zs (i + 1) = (s.1 ++ [((i + 1 : Nat) : Int) - (s.2 : Int)], i + 1) := by
  simp only [stt, rstp, h]; rw [if_pos (.inl he)]

/-- What stt keeps: the last run began within, and all from there on are alike. -/
theorem stt_inv (zs : List Int) : ∀ i, i < zs.length → (stt zs i).2 ≤ i ∧ ∀ k, (stt zs i).2 ≤ k → k ≤ i → zs.getD k 0 = zs.getD (stt zs i).2 0 := by
  intro i
  induction i with
  | zero => intro _; refine ⟨Nat.le_refl _, fun k h1 h2 => ?_⟩; simp only [stt] at h1 ⊢; rw [show k = 0 by omega]
  | succ i ih =>
    intro hi
    obtain ⟨h1, h2⟩ := ih (by omega)
    rcases Classical.em (zs.getD (i + 1) 0 = zs.getD (stt zs i).2 0) with he | he
    · rw [stt_stay rfl hi he]
      refine ⟨by omega, fun k h3 h4 => ?_⟩
      rcases Nat.lt_or_ge k (i + 1) with hk | hk
      · exact h2 k h3 (by omega)
      · rw [show k = i + 1 by omega]; exact he
    · rw [stt_cut rfl he]
      refine ⟨Nat.le_refl _, fun k h3 h4 => ?_⟩
      dsimp only at h3 h4 ⊢
      rw [show k = i + 1 by omega]

/-- 'rs' are the runs of zs from the place 'at_' on. -/
def From (zs : List Int) : Nat → List Int → Prop
  | i, [] => i = zs.length
  | i, r :: rs => 1 ≤ r ∧ i + r.toNat ≤ zs.length ∧ (∀ k, i ≤ k → k < i + r.toNat → zs.getD k 0 = zs.getD i 0) ∧ (i + r.toNat < zs.length → zs.getD (i + r.toNat) 0 ≠ zs.getD (i + r.toNat - 1) 0) ∧ From zs (i + r.toNat) rs

/-- From the place i up to j, which is none of the end. -/
def Upto (zs : List Int) : Nat → List Int → Nat → Prop
  | i, [], j => i = j
  | i, r :: rs, j => 1 ≤ r ∧ i + r.toNat ≤ zs.length ∧ (∀ k, i ≤ k → k < i + r.toNat → zs.getD k 0 = zs.getD i 0) ∧ (i + r.toNat < zs.length → zs.getD (i + r.toNat) 0 ≠ zs.getD (i + r.toNat - 1) 0) ∧ Upto zs (i + r.toNat) rs j
theorem Upto.snoc {zs : List Int} : ∀ (rs : List Int) (i j : Nat) (r : Int), Upto zs i rs j → 1 ≤ r → j + r.toNat ≤ zs.length → (∀ k, j ≤ k → k < j + r.toNat → zs.getD k 0 = zs.getD j 0) →
    (j + r.toNat < zs.length → zs.getD (j + r.toNat) 0 ≠ zs.getD (j + r.toNat - 1) 0) → Upto zs i (rs ++ [r]) (j + r.toNat)
  | [], i, j, r, h, h1, h2, h3, h4 => by
    simp only [Upto] at h; subst h
    exact ⟨h1, h2, h3, h4, rfl⟩
  | q :: rs, i, j, r, h, h1, h2, h3, h4 => ⟨h.1, h.2.1, h.2.2.1, h.2.2.2.1, Upto.snoc rs _ j r h.2.2.2.2 h1 h2 h3 h4⟩
theorem Upto.from_ {zs : List Int} : ∀ (rs : List Int) (i : Nat), Upto zs i rs zs.length → From zs i rs
  | [], _, h => h
  | _ :: rs, _, h => ⟨h.1, h.2.1, h.2.2.1, h.2.2.2.1, Upto.from_ rs _ h.2.2.2.2⟩

theorem stt_upto (zs : List Int) : ∀ i, i < zs.length → Upto zs 0 (stt zs i).1 (stt zs i).2 := by
  intro i
  induction i with
  | zero => intro _; exact rfl
  | succ i ih =>
    intro hi
    have hv := stt_inv zs i (by omega)
    have h := ih (by omega)
    rcases Classical.em (zs.getD (i + 1) 0 = zs.getD (stt zs i).2 0) with he | he
    · rw [stt_stay rfl hi he]; exact h
    · rw [stt_cut rfl he]
      have e : (stt zs i).2 + (((i + 1 : Nat) : Int) - ((stt zs i).2 : Int)).toNat = i + 1 := by omega
      have := Upto.snoc _ 0 _ (((i + 1 : Nat) : Int) - ((stt zs i).2 : Int)) h (by omega) (by omega) (fun k h1 h2 => hv.2 k h1 (by omega)) (fun _ => by
        rw [e, Nat.add_sub_cancel, hv.2 i hv.1 (Nat.le_refl _)]; exact he)
      rw [e] at this
      exact this
theorem runs_from (zs : List Int) : From zs 0 (runs zs) := by
  unfold runs
  rcases Nat.eq_zero_or_pos zs.length with h0 | h0
  · rw [h0]; exact h0.symm
  · obtain ⟨i, hi⟩ : ∃ i, zs.length = i + 1 := ⟨zs.length - 1, by omega⟩
    have hv := stt_inv zs i (by omega)
    have h := stt_upto zs i (by omega)
    rw [hi, stt_last rfl hi.symm]
    have e : (stt zs i).2 + (((i + 1 : Nat) : Int) - ((stt zs i).2 : Int)).toNat = zs.length := by omega
    have := Upto.snoc _ 0 _ (((i + 1 : Nat) : Int) - ((stt zs i).2 : Int)) h (by omega) (by omega) (fun k h1 h2 => hv.2 k h1 (by omega)) (fun hlt => by omega)
    rw [e] at this
    exact this.from_

/-- How many runs begin in a row behind p. -/
def rcnt : Option Int → List Int → Nat
  | _, [] => 0
  | p, x :: l => (if p = some x then 0 else 1) + rcnt (some x) l
def lastOr : Option Int → List Int → Option Int
  | p, [] => p
  | _, x :: l => lastOr (some x) l
theorem lastOr_snoc : ∀ (a : List Int) (p : Option Int) (x : Int), lastOr p (a ++ [x]) = some x
  | [], _, _ => rfl
  | y :: a, _, x => lastOr_snoc a (some y) x
theorem cnt_append : ∀ (a b : List Int) (p : Option Int), rcnt p (a ++ b) = rcnt p a + rcnt (lastOr p a) b
  | [], b, p => by simp [rcnt, lastOr]
  | x :: a, b, p => by
    simp only [List.cons_append, rcnt, lastOr]
    rw [cnt_append a b (some x)]; omega
theorem cnt_joint (a b : List Int) (x y : Int) : rcnt none ((a ++ [x]) ++ (y :: b)) + (if x = y then 1 else 0) = rcnt none (a ++ [x]) + rcnt none (y :: b) := by
  rw [cnt_append, lastOr_snoc]
  by_cases h : x = y
  · simp [rcnt, h]; omega
  · simp [rcnt, h]
theorem cnt_snoc (a : List Int) (x y : Int) : rcnt none (a ++ [x] ++ [y]) = rcnt none (a ++ [x]) + (if x = y then 0 else 1) := by
  rw [cnt_append, lastOr_snoc]; simp [rcnt]

theorem stt_cnt (zs : List Int) : ∀ i, i < zs.length → (stt zs i).1.length + 1 = rcnt none (zs.take (i + 1)) := by
  intro i
  induction i with
  | zero =>
    intro hi
    match zs, hi with
    | z :: zs, _ => simp [stt, rcnt]
  | succ i ih =>
    intro hi
    have hv := stt_inv zs i (by omega)
    have h := ih (by omega)
    have e1 : zs.take (i + 1) = zs.take i ++ [zs.getD i 0] := by rw [List.take_add_one]; simp [show i < zs.length by omega]
    have e2 : zs.take (i + 1 + 1) = zs.take i ++ [zs.getD i 0] ++ [zs.getD (i + 1) 0] := by rw [List.take_add_one, e1]; simp [hi]
    rw [e2, cnt_snoc, ← e1, ← h]
    have hs := hv.2 i hv.1 (Nat.le_refl _)
    rcases Classical.em (zs.getD (i + 1) 0 = zs.getD (stt zs i).2 0) with he | he
    · rw [stt_stay rfl hi he, if_pos (by rw [hs, he])]
    · rw [stt_cut rfl he, if_neg (by rw [hs]; exact fun h => he h.symm)]; simp
theorem runs_cnt (zs : List Int) : (runs zs).length = rcnt none zs := by
  unfold runs
  rcases Nat.eq_zero_or_pos zs.length with h0 | h0
  · have : zs = [] := List.eq_nil_of_length_eq_zero h0
    subst this; rfl
  · obtain ⟨i, hi⟩ : ∃ i, zs.length = i + 1 := ⟨zs.length - 1, by omega⟩
    have h := stt_cnt zs i (by omega)
    rw [List.take_of_length_le (by omega)] at h
    rw [hi, stt_last rfl hi.symm, ← h]; simp

/-- The greatest of numbers, from m on. -/
def most (rs : List Int) : Int := rs.foldl max 0
theorem most_snoc (rs : List Int) (r : Int) : most (rs ++ [r]) = max (most rs) r := by simp [most]
theorem foldl_max_ge : ∀ (rs : List Int) (m : Int), m ≤ rs.foldl max m ∧ ∀ r ∈ rs, r ≤ rs.foldl max m
  | [], m => ⟨Int.le_refl _, fun r h => by cases h⟩
  | q :: rs, m => by
    obtain ⟨h1, h2⟩ := foldl_max_ge rs (max m q)
    refine ⟨by simp only [List.foldl_cons]; omega, fun r hr => ?_⟩
    simp only [List.foldl_cons]
    cases hr with
    | head => omega
    | tail _ hr => exact h2 r hr
theorem most_ge (rs : List Int) (r : Int) (h : r ∈ rs) : r ≤ most rs := (foldl_max_ge rs 0).2 r h

end Go.Proofs.YtalpbnfebcafgaaGreat

/- Plain mathematics of stuffing: how many alike a row ends with, a row stuffed, a row taken. -/
namespace Go.Proofs.YtalpbnfebcafgaaGreat
set_option maxRecDepth 20000

theorem snoc_ind {P : List Int → Prop} (h0 : P []) (h : ∀ l z, P l → P (l ++ [z])) : ∀ l, P l := by
  intro l
  rw [← l.reverse_reverse]
  induction l.reverse with
  | nil => exact h0
  | cons z l ih => rw [List.reverse_cons]; exact h _ _ ih

/-- What is known behind a level that is told: the last one, and how many alike there are. -/
def tel (s : Int × Nat) (z : Int) : Int × Nat := if z = s.1 then (s.1, s.2 + 1) else (z, 1)
def endr (t : List Int) : Int × Nat := t.foldl tel (0, 0)
def lst (t : List Int) : Int := (endr t).1
def alk (t : List Int) : Nat := (endr t).2
theorem endr_snoc (t : List Int) (z : Int) : endr (t ++ [z]) = tel (endr t) z := by simp [endr]
theorem lst_snoc (t : List Int) (z : Int) : lst (t ++ [z]) = z := by
  unfold lst; rw [endr_snoc]; unfold tel; split
  · rename_i h; exact h.symm
  · rfl
theorem alk_same {t : List Int} {z : Int} (h : z = lst t) : alk (t ++ [z]) = alk t + 1 := by
  unfold alk; rw [endr_snoc]; unfold tel; rw [if_pos (show z = (endr t).1 from h)]
theorem alk_other {t : List Int} {z : Int} (h : ¬ z = lst t) : alk (t ++ [z]) = 1 := by
  unfold alk; rw [endr_snoc]; unfold tel; rw [if_neg (show ¬ z = (endr t).1 from h)]
theorem alk_nil : alk [] = 0 := rfl
theorem alk_pos (t : List Int) (z : Int) : 1 ≤ alk (t ++ [z]) := by
  rcases Classical.em (z = lst t) with h | h
  · rw [alk_same h]; omega
  · rw [alk_other h]; omega
theorem alk_up (t : List Int) (z : Int) : alk (t ++ [z]) ≤ alk t + 1 := by
  rcases Classical.em (z = lst t) with h | h
  · rw [alk_same h]; omega
  · rw [alk_other h]; omega
theorem take_snoc (t : List Int) (k : Nat) (z : Int) (h : t[k]? = some z) : t.take (k + 1) = t.take k ++ [z] := by
  rw [List.take_add_one, h]; rfl
theorem getD_snoc_lt (t : List Int) (z : Int) (j : Nat) (h : j < t.length) : (t ++ [z]).getD j 0 = t.getD j 0 := by
  simp [List.getD, List.getElem?_append_left h]
theorem getD_snoc_end (t : List Int) (z : Int) : (t ++ [z]).getD t.length 0 = z := by simp [List.getD]

theorem alk_spec : ∀ t : List Int, alk t ≤ t.length ∧ (∀ j, t.length - alk t ≤ j → j < t.length → t.getD j 0 = lst t) ∧ (alk t < t.length → t.getD (t.length - 1 - alk t) 0 ≠ lst t) := by
  refine snoc_ind ⟨Nat.le_refl _, fun j _ h => by simp at h, fun h => by simp [alk_nil] at h⟩ ?_
  intro t z ⟨h1, h2, h3⟩
  rw [lst_snoc, List.length_append, List.length_singleton]
  rcases Classical.em (z = lst t) with h | h
  · rw [alk_same h]
    refine ⟨by omega, fun j ha hb => ?_, fun hl => ?_⟩
    · rcases Nat.lt_or_ge j t.length with hj | hj
      · rw [getD_snoc_lt t z j hj, h]; exact h2 j (by omega) hj
      · rw [show j = t.length by omega, getD_snoc_end]
    · rw [getD_snoc_lt t z _ (by omega), h, show t.length + 1 - 1 - (alk t + 1) = t.length - 1 - alk t by omega]
      exact h3 (by omega)
  · rw [alk_other h]
    refine ⟨by omega, fun j ha hb => ?_, fun hl => ?_⟩
    · rw [show j = t.length by omega, getD_snoc_end]
    · rw [getD_snoc_lt t z _ (by omega), show t.length + 1 - 1 - 1 = t.length - 1 by omega]
      rcases Nat.eq_zero_or_pos (alk t) with h0 | h0
      · have := h3 (by omega)
        rw [h0] at this
        exact absurd (h3 (by omega)) (by
          exfalso
          have hp : t ≠ [] := by intro e; subst e; simp at hl
          have := alk_pos t.dropLast (t.getLast hp)
          rw [List.dropLast_concat_getLast hp] at this
          omega)
      · rw [h2 (t.length - 1) (by omega) (by omega)]; exact fun e => h e.symm

/-- The last five are alike. -/
theorem five_yes {t : List Int} (h : 5 ≤ alk t) : 5 ≤ t.length ∧ ∀ i, t.length - 5 ≤ i → i < t.length → t.getD i 0 = lst t := by
  obtain ⟨h1, h2, _⟩ := alk_spec t
  exact ⟨by omega, fun i ha hb => h2 i (by omega) hb⟩
theorem five_no {t : List Int} (h : alk t < 5) (hl : 5 ≤ t.length) : ∃ i, t.length - 4 ≤ i ∧ i < t.length ∧ t.getD i 0 ≠ t.getD (t.length - 5) 0 := by
  obtain ⟨h1, h2, h3⟩ := alk_spec t
  have h4 := h3 (by omega)
  have hp : 1 ≤ alk t := by
    have hp : t ≠ [] := by intro e; subst e; simp at hl
    have := alk_pos t.dropLast (t.getLast hp)
    rwa [List.dropLast_concat_getLast hp] at this
  have h5 := h2 (t.length - 1) (by omega) (by omega)
  rcases Classical.em (t.getD (t.length - 5) 0 = lst t) with he | he
  · refine ⟨t.length - 1 - alk t, ?_, by omega, by rw [he]; exact h4⟩
    rcases Nat.lt_or_ge (alk t) 4 with ha | ha
    · omega
    · rw [show t.length - 1 - alk t = t.length - 5 by omega] at h4
      exact absurd he h4
  · exact ⟨t.length - 1, by omega, by omega, by rw [h5]; exact fun e => he e.symm⟩

/-- A level told, and what is added behind it. -/
def sput (o : List Int) (z : Int) : List Int := if alk (o ++ [z]) = 5 then o ++ [z] ++ [1 - z] else o ++ [z]
/-- A row, stuffed. -/
def stf (l : List Int) : List Int := l.foldl sput []
theorem stf_snoc (l : List Int) (z : Int) : stf (l ++ [z]) = sput (stf l) z := by simp [stf]
theorem stf_step {l : List Int} {k : Nat} {z : Int} (h : l[k]? = some z) : stf (l.take (k + 1)) = sput (stf (l.take k)) z := by rw [take_snoc l k z h, stf_snoc]
theorem sput_five {o : List Int} {z : Int} (h : alk (o ++ [z]) = 5) : sput o z = o ++ [z] ++ [1 - z] := by unfold sput; rw [if_pos h]
theorem sput_else {o : List Int} {z : Int} (h : ¬ alk (o ++ [z]) = 5) : sput o z = o ++ [z] := by unfold sput; rw [if_neg h]
theorem flip_ne (z : Int) : ¬ 1 - z = z := by omega

theorem alk_sput {o : List Int} {z : Int} (h : alk o ≤ 4) : alk (sput o z) ≤ 4 := by
  have := alk_up o z
  rcases Classical.em (alk (o ++ [z]) = 5) with h5 | h5
  · rw [sput_five h5, alk_other (by rw [lst_snoc]; exact flip_ne z)]; omega
  · rw [sput_else h5]; omega
theorem alk_stf : ∀ l : List Int, alk (stf l) ≤ 4 := snoc_ind (by decide) fun l z h => by rw [stf_snoc]; exact alk_sput h

/-- Nowhere six alike. -/
def okk (t : List Int) : Prop := ∀ k, k ≤ t.length → alk (t.take k) ≤ 5
theorem okk_nil : okk [] := by intro k _; simp [alk_nil]
theorem okk_snoc {t : List Int} {z : Int} (h : okk t) (hz : alk (t ++ [z]) ≤ 5) : okk (t ++ [z]) := by
  intro k hk
  rw [List.length_append, List.length_singleton] at hk
  rcases Nat.lt_or_ge k (t.length + 1) with h1 | h1
  · rw [List.take_append_of_le_length (by omega)]; exact h k (by omega)
  · rw [List.take_of_length_le (by rw [List.length_append, List.length_singleton]; exact h1)]; exact hz
theorem okk_front {t : List Int} {z : Int} (h : okk (t ++ [z])) : okk t ∧ alk (t ++ [z]) ≤ 5 := by
  refine ⟨fun k hk => ?_, ?_⟩
  · have := h k (by rw [List.length_append]; omega)
    rwa [List.take_append_of_le_length hk] at this
  · have := h (t.length + 1) (by simp)
    rwa [List.take_of_length_le (by simp)] at this
theorem okk_alk {t : List Int} (h : okk t) : alk t ≤ 5 := by
  have := h t.length (Nat.le_refl _)
  rwa [List.take_length] at this

/-- What is taken of levels, whatever they are. -/
def gett (s : (Int × Nat) × List Int) (z : Int) : (Int × Nat) × List Int := (tel s.1 z, if 5 ≤ s.1.2 then s.2 else s.2 ++ [z])
def stk (t : List Int) : List Int := (t.foldl gett ((0, 0), [])).2
theorem gett_fst : ∀ t : List Int, (t.foldl gett ((0, 0), [])).1 = endr t := snoc_ind rfl fun t z h => by rw [endr_snoc, ← h]; simp [gett]
theorem gett_yes {s : (Int × Nat) × List Int} {z : Int} (h : 5 ≤ s.1.2) : (gett s z).2 = s.2 := by unfold gett; exact if_pos h
theorem gett_no {s : (Int × Nat) × List Int} {z : Int} (h : ¬ 5 ≤ s.1.2) : (gett s z).2 = s.2 ++ [z] := by unfold gett; exact if_neg h
theorem stk_five {t : List Int} {z : Int} (h : 5 ≤ alk t) : stk (t ++ [z]) = stk t := by
  unfold stk; rw [List.foldl_append]
  exact gett_yes (by rw [gett_fst]; exact h)
theorem stk_else {t : List Int} {z : Int} (h : ¬ 5 ≤ alk t) : stk (t ++ [z]) = stk t ++ [z] := by
  unfold stk; rw [List.foldl_append]
  exact gett_no (by rw [gett_fst]; exact h)
theorem stk_step_five {t : List Int} {k : Nat} {z : Int} (hz : t[k]? = some z) (h : 5 ≤ alk (t.take k)) : stk (t.take (k + 1)) = stk (t.take k) := by rw [take_snoc t k z hz, stk_five h]
theorem stk_step_else {t : List Int} {k : Nat} {z : Int} (hz : t[k]? = some z) (h : ¬ 5 ≤ alk (t.take k)) : stk (t.take (k + 1)) = stk (t.take k) ++ [z] := by rw [take_snoc t k z hz, stk_else h]
theorem stk_len : ∀ t : List Int, (stk t).length ≤ t.length := snoc_ind (by decide) fun t z h => by
  rcases Classical.em (5 ≤ alk t) with h5 | h5
  · rw [stk_five h5, List.length_append]; omega
  · rw [stk_else h5, List.length_append, List.length_append]; simp; exact h
theorem stk_more : ∀ (t u : List Int), ∃ r, stk (t ++ u) = stk t ++ r := by
  intro t
  refine snoc_ind ⟨[], by simp⟩ ?_
  intro u z ⟨r, hr⟩
  rw [← List.append_assoc]
  rcases Classical.em (5 ≤ alk (t ++ u)) with h5 | h5
  · exact ⟨r, by rw [stk_five h5, hr]⟩
  · exact ⟨r ++ [z], by rw [stk_else h5, hr, List.append_assoc]⟩

/-- What is stuffed has nowhere six alike, and is taken as it was. -/
theorem stf_back : ∀ l : List Int, okk (stf l) ∧ stk (stf l) = l := by
  refine snoc_ind ⟨okk_nil, rfl⟩ ?_
  intro l z ⟨h1, h2⟩
  have ha := alk_stf l
  have hu := alk_up (stf l) z
  rw [stf_snoc]
  have hn : ¬ 5 ≤ alk (stf l) := by omega
  have ho := okk_snoc h1 (show alk (stf l ++ [z]) ≤ 5 by omega)
  rcases Classical.em (alk (stf l ++ [z]) = 5) with h5 | h5
  · rw [sput_five h5]
    refine ⟨okk_snoc ho ?_, ?_⟩
    · rw [alk_other (by rw [lst_snoc]; exact flip_ne z)]; omega
    · rw [stk_five (by omega), stk_else hn, h2]
  · rw [sput_else h5]
    exact ⟨ho, by rw [stk_else hn, h2]⟩

theorem all_snoc {t : List Int} {z : Int} (h : ∀ y ∈ t ++ [z], lvl y = true) : (∀ y ∈ t, lvl y = true) ∧ lvl z = true := ⟨fun y hy => h y (by simp [hy]), h z (by simp)⟩
theorem lst_lvl : ∀ t : List Int, (∀ y ∈ t, lvl y = true) → lvl (lst t) = true := snoc_ind (fun _ => by decide) fun t z _ h => by rw [lst_snoc]; exact (all_snoc h).2
/-- What is taken is stuffed as it stood. -/
theorem stk_back : ∀ m : List Int, (∀ y ∈ m, lvl y = true) → okk m → stf (stk m) = if alk m = 5 then m ++ [1 - lst m] else m := by
  refine snoc_ind (fun _ _ => rfl) ?_
  intro m z ih hl ho
  obtain ⟨hl1, hl2⟩ := all_snoc hl
  obtain ⟨ho1, ho2⟩ := okk_front ho
  have h := ih hl1 ho1
  have h5 := okk_alk ho1
  rcases Classical.em (alk m = 5) with ha | ha
  · rw [if_pos ha] at h
    have hne : ¬ z = lst m := fun e => by rw [alk_same e] at ho2; omega
    have e : 1 - lst m = z := by
      have a1 := lvl_01 hl2
      have a2 := lvl_01 (lst_lvl m hl1)
      omega
    rw [stk_five (by omega), h, e, if_neg (by rw [alk_other hne]; omega)]
  · rw [if_neg ha] at h
    rw [stk_else (by omega), stf_snoc, h, lst_snoc]
    rfl
theorem stk_stf {m : List Int} (hl : ∀ y ∈ m, lvl y = true) (ho : okk m) (ha : ¬ alk m = 5) : stf (stk m) = m := by rw [stk_back m hl ho, if_neg ha]

/-- No more are added than may be. -/
theorem stf_few : ∀ l : List Int, 4 * ((stf l).length - l.length) + alk (stf l) ≤ l.length ∧ l.length ≤ (stf l).length := by
  refine snoc_ind (by decide) ?_
  intro l z ⟨h1, h2⟩
  have ha := alk_stf l
  have hu := alk_up (stf l) z
  rw [stf_snoc]
  rcases Classical.em (alk (stf l ++ [z]) = 5) with h5 | h5
  · rw [sput_five h5, alk_other (by rw [lst_snoc]; exact flip_ne z)]
    simp only [List.length_append, List.length_singleton]
    omega
  · rw [sput_else h5]
    simp only [List.length_append, List.length_singleton]
    omega
theorem alk_stf_pos {l : List Int} (h : 0 < l.length) : 1 ≤ alk (stf l) := by
  have hp : l ≠ [] := by intro e; subst e; simp at h
  rw [← List.dropLast_concat_getLast hp, stf_snoc]
  unfold sput
  split <;> exact alk_pos _ _
theorem stf_most (l : List Int) : (stf l).length - l.length ≤ (l.length - 1) / 4 := by
  have h := stf_few l
  rcases Nat.eq_zero_or_pos l.length with h0 | h0
  · omega
  · have := alk_stf_pos h0
    omega
theorem stf_len (l : List Int) : l.length ≤ (stf l).length ∧ (stf l).length ≤ 2 * l.length := by
  have h := stf_few l
  omega
theorem stf_lvl : ∀ l : List Int, (∀ y ∈ l, lvl y = true) → ∀ y ∈ stf l, lvl y = true := by
  refine snoc_ind (fun _ y hy => by cases hy) ?_
  intro l z ih hl y hy
  obtain ⟨hl1, hl2⟩ := all_snoc hl
  have hf : lvl (1 - z) = true := by rcases lvl_01 hl2 with rfl | rfl <;> rfl
  rw [stf_snoc] at hy
  unfold sput at hy
  split at hy
  · rcases List.mem_append.1 hy with hy | hy
    · rcases List.mem_append.1 hy with hy | hy
      · exact ih hl1 y hy
      · rw [List.mem_singleton] at hy; rw [hy]; exact hl2
    · rw [List.mem_singleton] at hy; rw [hy]; exact hf
  · rcases List.mem_append.1 hy with hy | hy
    · exact ih hl1 y hy
    · rw [List.mem_singleton] at hy; rw [hy]; exact hl2
/-- A longer row is stuffed as the shorter one ahead, and on. -/
theorem stf_more (a : List Int) : ∀ b : List Int, ∃ r, stf (a ++ b) = stf a ++ r := by
  refine snoc_ind ⟨[], by simp⟩ ?_
  intro u z ⟨r, hr⟩
  rw [← List.append_assoc, stf_snoc]
  unfold sput
  split
  · exact ⟨r ++ [z] ++ [1 - z], by rw [hr]; simp⟩
  · exact ⟨r ++ [z], by rw [hr]; simp⟩

/-- Levels turned. -/
def flp (l : List Int) : List Int := l.map (fun z => 1 - z)
theorem flp_snoc (l : List Int) (z : Int) : flp (l ++ [z]) = flp l ++ [1 - z] := by simp [flp]
theorem alk_flp : ∀ t : List Int, alk (flp t) = alk t ∧ (t ≠ [] → lst (flp t) = 1 - lst t) := by
  refine snoc_ind ⟨rfl, fun h => absurd rfl h⟩ ?_
  intro t z ⟨h1, h2⟩
  rw [flp_snoc]
  refine ⟨?_, fun _ => by rw [lst_snoc, lst_snoc]⟩
  rcases Classical.em (t = []) with he | he
  · subst he
    have e1 : ∀ z : Int, alk ([] ++ [z]) = 1 := fun z => by
      rcases Classical.em (z = lst []) with h | h
      · rw [alk_same h]; rfl
      · rw [alk_other h]
    exact (e1 _).trans (e1 _).symm
  · have hl := h2 he
    rcases Classical.em (z = lst t) with h | h
    · rw [alk_same h, alk_same (by rw [hl, h]), h1]
    · rw [alk_other h, alk_other (by rw [hl]; omega)]
theorem stf_flp : ∀ l : List Int, stf (flp l) = flp (stf l) := by
  refine snoc_ind rfl ?_
  intro l z ih
  rw [flp_snoc, stf_snoc, stf_snoc, ih]
  have e := (alk_flp (stf l ++ [z])).1
  rw [flp_snoc] at e
  unfold sput
  rw [e]
  split
  · rw [flp_snoc, flp_snoc]
  · rw [flp_snoc]
end Go.Proofs.YtalpbnfebcafgaaGreat

/- Plain mathematics: where six are alike first, and what Take tells. -/
namespace Go.Proofs.YtalpbnfebcafgaaGreat
set_option maxRecDepth 20000

theorem take_endr {t : List Int} {k : Nat} {z : Int} (h : t[k]? = some z) : endr (t.take (k + 1)) = tel (endr (t.take k)) z := by rw [take_snoc t k z h, endr_snoc]
/-- Are no six alike at the level k? -/
def noSix (t : List Int) (k : Nat) : Bool := decide (alk (t.take (k + 1)) ≤ 5)
/-- How many levels are ahead of the first one that is like the five ahead of it. -/
def sx (t : List Int) : Nat := led (noSix t) (List.range t.length)
theorem range_some {n k : Nat} (h : k < n) : (List.range n)[k]? = some k := by simp [h]
theorem sx_le (t : List Int) : sx t ≤ t.length := by have := led_le (noSix t) (List.range t.length); rwa [List.length_range] at this
theorem sx_succ {t : List Int} {k : Nat} (h : k ≤ sx t) (hk : k < t.length) (h5 : alk (t.take (k + 1)) ≤ 5) : k + 1 ≤ sx t :=
  led_succ (noSix t) _ k k h (range_some hk) (by unfold noSix; simpa using h5)
theorem sx_stop {t : List Int} {k : Nat} (h : k ≤ sx t) (hk : k < t.length) (h5 : ¬ alk (t.take (k + 1)) ≤ 5) : sx t = k :=
  led_stop (noSix t) _ k k h (range_some hk) (by unfold noSix; simpa using h5)
theorem sx_all {t : List Int} (h : t.length ≤ sx t) : okk t := by
  have ha := led_all (noSix t) (List.range t.length) (by rw [List.length_range]; exact h)
  intro k hk
  rcases k with _ | k
  · simp [alk_nil]
  · have := ha k (by simp; omega)
    unfold noSix at this
    simpa using this
theorem sx_of {t : List Int} (h : okk t) : sx t = t.length := by
  unfold sx
  rw [led_of_all, List.length_range]
  intro k hk
  simp at hk
  unfold noSix
  simpa using h (k + 1) (by omega)

def tkE (t : List Int) : Int := if 0 ≤ chk t then 10 else if sx t < t.length then 17 else if alk t = 5 then 13 else 0
def tkAt (t : List Int) : Int := if 0 ≤ chk t then chk t else if sx t < t.length then sx t else if alk t = 5 then t.length else 0
def tkR (t : List Int) : List Int := if tkE t = 0 then stk t else []
theorem chk_lvl {t : List Int} (h : ∀ z ∈ t, lvl z = true) : ¬ 0 ≤ chk t := by rw [show chk t = -1 from fst_of_all lvl t h]; omega
theorem tk_bad {t : List Int} (h : 0 ≤ chk t) : tkE t = 10 ∧ tkAt t = chk t ∧ tkR t = [] := by
  have e : tkE t = 10 := by unfold tkE; rw [if_pos h]
  exact ⟨e, by unfold tkAt; rw [if_pos h], by unfold tkR; rw [e]; rfl⟩
theorem tk_six {t : List Int} (h : ¬ 0 ≤ chk t) (h6 : sx t < t.length) : tkE t = 17 ∧ tkAt t = sx t ∧ tkR t = [] := by
  have e : tkE t = 17 := by unfold tkE; rw [if_neg h, if_pos h6]
  exact ⟨e, by unfold tkAt; rw [if_neg h, if_pos h6], by unfold tkR; rw [e]; rfl⟩
theorem tk_short {t : List Int} (h : ¬ 0 ≤ chk t) (h6 : ¬ sx t < t.length) (h5 : alk t = 5) : tkE t = 13 ∧ tkAt t = t.length ∧ tkR t = [] := by
  have e : tkE t = 13 := by unfold tkE; rw [if_neg h, if_neg h6, if_pos h5]
  exact ⟨e, by unfold tkAt; rw [if_neg h, if_neg h6, if_pos h5], by unfold tkR; rw [e]; rfl⟩
theorem tk_ok {t : List Int} (h : ¬ 0 ≤ chk t) (h6 : ¬ sx t < t.length) (h5 : ¬ alk t = 5) : tkE t = 0 ∧ tkAt t = 0 ∧ tkR t = stk t := by
  have e : tkE t = 0 := by unfold tkE; rw [if_neg h, if_neg h6, if_neg h5]
  exact ⟨e, by unfold tkAt; rw [if_neg h, if_neg h6, if_neg h5], by unfold tkR; rw [e]; rfl⟩
theorem tkR_len (t : List Int) : (tkR t).length ≤ t.length := by
  unfold tkR; split
  · exact stk_len t
  · exact Nat.zero_le _
theorem tkAt_in (t : List Int) : 0 ≤ tkAt t ∧ tkAt t ≤ t.length := by
  have h1 := sx_le t
  have h2 := fst_range lvl t
  unfold tkAt
  split
  · rename_i h; exact ⟨h, h2.2.1⟩
  · split
    · omega
    · split <;> omega
theorem tkE_in (t : List Int) : tkE t = 0 ∨ tkE t = 10 ∨ tkE t = 13 ∨ tkE t = 17 := by
  unfold tkE
  split
  · exact .inr (.inl rfl)
  · split
    · exact .inr (.inr (.inr rfl))
    · split
      · exact .inr (.inr (.inl rfl))
      · exact .inl rfl
theorem tkR_none {t : List Int} (h : ¬ tkE t = 0) : tkR t = [] := by unfold tkR; rw [if_neg h]
/-- What is stuffed is taken as it was. -/
theorem tk_stf {l : List Int} (h : ∀ z ∈ l, lvl z = true) : tkE (stf l) = 0 ∧ tkAt (stf l) = 0 ∧ tkR (stf l) = l := by
  obtain ⟨h1, h2⟩ := stf_back l
  have ha := alk_stf l
  have := tk_ok (chk_lvl (stf_lvl l h)) (by rw [sx_of h1]; omega) (show ¬ alk (stf l) = 5 by omega)
  rw [h2] at this
  exact this
/-- What is taken is stuffed as it stood, and is levels. -/
theorem stf_tk {m : List Int} (h : tkE m = 0) : stf (tkR m) = m ∧ ∀ z ∈ tkR m, lvl z = true := by
  rcases Int.lt_or_le (chk m) 0 with h0 | h0
  · rcases Nat.lt_or_ge (sx m) m.length with h6 | h6
    · rw [(tk_six (by omega) h6).1] at h; omega
    · rcases Classical.em (alk m = 5) with h5 | h5
      · rw [(tk_short (by omega) (by omega) h5).1] at h; omega
      · rw [(tk_ok (by omega) (by omega) h5).2.2]
        have hl := fst_neg lvl m h0
        have e := stk_stf hl (sx_all h6) h5
        refine ⟨e, ?_⟩
        have : ∀ t : List Int, (∀ z ∈ t, lvl z = true) → ∀ z ∈ stk t, lvl z = true := by
          refine snoc_ind (fun _ z hz => by cases hz) ?_
          intro t z ih ht y hy
          obtain ⟨t1, t2⟩ := all_snoc ht
          rcases Classical.em (5 ≤ alk t) with h | h
          · rw [stk_five h] at hy; exact ih t1 y hy
          · rw [stk_else h] at hy
            rcases List.mem_append.1 hy with hy | hy
            · exact ih t1 y hy
            · rw [List.mem_singleton] at hy; rw [hy]; exact t2
        exact this m hl
  · rw [(tk_bad h0).1] at h; omega
end Go.Proofs.YtalpbnfebcafgaaGreat

/- Plain mathematics of layer 6: how levels on the bus are gone through. -/
namespace Go.Proofs.YtalpbnfebcafgaaGreat
set_option maxRecDepth 20000

/-- The field of the level that comes behind others. -/
def kd (o : List Int) : Nat := (nx (hW o) o.length 0).1
theorem hW_len (o : List Int) : (hW o).length = 9 := rfl
theorem kd_le (o : List Int) : kd o ≤ 9 := by
  unfold kd
  rcases Nat.lt_or_ge o.length (sumW (hW o)) with h | h
  · have := (nx_lt (hW o) o.length 0 h).2; rw [hW_len] at this; omega
  · rw [nx_end _ _ _ h]; simp [hW_len]
theorem kd_lt {o : List Int} (h : kd o < 9) : o.length < sumW (hW o) := by
  rcases Nat.lt_or_ge o.length (sumW (hW o)) with h1 | h1
  · exact h1
  · unfold kd at h; rw [nx_end _ _ _ h1] at h; simp [hW_len] at h
theorem kd_nine {o : List Int} (h : kd o = 9) : sumW (hW o) ≤ o.length := by
  rcases Nat.lt_or_ge o.length (sumW (hW o)) with h1 | h1
  · have := (nx_lt (hW o) o.length 0 h1).2; rw [hW_len] at this; unfold kd at h; omega
  · exact h1
theorem kd_nil : kd [] = 0 := by decide
theorem tup3 {a b c a' b' c' : Value} (h : Value.tuple #[a, b, c] = .tuple #[a', b', c']) : a = a' ∧ b = b' ∧ c = c' := by
  injection h with h
  injection h with h
  injection h with h1 h
  injection h with h2 h
  injection h with h3 h
  exact ⟨h1, h2, h3⟩
/-- With one more, levels are told by the same fields. -/
theorem kd_next {o : List Int} {z : Int} (h : kd o < 9) : o.length + 1 ≤ sumW (hW (o ++ [z])) := by
  have hlt := kd_lt h
  have e := nout_take (zs := o ++ [z]) (k := o.length) (by simp)
  rw [List.take_append_of_le_length (Nat.le_refl _), List.take_length, nout_nx _ _ _ (Nat.le_of_lt hlt)] at e
  rcases Nat.lt_or_ge o.length (sumW (hW (o ++ [z]))) with h1 | h1
  · exact h1
  · exfalso
    rcases Nat.lt_or_ge (sumW (hW (o ++ [z]))) o.length with h2 | h2
    · rw [nout_long _ _ _ h2] at e
      have := (tup3 e).2.2
      injection this with _ this
      omega
    · rw [nout_nx _ _ _ h2, nx_end _ _ _ h1] at e
      have := (tup3 e).1
      injection this with _ this
      unfold kd at h
      simp [hW_len] at this
      omega
theorem nout_kd {o : List Int} {z : Int} (h : kd o < 9) : ∃ p : Nat, nout (hW (o ++ [z])) (o.length + 1) 0 = .tuple #[.int .i64 (kd (o ++ [z]) : Nat), .int .i64 (p : Nat), .int .i64 0] := by
  have := kd_next (z := z) h
  refine ⟨(nx (hW (o ++ [z])) (o.length + 1) 0).2, ?_⟩
  rw [nout_nx _ _ _ this]
  unfold kd
  rw [List.length_append, List.length_singleton]
/-- The field behind a beginning is told by the whole's. -/
theorem kd_take {zs : List Int} {k : Nat} (hz : k ≤ zs.length) (hs : k ≤ sumW (hW zs)) : kd (zs.take k) = (nx (hW zs) k 0).1 := by
  have e := nout_take hz
  have hl : (zs.take k).length = k := by rw [List.length_take]; omega
  rw [nout_nx (hW zs) _ _ hs] at e
  rcases Nat.lt_or_ge (sumW (hW (zs.take k))) k with h2 | h2
  · rw [nout_long _ _ _ h2] at e
    have := (tup3 e).2.2
    injection this with _ this
    omega
  · rw [nout_nx _ _ _ h2] at e
    have := (tup3 e).1
    injection this with _ this
    unfold kd
    rw [hl]
    omega

/-- The sum in levels has come, and is right. -/
def rok (o : List Int) : Bool := !(decide (o.length < hEnd (hEx o) ∨ o.length < ahead o + 15)) && rgt (o.take (ahead o + 15))
/-- What is wrong with a level as the frame's next one. -/
def nrc (z : Int) : Int := if z = 1 then 0 else 11
def wr (o : List Int) (z : Int) : Int :=
  if kd o = 0 then (if z = 0 then 0 else 11)
  else if kd o = 5 then (if rok o then nrc z else 18)
  else if kd o = 7 ∨ kd o = 8 then nrc z else 0
/-- What one number does: an error, all that came, and those that were not added. -/
def stq (t o : List Int) (z : Int) : Int × List Int × List Int :=
  if lvl z = false then (10, t, o)
  else if kd o ≤ 5 ∧ 5 ≤ alk t then (if z = lst t then (17, t, o) else (0, t ++ [z], o))
  else if wr o z ≠ 0 then (wr o z, t, o)
  else (0, t ++ [z], o ++ [z])
/-- Numbers are gone through: an error, the place, the frame's own levels. -/
def dcd : List Int → Nat → List Int → List Int → Int × Nat × List Int
  | [], k, _, o => (13, k, o)
  | z :: l, k, t, o =>
    if (stq t o z).1 ≠ 0 then ((stq t o z).1, k, o)
    else if kd (stq t o z).2.2 = 9 then (0, k + 1, (stq t o z).2.2)
    else dcd l (k + 1) (stq t o z).2.1 (stq t o z).2.2
theorem stq_bad {t o : List Int} {z : Int} (h : lvl z = false) : stq t o z = (10, t, o) := by unfold stq; rw [if_pos h]
theorem stq_six {t o : List Int} {z : Int} (h : lvl z = true) (h1 : kd o ≤ 5) (h2 : 5 ≤ alk t) (h3 : z = lst t) : stq t o z = (17, t, o) := by
  unfold stq; rw [if_neg (by simp [h]), if_pos ⟨h1, h2⟩, if_pos h3]
theorem stq_add {t o : List Int} {z : Int} (h : lvl z = true) (h1 : kd o ≤ 5) (h2 : 5 ≤ alk t) (h3 : ¬ z = lst t) : stq t o z = (0, t ++ [z], o) := by
  unfold stq; rw [if_neg (by simp [h]), if_pos ⟨h1, h2⟩, if_neg h3]
theorem stq_wr {t o : List Int} {z : Int} (h : lvl z = true) (h1 : ¬ (kd o ≤ 5 ∧ 5 ≤ alk t)) (h2 : wr o z ≠ 0) : stq t o z = (wr o z, t, o) := by
  unfold stq; rw [if_neg (by simp [h]), if_neg h1, if_pos h2]
theorem stq_own {t o : List Int} {z : Int} (h : lvl z = true) (h1 : ¬ (kd o ≤ 5 ∧ 5 ≤ alk t)) (h2 : wr o z = 0) : stq t o z = (0, t ++ [z], o ++ [z]) := by
  unfold stq; rw [if_neg (by simp [h]), if_neg h1, if_neg (by simp [h2])]
theorem wr_cases (o : List Int) (z : Int) : wr o z = 0 ∨ wr o z = 11 ∨ wr o z = 18 := by
  unfold wr nrc
  split
  · split <;> simp
  · split
    · split
      · split <;> simp
      · simp
    · split
      · split <;> simp
      · simp
/-- One number, in four cases. -/
theorem stq_cases (t o : List Int) (z : Int) :
    ((stq t o z).1 ≠ 0 ∧ (stq t o z).1 ≠ 13 ∧ (stq t o z).2 = (t, o)) ∨
    (lvl z = true ∧ kd o ≤ 5 ∧ stq t o z = (0, t ++ [z], o)) ∨ (lvl z = true ∧ wr o z = 0 ∧ stq t o z = (0, t ++ [z], o ++ [z])) := by
  cases h : lvl z with
  | false => rw [stq_bad h]; exact .inl ⟨by simp, by simp, rfl⟩
  | true =>
    by_cases h1 : kd o ≤ 5 ∧ 5 ≤ alk t
    · by_cases h3 : z = lst t
      · rw [stq_six h h1.1 h1.2 h3]; exact .inl ⟨by simp, by simp, rfl⟩
      · exact .inr (.inl ⟨rfl, h1.1, stq_add h h1.1 h1.2 h3⟩)
    · by_cases h2 : wr o z = 0
      · exact .inr (.inr ⟨rfl, h2, stq_own h h1 h2⟩)
      · rw [stq_wr h h1 h2]
        refine .inl ⟨h2, ?_, rfl⟩
        rcases wr_cases o z with e | e | e <;> rw [e] <;> simp
theorem dcd_err {z : Int} {l : List Int} {k : Nat} {t o : List Int} (h : (stq t o z).1 ≠ 0) : dcd (z :: l) k t o = ((stq t o z).1, k, o) := by
  rw [dcd, if_pos h]
theorem dcd_end {z : Int} {l : List Int} {k : Nat} {t o t' o' : List Int} (h : stq t o z = (0, t', o')) (h9 : kd o' = 9) : dcd (z :: l) k t o = (0, k + 1, o') := by
  rw [dcd, h, if_neg (by simp), if_pos h9]
theorem dcd_go {z : Int} {l : List Int} {k : Nat} {t o t' o' : List Int} (h : stq t o z = (0, t', o')) (h9 : ¬ kd o' = 9) : dcd (z :: l) k t o = dcd l (k + 1) t' o' := by
  rw [dcd, h, if_neg (by simp), if_neg h9]
/-- Where one is wrong, what is ahead is not; and what is behind a whole one is not asked. -/
theorem dcd_pre : ∀ (l : List Int) (k : Nat) (t o : List Int), ∃ e n p, dcd l k t o = (e, k + n, p) ∧ n ≤ l.length ∧
    (e = 0 → dcd (l.take n) k t o = (0, k + n, p)) ∧ (e ≠ 0 → (e = 13 ↔ n = l.length) ∧ ∃ q, dcd (l.take n) k t o = (13, k + n, q)) := by
  intro l
  induction l with
  | nil => intro k t o; exact ⟨13, 0, o, rfl, Nat.le_refl _, by simp, fun _ => ⟨by simp, o, rfl⟩⟩
  | cons z l ih =>
    intro k t o
    have go : ∀ t' o', stq t o z = (0, t', o') → ∃ e n p, dcd (z :: l) k t o = (e, k + n, p) ∧ n ≤ (z :: l).length ∧
        (e = 0 → dcd ((z :: l).take n) k t o = (0, k + n, p)) ∧ (e ≠ 0 → (e = 13 ↔ n = (z :: l).length) ∧ ∃ q, dcd ((z :: l).take n) k t o = (13, k + n, q)) := by
      intro t' o' hs
      by_cases h9 : kd o' = 9
      · refine ⟨0, 1, o', dcd_end hs h9, by simp, fun _ => ?_, fun h => absurd rfl h⟩
        exact dcd_end hs h9
      · obtain ⟨e, n, p, h1, h2, h3, h4⟩ := ih (k + 1) t' o'
        refine ⟨e, n + 1, p, ?_, by simp; omega, fun he => ?_, fun he => ?_⟩
        · rw [dcd_go hs h9, h1]; simp; omega
        · rw [List.take_succ_cons, dcd_go hs h9, h3 he]; simp; omega
        · obtain ⟨h5, q, h6⟩ := h4 he
          refine ⟨by rw [h5]; simp, q, ?_⟩
          rw [List.take_succ_cons, dcd_go hs h9, h6]; simp; omega
    rcases stq_cases t o z with ⟨h1, h2, h3⟩ | ⟨_, _, hs⟩ | ⟨_, _, hs⟩
    · refine ⟨(stq t o z).1, 0, o, dcd_err h1, by simp, fun h => absurd h h1, fun _ => ⟨⟨fun h => absurd h h2, fun h => by simp at h⟩, o, rfl⟩⟩
    · exact go _ _ hs
    · exact go _ _ hs
/-- What a whole frame's own levels are like. -/
structure Whole (o : List Int) (n : Nat) : Prop where
  len : o.length = sumW (hW o)
  lev : ∀ z ∈ o, lvl z = true
  zero : one o 0 = false
  le : o.length ≤ n
theorem one_snoc {o : List Int} {z : Int} (h : one o 0 = false) (h0 : o = [] → z = 0) : one (o ++ [z]) 0 = false := by
  cases o with
  | nil => rw [h0 rfl]; rfl
  | cons a o => exact h
theorem all_push {o : List Int} {z : Int} (h : ∀ y ∈ o, lvl y = true) (hz : lvl z = true) : ∀ y ∈ o ++ [z], lvl y = true := all_append h (by intro y hy; simp at hy; subst hy; exact hz)
theorem wr_first {z : Int} (h : wr [] z = 0) : z = 0 := by
  unfold wr at h
  rw [if_pos kd_nil] at h
  by_cases e : z = 0
  · exact e
  · rw [if_neg e] at h; simp at h
theorem dcd_whole : ∀ (l : List Int) (k : Nat) (t o : List Int) (n : Nat) (p : List Int), dcd l k t o = (0, n, p) → kd o < 9 → (∀ z ∈ o, lvl z = true) → one o 0 = false → o.length ≤ k → Whole p n := by
  intro l
  induction l with
  | nil => intro k t o n p h; simp [dcd] at h
  | cons z l ih =>
    intro k t o n p h hk hl h0 hle
    rcases stq_cases t o z with ⟨h1, h2, h3⟩ | ⟨_, h5, hs⟩ | ⟨hz, hw, hs⟩
    · rw [dcd_err h1] at h
      injection h with h _
      exact absurd h h1
    · rw [dcd_go hs (by omega)] at h
      exact ih _ _ _ _ _ h hk hl h0 (by omega)
    · have ha := all_push hl hz
      have ho := one_snoc h0 (z := z) (fun e => by subst e; exact wr_first hw)
      by_cases h9 : kd (o ++ [z]) = 9
      · rw [dcd_end hs h9] at h
        injection h with _ h
        injection h with h1 h2
        subst h1 h2
        have := kd_next (z := z) hk
        have := kd_nine h9
        refine ⟨by simp at this ⊢; omega, ha, ho, by simp; omega⟩
      · rw [dcd_go hs h9] at h
        have := kd_le (o ++ [z])
        exact ih _ _ _ _ _ h (by omega) ha ho (by simp; omega)
theorem sumW_hW (o : List Int) : sumW (hW o) = ahead o + 25 := by
  unfold hW wds ahead
  simp only [sumW]
  have := hEnd_eq (hEx o)
  omega
theorem whole_fout {o : List Int} {n : Nat} (h : Whole o n) : fout o = .tuple #[(frm o).val, .int .i64 0] := by
  have h1 := h.len
  rw [sumW_hW] at h1
  unfold fout
  rw [if_neg, h.zero]
  · rfl
  · have : hEnd (hEx o) ≤ ahead o := by unfold ahead; omega
    omega

/-- The errno, the place and the frame that Decode answers. -/
def dE (zs : List Int) : Int := (dcd zs 0 [] []).1
def dN (zs : List Int) : Nat := (dcd zs 0 [] []).2.1
def dO (zs : List Int) : List Int := (dcd zs 0 [] []).2.2
def dF (zs : List Int) : Fr := if dE zs = 0 then frm (dO zs) else Fr.zero
theorem dcd_parts (zs : List Int) : dcd zs 0 [] [] = (dE zs, dN zs, dO zs) := rfl
theorem d_whole {zs : List Int} (h : dE zs = 0) : Whole (dO zs) (dN zs) := by
  have e := dcd_parts zs
  rw [h] at e
  exact dcd_whole _ _ _ _ _ _ e (by rw [kd_nil]; omega) (by simp) rfl (by simp)
end Go.Proofs.YtalpbnfebcafgaaGreat

/- The contracts of stuff's helpers: the closure that levels are told to, what makes it, other, Most. -/
namespace Go.Proofs.YtalpbnfebcafgaaGreat
set_option maxRecDepth 20000
open Go.RowKit

theorem Arr.off {k : IntKind} {t : TypeId} {w : World} {g : Nat} {zs : List Int} (h : Arr k t w g zs) {g' i : Nat} (hne : g' ≠ g) (v : Value) : Arr k t (w.setCell ⟨g', i, none⟩ v) g zs := by
  unfold Arr at h ⊢
  simp [World.setCell, Array.getElem?_modify, hne, h]
/-- The two variables that the closure keeps: the last level, and how many alike. -/
def Two (w : World) (g : Nat) (s : Int × Nat) : Prop := Arr .i64 3 w g [s.1] ∧ Arr .i64 3 w (g + 1) [(s.2 : Int)]
theorem below_at (g g' : Nat) (w : World) (v : Value) (h : g ≤ g') : Below g w (w.setCell ⟨g', 0, none⟩ v) := (Below.refl g w).setCell (p := ⟨g', 0, none⟩) h v

/-- All but the two blocks from g on are as they were. -/
structure Still2 (g : Nat) (w w' : World) : Prop where
  bel : Below g w w'
  size : w'.heap.size = w.heap.size
  block : ∀ b, b ≠ g → b ≠ g + 1 → w'.heap[b]? = w.heap[b]?
theorem Still2.put (g g' : Nat) (w : World) (v : Value) (h : g' = g ∨ g' = g + 1) : Still2 g w (w.setCell ⟨g', 0, none⟩ v) :=
  ⟨below_at g g' w v (by omega), by simp [World.setCell], fun b h1 h2 => by simp [World.setCell, Array.getElem?_modify]; intro e; omega⟩
theorem Still2.trans {g : Nat} {a b c : World} (h : Still2 g a b) (k : Still2 g b c) : Still2 g a c :=
  ⟨h.bel.trans k.bel, k.size.trans h.size, fun i h1 h2 => (k.block i h1 h2).trans (h.block i h1 h2)⟩
/-- The row v lies apart from the two blocks from g on. -/
def Apart (v : Value) (g : Nat) : Prop := v.ownBlock ≠ some g ∧ v.ownBlock ≠ some (g + 1)
theorem Own.still {w w' : World} {base g : Nat} {v : Value} {zs : List Int} (h : Own w base v zs) (hs : Still2 g w w') (ha : Apart v g) : Own w' base v zs := by
  refine ⟨h.1, ?_⟩
  rcases h.2 with hn | ⟨g', cap, cur, rfl, hbg, hgg, rest⟩
  · exact .inl hn
  · refine .inr ⟨g', cap, cur, rfl, hbg, (hs.block g' ?_ ?_).trans hgg, rest⟩
    · intro e; exact ha.1 (by rw [e]; rfl)
    · intro e; exact ha.2 (by rw [e]; rfl)
theorem Two.lt {w : World} {g : Nat} {s : Int × Nat} (h : Two w g s) : g + 1 < w.heap.size := h.2.lt
theorem Two.pushed {w w' : World} {g : Nat} {s : Int × Nat} {v : Value} {o : Obj} (h : Two w g s) (hg : (w.alloc o).grownBy w' v.ownBlock) (ha : Apart v g) : Two w' g s := by
  have hlt := h.lt
  have hs : (w.alloc o).heap.size = w.heap.size + 1 := by simp
  refine ⟨?_, ?_⟩
  · exact ((hg.block g (by omega) (fun e => ha.1 e.symm)).trans (heap_alloc_old w o (r := g) (by omega))).trans h.1
  · exact ((hg.block (g + 1) (by omega) (fun e => ha.2 e.symm)).trans (heap_alloc_old w o (r := g + 1) (by omega))).trans h.2
theorem Apart.lies {w : World} {g : Nat} {s : Int × Nat} {v v' : Value} {o : Obj} (h : Apart v g) (hl : Lies (w.alloc o) v v') (ht : Two w g s) : Apart v' g := by
  have hlt := ht.lt
  have hs : (w.alloc o).heap.size = w.heap.size + 1 := by simp
  rcases hl with e | e
  · unfold Apart; rw [e]; exact h
  · unfold Apart; rw [e, hs]
    exact ⟨by intro e; injection e with e; omega, by intro e; injection e with e; omega⟩

set_option maxHeartbeats 400000 in
theorem tell_any (s : Int × Nat) (z : Int) (g : Nat) (w : World) (hs : s.2 ≤ 100000) (ht : Two w g s) :
    Calls Tryz.prog 75 #[.int .i64 z, .pointer (some ⟨g, 0, none⟩), .pointer (some ⟨g + 1, 0, none⟩)] w fun e w' => e = .returned (.int .i64 (((tel s z).2 : Nat) : Int)) ∧ Two w' g (tel s z) ∧ Still2 g w w' := by
  obtain ⟨l, a⟩ := s
  obtain ⟨h1, h2⟩ := ht
  dsimp only at hs h1 h2
  have c1 := h1.cell (i := 0) (by simp)
  have c2 := h2.cell (i := 0) (by simp)
  have f1 := h1.frozen 0
  have f2 := h2.frozen 0
  have H1 := Lib.hid h1
  have H2 := Lib.hid h2
  have hne : g ≠ g + 1 := by omega
  have hne2 : g + 1 ≠ g := by omega
  clear h1 h2
  by_cases h : z = l
  · have ez : tel (l, a) z = (l, a + 1) := by unfold tel; rw [if_pos h]
    have hb : (z != l) = false := by simp [h]
    have HE := Lib.hid ez
    rw [ez]
    clear ez h
    go_enter Tryz.func75, Tryz.ntmps75
    go_wp2
    go_ret
    refine ⟨ret_int (by push_cast; rfl), ⟨H1.out.off hne2 _, ?_⟩, Still2.put _ _ _ _ (by omega)⟩
    have := H2.out.put 0 ((a : Int) + 1)
    exact this
  · have ez : tel (l, a) z = (z, 1) := by unfold tel; rw [if_neg h]
    have hb : (z != l) = true := by simpa using h
    have HE := Lib.hid ez
    rw [ez]
    clear ez h
    have c3 := (((H2.out.off (i := 0) hne (.int .i64 z)).put 0 0).put 0 1).cell (i := 0) (by simp)
    go_enter Tryz.func75, Tryz.ntmps75
    go_wp2
    go_ret
    refine ⟨rfl, ⟨?_, ?_⟩, ?_⟩
    · exact ((H1.out.put 0 z).off hne2 _).off hne2 _
    · exact ((H2.out.off hne _).put 0 0).put 0 1
    · exact ((Still2.put g g w _ (.inl rfl)).trans (Still2.put g (g + 1) _ _ (.inr rfl))).trans (Still2.put g (g + 1) _ _ (.inr rfl))

theorem two_new (w : World) : Two ((w.alloc (.cells #[.int .i64 0] 3)).alloc (.cells #[.int .i64 0] 3)) w.heap.size (0, 0) := by
  refine ⟨?_, ?_⟩
  · have h := Arr.new w .i64 3 [0]
    exact h.below ((Below.refl (w.heap.size + 1) _).alloc (by simp) _) (Nat.lt_succ_self _)
  · have h := Arr.new (w.alloc (.cells #[.int .i64 0] 3)) .i64 3 [0]
    rwa [show (w.alloc (.cells #[.int .i64 0] 3)).heap.size = w.heap.size + 1 by simp] at h

theorem teller_any (w : World) :
    Calls Tryz.prog 62 #[] w fun e w' => e = .returned (.func (.func 75) #[] #[.pointer (some ⟨w.heap.size, 0, none⟩), .pointer (some ⟨w.heap.size + 1, 0, none⟩)]) ∧ Two w' w.heap.size (0, 0) ∧ Below w.heap.size w w' := by
  have hmf : ∀ (fn : Fn) (first cap : Array Value) (w : World), (Instr.makeFunc fn first cap).run Tryz.prog w = .ok (.func fn first cap) w := fun _ _ _ _ => rfl
  go_enter Tryz.func62, Tryz.ntmps62
  go_wp2
  go_ret
  exact ⟨rfl, two_new w, ((Below.refl _ _).alloc (Nat.le_refl _) _).alloc (by simp) _⟩

theorem other_any (z : Int) (w : World) (hz : z = 0 ∨ z = 1) :
    Calls Tryz.prog 63 #[.int .i64 z] w fun e w' => e = .returned (.int .i64 (1 - z)) ∧ w = w' := by
  rcases hz with rfl | rfl
  · go_enter Tryz.func63, Tryz.ntmps63
    go_wp2
    go_ret
    exact ⟨rfl, rfl⟩
  · go_enter Tryz.func63, Tryz.ntmps63
    go_wp2
    go_ret
    exact ⟨rfl, rfl⟩

theorem most_ok (n : Nat) (w : World) (hn : n ≤ 9223372036854775807) :
    Calls Tryz.prog 61 #[.int .i64 n] w fun e w' => e = .returned (.tuple #[.int .i64 (((n - 1) / 4 : Nat) : Int), .int .i64 0]) ∧ w = w' := by
  rcases n with _ | m
  · go_enter Tryz.func61, Tryz.ntmps61
    go_wp2
    go_ret2
    exact ⟨rfl, rfl⟩
  · rw [show ((m + 1 : Nat) : Int) = (m : Int) + 1 from by omega]
    go_enter Tryz.func61, Tryz.ntmps61
    go_wp2
    go_ret2
    exact ⟨rfl, rfl⟩
theorem most_bad (n : Int) (w : World) (hn : n < 0) :
    Calls Tryz.prog 61 #[.int .i64 n] w fun e w' => e = .returned (.tuple #[.int .i64 0, .int .i64 10]) ∧ w = w' := by
  go_enter Tryz.func61, Tryz.ntmps61
  go_wp2
  go_ret2
  exact ⟨rfl, rfl⟩

/-- make with room, and nothing in it. -/
theorem make0 (n m : Nat) (hn : n + m ≤ 100000) (w : World) : (Instr.makeSlice 23 (.int .i64 0) (.int .i64 ((n : Int) + (m : Int)))).run Tryz.prog w =
    .ok (.slice (some ⟨w.heap.size, 0, none⟩) 0 (n + m)) (w.alloc (.cells (Array.replicate (n + m) (Value.int .i64 0)) 3)) := by
  obtain ⟨i, hi, hz, hs, hb⟩ := info3
  have hr := run_make (P := Tryz.prog) w 23 3 i _ Tryz.underlying23 hi hz .i64 .i64 0 ((n : Int) + (m : Int)) (by omega) (by omega) (by rw [hb]; omega) (by omega)
  have et : ((n : Int) + (m : Int)).toNat = n + m := by omega
  have e : madeCells (Value.int .i64 0).cells ((n + m) * i.size) = (Array.replicate (n + m) (Value.int .i64 0)) := by
    rw [hs, Nat.mul_one]
    apply Array.toList_inj.1
    show (madeCells #[Value.int .i64 0] (n + m)).toList = _
    rw [toList_madeCells_one]; simp
  rw [hr, et, e]; rfl
theorem make1 (n : Nat) (hn : n ≤ 100000) (w : World) : (Instr.makeSlice 23 (.int .i64 0) (.int .i64 (n : Int))).run Tryz.prog w =
    .ok (.slice (some ⟨w.heap.size, 0, none⟩) 0 n) (w.alloc (.cells (Array.replicate n (Value.int .i64 0)) 3)) := make0 n 0 (by omega) w
theorem Own.room (w : World) (base m : Nat) (hb : base ≤ w.heap.size) (hl : m ≤ 100000) :
    Own (w.alloc (.cells (Array.replicate m (Value.int .i64 0)) 3)) base (.slice (some ⟨w.heap.size, 0, none⟩) 0 m) [] := by
  refine ⟨by simp, .inr ⟨w.heap.size, m, _, rfl, hb, heap_alloc_new w _, Nat.zero_le _, by unfold maxLen; omega, by simp, by simp⟩⟩
/-- An answer that is a row of its own, as long as its room at most. -/
def SlIn (zs : List Int) (w : World) (e : Ending) (w' : World) : Prop := ∃ A cap, e = .returned (.slice A zs.length cap) ∧ Il w' A zs.length zs ∧ zs.length ≤ cap ∧ Below w.heap.size w w'
end Go.Proofs.YtalpbnfebcafgaaGreat

/- The contract of stuff.Add. -/
namespace Go.Proofs.YtalpbnfebcafgaaGreat
set_option maxRecDepth 20000
open Go.RowKit

set_option maxHeartbeats 400000 in
theorem add_bad (A : Option Addr) (n cap : Nat) (zs : List Int) (w : World) (hr : Il w A n zs) (hn : n ≤ 10000) (hl : 0 ≤ chk zs) :
    Calls Tryz.prog 42 #[.slice A n cap] w fun e w' => e = .returned (.slice none 0 0) ∧ w = w' := by
  go_enter Tryz.func42, Tryz.ntmps42
  go_wp2_with (go_at_call 60; (with_reducible refine (check_any _ _ _ _ _ hr (by omega)).mono ?_); rintro e w' ⟨rfl, rfl⟩)
  go_ret
  exact ⟨rfl, rfl⟩

set_option maxHeartbeats 800000 in
theorem add_own (A : Option Addr) (n cap : Nat) (zs : List Int) (w : World) (hr : Il w A n zs) (hn : n ≤ 10000) (hl : ∀ z ∈ zs, lvl z = true) :
    Calls Tryz.prog 42 #[.slice A n cap] w fun e w' => ∃ v, e = .returned v ∧ Own w' w.heap.size v (stf zs) ∧ Below w.heap.size w w' := by
  have HL := Lib.hid (show chk zs = -1 from fst_of_all lvl zs hl)
  have HV := Lib.hid hl
  have HR := Lib.hid hr
  obtain ⟨m, hm, hmn⟩ : ∃ m, (n - 1) / 4 = m ∧ m ≤ n := ⟨_, rfl, by omega⟩
  have HM := Lib.hid hm
  have hmk := make0 n m (by omega)
  clear hl hr hm
  go_enter Tryz.func42, Tryz.ntmps42
  go_wp2_with fail
  refine (check_any _ _ _ _ _ HR.out (by omega)).mono ?_
  rintro e w' ⟨rfl, rfl⟩
  rw [HL.out]
  go_wp2_with fail
  refine (most_ok n _ (by omega)).mono ?_
  rintro e w' ⟨rfl, rfl⟩
  rw [HM.out]
  go_wp2_with fail
  have HO := Lib.hid (Own.room w w.heap.size (n + m) (Nat.le_refl _) (by omega))
  have HB := Lib.hid ((Below.refl w.heap.size w).alloc (Nat.le_refl _) (.cells (Array.replicate (n + m) (Value.int .i64 0)) 3))
  have HS := Lib.hid (show (w.alloc (.cells (Array.replicate (n + m) (Value.int .i64 0)) 3)).heap.size = w.heap.size + 1 by simp)
  generalize w.alloc (.cells (Array.replicate (n + m) (Value.int .i64 0)) 3) = w1 at *
  refine (teller_any _).mono ?_
  rintro e w2 ⟨rfl, ht, hb2⟩
  have HT := Lib.hid ht
  have HO2 := Lib.hid (HO.out.below hb2)
  have HB2 := Lib.hid (nxt HB.out hb2)
  rw [HS.out] at HT ⊢
  clear ht hb2 hmk HO HB HS
  have HA := Lib.hid (show Apart (.slice (some ⟨w.heap.size, 0, none⟩) 0 (n + m)) (w.heap.size + 1) from ⟨by simp [Value.ownBlock], by simp [Value.ownBlock]; omega⟩)
  go_wp2
  go_loopw [5, 26] (fun v i wr => ∃ k : Nat, k ≤ n ∧ i = .int .i64 k ∧ Own wr w.heap.size v (stf (zs.take k)) ∧ Two wr (w.heap.size + 1) (endr (stf (zs.take k))) ∧ Apart v (w.heap.size + 1) ∧ Below w.heap.size w wr) (fun _ i _ => n - (intOf i).toNat)
  case atStart => exact ⟨0, Nat.zero_le _, rfl, HO2.out, HT.out, HA.out, HB2.out⟩
  case round =>
    obtain ⟨k, hk, rfl, ho, ht, ha, hbel⟩ := hrel
    by_cases hlt : k < n
    · obtain ⟨ad, z, rfl, hz, hc⟩ := (HR.out.below hbel).at_ hlt
      have HZ := Lib.hid (lvl_01 (HV.out z (List.mem_of_getElem? hz)))
      have HS := Lib.hid (stf_step hz)
      have hol : (stf (zs.take k)).length ≤ 2 * k := by have := (stf_len (zs.take k)).2; rw [List.length_take] at this; omega
      have HAK := Lib.hid (alk_stf (zs.take k))
      have hsz := hbel.size
      have HO := Lib.hid ho; have HT := Lib.hid ht; have HA := Lib.hid ha
      clear hz ho ht ha HO2 HB2
      generalize stf (zs.take k) = o at *
      go_wp2_with (first | (at_builtin; (refine append_ints2 _ rfl (.tmp 30) (.tmp 32) rfl w.heap.size u5 o rfl (HO.out.alloc _) _ 1 1 [z] rfl (Arr.new wr .i64 3 [z]).il (by omega) (by simp; omega) ?_); intro v1 w1 ho1 hg1 hl1) | fail)
      have HO1 := Lib.hid ho1
      have HT1 := Lib.hid (HT.out.pushed hg1 HA.out)
      have HA1 := Lib.hid (HA.out.lies hl1 HT.out)
      have HB1 := Lib.hid (push_lit hbel hsz HO.out hg1)
      clear ho1 hg1 hl1 HO HT HA
      have HAU := Lib.hid (alk_up o z)
      refine (tell_any (endr o) z _ _ (by show alk o ≤ 100000; have := HAK.out; omega) HT1.out).mono ?_
      rintro e w3 ⟨rfl, ht3, hs3⟩
      rw [← endr_snoc] at ht3 ⊢
      have HT3 := Lib.hid ht3
      have HO3 := Lib.hid (HO1.out.still hs3 HA1.out)
      have HB3 := Lib.hid (HB1.out.trans (hs3.bel.mono (Nat.le_succ _)))
      clear ht3 hs3 HO1 HT1 HB1
      by_cases h5 : alk (o ++ [z]) = 5
      · have HS5 := Lib.hid (sput_five h5)
        rw [show (endr (o ++ [z])).2 = 5 from h5]
        have hsz3 := HB3.out.size
        clear h5
        go_wp2_with fail
        refine (other_any z _ HZ.out).mono ?_
        rintro e w4 ⟨rfl, rfl⟩
        go_wp2_with (first | (at_builtin; (refine append_ints2 _ rfl (.tmp 38) (.tmp 41) rfl w.heap.size v1 (o ++ [z]) rfl (HO3.out.alloc _) _ 1 1 [1 - z] rfl (Arr.new w3 .i64 3 [1 - z]).il (by simp; omega) (by simp; omega) ?_); intro v4 w4 ho4 hg4 hl4) | fail)
        have HO4 := Lib.hid ho4
        have HT4 := Lib.hid (HT3.out.pushed hg4 HA1.out)
        have HA4 := Lib.hid (HA1.out.lies hl4 HT3.out)
        have HB4 := Lib.hid (push_lit HB3.out hsz3 HO3.out hg4)
        clear ho4 hg4 hl4 HO3 HT3
        refine (other_any z _ HZ.out).mono ?_
        rintro e w5 ⟨rfl, rfl⟩
        go_wp2_with fail
        refine (tell_any (endr (o ++ [z])) (1 - z) _ _ (by show alk (o ++ [z]) ≤ 100000; have := HAK.out; have := HAU.out; omega) HT4.out).mono ?_
        rintro e w6 ⟨rfl, ht6, hs6⟩
        rw [← endr_snoc] at ht6 ⊢
        have HT6 := Lib.hid ht6
        have HO6 := Lib.hid (HO4.out.still hs6 HA4.out)
        have HB6 := Lib.hid (HB4.out.trans (hs6.bel.mono (Nat.le_succ _)))
        clear ht6 hs6
        go_wp2
        go_roundw
        case rel => exact ⟨k + 1, by omega, by go_num, by rw [HS.out, HS5.out]; exact HO6.out, by rw [HS.out, HS5.out]; exact HT6.out, HA4.out, HB6.out⟩
        case measure => simp [intOf]; omega
      · have HS5 := Lib.hid (sput_else h5)
        have hq : ((((endr (o ++ [z])).2 : Nat) : Int) == 5) = false := by
          have : ¬ (endr (o ++ [z])).2 = 5 := h5
          simp; omega
        generalize hx : (((endr (o ++ [z])).2 : Nat) : Int) = x at *
        clear h5 hx
        go_wp2
        go_roundw
        case rel => exact ⟨k + 1, by omega, by go_num, by rw [HS.out, HS5.out]; exact HO3.out, by rw [HS.out, HS5.out]; exact HT3.out, HA1.out, HB3.out⟩
        case measure => simp [intOf]; omega
    · have HS := Lib.hid (show zs.take k = zs from List.take_of_length_le (by rw [HR.out.1]; omega))
      rw [HS.out] at ho
      go_wp2
      go_ret
      exact ⟨_, rfl, ho, hbel⟩
theorem add_ok (A : Option Addr) (n cap : Nat) (zs : List Int) (w : World) (hr : Il w A n zs) (hn : n ≤ 10000) (hl : ∀ z ∈ zs, lvl z = true) :
    Calls Tryz.prog 42 #[.slice A n cap] w (SlIn (stf zs) w) := by
  refine (add_own A n cap zs w hr hn hl).mono ?_
  rintro e w' ⟨v, rfl, ho, hb⟩
  obtain ⟨A', cap', rfl, hil, hcap⟩ := ho.il2
  exact ⟨A', cap', rfl, hil, hcap, hb⟩
end Go.Proofs.YtalpbnfebcafgaaGreat

/- The contract of stuff.Take. -/
namespace Go.Proofs.YtalpbnfebcafgaaGreat
set_option maxRecDepth 20000
open Go.RowKit

/-- What Take answers. -/
def TkOut (zs : List Int) (w : World) (e : Ending) (w' : World) : Prop :=
  ∃ A cap, e = .returned (.tuple #[.slice A (tkR zs).length cap, .int .i64 (tkAt zs), .int .i64 (tkE zs)]) ∧ Il w' A (tkR zs).length (tkR zs) ∧ (tkR zs).length ≤ cap ∧ Below w.heap.size w w'
theorem TkOut.nil {zs : List Int} {w w' : World} {at_ er : Int} (h : tkE zs = er ∧ tkAt zs = at_ ∧ tkR zs = []) (hb : Below w.heap.size w w') : TkOut zs w (.returned (.tuple #[.slice none 0 0, .int .i64 at_, .int .i64 er])) w' := by
  obtain ⟨h1, h2, h3⟩ := h
  refine ⟨none, 0, ?_, ?_, ?_, hb⟩
  · rw [h1, h2, h3]; rfl
  · rw [h3]; exact ⟨rfl, fun h => by simp at h⟩
  · rw [h3]; exact Nat.le_refl _

end Go.Proofs.YtalpbnfebcafgaaGreat

/- The contracts of the reference's Runs, of bits.Runs and bits.Longest. -/
namespace Go.Proofs.YtalpbnfebcafgaaGreat
set_option maxRecDepth 20000
open Go.RowKit

theorem rcut_at {zs rs : List Int} {i f : Nat} {x y : Int} (h1 : 1 ≤ i) (h : stt zs (i - 1) = (rs, f)) (hx : zs[i]? = some x) (hy : zs[f]? = some y) (he : (x != y) = true) : stt zs i = (rs ++ [(i : Int) - (f : Int)], i) := by
  have := stt_cut h (by rw [show i - 1 + 1 = i by omega]; simp only [List.getD, hx, hy]; simpa using he)
  rwa [show i - 1 + 1 = i by omega] at this
theorem stay_at {zs rs : List Int} {i f : Nat} {x y : Int} (h1 : 1 ≤ i) (h : stt zs (i - 1) = (rs, f)) (hi : i < zs.length) (hx : zs[i]? = some x) (hy : zs[f]? = some y) (he : (x != y) = false) : stt zs i = (rs, f) := by
  have := stt_stay h (by omega) (by rw [show i - 1 + 1 = i by omega]; simp only [List.getD, hx, hy]; simpa using he)
  rwa [show i - 1 + 1 = i by omega] at this
theorem last_at {zs rs : List Int} {i f : Nat} (h1 : 1 ≤ i) (h : stt zs (i - 1) = (rs, f)) (hi : i = zs.length) : stt zs i = (rs ++ [(i : Int) - (f : Int)], i) := by
  have := stt_last h (by omega)
  rwa [show i - 1 + 1 = i by omega] at this
theorem from_le {zs rs : List Int} {i f : Nat} (h : stt zs i = (rs, f)) (hi : i < zs.length) : f ≤ i := by
  have := (stt_inv zs i hi).1; rw [h] at this; exact this
theorem runs_small (zs : List Int) (i : Nat) (h : i < zs.length) : (stt zs i).1.length ≤ i := by
  induction i with
  | zero => simp [stt]
  | succ i ih =>
    have := ih (by omega)
    simp only [stt, rstp]
    split <;> simp <;> omega

end Go.Proofs.YtalpbnfebcafgaaGreat

/- The contracts of bits.Runs and bits.Longest. -/
namespace Go.Proofs.YtalpbnfebcafgaaGreat
set_option maxRecDepth 20000
open Go.RowKit

/-- Within a run that began at f: m of it are alike. -/
def Within (zs rs : List Int) (f m : Nat) : Prop := m = 0 ∨ stt zs (f + m - 1) = (rs, f)
theorem Within.stay {zs rs : List Int} {f m : Nat} {x y : Int} (h : Within zs rs f m) (h0 : stt zs f = (rs, f)) (hl : f + m < zs.length) (hx : zs[f + m]? = some x) (hy : zs[f]? = some y) (he : (x != y) = false) : Within zs rs f (m + 1) := by
  rcases Nat.eq_zero_or_pos m with rfl | hm
  · exact .inr h0
  · rcases h with h | h
    · omega
    · exact .inr (stay_at (i := f + m) (by omega) h hl hx hy he)
theorem Within.cut {zs rs : List Int} {f m : Nat} {x y : Int} (h : Within zs rs f m) (hx : zs[f + m]? = some x) (hy : zs[f]? = some y) (he : (x != y) = true) : 1 ≤ m ∧ stt zs (f + m) = (rs ++ [(m : Int)], f + m) := by
  rcases Nat.eq_zero_or_pos m with rfl | hm
  · rw [Nat.add_zero, hy] at hx; injection hx with hx; subst hx; simp at he
  · rcases h with h | h
    · omega
    · refine ⟨hm, ?_⟩
      have := rcut_at (i := f + m) (by omega) h hx hy he
      rw [this]; congr 3; omega
theorem Within.last {zs rs : List Int} {f m : Nat} (h : Within zs rs f m) (hm : 1 ≤ m) (he : f + m = zs.length) : stt zs (f + m) = (rs ++ [(m : Int)], f + m) := by
  rcases h with h | h
  · omega
  · rw [last_at (i := f + m) (by omega) h he]; congr 3; omega

end Go.Proofs.YtalpbnfebcafgaaGreat

/- The contract of bits.Longest. -/
namespace Go.Proofs.YtalpbnfebcafgaaGreat
set_option maxRecDepth 20000
open Go.RowKit

theorem most_step (rs : List Int) (k : Nat) (z : Int) (h : rs[k]? = some z) : most (rs.take (k + 1)) = max (most (rs.take k)) z := by
  rw [List.take_add_one, h]; exact most_snoc _ _
theorem runs_len (zs : List Int) : (runs zs).length ≤ zs.length := by
  rw [runs_cnt]
  suffices h : ∀ (l : List Int) (p : Option Int), rcnt p l ≤ l.length from h zs none
  intro l
  induction l with
  | nil => intro p; simp [rcnt]
  | cons x l ih => intro p; have := ih (some x); simp only [rcnt, List.length_cons]; split <;> omega

end Go.Proofs.YtalpbnfebcafgaaGreat

/- The contracts of stuff.Count and stuff.Next. -/
namespace Go.Proofs.YtalpbnfebcafgaaGreat
set_option maxRecDepth 20000
open Go.RowKit

/-- What Next tells. -/
def nxs (t : List Int) : Bool := decide (chk t < 0 ∧ 5 ≤ alk t)
def nxl (t : List Int) : Int := if nxs t then 1 - lst t else 0
theorem nxs_bad {t : List Int} (h : 0 ≤ chk t) : nxs t = false ∧ nxl t = 0 := by
  have e : nxs t = false := by unfold nxs; simp; omega
  exact ⟨e, by unfold nxl; rw [e]; rfl⟩
theorem nxs_few {t : List Int} (h : alk t < 5) : nxs t = false ∧ nxl t = 0 := by
  have e : nxs t = false := by unfold nxs; simp; omega
  exact ⟨e, by unfold nxl; rw [e]; rfl⟩
theorem nxs_yes {t : List Int} (h : chk t < 0) (h5 : 5 ≤ alk t) : nxs t = true ∧ nxl t = 1 - lst t := by
  have e : nxs t = true := by unfold nxs; simp; omega
  exact ⟨e, by unfold nxl; rw [e]; rfl⟩
theorem five_runs (a b c d e : Int) (ha : a = 0 ∨ a = 1) (hb : b = 0 ∨ b = 1) (hc : c = 0 ∨ c = 1) (hd : d = 0 ∨ d = 1) (he : e = 0 ∨ e = 1) :
    (b = a ∧ c = a ∧ d = a ∧ e = a ∧ most (runs [a, b, c, d, e]) = 5) ∨ (¬ (b = a ∧ c = a ∧ d = a ∧ e = a) ∧ most (runs [a, b, c, d, e]) < 5) := by
  rcases ha with rfl | rfl <;> rcases hb with rfl | rfl <;> rcases hc with rfl | rfl <;> rcases hd with rfl | rfl <;> rcases he with rfl | rfl <;> decide
theorem drop_five {t : List Int} (h : 5 ≤ t.length) : t.drop (t.length - 5) = [t.getD (t.length - 5) 0, t.getD (t.length - 4) 0, t.getD (t.length - 3) 0, t.getD (t.length - 2) 0, t.getD (t.length - 1) 0] := by
  apply List.ext_getElem
  · simp; omega
  · intro i h1 h2
    simp at h2
    rw [List.getElem_drop]
    match i, h2 with
    | 0, _ => simp [List.getD, show t.length - 5 < t.length by omega]
    | 1, _ => simp [List.getD, show t.length - 4 < t.length by omega]; congr 1; omega
    | 2, _ => simp [List.getD, show t.length - 3 < t.length by omega]; congr 1; omega
    | 3, _ => simp [List.getD, show t.length - 2 < t.length by omega]; congr 1; omega
    | 4, _ => simp [List.getD, show t.length - 1 < t.length by omega]; congr 1; omega
theorem getD_lvl {t : List Int} (h : ∀ z ∈ t, lvl z = true) {i : Nat} (hi : i < t.length) : t.getD i 0 = 0 ∨ t.getD i 0 = 1 := lvl_01 (h _ (List.mem_of_getElem? (getD_some t i hi)))
theorem five_most {t : List Int} (h : 5 ≤ t.length) (hl : ∀ z ∈ t, lvl z = true) : (5 ≤ alk t ∧ most (runs (t.drop (t.length - 5))) = 5) ∨ (alk t < 5 ∧ most (runs (t.drop (t.length - 5))) < 5) := by
  rw [drop_five h]
  rcases five_runs _ _ _ _ _ (getD_lvl hl (i := t.length - 5) (by omega)) (getD_lvl hl (i := t.length - 4) (by omega)) (getD_lvl hl (i := t.length - 3) (by omega)) (getD_lvl hl (i := t.length - 2) (by omega)) (getD_lvl hl (i := t.length - 1) (by omega)) with ⟨h1, h2, h3, h4, h5⟩ | ⟨h1, h5⟩
  · refine .inl ⟨?_, h5⟩
    rcases Nat.lt_or_ge (alk t) 5 with ha | ha
    · obtain ⟨i, i1, i2, i3⟩ := five_no ha h
      exfalso
      apply i3
      rcases (by omega : i = t.length - 4 ∨ i = t.length - 3 ∨ i = t.length - 2 ∨ i = t.length - 1) with rfl | rfl | rfl | rfl <;> assumption
    · exact ha
  · refine .inr ⟨?_, h5⟩
    rcases Nat.lt_or_ge (alk t) 5 with ha | ha
    · exact ha
    · obtain ⟨_, hf⟩ := five_yes ha
      exfalso
      apply h1
      rw [hf (t.length - 5) (by omega) (by omega), hf (t.length - 4) (by omega) (by omega), hf (t.length - 3) (by omega) (by omega), hf (t.length - 2) (by omega) (by omega), hf (t.length - 1) (by omega) (by omega)]
      exact ⟨rfl, rfl, rfl, rfl⟩

end Go.Proofs.YtalpbnfebcafgaaGreat

/- The contracts of codec's reader: its memory, notRecessive, added, wrong. -/
namespace Go.Proofs.YtalpbnfebcafgaaGreat
set_option maxRecDepth 20000
open Go.RowKit

section
variable {w w' w2 : World} {g k : Nat} {vt vo v' : Value} {t o : List Int} {z : Int}
theorem Own.set_off {v x : Value} {zs : List Int} {i : Nat} (h : Own w g v zs) (hn : v.ownBlock ≠ some g) : Own (w.setCell ⟨g, i, none⟩ x) g v zs := by
  refine ⟨h.1, ?_⟩
  rcases h.2 with hn' | ⟨g', cap, cur, rfl, hbg, hgg, rest⟩
  · exact .inl hn'
  · refine .inr ⟨g', cap, cur, rfl, hbg, ?_, rest⟩
    have : g ≠ g' := fun e => hn (by rw [← e]; rfl)
    simp [World.setCell, Array.getElem?_modify, this, hgg]
theorem push_below {a : World} {ob : Obj} {v : Value} {l : List Int} {i : Nat} {x : Value} (hB : Below g a w) (hle : g ≤ w.heap.size) (hx : Own w g v l) (hg : (w.alloc ob).grownBy w2 v.ownBlock) : Below g a (w2.setCell ⟨g, i, none⟩ x) :=
  (push_lit hB hle hx hg).setCell (p := ⟨g, i, none⟩) (Nat.le_refl g) x
end
/-- Whether the next level is one that is added, and which one. -/
def adS (t o : List Int) : Bool := decide (kd o ≤ 5 ∧ 5 ≤ alk t)
def adL (t o : List Int) : Int := if adS t o then 1 - lst t else 0
theorem ad_no {t o : List Int} (h : ¬ (kd o ≤ 5 ∧ 5 ≤ alk t)) : adS t o = false ∧ adL t o = 0 := by
  have e : adS t o = false := decide_eq_false h
  exact ⟨e, by unfold adL; rw [e]; rfl⟩
theorem ad_yes {t o : List Int} (h : kd o ≤ 5 ∧ 5 ≤ alk t) : adS t o = true ∧ adL t o = 1 - lst t := by
  have e : adS t o = true := decide_eq_true h
  exact ⟨e, by unfold adL; rw [e]; rfl⟩
theorem ad_nx {t o : List Int} (h : kd o ≤ 5) (hl : ∀ z ∈ t, lvl z = true) : nxs t = adS t o ∧ nxl t = adL t o := by
  have hc : chk t < 0 := by rw [show chk t = -1 from fst_of_all lvl t hl]; omega
  by_cases h5 : 5 ≤ alk t
  · rw [(nxs_yes hc h5).1, (nxs_yes hc h5).2, (ad_yes ⟨h, h5⟩).1, (ad_yes ⟨h, h5⟩).2]; exact ⟨rfl, rfl⟩
  · rw [(nxs_few (by omega)).1, (nxs_few (by omega)).2, (ad_no (o := o) (fun x => h5 x.2)).1, (ad_no (o := o) (fun x => h5 x.2)).2]; exact ⟨rfl, rfl⟩

theorem wr_def (o : List Int) (z : Int) : wr o z = if kd o = 0 then (if z = 0 then 0 else 11) else if kd o = 5 then (if rok o then nrc z else 18) else if kd o = 7 ∨ kd o = 8 then nrc z else 0 := rfl
theorem rout_rok (o : List Int) : (rout o = .tuple #[.bool false, .int .i64 13] ∧ rok o = false) ∨ rout o = .tuple #[.bool (rok o), .int .i64 0] := by
  unfold rout rok
  by_cases h : o.length < hEnd (hEx o) ∨ o.length < ahead o + 15
  · rw [if_pos h, decide_eq_true h]; exact .inl ⟨rfl, rfl⟩
  · rw [if_neg h, decide_eq_false h]; exact .inr (by simp)

end Go.Proofs.YtalpbnfebcafgaaGreat

/- The contract of codec's take. -/
namespace Go.Proofs.YtalpbnfebcafgaaGreat
set_option maxRecDepth 20000
open Go.RowKit

section
variable {w w2 : World} {g k : Nat} {vt vo : Value} {t o : List Int} {row : Option Nat} {ob : Obj}
end
theorem chk_lv {z : Int} (h : lvl z = true) : chk [z] = -1 := fst_of_all lvl _ (by intro y hy; simp at hy; subst hy; exact h)
theorem chk_off {z : Int} (h : lvl z = false) : chk [z] = 0 := fst_stop lvl [z] 0 z (Nat.zero_le _) rfl h

theorem Own.il3 {w : World} {base : Nat} {A : Option Addr} {n cap : Nat} {zs : List Int} (h : Own w base (.slice A n cap) zs) : Il w A n zs := by
  obtain ⟨A', cap', e, hi⟩ := h.il
  injection e with e1 e2 _
  rw [e1, e2]; exact hi
theorem lit_set (w : World) (g i : Nat) (x : Value) (z : Int) : Il ((w.setCell ⟨g, i, none⟩ x).alloc (.cells #[.int .i64 z] 3)) (some ⟨w.heap.size, 0, none⟩) 1 [z] := by
  have h := (Arr.new (w.setCell ⟨g, i, none⟩ x) .i64 3 [z]).il
  rwa [World.size_setCell] at h

end Go.Proofs.YtalpbnfebcafgaaGreat

/- The contracts of codec's goThrough and Decode. -/
namespace Go.Proofs.YtalpbnfebcafgaaGreat
set_option maxRecDepth 20000
open Go.RowKit

theorem drop_cons {zs : List Int} {k : Nat} {z : Int} (h : zs[k]? = some z) : zs.drop k = z :: zs.drop (k + 1) := by
  obtain ⟨hk, e⟩ := List.getElem?_eq_some_iff.1 h
  rw [List.drop_eq_getElem_cons hk, e]
/-- What the loop has behind k rounds. -/
structure Gone (zs : List Int) (k : Nat) (t o : List Int) : Prop where
  dc : dcd (zs.drop k) k t o = dcd zs 0 [] []
  kd9 : kd o < 9
  lt : ∀ y ∈ t, lvl y = true
  lo : ∀ y ∈ o, lvl y = true
  lent : t.length ≤ k
  leno : o.length ≤ k
theorem Gone.start (zs : List Int) : Gone zs 0 [] [] := ⟨by rw [List.drop_zero], by rw [kd_nil]; omega, by simp, by simp, by simp, by simp⟩
section
variable {zs t o t' o' : List Int} {k : Nat} {z : Int}
theorem Gone.err (h : Gone zs k t o) (hz : zs[k]? = some z) (he : (stq t o z).1 ≠ 0) : dcd zs 0 [] [] = ((stq t o z).1, k, o) := by rw [← h.dc, drop_cons hz, dcd_err he]
theorem Gone.fin (h : Gone zs k t o) (hz : zs[k]? = some z) (hs : stq t o z = (0, t', o')) (h9 : kd o' = 9) : dcd zs 0 [] [] = (0, k + 1, o') := by rw [← h.dc, drop_cons hz, dcd_end hs h9]
theorem Gone.next (h : Gone zs k t o) (hz : zs[k]? = some z) (hs : stq t o z = (0, t', o')) (h9 : ¬ kd o' = 9) : Gone zs (k + 1) t' o' := by
  have e : dcd (zs.drop (k + 1)) (k + 1) t' o' = dcd zs 0 [] [] := by rw [← h.dc, drop_cons hz, dcd_go hs h9]
  have hk9 := kd_le o'
  have ht := h.lent; have ho := h.leno
  rcases stq_cases t o z with ⟨h1, _, _⟩ | ⟨hl, _, e2⟩ | ⟨hl, _, e2⟩
  · rw [hs] at h1; exact absurd rfl h1
  · rw [hs] at e2
    injection e2 with _ e2
    injection e2 with e3 e4
    subst e3 e4
    exact ⟨e, by omega, all_push h.lt hl, h.lo, by simp; omega, by omega⟩
  · rw [hs] at e2
    injection e2 with _ e2
    injection e2 with e3 e4
    subst e3 e4
    exact ⟨e, by omega, all_push h.lt hl, all_push h.lo hl, by simp; omega, by simp; omega⟩
theorem Gone.last (h : Gone zs k t o) (hk : zs.length ≤ k) : dcd zs 0 [] [] = (13, k, o) := by rw [← h.dc, List.drop_eq_nil_of_le hk]; rfl
end

theorem results_ctt {fn : Func} {p u v : Tmp} {ty : TypeId} (h : fn.results = #[.cell p ty, .tmp u, .tmp v]) (tmps : Array Value) (P : Program) (w : World) :
    (results fn tmps).run P w =
      ((asAddr (tmps.getD p undef)).run P w).andThen fun a w₁ => ((loadVar ty a).run P w₁).andThen fun x w₂ => .ok (.tuple #[x, tmps.getD u undef, tmps.getD v undef]) w₂ := by
  simp only [results, h]
  simp [Sem.run_bind, Result.andThen]
/-- What Decode answers. -/
abbrev dV (zs : List Int) : Value := .tuple #[(dF zs).val, .int .i64 (dN zs : Nat), .int .i64 (dE zs)]

end Go.Proofs.YtalpbnfebcafgaaGreat

/- The contracts of codec's Encode, Length and Longest. -/
namespace Go.Proofs.YtalpbnfebcafgaaGreat
set_option maxRecDepth 20000
open Go.RowKit

/-- A frame's levels up to its sum's last one. -/
def raw (f : Fr) : List Int := bts f ++ ofB (csum (bts f)) 15
/-- The ten behind. -/
def ten (s : Int) : List Int := [1, s, 1, 1, 1, 1, 1, 1, 1, 1]
/-- A frame's levels on the bus. -/
def enc (f : Fr) (b : Bool) : List Int := stf (raw f) ++ ten (if b then 0 else 1)
theorem alls_raw (f : Fr) : alls f = raw f ++ ten 1 := rfl
theorem raw_len (f : Fr) : (raw f).length = (bts f).length + 15 := by unfold raw; rw [List.length_append, ofB_len]
theorem raw_all (f : Fr) : ∀ z ∈ raw f, lvl z = true := all_append (bts_all f) (ofB_all _ _)
theorem enc_len (f : Fr) (b : Bool) : (enc f b).length = (stf (raw f)).length + 10 := by unfold enc; rw [List.length_append]; rfl
theorem stf_raw_le {f : Fr} (h : f.may = true) : (stf (raw f)).length ≤ 300 := by
  have := (stf_len (raw f)).2; rw [raw_len] at this; have := bts_le h; omega
theorem enc_set (f : Fr) : (stf (raw f) ++ ten 1).set ((stf (raw f)).length + 1) 0 = enc f true := by
  unfold enc
  rw [List.set_append_right _ _ (by omega), show (stf (raw f)).length + 1 - (stf (raw f)).length = 1 by omega]; rfl

set_option maxHeartbeats 400000 in
theorem encode_bad (f : Fr) (b : Bool) (w : World) (h : f.may = false) :
    Calls Tryz.prog 25 #[f.val, .bool b] w fun e w' => e = .returned (.tuple #[.slice none 0 0, .int .i64 14]) ∧ Below w.heap.size w w' := by
  have HM := Lib.hid h
  clear h
  go_enter Tryz.func25, Tryz.ntmps25
  go_wp2_with fail
  refine (fall_bad f _ HM.out).mono ?_
  rintro e w1 ⟨rfl, hb1⟩
  go_wp2
  go_ret2
  exact ⟨rfl, nxt (boxed f w) hb1⟩

theorem grown_undrew6 {w w' : World} {row : Option Nat} (h : w.drew.grownBy w' row) : w.grownBy w' row := ⟨h.os, h.tape, h.output, h.size, h.block⟩

set_option maxRecDepth 100000 in
set_option maxHeartbeats 3200000 in
theorem encode_ok (f : Fr) (b : Bool) (w : World) (h : f.may = true) (hwf : f.wf) :
    Calls Tryz.prog 25 #[f.val, .bool b] w (OwnTo (enc f b) w) := by
  have HM := Lib.hid h; have HWF := Lib.hid hwf
  obtain ⟨m, hm⟩ : ∃ m, (raw f).length = m := ⟨_, rfl⟩
  have hmle : m ≤ 118 := by rw [← hm, raw_len]; have := bts_le h; omega
  have HML := Lib.hid hm
  have HAL := Lib.hid (raw_all f)
  have HSL := Lib.hid (stf_raw_le h)
  have HSG := Lib.hid (show m ≤ (stf (raw f)).length by rw [← hm]; exact (stf_len (raw f)).1)
  have HT := Lib.hid (show (alls f).take m = raw f by rw [alls_raw, ← hm, List.take_left])
  have HD := Lib.hid (show (alls f).drop m = ten 1 by rw [alls_raw, ← hm, List.drop_left])
  have HLN := Lib.hid (show (alls f).length = m + 10 by rw [alls_raw, List.length_append, hm]; rfl)
  have HES := Lib.hid (enc_set f)
  have HEF := Lib.hid (show enc f false = stf (raw f) ++ ten 1 from rfl)
  clear h hwf hm
  go_enter Tryz.func25, Tryz.ntmps25
  go_wp2_with fail
  refine (fall_ok f _ HM.out HWF.out).mono ?_
  rintro e w1 ⟨v, rfl, ho1, hb1⟩
  obtain ⟨A1, cap, rfl, hi, hcap⟩ := ho1.il2
  have HB1 := Lib.hid (nxt (boxed f w) hb1)
  rw [HLN.out] at hi hcap ⊢
  obtain ⟨ad, rfl, hlt, hcl⟩ := hi.2 (by omega)
  have HI := Lib.hid hi
  clear hb1 ho1 hi hlt hcl
  have HI1 := Lib.hid (show Il w1.drew (some ad) m (raw f) from by rw [← HT.out]; exact HI.out.take m (by omega))
  have HI2 := Lib.hid (show Il w1 (some (ad.add m)) 10 (ten 1) from by
    have h := HI.out.drop m (by omega)
    rw [HD.out] at h
    rwa [Nat.add_sub_cancel_left] at h)
  have g4 : (m : Int) ≤ (m : Int) + 10 := by omega
  have g5 : m ≤ cap := by omega
  have g6 : (m : Int) ≤ (cap : Int) := by omega
  have g7 : ¬ cap = m := by omega
  have g8 : (0 : Int) ≤ (m : Int) := by omega
  clear HI
  go_wp2_with fail
  go_region_held3 (fun _ => True) (trivial)
    (first
      | (go_at_call 42; (refine (add_own _ m _ (raw f) _ HI1.out (by omega) HAL.out).mono ?_); rintro e w2 ⟨v2, rfl, ho2, hb2⟩; have HO2 := Lib.hid ho2; have HB2 := Lib.hid (nxt (below_drew (Below.refl w1.heap.size w1)) hb2); have HI3 := Lib.hid (HI2.out.below HB2.out); clear ho2 hb2)
      | (refine step_append_ints2 _ (by rfl) (.tmp 24) (.tmp 27) (by rfl) w1.heap.size v2 (stf (raw f)) (by rfl) (by exact HO2.out) _ 10 _ (ten 1) (by rfl) (by exact HI3.out) (by have := HSL.out; omega) (by exact HB2.out.size) ?_; intro v3 w3 ho3 hg3 hl3; have HB3 := Lib.hid (HB2.out.grown hg3 HB2.out.size HO2.out.row); have HO3 := Lib.hid ho3; clear ho3 hg3 hl3)
      | fail)
  obtain ⟨L, hL⟩ : ∃ L, (stf (raw f)).length = L := ⟨_, rfl⟩
  have hen : (stf (raw f) ++ ten 1).length = L + 10 := by rw [List.length_append, hL]; rfl
  rw [hL] at HES
  have HBW := Lib.hid (nxt HB1.out HB3.out)
  have HLL := Lib.hid (show L ≤ 300 by rw [← hL]; exact HSL.out)
  have HOW := Lib.hid (HO3.out.mono HB1.out.size)
  obtain ⟨q, cap3, rfl, hq, hcap3⟩ := HO3.out.shape (by omega)
  rw [hen] at HOW hcap3 ⊢
  have cq := HOW.out.cell (j := L + 1) (by omega)
  have fq := HOW.out.frozen (L + 1)
  have HQ := Lib.hid (Nat.le_trans HB1.out.size hq)
  clear hL hen HO2 HO3 HI3 HB2 HB3 HI2 HI1 g4 g5 g6 g7 g8 hcap hq
  cases b with
  | false =>
    go_wp2
    go_ret2
    exact ⟨_, rfl, by rw [HEF.out]; exact HOW.out, HBW.out⟩
  | true =>
    have i1 : (L : Int) + 1 < (L : Int) + 10 := by omega
    have i2 : (L : Int) ≤ 300 := by have := HLL.out; omega
    have i3 : (0 : Int) ≤ (L : Int) + 1 := by omega
    go_wp2
    go_ret2
    exact ⟨_, rfl, by rw [← HES.out]; exact HOW.out.put (L + 1) 0, HBW.out.setCell (p := ⟨q, L + 1, none⟩) HQ.out _⟩

set_option maxHeartbeats 400000 in
theorem length_bad (f : Fr) (w : World) (h : f.may = false) :
    Calls Tryz.prog 7 #[f.val] w fun e w' => e = .returned (.tuple #[.int .i64 0, .int .i64 14]) ∧ Below w.heap.size w w' := by
  have HM := Lib.hid h
  clear h
  go_enter Tryz.func7, Tryz.ntmps7
  go_wp2_with fail
  refine (encode_bad f _ _ HM.out).mono ?_
  rintro e w1 ⟨rfl, hb1⟩
  go_wp2
  go_ret2
  exact ⟨rfl, nxt (boxed f w) hb1⟩
set_option maxHeartbeats 400000 in
theorem length_ok (f : Fr) (w : World) (h : f.may = true) (hwf : f.wf) :
    Calls Tryz.prog 7 #[f.val] w fun e w' => e = .returned (.tuple #[.int .i64 ((stf (raw f)).length + 10 : Nat), .int .i64 0]) ∧ Below w.heap.size w w' := by
  have HM := Lib.hid h; have HWF := Lib.hid hwf
  have HL := Lib.hid (enc_len f false)
  clear h hwf
  go_enter Tryz.func7, Tryz.ntmps7
  go_wp2_with fail
  refine (encode_ok f false _ HM.out HWF.out).mono ?_
  rintro e w1 ⟨v, rfl, ho1, hb1⟩
  obtain ⟨A1, cap1, rfl, _, _⟩ := ho1.il2
  have HB := Lib.hid (nxt (boxed f w) hb1)
  rw [HL.out]
  clear ho1 hb1
  obtain ⟨k, hk⟩ : ∃ k, (stf (raw f)).length + 10 = k := ⟨_, rfl⟩
  have HK := Lib.hid hk
  rw [hk]
  clear hk
  go_wp2
  go_ret2
  exact ⟨by rw [HK.out]; rfl, HB.out⟩

/-- How many levels a frame of n bytes has, up to its sum's last one. -/
def own6 (n : Nat) (x : Bool) : Nat := (if x then 54 else 34) + 8 * n
def lgst (n : Nat) (x : Bool) : Nat := own6 n x + (own6 n x - 1) / 4 + 10
end Go.Proofs.YtalpbnfebcafgaaGreat

/- What is encoded is decoded: plain mathematics. -/
namespace Go.Proofs.YtalpbnfebcafgaaGreat
set_option maxRecDepth 20000

/-- Levels are gone through, from one state to another one. -/
def Thru (m t o t' o' : List Int) : Prop := ∀ (s : List Int) (k : Nat), dcd (m ++ s) k t o = dcd s (k + m.length) t' o'
section
variable {m m' t o t' o' t'' o'' : List Int} {z : Int}
theorem Thru.refl (t o : List Int) : Thru [] t o t o := fun _ _ => rfl
theorem Thru.trans (h : Thru m t o t' o') (h' : Thru m' t' o' t'' o'') : Thru (m ++ m') t o t'' o'' := fun s k => by
  rw [List.append_assoc, h, h', List.length_append, Nat.add_assoc]
theorem Thru.one (h : stq t o z = (0, t', o')) (h9 : ¬ kd o' = 9) : Thru [z] t o t' o' := fun s k => by
  rw [List.singleton_append, dcd_go h h9]; rfl
theorem Thru.err (h : Thru m t o t' o') (he : (stq t' o' z).1 ≠ 0) (s : List Int) (k : Nat) : dcd (m ++ z :: s) k t o = ((stq t' o' z).1, k + m.length, o') := by rw [h, dcd_err he]
theorem Thru.fin (h : Thru m t o t' o') (hs : stq t' o' z = (0, t'', o'')) (h9 : kd o'' = 9) (s : List Int) (k : Nat) : dcd (m ++ z :: s) k t o = (0, k + m.length + 1, o'') := by rw [h, dcd_end hs h9]
end
/-- A beginning of a whole frame is too short. -/
theorem dcd_short : ∀ (l : List Int) (k : Nat) (t o : List Int) (n : Nat) (p : List Int) (j : Nat), dcd l k t o = (0, k + n, p) → j < n → ∃ q, dcd (l.take j) k t o = (13, k + j, q) := by
  intro l
  induction l with
  | nil => intro k t o n p j h; simp [dcd] at h
  | cons z l ih =>
    intro k t o n p j h hj
    cases j with
    | zero => exact ⟨o, rfl⟩
    | succ j =>
      have go : ∀ t' o', stq t o z = (0, t', o') → ∃ q, dcd ((z :: l).take (j + 1)) k t o = (13, k + (j + 1), q) := by
        intro t' o' hs
        by_cases h9 : kd o' = 9
        · rw [dcd_end hs h9] at h
          injection h with _ h
          injection h with h _
          omega
        · rw [dcd_go hs h9, show k + n = k + 1 + (n - 1) by omega] at h
          obtain ⟨q, hq⟩ := ih _ _ _ _ _ j h (by omega)
          refine ⟨q, ?_⟩
          rw [List.take_succ_cons, dcd_go hs h9, hq]
          congr 2
          omega
      rcases stq_cases t o z with ⟨h1, _, _⟩ | ⟨_, _, hs⟩ | ⟨_, _, hs⟩
      · rw [dcd_err h1] at h
        injection h with h _
        exact absurd h h1
      · exact go _ _ hs
      · exact go _ _ hs

/-- Levels up to a sum's last one. -/
structure UpTo (r : List Int) : Prop where
  lev : ∀ z ∈ r, lvl z = true
  low : ∀ k, k < r.length → kd (r.take k) ≤ 4
  end_ : kd r ≤ 5
  zero : one r 0 = false
theorem wr_low {o : List Int} {z : Int} (h : kd o ≤ 4) (h0 : kd o = 0 → z = 0) : wr o z = 0 := by
  unfold wr
  by_cases e : kd o = 0
  · rw [if_pos e, if_pos (h0 e)]
  · rw [if_neg e, if_neg (by omega), if_neg (by omega)]
theorem kd_pos {o : List Int} (h : o ≠ []) : kd o ≠ 0 := by
  have hl : 0 < o.length := List.length_pos_iff.2 h
  unfold kd hW wds
  rw [nx, if_neg (by omega), Nat.zero_add]
  rcases Nat.lt_or_ge (o.length - 1) (sumW (aW (hEx o) :: cW (hEx o) :: hDat o :: [15, 1, 1, 1, 7])) with h1 | h1
  · have := (nx_lt _ _ 1 h1).1; omega
  · rw [nx_end _ _ _ h1]; simp
theorem thru_stf : ∀ r : List Int, UpTo r → Thru (stf r) [] [] (stf r) r := by
  refine snoc_ind (fun _ => Thru.refl _ _) ?_
  intro r z ih hu
  obtain ⟨hl, hz⟩ := all_snoc hu.lev
  have hk : kd r ≤ 4 := by
    have := hu.low r.length (by simp)
    rwa [List.take_append_of_le_length (Nat.le_refl _), List.take_length] at this
  have hr : UpTo r := ⟨hl, fun k hk' => by
      have := hu.low k (by simp; omega)
      rwa [List.take_append_of_le_length (by omega)] at this, by omega, by
      cases r with
      | nil => rfl
      | cons a r => exact hu.zero⟩
  have h1 := ih hr
  have ha := alk_stf r
  have hs : stq (stf r) r z = (0, stf r ++ [z], r ++ [z]) := by
    refine stq_own hz (fun x => by omega) (wr_low hk fun e => ?_)
    have hn : r = [] := Classical.byContradiction fun hne => kd_pos hne e
    subst hn
    have h0 := hu.zero
    rcases lvl_01 hz with e | e
    · exact e
    · subst e; exact absurd h0 (by decide)
  have h9 : ¬ kd (r ++ [z]) = 9 := by have := hu.end_; omega
  have h2 := h1.trans (Thru.one hs h9)
  rw [stf_snoc]
  by_cases h5 : alk (stf r ++ [z]) = 5
  · rw [sput_five h5]
    refine h2.trans (Thru.one (stq_add ?_ hu.end_ (by omega) ?_) h9)
    · rcases lvl_01 hz with e | e <;> rw [e] <;> rfl
    · rw [lst_snoc]; exact flip_ne z
  · rw [sput_else h5]; exact h2

/-- The fields of a frame's levels. -/
theorem nx_lo (a c d k : Nat) (h : k < 1 + a + c + d + 15) : (nx (wds a c d) k 0).1 ≤ 4 := by
  unfold wds
  simp only [nx]
  split
  · simp
  · split
    · simp
    · split
      · simp
      · split
        · simp
        · rw [if_pos (by omega)]; simp
def tl (j : Nat) : Nat := if j < 3 then 5 + j else if j < 10 then 8 else 9
theorem nx_hi (a c d j : Nat) (h : j ≤ 10) : (nx (wds a c d) (1 + a + c + d + 15 + j) 0).1 = tl j := by
  unfold wds
  simp only [nx]
  rw [if_neg (by omega), if_neg (by omega), if_neg (by omega), if_neg (by omega), if_neg (by omega)]
  rw [show 1 + a + c + d + 15 + j - 1 - a - c - d - 15 = j by omega]
  have : j = 0 ∨ j = 1 ∨ j = 2 ∨ j = 3 ∨ j = 4 ∨ j = 5 ∨ j = 6 ∨ j = 7 ∨ j = 8 ∨ j = 9 ∨ j = 10 := by omega
  rcases this with rfl | rfl | rfl | rfl | rfl | rfl | rfl | rfl | rfl | rfl | rfl <;> rfl
section
variable {f : Fr} (hm : f.may = true)
include hm
theorem raw_W (x : List Int) : hW (raw f ++ x) = wds (aW f.ext) (cW f.ext) (8 * nDat f) := by
  obtain ⟨n, hn, h8⟩ := len_nat hm
  obtain ⟨i, hi⟩ := id_nat hm
  unfold raw
  rw [List.append_assoc, bts_hdr hn (by omega)]
  exact hdr_W hi (by omega) hn (by omega)
omit hm in
theorem raw_len2 : (raw f).length = 1 + aW f.ext + cW f.ext + 8 * nDat f + 15 := by
  rw [raw_len, bts_len]; have := hEnd_eq f.ext; omega
theorem kd_tail (x : List Int) (h : x.length ≤ 10) : kd (raw f ++ x) = tl x.length := by
  unfold kd
  rw [raw_W hm, List.length_append, raw_len2, nx_hi _ _ _ _ h]
theorem kd_raw : kd (raw f) = 5 := by
  have := kd_tail hm [] (by simp)
  rwa [List.append_nil] at this
theorem raw_upto : UpTo (raw f) := by
  have hW0 := raw_W hm []
  rw [List.append_nil] at hW0
  refine ⟨raw_all f, fun k hk => ?_, by rw [kd_raw hm]; omega, ?_⟩
  · have hs : sumW (hW (raw f)) = (raw f).length + 10 := by rw [hW0, raw_len2]; simp only [wds, sumW]; omega
    rw [kd_take (by omega) (by omega), hW0]
    exact nx_lo _ _ _ _ (by rw [← raw_len2]; exact hk)
  · obtain ⟨n, hn, h8⟩ := len_nat hm
    unfold raw
    rw [bts_hdr hn (by omega)]
    exact hdr_zero
theorem raw_rok : rok (raw f) = true := by
  obtain ⟨n, hn, h8⟩ := len_nat hm
  obtain ⟨i, hi⟩ := id_nat hm
  have e : raw f = hdr f n (ofB (csum (bts f)) 15) := bts_hdr hn (by omega) _
  have ha : ahead (raw f) = (bts f).length := by rw [e, hdr_ahead hi (by omega) hn (by omega), bts_len]
  have hx : hEx (raw f) = f.ext := by rw [e]; exact hdr_ext hi
  unfold rok
  rw [ha, hx, List.take_of_length_le (by rw [raw_len]; omega), decide_eq_false (by rw [raw_len, bts_len]; omega)]
  unfold raw
  rw [rgt_own _ (bts_all f) (csum_lt _)]
  simp
theorem raw_frame (hwf : f.wf) (x : List Int) : (frm (raw f ++ x)).val = f.val := by
  obtain ⟨n, hn, h8⟩ := len_nat hm
  unfold raw
  rw [List.append_assoc, bts_hdr hn (by omega)]
  exact hdr_frame hm hwf (by omega) (by rw [hn]; omega)
/-- The ten behind are gone through, but the last one. -/
theorem wr_tail {j : Nat} {x : List Int} {z : Int} (hx : x.length = j) (hj : j ≤ 9) (hz : j = 1 ∨ z = 1) : wr (raw f ++ x) z = 0 := by
  have hk := kd_tail hm x (by omega)
  rw [hx] at hk
  unfold wr
  rw [hk]
  have : j = 0 ∨ j = 1 ∨ j = 2 ∨ (3 ≤ j ∧ j ≤ 9) := by omega
  rcases this with rfl | rfl | rfl | ⟨h1, h2⟩
  · have hx0 : x = [] := List.eq_nil_of_length_eq_zero hx
    subst hx0
    rw [List.append_nil, if_neg (by decide), if_pos (by decide), raw_rok hm]
    unfold nrc; rw [if_pos rfl, if_pos (by omega)]
  · rw [if_neg (by decide), if_neg (by decide), if_neg (by decide)]
  · rw [if_neg (by decide), if_neg (by decide), if_pos (by decide)]; unfold nrc; rw [if_pos (by omega)]
  · have e : tl j = 8 := by unfold tl; rw [if_neg (by omega), if_pos (by omega)]
    rw [e, if_neg (by decide), if_neg (by decide), if_pos (by decide)]; unfold nrc; rw [if_pos (by omega)]
theorem wr_stop {j : Nat} {x : List Int} (hx : x.length = j) (hj : j ≤ 9) (h1 : j ≠ 1) : wr (raw f ++ x) 0 = 11 := by
  have hk := kd_tail hm x (by omega)
  rw [hx] at hk
  unfold wr
  rw [hk]
  have : j = 0 ∨ j = 2 ∨ (3 ≤ j ∧ j ≤ 9) := by omega
  rcases this with rfl | rfl | ⟨h1, h2⟩
  · have hx0 : x = [] := List.eq_nil_of_length_eq_zero hx
    subst hx0
    rw [List.append_nil, if_neg (by decide), if_pos (by decide), raw_rok hm]
    rfl
  · rw [if_neg (by decide), if_neg (by decide), if_pos (by decide)]; rfl
  · have e : tl j = 8 := by unfold tl; rw [if_neg (by omega), if_pos (by omega)]
    rw [e, if_neg (by decide), if_neg (by decide), if_pos (by decide)]; rfl
/-- Nothing is added behind the sum. -/
theorem no_add {x t : List Int} (hx : x.length ≤ 9) (ht : x = [] → alk t ≤ 4) : ¬ (kd (raw f ++ x) ≤ 5 ∧ 5 ≤ alk t) := by
  rintro ⟨h1, h2⟩
  rw [kd_tail hm x (by omega)] at h1
  rcases Nat.eq_zero_or_pos x.length with h | h
  · have := ht (List.eq_nil_of_length_eq_zero h); omega
  · unfold tl at h1
    split at h1
    · omega
    · split at h1 <;> omega
theorem thru_tail : ∀ x : List Int, x.length ≤ 9 → (∀ z ∈ x, lvl z = true) → (∀ j z, x[j]? = some z → j = 1 ∨ z = 1) → Thru (stf (raw f) ++ x) [] [] (stf (raw f) ++ x) (raw f ++ x) := by
  refine snoc_ind (fun _ _ _ => ?_) ?_
  · rw [List.append_nil, List.append_nil]; exact thru_stf _ (raw_upto hm)
  · intro x z ih hx hl hs
    rw [List.length_append, List.length_singleton] at hx
    obtain ⟨hl1, hz⟩ := all_snoc hl
    have h1 := ih (by omega) hl1 (fun j y hj => hs j y (by
      obtain ⟨hlt, e⟩ := List.getElem?_eq_some_iff.1 hj
      rw [List.getElem?_append_left hlt]; exact hj))
    rw [← List.append_assoc, ← List.append_assoc]
    refine h1.trans (Thru.one (stq_own hz (no_add hm (by omega) fun e => ?_) (wr_tail hm rfl (by omega) (hs x.length z (by simp)))) ?_)
    · subst e; rw [List.append_nil]; exact alk_stf _
    · rw [List.append_assoc, kd_tail hm _ (by simp; omega), List.length_append, List.length_singleton]
      unfold tl
      split
      · omega
      · rw [if_pos (by omega)]; omega
/-- Whatever stands behind, a frame's levels are gone through. -/
theorem enc_dcd (b : Bool) (s : List Int) : dcd (enc f b ++ s) 0 [] [] = (0, (enc f b).length, raw f ++ ten (if b then 0 else 1)) := by
  have h := thru_tail hm ((ten (if b then 0 else 1)).take 9) (by rw [List.length_take]; omega) (by cases b <;> decide) (by
    intro j z hj
    have h9 : j < 9 := by
      obtain ⟨hlt, _⟩ := List.getElem?_eq_some_iff.1 hj
      rw [List.length_take] at hlt; omega
    have : j = 0 ∨ j = 1 ∨ j = 2 ∨ j = 3 ∨ j = 4 ∨ j = 5 ∨ j = 6 ∨ j = 7 ∨ j = 8 := by omega
    rcases this with rfl | rfl | rfl | rfl | rfl | rfl | rfl | rfl | rfl <;> cases b <;> simp [ten] at hj <;> simp [← hj])
  have e9 : ((ten (if b then 0 else 1)).take 9).length = 9 := by rfl
  have et : ten (if b then 0 else 1) = (ten (if b then 0 else 1)).take 9 ++ [1] := by cases b <;> rfl
  have hs := stq_own (t := stf (raw f) ++ (ten (if b then 0 else 1)).take 9) (z := 1) rfl (no_add hm (x := (ten (if b then 0 else 1)).take 9) (by rw [e9]; omega) (fun e => by rw [e] at e9; cases e9)) (wr_tail hm e9 (by omega) (.inr rfl))
  rw [List.append_assoc (raw f), ← et] at hs
  have hf := h.fin hs (by rw [kd_tail hm _ (by cases b <;> decide)]; cases b <;> rfl) s 0
  have el : (enc f b).length = (stf (raw f) ++ (ten (if b then 0 else 1)).take 9).length + 1 := by rw [enc_len, List.length_append, e9]
  have ee : enc f b ++ s = stf (raw f) ++ (ten (if b then 0 else 1)).take 9 ++ 1 :: s := by
    unfold enc
    rw [List.append_assoc, List.append_assoc]
    congr 1
  rw [ee, hf, el, Nat.zero_add]
/-- One of the ten is turned. -/
theorem stop_dcd (b : Bool) {j : Nat} (hj : j ≤ 9) (h1 : j ≠ 1) (s : List Int) : dcd (stf (raw f) ++ (ten (if b then 0 else 1)).take j ++ 0 :: s) 0 [] [] = (11, (stf (raw f)).length + j, raw f ++ (ten (if b then 0 else 1)).take j) := by
  have e9 : ((ten (if b then 0 else 1)).take j).length = j := by rw [List.length_take]; show min j 10 = j; omega
  have h := thru_tail hm ((ten (if b then 0 else 1)).take j) (by omega) (all_take (by cases b <;> decide) j) (by
    intro i z hi
    have hlt : i < 10 := by
      obtain ⟨hlt, _⟩ := List.getElem?_eq_some_iff.1 hi
      omega
    have hi' : (ten (if b then 0 else 1))[i]? = some z := by
      rw [List.getElem?_take] at hi
      split at hi
      · exact hi
      · cases hi
    have : i = 0 ∨ i = 1 ∨ i = 2 ∨ i = 3 ∨ i = 4 ∨ i = 5 ∨ i = 6 ∨ i = 7 ∨ i = 8 ∨ i = 9 := by omega
    rcases this with rfl | rfl | rfl | rfl | rfl | rfl | rfl | rfl | rfl | rfl <;> cases b <;> simp [ten] at hi' <;> simp [← hi'])
  have hw := wr_stop hm e9 hj h1
  have hs := stq_wr (t := stf (raw f) ++ (ten (if b then 0 else 1)).take j) (z := 0) rfl (no_add hm (x := (ten (if b then 0 else 1)).take j) (by omega) (fun e => by rw [e, List.append_nil]; exact alk_stf _)) (by rw [hw]; decide)
  rw [hw] at hs
  have := h.err (z := 0) (by rw [hs]; simp) s 0
  rw [hs] at this
  rw [this, List.length_append, e9, Nat.zero_add]
end
end Go.Proofs.YtalpbnfebcafgaaGreat

