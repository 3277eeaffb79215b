/- Plain mathematics of runs. -/
namespace Go.Proofs.Ytaamklfedcbccaa

/-- One step of going through a row from the left: the runs so far, and where the last one began. -/
def rstp (zs : List Int) (i : Nat) (s : List Int × Nat) : List Int × Nat :=
  if i = zs.length ∨ zs.getD i 0 ≠ zs.getD s.2 0 then (s.1 ++ [(i : Int) - (s.2 : Int)], i) else s
def stt (zs : List Int) : Nat → List Int × Nat
  | 0 => ([], 0)
  | i + 1 => rstp zs (i + 1) (stt zs i)
/-- The runs of a row. -/
def runs (zs : List Int) : List Int := (stt zs zs.length).1

theorem stt_stay {zs : List Int} {i : Nat} {s : List Int × Nat} (h : stt zs i = s) (hi : i + 1 < zs.length) (he : zs.getD (i + 1) 0 = zs.getD s.2 0) : stt zs (i + 1) = s := by
  simp only [stt, rstp, h]; rw [if_neg (by simp only [not_or]; exact ⟨by omega, by simpa using he⟩)]
theorem stt_cut {zs : List Int} {i : Nat} {s : List Int × Nat} (h : stt zs i = s) (he : zs.getD (i + 1) 0 ≠ zs.getD s.2 0) : stt zs (i + 1) = (s.1 ++ [((i + 1 : Nat) : Int) - (s.2 : Int)], i + 1) := by
  simp only [stt, rstp, h]; rw [if_pos (.inr he)]
theorem stt_last {zs : List Int} {i : Nat} {s : List Int × Nat} (h : stt zs i = s) (he : i + 1 = zs.length) : stt zs (i + 1) = (s.1 ++ [((i + 1 : Nat) : Int) - (s.2 : Int)], i + 1) := by
  simp only [stt, rstp, h]; rw [if_pos (.inl he)]

/-- What stt keeps: the last run began within, and all from there on are alike. -/
theorem stt_inv (zs : List Int) : ∀ i, i < zs.length → (stt zs i).2 ≤ i ∧ ∀ k, (stt zs i).2 ≤ k → k ≤ i → zs.getD k 0 = zs.getD (stt zs i).2 0 := by
  intro i
  induction i with
  | zero => intro _; refine ⟨Nat.le_refl _, fun k h1 h2 => ?_⟩; simp only [stt] at h1 ⊢; rw [show k = 0 by omega]
  | succ i ih =>
    intro hi
    obtain ⟨h1, h2⟩ := ih (by omega)
    rcases Classical.em (zs.getD (i + 1) 0 = zs.getD (stt zs i).2 0) with he | he
    · rw [stt_stay rfl hi he]
      refine ⟨by omega, fun k h3 h4 => ?_⟩
      rcases Nat.lt_or_ge k (i + 1) with hk | hk
      · exact h2 k h3 (by omega)
      · rw [show k = i + 1 by omega]; exact he
    · rw [stt_cut rfl he]
      refine ⟨Nat.le_refl _, fun k h3 h4 => ?_⟩
      dsimp only at h3 h4 ⊢
      rw [show k = i + 1 by omega]

/-- 'rs' are the runs of zs from the place 'at_' on. -/
def From (zs : List Int) : Nat → List Int → Prop
  | i, [] => i = zs.length
  | i, r :: rs => 1 ≤ r ∧ i + r.toNat ≤ zs.length ∧ (∀ k, i ≤ k → k < i + r.toNat → zs.getD k 0 = zs.getD i 0) ∧ (i + r.toNat < zs.length → zs.getD (i + r.toNat) 0 ≠ zs.getD (i + r.toNat - 1) 0) ∧ From zs (i + r.toNat) rs

/-- From the place i up to j, which is none of the end. -/
def Upto (zs : List Int) : Nat → List Int → Nat → Prop
  | i, [], j => i = j
  | i, r :: rs, j => 1 ≤ r ∧ i + r.toNat ≤ zs.length ∧ (∀ k, i ≤ k → k < i + r.toNat → zs.getD k 0 = zs.getD i 0) ∧ (i + r.toNat < zs.length → zs.getD (i + r.toNat) 0 ≠ zs.getD (i + r.toNat - 1) 0) ∧ Upto zs (i + r.toNat) rs j
theorem Upto.snoc {zs : List Int} : ∀ (rs : List Int) (i j : Nat) (r : Int), Upto zs i rs j → 1 ≤ r → j + r.toNat ≤ zs.length → (∀ k, j ≤ k → k < j + r.toNat → zs.getD k 0 = zs.getD j 0) →
    (j + r.toNat < zs.length → zs.getD (j + r.toNat) 0 ≠ zs.getD (j + r.toNat - 1) 0) → Upto zs i (rs ++ [r]) (j + r.toNat)
  | [], i, j, r, h, h1, h2, h3, h4 => by
    simp only [Upto] at h; subst h
    exact ⟨h1, h2, h3, h4, rfl⟩
  | q :: rs, i, j, r, h, h1, h2, h3, h4 => ⟨h.1, h.2.1, h.2.2.1, h.2.2.2.1, Upto.snoc rs _ j r h.2.2.2.2 h1 h2 h3 h4⟩
theorem Upto.from_ {zs : List Int} : ∀ (rs : List Int) (i : Nat), Upto zs i rs zs.length → From zs i rs
  | [], _, h => h
  | _ :: rs, _, h => ⟨h.1, h.2.1, h.2.2.1, h.2.2.2.1, Upto.from_ rs _ h.2.2.2.2⟩

theorem stt_upto (zs : List Int) : ∀ i, i < zs.length → Upto zs 0 (stt zs i).1 (stt zs i).2 := by
  intro i
  induction i with
  | zero => intro _; exact rfl
  | succ i ih =>
    intro hi
    have hv := stt_inv zs i (by omega)
    have h := ih (by omega)
    rcases Classical.em (zs.getD (i + 1) 0 = zs.getD (stt zs i).2 0) with he | he
    · rw [stt_stay rfl hi he]; exact h
    · rw [stt_cut rfl he]
      have e : (stt zs i).2 + (((i + 1 : Nat) : Int) - ((stt zs i).2 : Int)).toNat = i + 1 := by omega
      have := Upto.snoc _ 0 _ (((i + 1 : Nat) : Int) - ((stt zs i).2 : Int)) h (by omega) (by omega) (fun k h1 h2 => hv.2 k h1 (by omega)) (fun _ => by
        rw [e, Nat.add_sub_cancel, hv.2 i hv.1 (Nat.le_refl _)]; exact he)
      rw [e] at this
      exact this
theorem runs_from (zs : List Int) : From zs 0 (runs zs) := by
  unfold runs
  rcases Nat.eq_zero_or_pos zs.length with h0 | h0
  · rw [h0]; exact h0.symm
  · obtain ⟨i, hi⟩ : ∃ i, zs.length = i + 1 := ⟨zs.length - 1, by omega⟩
    have hv := stt_inv zs i (by omega)
    have h := stt_upto zs i (by omega)
    rw [hi, stt_last rfl hi.symm]
    have e : (stt zs i).2 + (((i + 1 : Nat) : Int) - ((stt zs i).2 : Int)).toNat = zs.length := by omega
    have := Upto.snoc _ 0 _ (((i + 1 : Nat) : Int) - ((stt zs i).2 : Int)) h (by omega) (by omega) (fun k h1 h2 => hv.2 k h1 (by omega)) (fun hlt => by omega)
    rw [e] at this
    exact this.from_

/-- How many runs begin in a row behind p. -/
def rcnt : Option Int → List Int → Nat
  | _, [] => 0
  | p, x :: l => (if p = some x then 0 else 1) + rcnt (some x) l
def lastOr : Option Int → List Int → Option Int
  | p, [] => p
  | _, x :: l => lastOr (some x) l
theorem lastOr_snoc : ∀ (a : List Int) (p : Option Int) (x : Int), lastOr p (a ++ [x]) = some x
  | [], _, _ => rfl
  | y :: a, _, x => lastOr_snoc a (some y) x
theorem cnt_append : ∀ (a b : List Int) (p : Option Int), rcnt p (a ++ b) = rcnt p a + rcnt (lastOr p a) b
  | [], b, p => by simp [rcnt, lastOr]
  | x :: a, b, p => by
    simp only [List.cons_append, rcnt, lastOr]
    rw [cnt_append a b (some x)]; omega
theorem cnt_joint (a b : List Int) (x y : Int) : rcnt none ((a ++ [x]) ++ (y :: b)) + (if x = y then 1 else 0) = rcnt none (a ++ [x]) + rcnt none (y :: b) := by
  rw [cnt_append, lastOr_snoc]
  by_cases h : x = y
  · simp [rcnt, h]; omega
  · simp [rcnt, h]
theorem cnt_snoc (a : List Int) (x y : Int) : rcnt none (a ++ [x] ++ [y]) = rcnt none (a ++ [x]) + (if x = y then 0 else 1) := by
  rw [cnt_append, lastOr_snoc]; simp [rcnt]

theorem stt_cnt (zs : List Int) : ∀ i, i < zs.length → (stt zs i).1.length + 1 = rcnt none (zs.take (i + 1)) := by
  intro i
  induction i with
  | zero =>
    intro hi
    match zs, hi with
    | z :: zs, _ => simp [stt, rcnt]
  | succ i ih =>
    intro hi
    have hv := stt_inv zs i (by omega)
    have h := ih (by omega)
    have e1 : zs.take (i + 1) = zs.take i ++ [zs.getD i 0] := by rw [List.take_add_one]; simp [show i < zs.length by omega]
    have e2 : zs.take (i + 1 + 1) = zs.take i ++ [zs.getD i 0] ++ [zs.getD (i + 1) 0] := by rw [List.take_add_one, e1]; simp [hi]
    rw [e2, cnt_snoc, ← e1, ← h]
    have hs := hv.2 i hv.1 (Nat.le_refl _)
    rcases Classical.em (zs.getD (i + 1) 0 = zs.getD (stt zs i).2 0) with he | he
    · rw [stt_stay rfl hi he, if_pos (by rw [hs, he])]
    · rw [stt_cut rfl he, if_neg (by rw [hs]; exact fun h => he h.symm)]; simp
theorem runs_cnt (zs : List Int) : (runs zs).length = rcnt none zs := by
  unfold runs
  rcases Nat.eq_zero_or_pos zs.length with h0 | h0
  · have : zs = [] := List.eq_nil_of_length_eq_zero h0
    subst this; rfl
  · obtain ⟨i, hi⟩ : ∃ i, zs.length = i + 1 := ⟨zs.length - 1, by omega⟩
    have h := stt_cnt zs i (by omega)
    rw [List.take_of_length_le (by omega)] at h
    rw [hi, stt_last rfl hi.symm, ← h]; simp

/-- The greatest of numbers, from m on. -/
def most (rs : List Int) : Int := rs.foldl max 0
theorem most_snoc (rs : List Int) (r : Int) : most (rs ++ [r]) = max (most rs) r := by simp [most]
theorem foldl_max_ge : ∀ (rs : List Int) (m : Int), m ≤ rs.foldl max m ∧ ∀ r ∈ rs, r ≤ rs.foldl max m
  | [], m => ⟨Int.le_refl _, fun r h => by cases h⟩
  | q :: rs, m => by
    obtain ⟨h1, h2⟩ := foldl_max_ge rs (max m q)
    refine ⟨by simp only [List.foldl_cons]; omega, fun r hr => ?_⟩
    simp only [List.foldl_cons]
    cases hr with
    | head => omega
    | tail _ hr => exact h2 r hr
theorem most_ge (rs : List Int) (r : Int) (h : r ∈ rs) : r ≤ most rs := (foldl_max_ge rs 0).2 r h

end Go.Proofs.Ytaamklfedcbccaa
