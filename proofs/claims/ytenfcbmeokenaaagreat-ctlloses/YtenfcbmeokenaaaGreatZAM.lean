/- Mathematics of layer 7: where levels differ, which frame wins, and in which order. -/
import Derived.Test.YtenfcbmeokenaaaGreatAh
import Derived.Test.YtenfcbmeokenaaaGreatX01
namespace Go.Proofs.YtenfcbmeokenaaaGreat
set_option maxRecDepth 20000

/-- A frame's levels of arbitration. -/
def Fr.lv (f : Fr) : List Int := ofB f.num f.wid
theorem lv_all (f : Fr) : ∀ z ∈ f.lv, lvl z = true := ofB_all _ _
theorem lv_len (f : Fr) : f.lv.length = f.wid := ofB_len _ _
theorem wid_32 (f : Fr) : f.wid ≤ 32 := by unfold Fr.wid; split <;> omega
theorem wid_13 (f : Fr) : 13 ≤ f.wid := by unfold Fr.wid; split <;> omega

/-- Alike ahead of k; there xs has 0, ys 1. -/
def At (xs ys : List Int) (k : Nat) : Prop := xs.take k = ys.take k ∧ xs[k]? = some 0 ∧ ys[k]? = some 1
theorem At.lt {xs ys : List Int} {k : Nat} (h : At xs ys k) : k < xs.length ∧ k < ys.length :=
  ⟨(List.getElem?_eq_some_iff.1 h.2.1).1, (List.getElem?_eq_some_iff.1 h.2.2).1⟩
theorem takeA_get {xs ys : List Int} {m k : Nat} (h : xs.take m = ys.take m) (hk : k < m) : xs[k]? = ys[k]? := by
  have := congrArg (fun l : List Int => l[k]?) h
  simpa [List.getElem?_take_of_lt hk] using this
theorem At.le {xs ys : List Int} {k m : Nat} (h : At xs ys k) (hm : xs.take m = ys.take m) : m ≤ k := by
  rcases Nat.lt_or_ge k m with hk | hk
  · have := takeA_get hm hk
    rw [h.2.1, h.2.2] at this
    cases this
  · exact hk
theorem At.uniq {xs ys : List Int} {k m : Nat} (h : At xs ys k) (h' : At xs ys m) : k = m := Nat.le_antisymm (h'.le h.1) (h.le h'.1)
theorem At.not {xs ys : List Int} {k m : Nat} (h : At xs ys k) (h' : At ys xs m) : False := by
  have h1 := h.le h'.1.symm
  have h2 := h'.le h.1.symm
  have : k = m := by omega
  subst this
  have := h.2.1
  rw [h'.2.2] at this
  cases this
theorem At.ne {xs ys : List Int} {k : Nat} (h : At xs ys k) : xs ≠ ys := by
  rintro rfl
  have := h.2.1
  rw [h.2.2] at this
  cases this

theorem ahd_lt : ∀ (xs ys : List Int), (∀ z ∈ xs, lvl z = true) → (∀ z ∈ ys, lvl z = true) → ahd xs ys = -1 → (∃ k, At xs ys k) ∨ ∃ y zs, ys = xs ++ y :: zs := by
  intro xs
  induction xs with
  | nil =>
    intro ys _ _ h
    cases ys with
    | nil => simp [ahd] at h
    | cons y ys => exact .inr ⟨y, ys, rfl⟩
  | cons x xs ih =>
    intro ys hx hy h
    cases ys with
    | nil => simp [ahd] at h
    | cons y ys =>
      have h1 := lvl_01 (hx x (by simp))
      have h2 := lvl_01 (hy y (by simp))
      rw [ahd] at h
      by_cases hlt : x < y
      · exact .inl ⟨0, rfl, by simp; omega, by simp; omega⟩
      · rw [if_neg hlt] at h
        by_cases hgt : y < x
        · rw [if_pos hgt] at h; omega
        · rw [if_neg hgt] at h
          have e : x = y := by omega
          subst e
          rcases ih ys (fun z hz => hx z (by simp [hz])) (fun z hz => hy z (by simp [hz])) h with ⟨k, a, b, c⟩ | ⟨y, zs, rfl⟩
          · exact .inl ⟨k + 1, by simp [a], by simpa using b, by simpa using c⟩
          · exact .inr ⟨y, zs, rfl⟩
theorem ahd_zero : ∀ (xs ys : List Int), ahd xs ys = 0 → xs = ys := by
  intro xs
  induction xs with
  | nil => intro ys h; cases ys with
    | nil => rfl
    | cons y ys => simp [ahd] at h
  | cons x xs ih =>
    intro ys h
    cases ys with
    | nil => simp [ahd] at h
    | cons y ys =>
      rw [ahd] at h
      by_cases hlt : x < y
      · rw [if_pos hlt] at h; omega
      · rw [if_neg hlt] at h
        by_cases hgt : y < x
        · rw [if_pos hgt] at h; omega
        · rw [if_neg hgt] at h
          rw [show x = y by omega, ih ys h]
theorem plc_eq {f g : Fr} (hf : f.may = true) (hg : g.may = true) (h : f.plc = g.plc) : f.lv = g.lv := by
  apply ahd_zero
  have := ahd_plc hf hg
  unfold Fr.lv
  rw [this, h]
  unfold sgn
  simp
theorem plc_lt {f g : Fr} (hf : f.may = true) (hg : g.may = true) (h : f.plc < g.plc) : ∃ k, At f.lv g.lv k := by
  have ha : ahd f.lv g.lv = -1 := by
    have := ahd_plc hf hg
    unfold Fr.lv
    rw [this]
    unfold sgn
    rw [if_pos h]
  rcases ahd_lt _ _ (lv_all f) (lv_all g) ha with hk | ⟨y, zs, e⟩
  · exact hk
  · exfalso
    have hl := congrArg List.length e
    rw [List.length_append, lv_len, lv_len, List.length_cons] at hl
    cases hx : f.ext <;> cases hy : g.ext
    · simp only [Fr.wid, hx, hy] at hl; simp at hl
    · have e1 : f.wid = 13 := by simp [Fr.wid, hx]
      have e2 : g.wid = 13 + 19 := by simp [Fr.wid, hy]
      have h1 := num_short_lt hf hx
      have h2 := num_lt hg
      have o1 : f.num % 2 = 0 := by simp [Fr.num, hx]; omega
      have o2 : g.num / 524288 % 2 = 1 := by
        have hr : g.rtr.toNat ≤ 1 := by cases g.rtr <;> decide
        simp only [Fr.num, hy, if_true]
        omega
      have e3 : ofB (g.num / 2 ^ 19) 13 = ofB f.num 13 := by
        have := congrArg (List.take 13) e
        unfold Fr.lv at this
        rw [e2, ofB_split, List.take_left' (ofB_len _ _), e1, List.take_left' (ofB_len _ _)] at this
        exact this
      have e4 := congrArg val e3
      rw [val_ofB, val_ofB, show (2 : Nat) ^ 13 = 8192 from rfl, show (2 : Nat) ^ 19 = 524288 from rfl, Nat.mod_eq_of_lt h1, Nat.mod_eq_of_lt (by omega)] at e4
      omega
    · simp only [Fr.wid, hx, hy] at hl; simp at hl; omega
    · simp only [Fr.wid, hx, hy] at hl; simp at hl
theorem at_plc {f g : Fr} {k : Nat} (hf : f.may = true) (hg : g.may = true) (h : At f.lv g.lv k) : f.plc < g.plc := by
  rcases Nat.lt_trichotomy f.plc g.plc with hl | he | hl
  · exact hl
  · exact absurd (plc_eq hf hg he) h.ne
  · obtain ⟨m, hm⟩ := plc_lt hg hf hl
    exact (h.not hm).elim

/-- The first place where levels differ; -1: nowhere. -/
def dif : List Int → List Int → Int
  | x :: xs, y :: ys => if x = y then (if dif xs ys < 0 then -1 else dif xs ys + 1) else 0
  | _, _ => -1
theorem dif_stop : ∀ (xs ys : List Int) (k : Nat) (x y : Int), xs.take k = ys.take k → xs[k]? = some x → ys[k]? = some y → x ≠ y → dif xs ys = k := by
  intro xs
  induction xs with
  | nil => intro ys k x y _ h; simp at h
  | cons a xs ih =>
    intro ys k x y ht hx hy hne
    cases ys with
    | nil => simp at hy
    | cons b ys =>
      cases k with
      | zero =>
        simp at hx hy
        subst hx hy
        rw [dif, if_neg hne]; rfl
      | succ k =>
        simp at ht hx hy
        rw [dif, if_pos ht.1, ih ys k x y ht.2 hx hy hne, if_neg (by omega)]
        omega
theorem dif_end : ∀ (xs ys : List Int) (k : Nat), xs.take k = ys.take k → xs.length ≤ k ∨ ys.length ≤ k → dif xs ys = -1 := by
  intro xs
  induction xs with
  | nil => intro ys k _ _; rw [dif]; intros; simp_all
  | cons a xs ih =>
    intro ys k ht hl
    cases ys with
    | nil => rw [dif]; intros; simp_all
    | cons b ys =>
      cases k with
      | zero => simp at hl
      | succ k =>
        simp at ht hl
        rw [dif, if_pos ht.1, ih ys k ht.2 hl, if_pos (by omega)]
theorem At.dif {xs ys : List Int} {k : Nat} (h : At xs ys k) : dif xs ys = k ∧ dif ys xs = k :=
  ⟨dif_stop _ _ _ _ _ h.1 h.2.1 h.2.2 (by omega), dif_stop _ _ _ _ _ h.1.symm h.2.2 h.2.1 (by omega)⟩
theorem dif_self (xs : List Int) : dif xs xs = -1 := dif_end xs xs xs.length rfl (.inl (Nat.le_refl _))

/-- What Loses answers. -/
def lsE (f g : Fr) : Int := if (f.may && g.may) = true then (if f.plc = g.plc then 23 else 0) else 14
def lsV (f g : Fr) : Int := if (f.may && g.may) = true then (if g.plc < f.plc then dif f.lv g.lv else if f.plc = g.plc then 0 else -1) else 0
theorem ls_bad {f g : Fr} (h : (f.may && g.may) = false) : lsV f g = 0 ∧ lsE f g = 14 := by
  unfold lsV lsE; rw [h]; exact ⟨rfl, rfl⟩
section
variable {f g : Fr} (hf : f.may = true) (hg : g.may = true)
include hf hg
theorem ls_at {k : Nat} (h : At g.lv f.lv k) : lsV f g = k ∧ lsE f g = 0 := by
  have := at_plc hg hf h
  unfold lsV lsE
  simp only [hf, hg, Bool.and_self, if_true]
  rw [if_pos this, if_neg (by omega), h.dif.2]
  exact ⟨rfl, rfl⟩
theorem ls_not {k : Nat} (h : At f.lv g.lv k) : lsV f g = -1 ∧ lsE f g = 0 := by
  have := at_plc hf hg h
  unfold lsV lsE
  simp only [hf, hg, Bool.and_self, if_true]
  rw [if_neg (by omega), if_neg (by omega), if_neg (by omega)]
  exact ⟨rfl, rfl⟩
theorem ls_same (h : f.plc = g.plc) : lsV f g = 0 ∧ lsE f g = 23 := by
  unfold lsV lsE
  simp only [hf, hg, Bool.and_self, if_true]
  rw [if_neg (by omega), if_pos h, if_pos h]
  exact ⟨rfl, rfl⟩
theorem ls_end {k : Nat} (ht : f.lv.take k = g.lv.take k) (hl : f.lv.length ≤ k ∨ g.lv.length ≤ k) : lsV f g = 0 ∧ lsE f g = 23 := by
  refine ls_same hf hg ?_
  rcases Nat.lt_trichotomy f.plc g.plc with h | h | h
  · obtain ⟨m, hm⟩ := plc_lt hf hg h
    have := hm.le ht
    have := hm.lt
    omega
  · exact h
  · obtain ⟨m, hm⟩ := plc_lt hg hf h
    have := hm.le ht.symm
    have := hm.lt
    omega
end
theorem at_of {f g : Fr} {k : Nat} {x y : Int} (ht : f.lv.take k = g.lv.take k) (hx : f.lv[k]? = some x) (hy : g.lv[k]? = some y) (hne : x ≠ y) : (x = 1 → At g.lv f.lv k) ∧ (x ≠ 1 → At f.lv g.lv k) := by
  have h1 := lvl_01 (lv_all f x (List.mem_of_getElem? hx))
  have h2 := lvl_01 (lv_all g y (List.mem_of_getElem? hy))
  constructor
  · intro e
    exact ⟨ht.symm, by rw [hy]; congr 1; omega, by rw [hx, e]⟩
  · intro e
    exact ⟨ht, by rw [hx]; congr 1; omega, by rw [hy]; congr 1; omega⟩

/-- The level of the bus. -/
def wir (zs : List Int) : Int := if fst (fun z => z != 0) zs < 0 then 1 else 0
theorem wir_zero {zs : List Int} (h : (0 : Int) ∈ zs) : wir zs = 0 := by
  unfold wir
  rw [if_neg]
  intro h'
  have := fst_neg _ zs h' 0 h
  simp at this
theorem wir_one {zs : List Int} (h : ∀ z ∈ zs, z ≠ 0) : wir zs = 1 := by
  unfold wir
  rw [fst_of_all _ zs (fun z hz => by simpa using h z hz)]
  rfl
end Go.Proofs.YtenfcbmeokenaaaGreat
