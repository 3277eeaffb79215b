/- Mathematics of sorting: places, exchanged and in order. -/
import Derived.Test.YtjbbneagikogbaaAM
namespace Go.Proofs.Ytjbbneagikogbaa

def asI (ps : List Nat) : List Int := ps.map fun i : Nat => (i : Int)
theorem asI_len (ps : List Nat) : (asI ps).length = ps.length := by simp [asI]
theorem asI_getD (ps : List Nat) (j : Nat) : (asI ps).getD j 0 = ((ps.getD j 0 : Nat) : Int) := by
  unfold asI
  simp only [List.getD, List.getElem?_map]
  cases ps[j]? <;> rfl
theorem asI_set (ps : List Nat) (j p : Nat) : (asI ps).set j (p : Int) = asI (ps.set j p) := by simp [asI, List.map_set]
theorem asI_app (ps qs : List Nat) : asI (ps ++ qs) = asI ps ++ asI qs := by simp [asI]
theorem asI_beq (ps qs : List Nat) : (asI ps == asI qs) = (ps == qs) := by
  rw [Bool.eq_iff_iff, beq_iff_eq, beq_iff_eq]
  constructor
  · intro h
    unfold asI at h
    exact List.map_inj_right (fun a b h => by omega) |>.1 h
  · intro h; rw [h]
theorem getD_mem {ps : List Nat} {j : Nat} (h : j < ps.length) : ps.getD j 0 ∈ ps := by
  simp [List.getD, h]

def swp (ps : List Nat) (j k : Nat) : List Nat := (ps.set j (ps.getD k 0)).set k (ps.getD j 0)
theorem swp_len (ps : List Nat) (j k : Nat) : (swp ps j k).length = ps.length := by simp [swp]
theorem swp_perm {ps : List Nat} {j k : Nat} (hj : j < ps.length) (hk : k < ps.length) : (swp ps j k).Perm ps := by
  have := List.set_set_perm hj hk
  unfold swp
  simpa [List.getD, hj, hk] using this
theorem swp_getD {ps : List Nat} {j k : Nat} (hj : j < ps.length) (hk : k < ps.length) (a : Nat) : (swp ps j k).getD a 0 = if a = k then ps.getD j 0 else if a = j then ps.getD k 0 else ps.getD a 0 := by
  unfold swp
  simp only [List.getD, List.getElem?_set, List.length_set]
  by_cases h1 : k = a
  · subst h1
    simp [hk]
  · rw [if_neg h1, if_neg (Ne.symm h1)]
    by_cases h2 : j = a
    · subst h2
      simp [hj]
    · rw [if_neg h2, if_neg (Ne.symm h2)]

section
variable (κ : Nat → Nat)
/-- The first i are in order. -/
def Up (ps : List Nat) (i : Nat) : Prop := ∀ a b, a < b → b < i → κ (ps.getD a 0) ≤ κ (ps.getD b 0)
/-- The first i + 1 are in order, but for the one at j, that comes ahead of all behind it. -/
def But (ps : List Nat) (i j : Nat) : Prop := (∀ a b, a < b → b ≤ i → a ≠ j → b ≠ j → κ (ps.getD a 0) ≤ κ (ps.getD b 0)) ∧ ∀ b, j < b → b ≤ i → κ (ps.getD j 0) ≤ κ (ps.getD b 0)
variable {κ} {ps : List Nat} {i j : Nat}
theorem up_but (h : Up κ ps i) : But κ ps i i := ⟨fun a b hab hb _ hne => h a b hab (by omega), fun b h1 h2 => by omega⟩
theorem but_zero (h : But κ ps i 0) : Up κ ps (i + 1) := fun a b hab hb => by
  by_cases ha : a = 0
  · subst ha; exact h.2 b hab (by omega)
  · exact h.1 a b hab (by omega) ha (by omega)
theorem but_stop (h : But κ ps i (j + 1)) (hj : j + 1 ≤ i) (hle : κ (ps.getD j 0) ≤ κ (ps.getD (j + 1) 0)) : Up κ ps (i + 1) := fun a b hab hb => by
  by_cases ha : a = j + 1
  · subst ha; exact h.2 b hab (by omega)
  · by_cases hb' : b = j + 1
    · subst hb'
      by_cases e : a = j
      · subst e; exact hle
      · exact Nat.le_trans (h.1 a j (by omega) (by omega) ha (by omega)) hle
    · exact h.1 a b hab (by omega) ha hb'
theorem but_swap (h : But κ ps i (j + 1)) (hj : j + 1 ≤ i) (hi : i < ps.length) (hlt : κ (ps.getD (j + 1) 0) < κ (ps.getD j 0)) : But κ (swp ps (j + 1) j) i j := by
  have hg := fun a => swp_getD (ps := ps) (j := j + 1) (k := j) (by omega) (by omega) a
  constructor
  · intro a b hab hb ha hb'
    rw [hg, hg, if_neg ha, if_neg hb']
    by_cases h1 : b = j + 1
    · subst h1
      rw [if_neg (by omega), if_pos rfl]
      exact h.1 a j (by omega) (by omega) (by omega) (by omega)
    · rw [if_neg h1]
      by_cases h2 : a = j + 1
      · subst h2
        rw [if_pos rfl]
        exact h.1 j b (by omega) hb (by omega) h1
      · rw [if_neg h2]
        exact h.1 a b hab hb h2 h1
  · intro b h1 h2
    rw [hg, hg, if_pos rfl, if_neg (by omega)]
    by_cases e : b = j + 1
    · subst e; rw [if_pos rfl]; omega
    · rw [if_neg e]; exact h.2 b (by omega) h2
end

/-- ps are the places 0 to n - 1, in order, no two alike. -/
def Srt (κ : Nat → Nat) (n : Nat) (ps : List Nat) : Prop := ps.Perm (List.range n) ∧ ∀ a b, a < b → b < n → κ (ps.getD a 0) < κ (ps.getD b 0)
section
variable {κ : Nat → Nat} {n : Nat} {ps qs : List Nat}
theorem Srt.len (h : Srt κ n ps) : ps.length = n := by rw [h.1.length_eq, List.length_range]
theorem Srt.lt (h : Srt κ n ps) {j : Nat} (hj : j < n) : ps.getD j 0 < n := by
  have := h.1.mem_iff.1 (getD_mem (ps := ps) (j := j) (by rw [h.len]; exact hj))
  simpa using this
theorem Srt.has (h : Srt κ n ps) {i : Nat} (hi : i < n) : ∃ j, j < n ∧ ps.getD j 0 = i := by
  have := h.1.mem_iff.2 (List.mem_range.2 hi)
  obtain ⟨j, hj, e⟩ := List.mem_iff_getElem.1 this
  exact ⟨j, by rw [← h.len]; exact hj, by simp [List.getD, hj, e]⟩
theorem Srt.inj (h : Srt κ n ps) {i k : Nat} (hi : i < n) (hk : k < n) (e : κ i = κ k) : i = k := by
  obtain ⟨a, ha, rfl⟩ := h.has hi
  obtain ⟨b, hb, rfl⟩ := h.has hk
  rcases Nat.lt_trichotomy a b with hl | rfl | hl
  · have := h.2 a b hl hb; omega
  · rfl
  · have := h.2 b a hl ha; omega
theorem pairwise_of (h : ∀ a b, a < b → b < ps.length → κ (ps.getD a 0) < κ (ps.getD b 0)) : ps.Pairwise fun x y => κ x < κ y := by
  rw [List.pairwise_iff_getElem]
  intro i j hi hj hij
  have := h i j hij hj
  simpa [List.getD, hi, hj] using this
theorem Srt.uniq (h : Srt κ n ps) (h' : Srt κ n qs) : ps = qs := by
  refine List.Perm.eq_of_pairwise (le := fun x y => κ x < κ y) (fun a b _ _ h1 h2 => by omega) ?_ ?_ (h.1.trans h'.1.symm)
  · exact pairwise_of (by rw [h.len]; exact h.2)
  · exact pairwise_of (by rw [h'.len]; exact h'.2)
/-- The first one comes ahead of all others. -/
theorem Srt.first (h : Srt κ n ps) {i : Nat} (hi : i < n) (hne : i ≠ ps.getD 0 0) : κ (ps.getD 0 0) < κ i := by
  obtain ⟨a, ha, rfl⟩ := h.has hi
  exact h.2 0 a (by rcases a with _ | a; exact absurd rfl hne; omega) ha
end
end Go.Proofs.Ytjbbneagikogbaa
