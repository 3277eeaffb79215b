/- Mathematics of the wire: who is left, level by level. -/
import Derived.Test.YtjbbneagikogbaaAN
namespace Go.Proofs.Ytjbbneagikogbaa

theorem wir_iff (zs : List Int) : wir zs = if (0 : Int) ∈ zs then 0 else 1 := by
  by_cases h : (0 : Int) ∈ zs
  · rw [if_pos h]; exact wir_zero h
  · rw [if_neg h]; exact wir_one (fun z hz e => h (e ▸ hz))
theorem wir_step {zs : List Int} {k : Nat} {z : Int} (h : zs[k]? = some z) : (z = 0 → wir (zs.take (k + 1)) = 0) ∧ (z ≠ 0 → wir (zs.take (k + 1)) = wir (zs.take k)) := by
  rw [List.take_add_one, h]
  constructor
  · intro e; subst e; exact wir_zero (by simp)
  · intro e
    rw [wir_iff, wir_iff]
    have : ((0 : Int) ∈ zs.take k ++ (some z).toList) ↔ (0 : Int) ∈ zs.take k := by simp; exact fun e' => absurd e'.symm e
    by_cases h' : (0 : Int) ∈ zs.take k
    · rw [if_pos (this.2 h'), if_pos h']
    · rw [if_neg (fun x => h' (this.1 x)), if_neg h']

section
variable (L : Nat → List Int) (n m : Nat)
/-- Those that are left behind k levels. -/
def lf (k : Nat) : List Nat := (List.range n).filter fun i => (L i).take k == (L m).take k
/-- m wins among n. -/
def Wns : Prop := m < n ∧ ∀ i, i < n → i ≠ m → ∃ d, At (L m) (L i) d
variable {L n m} {k i : Nat}
theorem lf_mem : i ∈ lf L n m k ↔ i < n ∧ (L i).take k = (L m).take k := by simp [lf]
theorem lf_zero : lf L n m 0 = List.range n := by unfold lf; rw [List.filter_eq_self]; intro a _; simp
theorem lf_m (h : Wns L n m) : m ∈ lf L n m k := lf_mem.2 ⟨h.1, rfl⟩
theorem lf_nodup : (lf L n m k).Nodup := List.nodup_range.filter _
theorem lf_len : (lf L n m k).length ≤ n := by
  have := List.length_filter_le (fun i => (L i).take k == (L m).take k) (List.range n)
  rw [List.length_range] at this
  exact this
theorem lf_le (h : Wns L n m) (hi : i ∈ lf L n m k) (hne : i ≠ m) : ∃ d, k ≤ d ∧ At (L m) (L i) d := by
  obtain ⟨h1, h2⟩ := lf_mem.1 hi
  obtain ⟨d, hd⟩ := h.2 i h1 hne
  exact ⟨d, hd.le h2.symm, hd⟩
theorem lf_other (hl : 1 < (lf L n m k).length) : ∃ i, i ∈ lf L n m k ∧ i ≠ m := by
  have hd := lf_nodup (L := L) (n := n) (m := m) (k := k)
  match h : lf L n m k, hl with
  | a :: b :: r, _ =>
    rw [h] at hd
    have hab : a ≠ b := by
      intro e
      rw [List.nodup_cons] at hd
      exact hd.1 (by simp [e])
    by_cases e : a = m
    · exact ⟨b, by simp, fun e' => hab (e.trans e'.symm)⟩
    · exact ⟨a, by simp, e⟩
theorem lf_lt (h : Wns L n m) (hl : 1 < (lf L n m k).length) (hi : i ∈ lf L n m k) : k < (L i).length ∧ k < (L m).length := by
  obtain ⟨j, hj, hne⟩ := lf_other hl
  obtain ⟨d, hd, ha⟩ := lf_le h hj hne
  have := ha.lt
  by_cases e : i = m
  · subst e; omega
  · obtain ⟨d', hd', ha'⟩ := lf_le h hi e
    have := ha'.lt
    omega
theorem lf_wire (h : Wns L n m) (hi : i ∈ lf L n m k) (h0 : (L i)[k]? = some 0) : (L m)[k]? = some 0 := by
  by_cases e : i = m
  · subst e; exact h0
  · obtain ⟨d, hd, ha⟩ := lf_le h hi e
    rcases Nat.lt_or_ge k d with hk | hk
    · rw [take_get ha.1 hk]; exact h0
    · rw [show k = d by omega]; exact ha.2.1
theorem take_succ_iff {xs ys : List Int} : xs.take (k + 1) = ys.take (k + 1) ↔ xs.take k = ys.take k ∧ xs[k]? = ys[k]? := by
  constructor
  · intro h
    refine ⟨?_, take_get h (by omega)⟩
    have := congrArg (List.take k) h
    simpa [List.take_take, Nat.min_eq_left (Nat.le_succ k)] using this
  · rintro ⟨h1, h2⟩
    rw [List.take_add_one, List.take_add_one, h1, h2]
theorem lf_step : (lf L n m k).filter (fun i => (L i)[k]? == (L m)[k]?) = lf L n m (k + 1) := by
  unfold lf
  rw [List.filter_filter]
  apply List.filter_congr
  intro i hi
  rw [Bool.eq_iff_iff, Bool.and_eq_true, beq_iff_eq, beq_iff_eq, beq_iff_eq]
  constructor
  · rintro ⟨h1, h2⟩
    exact take_succ_iff.2 ⟨h2, h1⟩
  · intro h'
    exact (take_succ_iff.1 h').symm
theorem only {l : List Nat} (hd : l.Nodup) (hm : m ∈ l) (h : ∀ i ∈ l, i = m) : l = [m] := by
  match l, hd, hm, h with
  | [a], _, _, h => rw [h a (by simp)]
  | a :: b :: r, hd, _, h =>
    have h1 := h a (by simp)
    have h2 := h b (by simp)
    rw [List.nodup_cons] at hd
    exact absurd (by simp [h1, h2]) hd.1
theorem lf_end (h : Wns L n m) (h32 : ∀ i, (L i).length ≤ 32) (hk : 32 ≤ k ∨ (lf L n m k).length ≤ 1) : lf L n m k = [m] := by
  refine only lf_nodup (lf_m h) fun i hi => ?_
  by_cases e : i = m
  · exact e
  · exfalso
    obtain ⟨d, hd, ha⟩ := lf_le h hi e
    have := ha.lt
    have h1 := h32 i
    rcases hk with hk | hk
    · omega
    · have hd := lf_nodup (L := L) (n := n) (m := m) (k := k)
      have hm := lf_m (k := k) h
      match hl : lf L n m k, hk with
      | [], _ => rw [hl] at hm; cases hm
      | [a], _ =>
        rw [hl] at hm hi
        simp at hm hi
        exact e (hi.trans hm.symm)
/-- The level at k of the wire. -/
theorem lf_wir (h : Wns L n m) (hlv : ∀ i, ∀ z ∈ L i, lvl z = true) (hl : 1 < (lf L n m k).length) {x : Int} (hx : (L m)[k]? = some x) : wir ((lf L n m k).map fun i => (L i).getD k 1) = x := by
  rcases lvl_01 (hlv m x (List.mem_of_getElem? hx)) with rfl | rfl
  · apply wir_zero
    rw [List.mem_map]
    exact ⟨m, lf_m h, by simp [List.getD, hx]⟩
  · apply wir_one
    intro z hz
    obtain ⟨i, hi, rfl⟩ := List.mem_map.1 hz
    intro e
    have hki := (lf_lt h hl hi).1
    have : (L i)[k]? = some 0 := by
      rw [← e]; simp [List.getD, hki]
    rw [lf_wire h hi this] at hx
    cases hx
end
theorem wns_of {fs : Nat → Fr} {n m : Nat} (hmay : ∀ i, i < n → (fs i).may = true) (hm : m < n) (h : ∀ i, i < n → i ≠ m → (fs m).plc < (fs i).plc) : Wns (fun i => (fs i).lv) n m :=
  ⟨hm, fun i hi hne => plc_lt (hmay m hm) (hmay i hi) (h i hi hne)⟩
end Go.Proofs.Ytjbbneagikogbaa
