/- The walk of the law BitsBack. -/
import Derived.Test.YtiaecljigldmhaaL3
import Derived.Test.YtiaecljigldmhaaL8
namespace Go.Proofs.Ytiaecljigldmhaa
open Go.RowKit

theorem txt_lvb {zs : List Int} (h : ∀ z ∈ zs, lvl z = true) : ∀ c ∈ (txt zs).data.toList, lvb c = true := by
  unfold txt
  rw [strOfNums_data, List.map_map]
  intro c hc
  obtain ⟨z, hz, rfl⟩ := List.mem_map.1 hc
  rcases lvl_01 (h z hz) with rfl | rfl <;> rfl
theorem lvs_txt {zs : List Int} (h : ∀ z ∈ zs, lvl z = true) : lvs (txt zs).data.toList = zs := by
  unfold txt lvs
  rw [strOfNums_data, List.map_map, List.map_map]
  conv => rhs; rw [← List.map_id zs]
  apply List.map_congr_left
  intro z hz
  rcases lvl_01 (h z hz) with rfl | rfl <;> rfl
theorem val_64 {zs : List Int} (h : ∀ z ∈ zs, lvl z = true) (hl : zs.length ≤ 64) : val zs < 18446744073709551616 := by
  have h1 := val_lt zs h
  have h2 : 2 ^ zs.length ≤ 2 ^ 64 := Nat.pow_le_pow_right (by omega) hl
  have : (2 : Nat) ^ 64 = 18446744073709551616 := by decide
  omega
theorem ofB_val_rev : ∀ l : List Int, (∀ z ∈ l, lvl z = true) → ofB (val l.reverse) l.length = l.reverse := by
  intro l
  induction l with
  | nil => intro _; rfl
  | cons z l ih =>
    intro h
    have h1 := ih (fun y hy => h y (by simp [hy]))
    have h2 := lvl_01 (h z (by simp))
    rw [List.reverse_cons, val_snoc, List.length_cons, ofB_snoc]
    have e1 : (2 * val l.reverse + z.toNat) / 2 = val l.reverse := by omega
    have e2 : (((2 * val l.reverse + z.toNat) % 2 : Nat) : Int) = z := by omega
    rw [e1, e2, h1]
theorem ofB_val {zs : List Int} (h : ∀ z ∈ zs, lvl z = true) : ofB (val zs) zs.length = zs := by
  have := ofB_val_rev zs.reverse (fun z hz => h z (by simpa using hz))
  simpa using this
theorem val_zero (zs : List Int) : val ([0] ++ zs) = val zs := by simp [val]
theorem zero_all {zs : List Int} (h : ∀ z ∈ zs, lvl z = true) : ∀ z ∈ [0] ++ zs, lvl z = true := by
  intro z hz
  rcases List.mem_append.1 hz with hz | hz
  · simp at hz; subst hz; rfl
  · exact h z hz
theorem rem_eq {n k v : Nat} (h : k < 64) (hv : v = n % 2 ^ k) : ∃ P : Nat, 0 < P ∧ IntKind.u64.wrap (2 ^ k) = (P : Int) ∧ ((v : Int) != (n : Int) % (P : Int)) = false := by
  have h1 : 2 ^ k ≤ 2 ^ 63 := Nat.pow_le_pow_right (by omega) (by omega)
  have h2 : (2 : Nat) ^ 63 = 9223372036854775808 := by decide
  refine ⟨2 ^ k, Nat.pow_pos (by omega), ?_, ?_⟩
  · rw [IntKind.wrap_u64, show ((2 : Int) ^ k) = ((2 ^ k : Nat) : Int) from by simp]
    exact Int.emod_eq_of_lt (Int.natCast_nonneg _) (by omega)
  · rw [hv]; simp
theorem rem_64 {n k v : Nat} (h : k = 64) (hv : v = n % 2 ^ k) (hn : n < 18446744073709551616) : ((v : Int) != (n : Int)) = false := by
  subst h
  have : (2 : Nat) ^ 64 = 18446744073709551616 := by decide
  rw [this, Nat.mod_eq_of_lt hn] at hv
  rw [hv]; simp

end Go.Proofs.Ytiaecljigldmhaa
