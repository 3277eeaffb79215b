/- Plain facts on bits, their numbers, and on what was carried over calls. -/
import Derived.Test.YtalpbnfebcafgaaGreatE
namespace Go.Proofs.YtalpbnfebcafgaaGreat
set_option maxRecDepth 20000
open Go.RowKit

theorem nxt {w w1 w2 : World} (h : Below w.heap.size w w1) (h2 : Below w1.heap.size w1 w2) : Below w.heap.size w w2 := h.trans (h2.mono h.size)

theorem bit_lvl (n i : Nat) : lvl (bit n i) = true := by
  unfold bit lvl
  have := Nat.mod_lt (n / 2 ^ i) (show 2 > 0 by omega)
  simp; omega
theorem ofB_all (n width : Nat) : ∀ z ∈ ofB n width, lvl z = true := by
  intro z hz
  obtain ⟨j, _, rfl⟩ := List.mem_map.1 hz
  exact bit_lvl _ _
theorem ofB_snoc (n k : Nat) : ofB n (k + 1) = ofB (n / 2) k ++ [((n % 2 : Nat) : Int)] := by
  apply List.ext_getElem
  · simp [ofB]
  · intro j h1 h2
    simp only [ofB, List.length_map, List.length_range] at h1
    rcases Nat.lt_or_ge j k with h | h
    · rw [List.getElem_append_left (by simp [ofB]; exact h)]
      simp only [ofB, List.getElem_map, List.getElem_range, bit]
      rw [show k + 1 - 1 - j = (k - 1 - j) + 1 by omega, Nat.pow_succ', Nat.div_div_eq_div_mul]
    · have e : j = k := by omega
      subst e
      rw [List.getElem_append_right (by simp [ofB])]
      simp [ofB, bit]
theorem val_ofB : ∀ (k n : Nat), val (ofB n k) = n % 2 ^ k := by
  intro k
  induction k with
  | zero => intro n; simp [ofB, val, Nat.mod_one]
  | succ k ih =>
    intro n
    rw [ofB_snoc, val_snoc, ih, Nat.pow_succ', Nat.mod_mul]
    simp; omega
theorem ofB_split (n u l : Nat) : ofB n (u + l) = ofB (n / 2 ^ l) u ++ ofB n l := by
  apply List.ext_getElem
  · simp [ofB]
  · intro j h1 h2
    simp only [ofB, List.length_map, List.length_range] at h1
    rcases Nat.lt_or_ge j u with h | h
    · rw [List.getElem_append_left (by simp [ofB]; exact h)]
      simp only [ofB, List.getElem_map, List.getElem_range, bit]
      rw [Nat.div_div_eq_div_mul, ← Nat.pow_add, show l + (u - 1 - j) = u + l - 1 - j by omega]
    · rw [List.getElem_append_right (by simp [ofB]; exact h)]
      simp only [ofB, List.getElem_map, List.getElem_range, bit, List.length_map, List.length_range]
      rw [show l - 1 - (j - u) = u + l - 1 - j by omega]
theorem below_lit {w w' : World} {o : Obj} {n c : Nat} (h : (w.alloc o).grownBy w' (Value.slice (some ⟨w.heap.size, 0, none⟩) n c).ownBlock) : Below w.heap.size w w' :=
  ((Below.refl _ _).alloc (Nat.le_refl _) _).grown h (by simp) (by intro j hj; injection hj with hj; subst hj; exact Nat.le_refl _)
theorem val_64 {zs : List Int} (h : ∀ z ∈ zs, lvl z = true) (hl : zs.length ≤ 64) : val zs < 18446744073709551616 := by
  have h1 := val_lt zs h
  have h2 : 2 ^ zs.length ≤ 2 ^ 64 := Nat.pow_le_pow_right (by omega) hl
  have : (2 : Nat) ^ 64 = 18446744073709551616 := by decide
  omega
theorem ofB_val_rev : ∀ l : List Int, (∀ z ∈ l, lvl z = true) → ofB (val l.reverse) l.length = l.reverse := by
  intro l
  induction l with
  | nil => intro _; rfl
  | cons z l ih =>
    intro h
    have h1 := ih (fun y hy => h y (by simp [hy]))
    have h2 := lvl_01 (h z (by simp))
    rw [List.reverse_cons, val_snoc, List.length_cons, ofB_snoc]
    have e1 : (2 * val l.reverse + z.toNat) / 2 = val l.reverse := by omega
    have e2 : (((2 * val l.reverse + z.toNat) % 2 : Nat) : Int) = z := by omega
    rw [e1, e2, h1]
theorem ofB_val {zs : List Int} (h : ∀ z ∈ zs, lvl z = true) : ofB (val zs) zs.length = zs := by
  have := ofB_val_rev zs.reverse (fun z hz => h z (by simpa using hz))
  simpa using this
theorem val_zero (zs : List Int) : val ([0] ++ zs) = val zs := by simp [val]
theorem zero_all {zs : List Int} (h : ∀ z ∈ zs, lvl z = true) : ∀ z ∈ [0] ++ zs, lvl z = true := by
  intro z hz
  rcases List.mem_append.1 hz with hz | hz
  · simp at hz; subst hz; rfl
  · exact h z hz
theorem belowN {B : Nat} {a w : World} (h : Below B a w) (n : Nat) : Below B a (w.drewN n) := ⟨h.os, h.tape, h.output, h.size, h.block⟩
end Go.Proofs.YtalpbnfebcafgaaGreat
