/- The contracts of bits.Of, and of the reference's Of. -/
import Derived.Test.YtldhnbohpnkcpaaW
namespace Go.Proofs.Ytldhnbohpnkcpaa
open Go.RowKit

/-- Bit i of n. -/
def bit (n i : Nat) : Int := ((n / 2 ^ i % 2 : Nat) : Int)
/-- The width lowest bits of n, the greatest one first. -/
def ofB (n width : Nat) : List Int := (List.range width).map fun j => bit n (width - 1 - j)
theorem ofB_len (n width : Nat) : (ofB n width).length = width := by simp [ofB]

def Fill (n width k : Nat) (zs : List Int) : Prop := zs.length = width ∧ ∀ j, width - k ≤ j → j < width → zs.getD j 0 = bit n (width - 1 - j)
theorem Fill.step {n width k : Nat} {zs : List Int} (h : Fill n width k zs) (hk : k < width) : Fill n width (k + 1) (zs.set (width - 1 - k) (bit n k)) := by
  refine ⟨by rw [List.length_set]; exact h.1, fun j h1 h2 => ?_⟩
  have hl := h.1
  rcases Nat.lt_or_ge (width - 1 - k) j with hlt | hge
  · have := h.2 j (by omega) h2
    rw [← this]
    simp [List.getD, List.getElem?_set_ne (show width - 1 - k ≠ j by omega)]
  · have e : j = width - 1 - k := by omega
    subst e
    simp [List.getD, List.getElem?_set_self (show width - 1 - k < zs.length by omega)]
    congr 1; omega
theorem Fill.all {n width k : Nat} {zs : List Int} (h : Fill n width k zs) (hk : width ≤ k) : zs = ofB n width := by
  apply List.ext_getElem
  · rw [h.1, ofB_len]
  · intro j h1 h2
    have := h.2 j (by omega) (by rw [← h.1]; exact h1)
    simp [h1] at this
    simp [ofB, this]

theorem and_bit (n k : Nat) (h : n < 18446744073709551616) : wrap64 (bits BinOp.and IntKind.u64 ((n : Int) / 2 ^ k) 1) = bit n k := by
  have e : (n : Int) / 2 ^ k = ((n / 2 ^ k : Nat) : Int) := by simp
  have hlt : n / 2 ^ k < 18446744073709551616 := Nat.lt_of_le_of_lt (Nat.div_le_self _ _) h
  rw [e, show (1 : Int) = ((1 : Nat) : Int) from rfl, u64_and_nat _ _ hlt (by omega), nat_mask1]
  unfold bit wrap64
  have := Nat.mod_lt (n / 2 ^ k) (show 2 > 0 by omega)
  omega

def SlOk (zs : List Int) (w : World) (e : Ending) (w' : World) : Prop :=
  ∃ A cap, e = .returned (.tuple #[.slice A zs.length cap, .int .i64 0]) ∧ Il w' A zs.length zs ∧ Below w.heap.size w w'

end Go.Proofs.Ytldhnbohpnkcpaa
