/- The contract of the reference's Of. -/
import Derived.Test.YtalpbnfebcafgaaGreatD
namespace Go.Proofs.YtalpbnfebcafgaaGreat
set_option maxRecDepth 20000
open Go.RowKit

theorem ofB_cons (n k : Nat) : ofB n (k + 1) = bit n k :: ofB n k := by
  unfold ofB
  rw [List.range_succ_eq_map, List.map_cons, List.map_map]
  congr 1
  apply List.map_congr_left
  intro j _
  show bit n (k + 1 - 1 - (j + 1)) = bit n (k - 1 - j)
  congr 1; omega
theorem Il.alloc {w : World} {A : Option Addr} {n : Nat} {zs : List Int} (h : Il w A n zs) (o : Obj) : Il (w.alloc o) A n zs := h.below ((Below.refl _ _).alloc (Nat.le_refl _) _)
theorem half_step {n k m : Nat} (hn : n < 18446744073709551616) (hm : m = n / 2 ^ k) : IntKind.u64.wrap ((m : Int) / 2) = ((n / 2 ^ (k + 1) : Nat) : Int) := by
  have h1 : m < 18446744073709551616 := by rw [hm]; exact Nat.lt_of_le_of_lt (Nat.div_le_self _ _) hn
  have h2 : n / 2 ^ (k + 1) = m / 2 := by rw [hm, Nat.pow_succ, Nat.div_div_eq_div_mul]
  rw [h2, IntKind.wrap_u64]; omega
def SlOne (zs : List Int) (w : World) (e : Ending) (w' : World) : Prop :=
  ∃ A cap, e = .returned (.slice A zs.length cap) ∧ Il w' A zs.length zs ∧ Below w.heap.size w w'

end Go.Proofs.YtalpbnfebcafgaaGreat
