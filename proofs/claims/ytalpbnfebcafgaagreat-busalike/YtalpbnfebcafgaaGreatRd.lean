/- The contracts of the reference's digits, flag, Arb and Ahead. -/
import Derived.Test.YtalpbnfebcafgaaGreatRc
namespace Go.Proofs.YtalpbnfebcafgaaGreat
set_option maxRecDepth 20000
open Go.RowKit

def OwnOk (zs : List Int) (w : World) (e : Ending) (w' : World) : Prop :=
  ∃ v, e = .returned v ∧ Own w' w.heap.size v zs ∧ Below w.heap.size w w'
theorem ofB_zero (n : Nat) : ofB n 0 = [] := rfl

end Go.Proofs.YtalpbnfebcafgaaGreat
