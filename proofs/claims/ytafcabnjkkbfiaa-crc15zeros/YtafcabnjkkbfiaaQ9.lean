/- The walk of the law Crc15Zeros, at two numbers that stand in a list. -/
import Derived.Test.YtafcabnjkkbfiaaQ6
namespace Go.Proofs.Ytafcabnjkkbfiaa
open Go.RowKit
theorem law26l (A : Option Addr) (n cap : Nat) (zs : List Int) (m : Int) (two : List Int) (w : World) (hr : Il w A n zs) (hcap : n ≤ cap) (h2 : two.length = 2) :
    Calls Try.prog 8 #[.slice A n cap, .int .i64 m, .agg (two.map (Value.int .i64)).toArray] w fun e w' => e = .returned (.bool true) ∧ Below w.heap.size w w' := by
  match two, h2 with
  | [x, y], _ => exact law26 A n cap zs m x y w hr hcap
end Go.Proofs.Ytafcabnjkkbfiaa
