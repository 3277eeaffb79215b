/- The contracts of bits.Value and of the reference's Value. -/
import Derived.Test.YtldhnbohpnkcpaaA
import Derived.Laws.BitsAllLaws
namespace Go.Proofs.Ytldhnbohpnkcpaa
open Go.RowKit

theorem or_step (a : Nat) (z : Int) (ha : a < 9223372036854775808) (hz : z = 0 ∨ z = 1) :
    bits .or .u64 (IntKind.u64.wrap ((a : Int) * 2)) (IntKind.u64.wrap z) = ((2 * a + z.toNat : Nat) : Int) := by
  rw [IntKind.wrap_u64, IntKind.wrap_u64]
  rw [show (a : Int) * 2 % 18446744073709551616 = ((2 * a : Nat) : Int) from by omega, show z % 18446744073709551616 = ((z.toNat : Nat) : Int) from by omega]
  rw [u64_or_nat _ _ (by omega) (by omega), nat_join 1 (2 * a) z.toNat (by omega) (by omega)]
theorem add_step (a : Nat) (z : Int) (ha : a < 9223372036854775808) (hz : z = 0 ∨ z = 1) :
    IntKind.u64.wrap (IntKind.u64.wrap (2 * (a : Int)) + IntKind.u64.wrap z) = ((2 * a + z.toNat : Nat) : Int) := by
  rw [IntKind.wrap_u64, IntKind.wrap_u64, IntKind.wrap_u64]; omega
theorem val_int {k : IntKind} {a b : Int} (h : a = b) : Value.int k a = .int k b := by rw [h]
theorem all_at {zs : List Int} {k : Nat} {z : Int} (h : ∀ z ∈ zs, lvl z = true) (hz : zs[k]? = some z) : z = 0 ∨ z = 1 := lvl_01 (h z (List.mem_of_getElem? hz))

end Go.Proofs.Ytldhnbohpnkcpaa
