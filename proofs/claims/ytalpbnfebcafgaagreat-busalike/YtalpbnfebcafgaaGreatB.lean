/- The contracts of bits.Value and of the reference's Value. -/
import Derived.Test.YtalpbnfebcafgaaGreatA
import Derived.Laws.BitsAllLaws
namespace Go.Proofs.YtalpbnfebcafgaaGreat
set_option maxRecDepth 20000
open Go.RowKit

theorem or_step (a : Nat) (z : Int) (ha : a < 9223372036854775808) (hz : z = 0 ∨ z = 1) :
    bits .or .u64 (IntKind.u64.wrap ((a : Int) * 2)) (IntKind.u64.wrap z) = ((2 * a + z.toNat : Nat) : Int) := by
  rw [IntKind.wrap_u64, IntKind.wrap_u64]
  rw [show (a : Int) * 2 % 18446744073709551616 = ((2 * a : Nat) : Int) from by omega, show z % 18446744073709551616 = ((z.toNat : Nat) : Int) from by omega]
  rw [u64_or_nat _ _ (by omega) (by omega), nat_join 1 (2 * a) z.toNat (by omega) (by omega)]
theorem add_step (a : Nat) (z : Int) (ha : a < 9223372036854775808) (hz : z = 0 ∨ z = 1) :
    IntKind.u64.wrap (IntKind.u64.wrap (2 * (a : Int)) + IntKind.u64.wrap z) = ((2 * a + z.toNat : Nat) : Int) := by
  rw [IntKind.wrap_u64, IntKind.wrap_u64, IntKind.wrap_u64]; omega
theorem val_int {k : IntKind} {a b : Int} (h : a = b) : Value.int k a = .int k b := by rw [h]
theorem all_at {zs : List Int} {k : Nat} {z : Int} (h : ∀ z ∈ zs, lvl z = true) (hz : zs[k]? = some z) : z = 0 ∨ z = 1 := lvl_01 (h z (List.mem_of_getElem? hz))

set_option maxHeartbeats 400000 in
theorem value_ok (A : Option Addr) (n cap : Nat) (zs : List Int) (w : World) (hr : Il w A n zs) (hn : n ≤ 64) (hl : ∀ z ∈ zs, lvl z = true) :
    Calls Tryz.prog 145 #[.slice A n cap] w fun e w' => e = .returned (.tuple #[.int .u64 (val zs), .int .i64 0]) ∧ w = w' := by
  have HL := Lib.hid (fst_of_all lvl zs hl); have HA := Lib.hid hl
  clear hl
  go_enter Tryz.func145, Tryz.ntmps145
  go_wp2_with (go_at_call 60; (with_reducible refine (check_any _ _ _ _ _ hr (by omega)).mono ?_); rintro e w' ⟨rfl, rfl⟩; rw [chk, HL.out])
  go_loop [4, 14] (fun v i => ∃ k : Nat, k ≤ n ∧ i = .int .i64 k ∧ v = .int .u64 (val (zs.take k))) (fun _ i => n - (intOf i).toNat)
  case atStart => exact ⟨0, Nat.zero_le _, rfl, rfl⟩
  case round =>
    obtain ⟨k, hk, rfl, rfl⟩ := hrel
    by_cases hlt : k < n
    · obtain ⟨ad, z, rfl, hz, hc⟩ := hr.at_ hlt
      have HR := Lib.hid hr; have HZ := Lib.hid hz
      clear hr hz
      go_wp2
      go_round
      case rel => exact ⟨k + 1, by omega, by go_num, val_int (by rw [or_step _ _ (val_take_lt zs HA.out k (by omega)) (all_at HA.out HZ.out), val_step zs k z HZ.out])⟩
      case measure => simp [intOf]; omega
    · go_wp2
      go_ret2
      exact ⟨by rw [show zs.take k = zs from List.take_of_length_le (by rw [hr.1]; omega)]; rfl, rfl⟩

set_option maxHeartbeats 400000 in
theorem value_long (A : Option Addr) (n cap : Nat) (w : World) (hn : 64 < n) :
    Calls Tryz.prog 145 #[.slice A n cap] w fun e w' => e = .returned (.tuple #[.int .u64 0, .int .i64 12]) ∧ w = w' := by
  go_enter Tryz.func145, Tryz.ntmps145
  go_wp2
  go_ret2
  exact ⟨rfl, rfl⟩

set_option maxHeartbeats 400000 in
theorem value_bad (A : Option Addr) (n cap : Nat) (zs : List Int) (w : World) (hr : Il w A n zs) (hn : n ≤ 64) (hl : 0 ≤ chk zs) :
    Calls Tryz.prog 145 #[.slice A n cap] w fun e w' => e = .returned (.tuple #[.int .u64 0, .int .i64 10]) ∧ w = w' := by
  go_enter Tryz.func145, Tryz.ntmps145
  go_wp2_with (go_at_call 60; (with_reducible refine (check_any _ _ _ _ _ hr (by omega)).mono ?_); rintro e w' ⟨rfl, rfl⟩)
  go_ret2
  exact ⟨rfl, rfl⟩

end Go.Proofs.YtalpbnfebcafgaaGreat
