/- The contract of the reference's Of. -/
import Derived.Test.YtiaecljigldmhaaD
namespace Go.Proofs.Ytiaecljigldmhaa
open Go.RowKit

theorem ofB_cons (n k : Nat) : ofB n (k + 1) = bit n k :: ofB n k := by
  unfold ofB
  rw [List.range_succ_eq_map, List.map_cons, List.map_map]
  congr 1
  apply List.map_congr_left
  intro j _
  show bit n (k + 1 - 1 - (j + 1)) = bit n (k - 1 - j)
  congr 1; omega
theorem Il.alloc {w : World} {A : Option Addr} {n : Nat} {zs : List Int} (h : Il w A n zs) (o : Obj) : Il (w.alloc o) A n zs := h.below ((Below.refl _ _).alloc (Nat.le_refl _) _)
theorem half_step {n k m : Nat} (hn : n < 18446744073709551616) (hm : m = n / 2 ^ k) : IntKind.u64.wrap ((m : Int) / 2) = ((n / 2 ^ (k + 1) : Nat) : Int) := by
  have h1 : m < 18446744073709551616 := by rw [hm]; exact Nat.lt_of_le_of_lt (Nat.div_le_self _ _) hn
  have h2 : n / 2 ^ (k + 1) = m / 2 := by rw [hm, Nat.pow_succ, Nat.div_div_eq_div_mul]
  rw [h2, IntKind.wrap_u64]; omega
def SlOne (zs : List Int) (w : World) (e : Ending) (w' : World) : Prop :=
  ∃ A cap, e = .returned (.slice A zs.length cap) ∧ Il w' A zs.length zs ∧ Below w.heap.size w w'

set_option maxHeartbeats 400000 in
theorem rof_ok (n width : Nat) (w : World) (hn : n < 18446744073709551616) (hw : width ≤ 64) :
    Calls Try.prog 17 #[.int .u64 n, .int .i64 width] w (SlOne (ofB n width) w) := by
  have HN := Lib.hid hn
  clear hn
  go_enter Try.func17, Try.ntmps17
  go_wp2
  go_loopw [0, 5, 6] (fun m v i wr => ∃ (k : Nat) (A : Option Addr) (cap : Nat), k ≤ width ∧ i = .int .i64 k ∧ m = .int .u64 ((n / 2 ^ k : Nat) : Int) ∧ v = .slice A k cap ∧ Il wr A k (ofB n k) ∧ Below w.heap.size w wr) (fun _ _ i _ => width - (intOf i).toNat)
  case atStart => exact ⟨0, _, _, Nat.zero_le _, rfl, by simp, rfl, ⟨rfl, fun h => by omega⟩, (Below.refl _ _).alloc (Nat.le_refl _) _⟩
  case round =>
    obtain ⟨k, A, cap, hk, rfl, rfl, rfl, hi, hbel⟩ := hrel
    by_cases hlt : k < width
    · obtain ⟨m, hm⟩ : ∃ m, m = n / 2 ^ k := ⟨_, rfl⟩
      rw [← hm]
      have HM := Lib.hid hm; have HI := Lib.hid hi
      clear hm hi
      have hsz := hbel.size
      go_wp2_with (at_builtin; (refine append_ints _ rfl (.tmp 16) (.tmp 17) rfl w.heap.size _ [((m : Int) % 2)] rfl (Own.lit wr _ [((m : Int) % 2)] hsz (by simp)) A k cap (ofB n k) rfl (HI.out.alloc _) (by simp; omega) (by simp; omega) ?_); intro v1 w1 ho hg)
      go_roundw
      case rel =>
        have e : [(m : Int) % 2] ++ ofB n k = ofB n (k + 1) := by rw [ofB_cons, HM.out]; simp [bit]
        rw [e] at ho
        obtain ⟨A', cap', rfl, hi'⟩ := ho.il
        rw [ofB_len] at hi'
        exact ⟨k + 1, A', cap', by omega, by go_num, val_int (half_step HN.out HM.out), by rw [ofB_len], hi', (hbel.alloc hsz _).grown hg (by simp; omega) (by intro j hj; injection hj with hj; subst hj; exact hsz)⟩
      case measure => simp [intOf]; omega
    · have e : k = width := by omega
      subst e
      have HI := Lib.hid hi
      clear hi
      go_wp2
      go_ret
      exact ⟨A, cap, by rw [ofB_len]; rfl, by rw [ofB_len]; exact HI.out, hbel⟩
end Go.Proofs.Ytiaecljigldmhaa
