/- The contract of bits.Longest. -/
import Derived.Test.YtaamklfedcbccaaG
namespace Go.Proofs.Ytaamklfedcbccaa
open Go.RowKit

theorem most_step (rs : List Int) (k : Nat) (z : Int) (h : rs[k]? = some z) : most (rs.take (k + 1)) = max (most (rs.take k)) z := by
  rw [List.take_add_one, h]; exact most_snoc _ _
theorem runs_len (zs : List Int) : (runs zs).length ≤ zs.length := by
  rw [runs_cnt]
  suffices h : ∀ (l : List Int) (p : Option Int), rcnt p l ≤ l.length from h zs none
  intro l
  induction l with
  | nil => intro p; simp [rcnt]
  | cons x l ih => intro p; have := ih (some x); simp only [rcnt, List.length_cons]; split <;> omega

set_option maxHeartbeats 400000 in
theorem longest_ok (A : Option Addr) (n cap : Nat) (zs : List Int) (w : World) (hr : Il w A n zs) (hn : n ≤ 100000) :
    Calls Try.prog 21 #[.slice A n cap] w fun e w' => e = .returned (.int .i64 (most (runs zs))) ∧ Below w.heap.size w w' := by
  have hrl := runs_len zs
  rw [hr.1] at hrl
  go_enter Try.func21, Try.ntmps21
  go_wp2_with (go_at_call 24; (with_reducible refine (runs_ok _ _ _ _ _ hr (by omega)).mono ?_); rintro e w1 ⟨A1, cap1, rfl, hi1, hb1⟩)
  have HR := Lib.hid hr; have HI := Lib.hid hi1
  clear hr hi1
  generalize hrs : runs zs = rs at *
  have HQ := Lib.hid hrs
  clear hrs
  go_loop [3, 9] (fun v i => ∃ k : Nat, k ≤ rs.length ∧ i = .int .i64 k ∧ v = .int .i64 (most (rs.take k))) (fun _ i => rs.length - (intOf i).toNat)
  case atStart => exact ⟨0, Nat.zero_le _, rfl, rfl⟩
  case round =>
    obtain ⟨k, hk, rfl, rfl⟩ := hrel
    by_cases hlt : k < rs.length
    · obtain ⟨ad, z, rfl, hz, hc⟩ := HI.out.at_ hlt
      have HS := Lib.hid (most_step rs k z hz)
      have HZ := Lib.hid hz
      clear hz
      generalize most (rs.take k) = m at *
      go_wp2
      go_round
      case rel => exact ⟨k + 1, by omega, by go_num, val_int (by rw [HS.out]; split <;> omega)⟩
      case measure => simp [intOf]; omega
    · have HS := Lib.hid (show rs.take k = rs from List.take_of_length_le (by omega))
      go_wp2
      go_ret
      exact ⟨ret_int (by rw [HS.out, HQ.out]), hb1⟩
end Go.Proofs.Ytaamklfedcbccaa
