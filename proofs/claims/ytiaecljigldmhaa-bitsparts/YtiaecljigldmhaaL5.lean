/- The walk of the law BitsRuns. -/
import Derived.Test.YtiaecljigldmhaaH
namespace Go.Proofs.Ytiaecljigldmhaa
open Go.RowKit

theorem nxt {w w1 w2 : World} (h : Below w.heap.size w w1) (h2 : Below w1.heap.size w1 w2) : Below w.heap.size w w2 := h.trans (h2.mono h.size)

set_option maxHeartbeats 400000 in
theorem law5 (A : Option Addr) (n cap : Nat) (zs : List Int) (w : World) (hr : Il w A n zs) :
    Calls Try.prog 5 #[.slice A n cap] w fun e w' => e = .returned (.bool true) ∧ Below w.heap.size w w' := by
  have HR := Lib.hid hr
  clear hr
  by_cases hn : 300 < n
  · go_enter Try.func5, Try.ntmps5
    go_wp2_with (go_at_call 9; (refine (awake_ok _).mono ?_); rintro e w1 ⟨rfl, hb1⟩)
    go_ret
    exact ⟨rfl, hb1⟩
  · have h0 : decide ((300 : Int) < (n : Int)) = false := by simp; omega
    have hrl := runs_len zs
    rw [HR.out.1] at hrl
    go_enter Try.func5, Try.ntmps5
    go_wp2_with fail
    refine (rruns_ok _ _ _ _ _ HR.out (by omega)).mono ?_
    rintro e w1 ⟨A1, cap1, rfl, hi1, hb1⟩
    have HI := Lib.hid hi1; have HR1 := Lib.hid (HR.out.below hb1)
    clear hi1 HR
    generalize hrs : runs zs = rs at *
    have HQ := Lib.hid hrs
    clear hrs
    go_wp2
    go_loop [4, 5] (fun v i => ∃ k : Nat, k ≤ rs.length ∧ i = .int .i64 k ∧ v = .int .i64 (most (rs.take k))) (fun _ i => rs.length - (intOf i).toNat)
    case atStart => exact ⟨0, Nat.zero_le _, rfl, rfl⟩
    case round =>
      obtain ⟨k, hk, rfl, rfl⟩ := hrel
      by_cases hlt : k < rs.length
      · obtain ⟨ad, z, rfl, hz, hc⟩ := HI.out.at_ hlt
        have HS := Lib.hid (most_step rs k z hz)
        have HZ := Lib.hid hz
        clear hz
        generalize most (rs.take k) = m at *
        by_cases hm : m < z
        all_goals
          go_wp2
          go_round
          case rel => exact ⟨k + 1, by omega, by go_num, val_int (by rw [HS.out]; omega)⟩
          case measure => simp [intOf]; omega
      · have HS := Lib.hid (show rs.take k = rs from List.take_of_length_le (by omega))
        go_wp2_with fail
        rw [HS.out]
        refine (runs_ok _ _ _ _ _ HR1.out (by omega)).mono ?_
        rw [HQ.out]
        rintro e w2 ⟨A2, cap2, rfl, hi2, hb2⟩
        have HI2 := Lib.hid hi2; have HI' := Lib.hid (HI.out.below hb2); have HR2 := Lib.hid (HR1.out.below hb2)
        clear hi2 HI HR1
        go_wp2_with fail
        refine (ints_b _ _ _ _ _ _ _ _ _ HI2.out HI'.out (by omega)).mono ?_
        rintro e w3 ⟨rfl, hb3⟩
        have HR3 := Lib.hid (HR2.out.below hb3)
        rw [show (rs == rs) = true from by simp]
        go_wp2_with fail
        refine (longest_ok _ _ _ _ _ HR3.out (by omega)).mono ?_
        rintro e w4 ⟨rfl, hb4⟩
        rw [HQ.out]
        go_wp2_with fail
        refine (awake_ok _).mono ?_
        rintro e w5 ⟨rfl, hb5⟩
        go_wp2
        go_ret
        exact ⟨rfl, nxt (nxt (nxt (nxt hb1 hb2) hb3) hb4) hb5⟩
end Go.Proofs.Ytiaecljigldmhaa
