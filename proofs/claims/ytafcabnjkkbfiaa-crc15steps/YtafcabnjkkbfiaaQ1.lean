/- The walk of the law Crc15Steps. -/
import Derived.Test.YtafcabnjkkbfiaaK4
namespace Go.Proofs.Ytafcabnjkkbfiaa
open Go.RowKit

theorem stp_val {s : Nat} (h : s < 32768) : s % 2 ^ 15 = s := by rw [show (2 : Nat) ^ 15 = 32768 by decide]; omega

set_option maxHeartbeats 800000 in
theorem law21 (sum level : Int) (w : World) :
    Calls Try.prog 3 #[.int .i64 sum, .int .i64 level] w fun e w' => e = .returned (.bool true) ∧ Below w.heap.size w w' := by
  by_cases hs : 0 ≤ sum ∧ sum < 32768
  · obtain ⟨s, rfl⟩ := Int.eq_ofNat_of_zero_le hs.1
    have hs' : s < 32768 := by omega
    have g0 : decide ((s : Int) < 0) = false := by simp
    have g1 : decide ((32767 : Int) < (s : Int)) = false := by simp; omega
    by_cases hz : level = 0 ∨ level = 1
    · have HZ := Lib.hid hz
      have g2 : ((level != 0) && (level != 1)) = false := by rcases hz with rfl | rfl <;> rfl
      have HS := Lib.hid (stp_lt s level)
      go_enter Try.func3, Try.ntmps3
      go_wp2_with fail
      refine (step_ok s level _ hs' hz).mono ?_
      rintro e w1 ⟨rfl, hb1⟩
      clear hz hs
      go_wp2_with fail
      refine (bits_ok s _ hs').mono ?_
      rintro e w2 ⟨A2, cap2, rfl, hi2, hb2⟩
      have HI2 := Lib.hid hi2
      clear hi2
      go_wp2_with fail
      refine (rof2_ok s _ hs').mono ?_
      rintro e w3 ⟨A3, cap3, rfl, hi3, hb3⟩
      have HI3 := Lib.hid hi3
      clear hi3
      go_wp2_with fail
      refine (ints_b _ _ _ _ _ _ _ _ _ (HI2.out.below hb3) HI3.out (by rw [ofB_len]; omega)).mono ?_
      rintro e w4 ⟨rfl, hb4⟩
      rw [show (ofB s 15 == ofB s 15) = true from by simp]
      have HB4 := Lib.hid (nxt (nxt (nxt hb1 hb2) hb3) hb4)
      clear hb1 hb2 hb3 hb4
      rcases HZ.out with rfl | rfl
      all_goals
        go_wp2_with fail
        refine (rof2_ok s _ hs').mono ?_
        rintro e w5 ⟨A5, cap5, rfl, hi5, hb5⟩
        rw [ofB_len] at hi5 ⊢
        have HI5 := Lib.hid hi5
        clear hi5
        go_wp2_with fail
        refine (behind_ok _ _ s _ _ HI5.out hs' (by decide)).mono ?_
        rintro e w6 ⟨A6, cap6, rfl, hi6, hb6⟩
        have HI6 := Lib.hid hi6
        clear hi6
        go_wp2_with fail
        refine (rvalue2_ok _ _ _ _ _ HI6.out (by rw [ofB_len]; omega) (ofB_all _ _)).mono ?_
        rintro e w7 ⟨rfl, rfl⟩
        rw [val_ofB, stp_val HS.out]
        go_wp2_with fail
        refine (awake_ok _).mono ?_
        rintro e w8 ⟨rfl, hb8⟩
        go_wp2
        go_ret
        exact ⟨rfl, nxt (nxt (nxt HB4.out hb5) hb6) hb8⟩
    · have n0 : (level != 0) = true := by simp; omega
      have n1 : (level != 1) = true := by simp; omega
      go_enter Try.func3, Try.ntmps3
      go_wp2_with fail
      refine (step_bad s level _ (.inr hz)).mono ?_
      rintro e w1 ⟨rfl, hb1⟩
      clear hz hs
      go_wp2_with fail
      refine (bits_ok s _ hs').mono ?_
      rintro e w2 ⟨A2, cap2, rfl, hi2, hb2⟩
      have HI2 := Lib.hid hi2
      clear hi2
      go_wp2_with fail
      refine (rof2_ok s _ hs').mono ?_
      rintro e w3 ⟨A3, cap3, rfl, hi3, hb3⟩
      have HI3 := Lib.hid hi3
      clear hi3
      go_wp2_with fail
      refine (ints_b _ _ _ _ _ _ _ _ _ (HI2.out.below hb3) HI3.out (by rw [ofB_len]; omega)).mono ?_
      rintro e w4 ⟨rfl, hb4⟩
      rw [show (ofB s 15 == ofB s 15) = true from by simp]
      go_wp2_with fail
      refine (awake_ok _).mono ?_
      rintro e w8 ⟨rfl, hb8⟩
      go_wp2
      go_ret
      exact ⟨rfl, nxt (nxt (nxt (nxt hb1 hb2) hb3) hb4) hb8⟩
  · have HS := Lib.hid hs
    by_cases hneg : sum < 0
    · have g0 : decide (sum < 0) = true := by simp; omega
      clear hs
      go_enter Try.func3, Try.ntmps3
      go_wp2_with fail
      refine (step_bad sum level _ (.inl HS.out)).mono ?_
      rintro e w1 ⟨rfl, hb1⟩
      go_wp2_with fail
      refine (bits_bad sum _ HS.out).mono ?_
      rintro e w2 ⟨rfl, rfl⟩
      go_wp2_with fail
      refine (awake_ok _).mono ?_
      rintro e w3 ⟨rfl, hb3⟩
      go_wp2
      go_ret
      exact ⟨rfl, nxt hb1 hb3⟩
    · have g0 : decide (sum < 0) = false := by simp; omega
      have g1 : decide (32767 < sum) = true := by simp; omega
      clear hs
      go_enter Try.func3, Try.ntmps3
      go_wp2_with fail
      refine (step_bad sum level _ (.inl HS.out)).mono ?_
      rintro e w1 ⟨rfl, hb1⟩
      go_wp2_with fail
      refine (bits_bad sum _ HS.out).mono ?_
      rintro e w2 ⟨rfl, rfl⟩
      go_wp2_with fail
      refine (awake_ok _).mono ?_
      rintro e w3 ⟨rfl, hb3⟩
      go_wp2
      go_ret
      exact ⟨rfl, nxt hb1 hb3⟩
end Go.Proofs.Ytafcabnjkkbfiaa
