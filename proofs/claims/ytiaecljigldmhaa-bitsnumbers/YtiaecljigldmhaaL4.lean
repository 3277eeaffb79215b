/- The walk of the law BitsNumbers. -/
import Derived.Test.YtiaecljigldmhaaL5
namespace Go.Proofs.Ytiaecljigldmhaa
open Go.RowKit

set_option maxHeartbeats 1600000 in
theorem law4 (m : Nat) (width : Int) (A : Option Addr) (n cap : Nat) (zs : List Int) (w : World) (hm : m < 18446744073709551616) (hr : Il w A n zs) :
    Calls Try.prog 4 #[.int .u64 m, .int .i64 width, .slice A n cap] w fun e w' => e = .returned (.bool true) ∧ Below w.heap.size w w' := by
  have HR := Lib.hid hr; have HM := Lib.hid hm
  clear hr hm
  by_cases hn : 300 < n
  · go_enter Try.func4, Try.ntmps4
    go_wp2_with (go_at_call 9; (refine (awake_ok _).mono ?_); rintro e w1 ⟨rfl, hb1⟩)
    go_ret
    exact ⟨rfl, hb1⟩
  have h0 : decide ((300 : Int) < (n : Int)) = false := by simp; omega
  rcases (show width < 0 ∨ 64 < width ∨ (0 ≤ width ∧ width ≤ 64) from by omega) with hw | hw | ⟨hw1, hw2⟩
  · have g0 : decide (width < 0) = true := by simp; omega
    go_enter Try.func4, Try.ntmps4
    go_wp2_with fail
    refine (of_bad _ _ _ (.inl hw)).mono ?_
    rintro e w' ⟨rfl, rfl⟩
    have HR2 := Lib.hid HR.out
    have HB : Below w.heap.size w w := Below.refl _ _
    rcases (show 64 < n ∨ (n ≤ 64 ∧ 0 ≤ chk zs) ∨ (n ≤ 64 ∧ chk zs < 0) from by omega) with hl | ⟨hl, hc⟩ | ⟨hl, hc⟩
    · have q0 : decide ((64 : Int) < (n : Int)) = true := by simp; omega
      go_wp2_with (first | (go_at_call 18; (refine (value_long _ _ _ _ hl).mono ?_); rintro e w' ⟨rfl, rfl⟩) | (go_at_call 9; (refine (awake_ok _).mono ?_); rintro e w9 ⟨rfl, hb9⟩))
      go_ret
      exact ⟨rfl, nxt HB hb9⟩
    · have q0 : decide ((64 : Int) < (n : Int)) = false := by simp; omega
      go_wp2_with (first | (go_at_call 18; (refine (value_bad _ _ _ _ _ HR2.out hl hc).mono ?_); rintro e w' ⟨rfl, rfl⟩) | (go_at_call 10; (refine (rcheck_any _ _ _ _ _ HR2.out (by omega)).mono ?_); rintro e w' ⟨rfl, rfl⟩) | (go_at_call 9; (refine (awake_ok _).mono ?_); rintro e w9 ⟨rfl, hb9⟩))
      go_ret
      exact ⟨rfl, nxt HB hb9⟩
    · have q0 : decide ((64 : Int) < (n : Int)) = false := by simp; omega
      have HA := Lib.hid (fst_neg lvl zs hc)
      go_wp2_with (first | (go_at_call 18; (refine (value_ok _ _ _ _ _ HR2.out hl HA.out).mono ?_); rintro e w' ⟨rfl, rfl⟩) | (go_at_call 10; (refine (rcheck_any _ _ _ _ _ HR2.out (by omega)).mono ?_); rintro e w' ⟨rfl, rfl⟩) | (go_at_call 19; (refine (rvalue_ok _ _ _ _ _ HR2.out hl HA.out).mono ?_); rintro e w' ⟨rfl, rfl⟩) | (go_at_call 9; (refine (awake_ok _).mono ?_); rintro e w9 ⟨rfl, hb9⟩))
      go_ret
      exact ⟨rfl, nxt HB hb9⟩
  · have g0 : decide (width < 0) = false := by simp; omega
    have g1 : decide ((64 : Int) < width) = true := by simp; omega
    go_enter Try.func4, Try.ntmps4
    go_wp2_with fail
    refine (of_bad _ _ _ (.inr hw)).mono ?_
    rintro e w' ⟨rfl, rfl⟩
    have HR2 := Lib.hid HR.out
    have HB : Below w.heap.size w w := Below.refl _ _
    rcases (show 64 < n ∨ (n ≤ 64 ∧ 0 ≤ chk zs) ∨ (n ≤ 64 ∧ chk zs < 0) from by omega) with hl | ⟨hl, hc⟩ | ⟨hl, hc⟩
    · have q0 : decide ((64 : Int) < (n : Int)) = true := by simp; omega
      go_wp2_with (first | (go_at_call 18; (refine (value_long _ _ _ _ hl).mono ?_); rintro e w' ⟨rfl, rfl⟩) | (go_at_call 9; (refine (awake_ok _).mono ?_); rintro e w9 ⟨rfl, hb9⟩))
      go_ret
      exact ⟨rfl, nxt HB hb9⟩
    · have q0 : decide ((64 : Int) < (n : Int)) = false := by simp; omega
      go_wp2_with (first | (go_at_call 18; (refine (value_bad _ _ _ _ _ HR2.out hl hc).mono ?_); rintro e w' ⟨rfl, rfl⟩) | (go_at_call 10; (refine (rcheck_any _ _ _ _ _ HR2.out (by omega)).mono ?_); rintro e w' ⟨rfl, rfl⟩) | (go_at_call 9; (refine (awake_ok _).mono ?_); rintro e w9 ⟨rfl, hb9⟩))
      go_ret
      exact ⟨rfl, nxt HB hb9⟩
    · have q0 : decide ((64 : Int) < (n : Int)) = false := by simp; omega
      have HA := Lib.hid (fst_neg lvl zs hc)
      go_wp2_with (first | (go_at_call 18; (refine (value_ok _ _ _ _ _ HR2.out hl HA.out).mono ?_); rintro e w' ⟨rfl, rfl⟩) | (go_at_call 10; (refine (rcheck_any _ _ _ _ _ HR2.out (by omega)).mono ?_); rintro e w' ⟨rfl, rfl⟩) | (go_at_call 19; (refine (rvalue_ok _ _ _ _ _ HR2.out hl HA.out).mono ?_); rintro e w' ⟨rfl, rfl⟩) | (go_at_call 9; (refine (awake_ok _).mono ?_); rintro e w9 ⟨rfl, hb9⟩))
      go_ret
      exact ⟨rfl, nxt HB hb9⟩
  · obtain ⟨wd, rfl⟩ := Int.eq_ofNat_of_zero_le hw1
    have g0 : decide ((wd : Int) < 0) = false := by simp
    have g1 : decide ((64 : Int) < (wd : Int)) = false := by simp; omega
    go_enter Try.func4, Try.ntmps4
    go_wp2_with fail
    refine (of_ok _ _ _ HM.out (by omega)).mono ?_
    rintro e w1 ⟨A1, cap1, rfl, hi1, hb1⟩
    have HI1 := Lib.hid hi1
    clear hi1
    go_wp2_with fail
    refine (rof_ok _ _ _ HM.out (by omega)).mono ?_
    rintro e w2 ⟨A2, cap2, rfl, hi2, hb2⟩
    have HI2 := Lib.hid hi2; have HI1' := Lib.hid (HI1.out.below hb2)
    clear hi2 HI1
    have hlen := ofB_len m wd
    have HL := Lib.hid hlen
    clear hlen
    go_wp2_with fail
    refine (ints_b _ _ _ _ _ _ _ _ _ HI1'.out HI2.out (by rw [HL.out]; omega)).mono ?_
    rintro e w3 ⟨rfl, hb3⟩
    have HB := nxt (nxt hb1 hb2) hb3
    have HR2 := Lib.hid (HR.out.below HB)
    rw [show (ofB m wd == ofB m wd) = true from by simp]
    clear HI1' HI2 hb1 hb2 hb3
    rcases (show 64 < n ∨ (n ≤ 64 ∧ 0 ≤ chk zs) ∨ (n ≤ 64 ∧ chk zs < 0) from by omega) with hl | ⟨hl, hc⟩ | ⟨hl, hc⟩
    · have q0 : decide ((64 : Int) < (n : Int)) = true := by simp; omega
      go_wp2_with (first | (go_at_call 18; (refine (value_long _ _ _ _ hl).mono ?_); rintro e w' ⟨rfl, rfl⟩) | (go_at_call 9; (refine (awake_ok _).mono ?_); rintro e w9 ⟨rfl, hb9⟩))
      go_ret
      exact ⟨rfl, nxt HB hb9⟩
    · have q0 : decide ((64 : Int) < (n : Int)) = false := by simp; omega
      go_wp2_with (first | (go_at_call 18; (refine (value_bad _ _ _ _ _ HR2.out hl hc).mono ?_); rintro e w' ⟨rfl, rfl⟩) | (go_at_call 10; (refine (rcheck_any _ _ _ _ _ HR2.out (by omega)).mono ?_); rintro e w' ⟨rfl, rfl⟩) | (go_at_call 9; (refine (awake_ok _).mono ?_); rintro e w9 ⟨rfl, hb9⟩))
      go_ret
      exact ⟨rfl, nxt HB hb9⟩
    · have q0 : decide ((64 : Int) < (n : Int)) = false := by simp; omega
      have HA := Lib.hid (fst_neg lvl zs hc)
      go_wp2_with (first | (go_at_call 18; (refine (value_ok _ _ _ _ _ HR2.out hl HA.out).mono ?_); rintro e w' ⟨rfl, rfl⟩) | (go_at_call 10; (refine (rcheck_any _ _ _ _ _ HR2.out (by omega)).mono ?_); rintro e w' ⟨rfl, rfl⟩) | (go_at_call 19; (refine (rvalue_ok _ _ _ _ _ HR2.out hl HA.out).mono ?_); rintro e w' ⟨rfl, rfl⟩) | (go_at_call 9; (refine (awake_ok _).mono ?_); rintro e w9 ⟨rfl, hb9⟩))
      go_ret
      exact ⟨rfl, nxt HB hb9⟩
end Go.Proofs.Ytiaecljigldmhaa
