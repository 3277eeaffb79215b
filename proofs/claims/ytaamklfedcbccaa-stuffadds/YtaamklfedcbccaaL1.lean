/- The walk of the law StuffAdds. -/
import Derived.Test.YtaamklfedcbccaaSG
namespace Go.Proofs.Ytaamklfedcbccaa
open Go.RowKit

theorem most_zero (w : World) : Calls Try.prog 15 #[.int .i64 0] w fun e w' => e = .returned (.tuple #[.int .i64 0, .int .i64 0]) ∧ w = w' := most_ok 0 w (by omega)
theorem most_succ (k : Nat) (w : World) (hk : k + 1 ≤ 9223372036854775807) : Calls Try.prog 15 #[.int .i64 ((k : Int) + 1)] w fun e w' => e = .returned (.tuple #[.int .i64 ((k : Int) / 4), .int .i64 0]) ∧ w = w' := most_ok (k + 1) w hk

set_option maxHeartbeats 1600000 in
theorem law51 (A : Option Addr) (n cap : Nat) (zs : List Int) (m : Int) (w : World) (hr : Il w A n zs) (hm1 : -9223372036854775808 ≤ m) (hm2 : m ≤ 9223372036854775807) :
    Calls Try.prog 3 #[.slice A n cap, .int .i64 m] w fun e w' => e = .returned (.bool true) ∧ Below w.heap.size w w' := by
  have HR := Lib.hid hr
  clear hr
  by_cases hn : 300 < n
  · go_enter Try.func3, Try.ntmps3
    go_wp2_with (go_at_call 9; (refine (awake5 _).mono ?_); rintro e w1 ⟨rfl, hb1⟩)
    go_ret
    exact ⟨rfl, hb1⟩
  have h0 : decide ((300 : Int) < (n : Int)) = false := by simp; omega
  rcases Int.lt_or_le (chk zs) 0 with hk | hk
  · have HV := Lib.hid (fst_neg lvl zs hk)
    have HC := Lib.hid (show chk zs = -1 from fst_of_all lvl zs HV.out)
    have hsl := stf_len zs
    rw [HR.out.1] at hsl
    generalize hL : (stf zs).length = L at *
    have HL := Lib.hid hL
    clear hk hL
    go_enter Try.func3, Try.ntmps3
    go_wp2_with fail
    refine (radd_ok _ _ _ _ _ HR.out (by omega) HV.out).mono ?_
    rintro e w1 ⟨A1, cap1, rfl, hi1, hc1, hb1⟩
    rw [HL.out] at hi1 hc1 ⊢
    have HI1 := Lib.hid hi1; have HB1 := Lib.hid hb1
    clear hi1 hb1 hc1
    go_wp2_with fail
    refine (rcheck_any _ _ _ _ _ (HR.out.below HB1.out) (by omega)).mono ?_
    rintro e w' ⟨rfl, rfl⟩
    rw [HC.out]
    go_wp2_with fail
    refine (add_ok _ _ _ _ _ (HR.out.below HB1.out) (by omega) HV.out).mono ?_
    rintro e w2 ⟨A2, cap2, rfl, hi2, hc2, hb2⟩
    rw [HL.out] at hi2 hc2 ⊢
    have HI2 := Lib.hid hi2; have HB2 := Lib.hid (nxt HB1.out hb2); have HI1 := Lib.hid (HI1.out.below hb2)
    clear hi2 hb2 hc2
    go_wp2_with fail
    refine (ints_b _ _ _ _ _ _ _ _ _ HI2.out HI1.out (by omega)).mono ?_
    rintro e w3 ⟨rfl, hb3⟩
    rw [show (stf zs == stf zs) = true from by simp]
    have HB3 := Lib.hid (nxt HB2.out hb3)
    clear hb3 HI1 HI2
    go_wp2_with fail
    refine (count_ok _ _ _ _ _ (HR.out.below HB3.out) (by omega) HV.out).mono ?_
    rintro e w4 ⟨rfl, hb4⟩
    rw [HL.out]
    have HB4 := Lib.hid (nxt HB3.out hb4)
    clear hb4
    go_wp2_with fail
    rcases (by omega : m < 0 ∨ m = 0 ∨ 0 < m) with h | rfl | h
    · refine (most_bad m _ h).mono ?_
      rintro e w' ⟨rfl, rfl⟩
      go_wp2_with fail
      refine (awake5 _).mono ?_
      rintro e w5 ⟨rfl, hb5⟩
      go_wp2
      go_ret
      exact ⟨rfl, nxt HB4.out hb5⟩
    · refine (most_zero _).mono ?_
      rintro e w' ⟨rfl, rfl⟩
      go_wp2_with fail
      refine (awake5 _).mono ?_
      rintro e w5 ⟨rfl, hb5⟩
      go_wp2
      go_ret
      exact ⟨rfl, nxt HB4.out hb5⟩
    · obtain ⟨k, rfl⟩ : ∃ k : Nat, m = (k : Int) + 1 := ⟨(m - 1).toNat, by omega⟩
      have hk' : k + 1 ≤ 9223372036854775807 := by omega
      clear h hm1 hm2
      refine (most_succ k _ hk').mono ?_
      rintro e w' ⟨rfl, rfl⟩
      go_wp2_with fail
      refine (awake5 _).mono ?_
      rintro e w5 ⟨rfl, hb5⟩
      go_wp2
      go_ret
      exact ⟨rfl, nxt HB4.out hb5⟩
  · go_enter Try.func3, Try.ntmps3
    go_wp2_with fail
    refine (radd_bad _ _ _ _ _ HR.out (by omega) hk).mono ?_
    rintro e w1 ⟨A1, cap1, rfl, hi1, hc1, hb1⟩
    rw [List.length_nil] at hi1 hc1 ⊢
    have HI1 := Lib.hid hi1; have HB1 := Lib.hid hb1
    clear hi1 hb1 hc1
    go_wp2_with fail
    refine (rcheck_any _ _ _ _ _ (HR.out.below HB1.out) (by omega)).mono ?_
    rintro e w' ⟨rfl, rfl⟩
    go_wp2_with fail
    refine (add_bad _ _ _ _ _ (HR.out.below HB1.out) (by omega) hk).mono ?_
    rintro e w' ⟨rfl, rfl⟩
    go_wp2_with fail
    refine (ints_b _ _ _ _ _ _ _ _ _ (show Il w1 none 0 [] from ⟨rfl, fun h => by omega⟩) HI1.out (by omega)).mono ?_
    rintro e w3 ⟨rfl, hb3⟩
    rw [show (([] : List Int) == []) = true from rfl]
    have HB3 := Lib.hid (nxt HB1.out hb3)
    clear hb3 HI1
    go_wp2_with fail
    refine (count_bad _ _ _ _ _ (HR.out.below HB3.out) (by omega) hk).mono ?_
    rintro e w' ⟨rfl, rfl⟩
    have HK := Lib.hid hk
    clear hk
    go_wp2_with fail
    rcases (by omega : m < 0 ∨ m = 0 ∨ 0 < m) with h | rfl | h
    · refine (most_bad m _ h).mono ?_
      rintro e w' ⟨rfl, rfl⟩
      go_wp2_with fail
      refine (awake5 _).mono ?_
      rintro e w5 ⟨rfl, hb5⟩
      go_wp2
      go_ret
      exact ⟨rfl, nxt HB3.out hb5⟩
    · refine (most_zero _).mono ?_
      rintro e w' ⟨rfl, rfl⟩
      go_wp2_with fail
      refine (awake5 _).mono ?_
      rintro e w5 ⟨rfl, hb5⟩
      go_wp2
      go_ret
      exact ⟨rfl, nxt HB3.out hb5⟩
    · obtain ⟨k, rfl⟩ : ∃ k : Nat, m = (k : Int) + 1 := ⟨(m - 1).toNat, by omega⟩
      have hk' : k + 1 ≤ 9223372036854775807 := by omega
      clear h hm1 hm2
      refine (most_succ k _ hk').mono ?_
      rintro e w' ⟨rfl, rfl⟩
      go_wp2_with fail
      refine (awake5 _).mono ?_
      rintro e w5 ⟨rfl, hb5⟩
      go_wp2
      go_ret
      exact ⟨rfl, nxt HB3.out hb5⟩
end Go.Proofs.Ytaamklfedcbccaa
