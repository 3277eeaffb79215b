/- The walk of the law BitsBack, one case of it. -/
import Derived.Test.YtiaecljigldmhaaL6M
namespace Go.Proofs.Ytiaecljigldmhaa
open Go.RowKit

set_option maxRecDepth 100000 in
set_option maxHeartbeats 2000000 in
theorem law6_ny (A : Option Addr) (n cap : Nat) (zs : List Int) (s : ByteArray) (m : Nat) (w : World) (hr : Il w A n zs) (hn : m < 18446744073709551616) (hs : s.size ≤ 300) (hl : n ≤ 300) (hc : 0 ≤ chk zs) (hm : mis s.data.toList < 0) :
    Calls Try.prog 6 #[.slice A n cap, .string s, .int .u64 m] w fun e w' => e = .returned (.bool true) ∧ Below w.heap.size w w' := by
  have HR := Lib.hid hr; have HN := Lib.hid hn
  clear hr hn
  have g0 : decide ((300 : Int) < (s.size : Int)) = false := by simp; omega
  have g1 : decide ((300 : Int) < (n : Int)) = false := by simp; omega
  go_enter Try.func6, Try.ntmps6
  go_wp2_with fail
  refine (text_bad _ _ _ _ _ HR.out (by omega) hc).mono ?_
  rintro e w' ⟨rfl, rfl⟩
  go_wp2_with fail
  refine (check_any _ _ _ _ _ HR.out (by omega)).mono ?_
  rintro e w' ⟨rfl, rfl⟩
  have HB : Below w.heap.size w w := Below.refl _ _
  have HT := Lib.hid (txt_lvs s (fst_neg lvb _ hm)); have HV := Lib.hid (lvs_all (fst_neg lvb _ hm))
  have hvl : (lvs s.data.toList).length ≤ 300 := by rw [lvs_len]; simp; omega
  go_wp2_with fail
  refine (parse_ok _ _ (by omega) (fst_neg lvb _ hm)).mono ?_
  rintro e w3 ⟨A3, cap3, rfl, hi3, hb3⟩
  have HI3 := Lib.hid hi3
  have HB3 := nxt HB hb3
  clear hi3 hb3 HB
  generalize lvs s.data.toList = vs at *
  go_wp2_with fail
  refine (text_ok _ _ _ _ _ HI3.out (by omega) HV.out).mono ?_
  rintro e w4 ⟨rfl, hb4⟩
  rw [HT.out]
  have HB := nxt HB3 hb4
  clear HB3 hb4
  go_wp2
  go_loopw [19] (fun i wx => ∃ k : Nat, k ≤ 65 ∧ i = .int .i64 k ∧ Below w.heap.size w wx) (fun i _ => 65 - (intOf i).toNat)
  case atStart => exact ⟨0, by omega, rfl, HB⟩
  case round =>
    clear HB
    obtain ⟨k, hk, rfl, HB⟩ := hrel
    by_cases hlt : k ≤ 64
    · go_wp2_with fail
      refine (of_ok _ _ _ HN.out hlt).mono ?_
      rintro e w5 ⟨A5, cap5, rfl, hi5, hb5⟩
      have HI5 := Lib.hid hi5; have HV := Lib.hid (val_ofB k m); have HZ := Lib.hid (ofB_all m k)
      have hl5 := ofB_len m k
      have HB5 := nxt HB hb5
      clear hi5 hb5 HB
      generalize ofB m k = x5 at *
      obtain rfl : k = x5.length := hl5.symm
      clear hl5
      go_wp2_with fail
      refine (value_ok _ _ _ _ _ HI5.out hlt HZ.out).mono ?_
      rintro e w' ⟨rfl, rfl⟩
      generalize val x5 = v at *
      by_cases h64 : x5.length < 64
      · have q0 : decide ((x5.length : Int) < 64) = true := by simp; omega
        have q1 : ((x5.length : Int) == 64) = false := by simp; omega
        obtain ⟨P, hP0, hp, hq⟩ := rem_eq h64 HV.out
        go_wp2
        go_roundw
        case rel => exact ⟨x5.length + 1, by omega, by go_num, HB5⟩
        case measure => simp [intOf]; omega
      · have q0 : decide ((x5.length : Int) < 64) = false := by simp; omega
        have q1 : ((x5.length : Int) == 64) = true := by simp; omega
        have hq := rem_64 (show x5.length = 64 by omega) HV.out HN.out
        go_wp2
        go_roundw
        case rel => exact ⟨x5.length + 1, by omega, by go_num, HB5⟩
        case measure => simp [intOf]; omega
    · have HR5 := Lib.hid (HR.out.below HB)
      have hk65 : k = 65 := by omega
      subst hk65
      by_cases hl : 64 < n
      · have q0 : decide ((64 : Int) < (n : Int)) = true := by simp; omega
        go_wp2_with (first | (go_at_call 18; (refine (value_long _ _ _ _ hl).mono ?_); rintro e w' ⟨rfl, rfl⟩) | (go_at_call 9; (refine (awake_ok _).mono ?_); rintro e w9 ⟨rfl, hb9⟩))
        go_ret
        exact ⟨rfl, nxt HB hb9⟩
      · have q0 : decide ((64 : Int) < (n : Int)) = false := by simp; omega
        go_wp2_with (first | (go_at_call 18; (refine (value_bad _ _ _ _ _ HR5.out (by omega) hc).mono ?_); rintro e w' ⟨rfl, rfl⟩) | (go_at_call 12; (refine (check_any _ _ _ _ _ HR5.out (by omega)).mono ?_); rintro e w' ⟨rfl, rfl⟩) | (go_at_call 9; (refine (awake_ok _).mono ?_); rintro e w9 ⟨rfl, hb9⟩))
        go_ret
        exact ⟨rfl, nxt HB hb9⟩

end Go.Proofs.Ytiaecljigldmhaa
