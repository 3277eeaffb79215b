/- The walk of the law Crc15Sums. -/
import Derived.Test.YtafcabnjkkbfiaaQ1
import Derived.Deep.RegionHeld3
namespace Go.Proofs.Ytafcabnjkkbfiaa
open Go.RowKit

theorem rgt_long {zs : List Int} {k : Nat} (hl : zs.length = k + 15) (h : ∀ z ∈ zs, lvl z = true) : rgt zs = (zs.drop k == ofB (csum (zs.take k)) 15) :=
  rgt_front hl (all_take h k)

set_option maxHeartbeats 1600000 in
theorem law22 (A : Option Addr) (n cap : Nat) (zs : List Int) (w : World) (hr : Il w A n zs) (hcap : n ≤ cap) :
    Calls Try.prog 4 #[.slice A n cap] w fun e w' => e = .returned (.bool true) ∧ Below w.heap.size w w' := by
  have HR := Lib.hid hr
  clear hr
  by_cases hn : 300 < n
  · go_enter Try.func4, Try.ntmps4
    go_wp2_with (go_at_call 11; (refine (awake_ok _).mono ?_); rintro e w1 ⟨rfl, hb1⟩)
    go_ret
    exact ⟨rfl, hb1⟩
  have h0 : decide ((300 : Int) < (n : Int)) = false := by simp; omega
  rcases Int.lt_or_le (chk zs) 0 with hk | hk
  · have HL := Lib.hid (fst_neg lvl zs hk)
    have g1 : decide (0 ≤ chk zs) = false := by simp; omega
    have HC := Lib.hid (show chk zs = -1 from fst_of_all lvl zs HL.out)
    have HS := Lib.hid (csum_lt zs)
    clear hk g1
    go_enter Try.func4, Try.ntmps4
    go_wp2_with fail
    refine (sum_ok _ _ _ _ _ HR.out (by omega) HL.out).mono ?_
    rintro e w1 ⟨rfl, hb1⟩
    go_wp2_with fail
    refine (right_any _ _ _ _ _ (HR.out.below hb1) (by omega) hcap).mono ?_
    rintro e w2 ⟨rfl, hb2⟩
    have HB2 := Lib.hid (nxt hb1 hb2)
    clear hb1 hb2
    go_wp2_with fail
    refine (rcheck_any _ _ _ _ _ (HR.out.below HB2.out) (by omega)).mono ?_
    rintro e w2' ⟨rfl, rfl⟩
    rw [HC.out]
    by_cases h15 : n < 15
    · have g2 : decide ((15 : Int) ≤ (n : Int)) = false := by simp; omega
      rw [rgt_short (by rw [HR.out.1]; exact h15)]
      go_wp2_with fail
      refine (rsum2_ok _ _ _ _ _ (HR.out.below HB2.out) (by omega) HL.out).mono ?_
      rintro e w5 ⟨A5, cap5, rfl, hi5, hb5⟩
      have HI5 := Lib.hid hi5
      clear hi5
      go_wp2_with fail
      refine (rvalue2_ok _ _ _ _ _ HI5.out (by rw [ofB_len]; omega) (ofB_all _ _)).mono ?_
      rintro e w7 ⟨rfl, rfl⟩
      rw [val_ofB, stp_val HS.out]
      go_wp2_with fail
      refine (awake_ok _).mono ?_
      rintro e w8 ⟨rfl, hb8⟩
      go_wp2
      go_ret
      exact ⟨rfl, nxt (nxt HB2.out hb5) hb8⟩
    · obtain ⟨ad, rfl, hlt, hcl⟩ := HR.out.2 (by omega)
      obtain ⟨k, rfl⟩ : ∃ k, n = k + 15 := ⟨n - 15, by omega⟩
      have g3 : (15 : Int) ≤ (k : Int) + 15 := by omega
      have g4 : (k : Int) ≤ (k : Int) + 15 := by omega
      have g5 : k ≤ cap := by omega
      have g6 : (k : Int) ≤ (cap : Int) := by omega
      have g7 : ¬ cap = k := by omega
      have g8 : (0 : Int) ≤ (k : Int) := by omega
      clear hcl hlt
      have HG := Lib.hid (rgt_long HR.out.1 HL.out)
      have HF := Lib.hid (HR.out.below HB2.out |>.take k (by omega))
      have HD := Lib.hid (show Il w2 (some (ad.add k)) 15 (zs.drop k) from by
        have h := (HR.out.below HB2.out).drop k (by omega)
        rwa [Nat.add_sub_cancel_left] at h)
      go_wp2_with fail
      go_region_held3 (fun _ => True) (trivial)
        (first
          | (go_at_call 19; (refine (rsum2_ok _ _ _ _ _ (HF.out.below (belowN (Below.refl _ _) 1)) (by omega) (all_take HL.out k)).mono ?_); rintro e w5 ⟨A5, cap5, rfl, hi5, hb5⟩; have HI5 := Lib.hid hi5; clear hi5)
          | (go_at_call 12; (refine (ints_b _ _ _ _ _ _ _ _ _ (HD.out.below (nxt (belowN (Below.refl _ _) 1) hb5)) HI5.out (by omega)).mono ?_); rintro e w6 ⟨rfl, hb6⟩))
      rw [← HG.out]
      have HB6 := Lib.hid (nxt (nxt (nxt HB2.out (belowN (Below.refl _ _) 1)) hb5) hb6)
      clear HF HD HI5 hb5 hb6 HG
      have hbb : (rgt zs == rgt zs) = true := by simp
      generalize rgt zs = b at *
      go_wp2_with fail
      refine (rsum2_ok _ _ _ _ _ (HR.out.below HB6.out) (by omega) HL.out).mono ?_
      rintro e w7 ⟨A7, cap7, rfl, hi7, hb7⟩
      have HI7 := Lib.hid hi7
      clear hi7
      go_wp2_with fail
      refine (rvalue2_ok _ _ _ _ _ HI7.out (by rw [ofB_len]; omega) (ofB_all _ _)).mono ?_
      rintro e w7' ⟨rfl, rfl⟩
      rw [val_ofB, stp_val HS.out]
      go_wp2_with fail
      refine (awake_ok _).mono ?_
      rintro e w8 ⟨rfl, hb8⟩
      go_wp2
      go_ret
      exact ⟨rfl, nxt (nxt HB6.out hb7) hb8⟩
  · have HX := Lib.hid (rgt_bad hk)
    go_enter Try.func4, Try.ntmps4
    go_wp2_with fail
    refine (sum_bad _ _ _ _ _ HR.out (by omega) hk).mono ?_
    rintro e w1 ⟨rfl, rfl⟩
    go_wp2_with fail
    refine (right_any _ _ _ _ _ HR.out (by omega) hcap).mono ?_
    rintro e w2 ⟨rfl, hb2⟩
    rw [HX.out]
    go_wp2_with fail
    refine (rcheck_any _ _ _ _ _ (HR.out.below hb2) (by omega)).mono ?_
    rintro e w2' ⟨rfl, rfl⟩
    go_wp2_with fail
    refine (awake_ok _).mono ?_
    rintro e w8 ⟨rfl, hb8⟩
    go_wp2
    go_ret
    exact ⟨rfl, nxt hb2 hb8⟩
end Go.Proofs.Ytafcabnjkkbfiaa
