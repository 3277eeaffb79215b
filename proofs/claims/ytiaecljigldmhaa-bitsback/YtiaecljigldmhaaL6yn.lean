/- The walk of the law BitsBack, one case of it. -/
import Derived.Test.YtiaecljigldmhaaL6M
namespace Go.Proofs.Ytiaecljigldmhaa
open Go.RowKit

set_option maxRecDepth 100000 in
set_option maxHeartbeats 2000000 in
theorem law6_yn (A : Option Addr) (n cap : Nat) (zs : List Int) (s : ByteArray) (m : Nat) (w : World) (hr : Il w A n zs) (hn : m < 18446744073709551616) (hs : s.size ≤ 300) (hl : n ≤ 300) (hc : chk zs < 0) (hm : 0 ≤ mis s.data.toList) :
    Calls Try.prog 6 #[.slice A n cap, .string s, .int .u64 m] w fun e w' => e = .returned (.bool true) ∧ Below w.heap.size w w' := by
  have HR := Lib.hid hr; have HN := Lib.hid hn
  clear hr hn
  have g0 : decide ((300 : Int) < (s.size : Int)) = false := by simp; omega
  have g1 : decide ((300 : Int) < (n : Int)) = false := by simp; omega
  go_enter Try.func6, Try.ntmps6
  have HL := Lib.hid (fst_neg lvl zs hc)
  go_wp2_with fail
  refine (text_ok _ _ _ _ _ HR.out (by omega) HL.out).mono ?_
  rintro e w1 ⟨rfl, hb1⟩
  have hts : (txt zs).size = n := by rw [txt_size]; exact HR.out.1
  have HTB := Lib.hid (txt_lvb HL.out); have HTL := Lib.hid (lvs_txt HL.out)
  generalize txt zs = t at *
  obtain rfl : n = t.size := hts.symm
  clear hts
  go_wp2_with fail
  refine (parse_ok _ _ (by omega) HTB.out).mono ?_
  rw [HTL.out]
  rintro e w2 ⟨A2, cap2, rfl, hi2, hb2⟩
  have HI2 := Lib.hid hi2; have HR2 := Lib.hid (HR.out.below (nxt hb1 hb2))
  clear hi2
  have hzl : zs.length = t.size := HR.out.1
  have HZL := Lib.hid hzl
  clear hzl
  go_wp2_with fail
  refine (ints_b _ _ _ _ _ _ _ _ _ HI2.out HR2.out (by have := HZL.out; omega)).mono ?_
  rintro e w3 ⟨rfl, hb3⟩
  rw [show (zs == zs) = true from by simp]
  have HB := nxt (nxt hb1 hb2) hb3
  clear hb1 hb2 hb3 HI2 HR2 HTB HTL
  go_wp2_with fail
  refine (parse_bad _ _ (by omega) hm).mono ?_
  rintro e w' ⟨rfl, rfl⟩
  go_wp2
  go_loopw [19] (fun i wx => ∃ k : Nat, k ≤ 65 ∧ i = .int .i64 k ∧ Below w.heap.size w wx) (fun i _ => 65 - (intOf i).toNat)
  case atStart => exact ⟨0, by omega, rfl, HB⟩
  case round =>
    clear HB
    obtain ⟨k, hk, rfl, HB⟩ := hrel
    by_cases hlt : k ≤ 64
    · go_wp2_with fail
      refine (of_ok _ _ _ HN.out hlt).mono ?_
      rintro e w5 ⟨A5, cap5, rfl, hi5, hb5⟩
      have HI5 := Lib.hid hi5; have HV := Lib.hid (val_ofB k m); have HZ := Lib.hid (ofB_all m k)
      have hl5 := ofB_len m k
      have HB5 := nxt HB hb5
      clear hi5 hb5 HB
      generalize ofB m k = x5 at *
      obtain rfl : k = x5.length := hl5.symm
      clear hl5
      go_wp2_with fail
      refine (value_ok _ _ _ _ _ HI5.out hlt HZ.out).mono ?_
      rintro e w' ⟨rfl, rfl⟩
      generalize val x5 = v at *
      by_cases h64 : x5.length < 64
      · have q0 : decide ((x5.length : Int) < 64) = true := by simp; omega
        have q1 : ((x5.length : Int) == 64) = false := by simp; omega
        obtain ⟨P, hP0, hp, hq⟩ := rem_eq h64 HV.out
        go_wp2
        go_roundw
        case rel => exact ⟨x5.length + 1, by omega, by go_num, HB5⟩
        case measure => simp [intOf]; omega
      · have q0 : decide ((x5.length : Int) < 64) = false := by simp; omega
        have q1 : ((x5.length : Int) == 64) = true := by simp; omega
        have hq := rem_64 (show x5.length = 64 by omega) HV.out HN.out
        go_wp2
        go_roundw
        case rel => exact ⟨x5.length + 1, by omega, by go_num, HB5⟩
        case measure => simp [intOf]; omega
    · have HR5 := Lib.hid (HR.out.below HB)
      have hk65 : k = 65 := by omega
      subst hk65
      by_cases hl : 64 < t.size
      · have q0 : decide ((64 : Int) < (t.size : Int)) = true := by simp; omega
        go_wp2_with (first | (go_at_call 18; (refine (value_long _ _ _ _ hl).mono ?_); rintro e w' ⟨rfl, rfl⟩) | (go_at_call 9; (refine (awake_ok _).mono ?_); rintro e w9 ⟨rfl, hb9⟩))
        go_ret
        exact ⟨rfl, nxt HB hb9⟩
      have hvz : val zs < 18446744073709551616 := val_64 HL.out (by rw [HR5.out.1]; omega)
      have HVZ := Lib.hid hvz
      have HOV := Lib.hid (ofB_val HL.out)
      have HZN := Lib.hid HR5.out.1
      clear hvz
      go_wp2_with fail
      refine (value_ok _ _ _ _ _ HR5.out (by omega) HL.out).mono ?_
      rintro e w' ⟨rfl, rfl⟩
      go_wp2_with fail
      refine (of_ok _ _ _ HVZ.out (by omega)).mono ?_
      rw [show ofB (val zs) t.size = zs from by rw [← HZN.out]; exact HOV.out]
      rintro e w6 ⟨A6, cap6, rfl, hi6, hb6⟩
      rw [HZN.out] at hi6 ⊢
      have HI6 := Lib.hid hi6; have HR6 := Lib.hid (HR5.out.below hb6)
      clear hi6
      go_wp2_with fail
      refine (ints_b _ _ _ _ _ _ _ _ _ HI6.out HR6.out (by omega)).mono ?_
      rintro e w7 ⟨rfl, hb7⟩
      rw [show (zs == zs) = true from by simp]
      have HI7 := Lib.hid (HI6.out.below hb7); have HR7 := Lib.hid (HR6.out.below hb7)
      by_cases h64 : t.size = 64
      · have q1 : ((t.size : Int) == 64) = true := by simp; omega
        have H64 := Lib.hid h64
        clear h64
        go_wp2_with (first | (go_at_call 16; (refine (ints_b _ _ _ _ _ _ _ _ _ HI7.out HR7.out (by omega)).mono ?_); rintro e w8 ⟨rfl, hb8⟩; rw [show (zs == zs) = true from by simp]) | (go_at_call 9; (refine (awake_ok _).mono ?_); rintro e w9 ⟨rfl, hb9⟩))
        go_ret
        exact ⟨rfl, nxt (nxt (nxt (nxt HB hb6) hb7) hb8) hb9⟩
      · have q1 : ((t.size : Int) == 64) = false := by simp; omega
        have HO := Lib.hid (Own.lit w7 w7.heap.size [0] (Nat.le_refl _) (by simp))
        go_wp2_with (at_builtin; (refine append_ints _ rfl (.tmp 189) (.tmp 190) rfl w7.heap.size _ [0] rfl HO.out A _ cap zs rfl (HR7.out.alloc _) (by simp; omega) (by simp) ?_); intro v8 w8 ho8 hg8; have hb8 := below_lit hg8; clear hg8; have HO8 := Lib.hid ho8.il; clear ho8)
        obtain ⟨A8, cap8, rfl, hi8⟩ := HO8.out
        refine (value_ok _ _ _ _ _ hi8 (by simp [HZN.out]; omega) (zero_all HL.out)).mono ?_
        rintro e w' ⟨rfl, rfl⟩
        rw [val_zero]
        go_wp2_with (go_at_call 9; (refine (awake_ok _).mono ?_); rintro e w9 ⟨rfl, hb9⟩)
        go_ret
        exact ⟨rfl, nxt (nxt (nxt (nxt HB hb6) hb7) hb8) hb9⟩

end Go.Proofs.Ytiaecljigldmhaa
