/- The walk of the law Crc15Right. -/
import Derived.Test.YtafcabnjkkbfiaaQ2
namespace Go.Proofs.Ytafcabnjkkbfiaa
open Go.RowKit

/-- Go's '(x%m + m) % m'. -/
theorem mod_in (x : Int) (m : Nat) (hm : 0 < m) : ∃ k : Nat, k < m ∧ ((x.tmod m + m).tmod m) = (k : Int) ∧ (x.tmod m + m) % m = (k : Int) ∧ -(m : Int) < x.tmod m ∧ x.tmod m < m := by
  have h1 : -(m : Int) < x.tmod m := by
    have := Int.lt_tmod_of_pos x (show (0 : Int) < m by omega)
    omega
  have h2 : x.tmod m < m := Int.tmod_lt_of_pos x (by omega)
  have h3 : 0 ≤ x.tmod m + m := by omega
  refine ⟨((x.tmod m + m) % m).toNat, ?_, ?_, ?_, h1, h2⟩
  · have := Int.emod_lt_of_pos (x.tmod m + m) (show (0 : Int) < m by omega)
    have := Int.emod_nonneg (x.tmod m + m) (show (m : Int) ≠ 0 by omega)
    omega
  · rw [Int.tmod_eq_emod_of_nonneg h3]
    have := Int.emod_nonneg (x.tmod m + m) (show (m : Int) ≠ 0 by omega)
    omega
  · have := Int.emod_nonneg (x.tmod m + m) (show (m : Int) ≠ 0 by omega)
    omega
theorem beq_nat (o c : Nat) : ((o : Int) == (c : Int)) = (o == c) := by
  rw [Bool.eq_iff_iff, beq_iff_eq, beq_iff_eq]; omega
theorem beq_nil (y o c : Nat) (h : y = 0 ↔ o = c) : ((y : Int) == 0) = ((o : Int) == (c : Int)) := by
  rw [Bool.eq_iff_iff, beq_iff_eq, beq_iff_eq]; omega

set_option maxHeartbeats 1600000 in
theorem law23 (A : Option Addr) (n cap : Nat) (zs : List Int) (other : Int) (w : World) (hr : Il w A n zs) (hcap : n ≤ cap) :
    Calls Try.prog 5 #[.slice A n cap, .int .i64 other] w fun e w' => e = .returned (.bool true) ∧ Below w.heap.size w w' := by
  have HR := Lib.hid hr
  clear hr
  by_cases hn : 300 < n
  · go_enter Try.func5, Try.ntmps5
    go_wp2_with (go_at_call 11; (refine (awake_ok _).mono ?_); rintro e w1 ⟨rfl, hb1⟩)
    go_ret
    exact ⟨rfl, hb1⟩
  have h0 : decide ((300 : Int) < (n : Int)) = false := by simp; omega
  rcases Int.lt_or_le (chk zs) 0 with hk | hk
  · have HL := Lib.hid (fst_neg lvl zs hk)
    have hs := csum_lt zs
    obtain ⟨o, ho, hmod, hmodE, tb1, tb2⟩ := mod_in other 32768 (by omega)
    have hmod1 : ((other.tmod 32768 + 32768).tmod 32768) = (o : Int) := hmod
    have hmod2 : (other.tmod 32768 + 32768) % 32768 = (o : Int) := hmodE
    have tb3 : -32768 < other.tmod 32768 := tb1
    have tb4 : other.tmod 32768 < 32768 := tb2
    have HZ := Lib.hid (csum_own zs hs); have HZ2 := Lib.hid (csum_own zs ho)
    have HG := Lib.hid (rgt_own zs HL.out hs); have HG2 := Lib.hid (rgt_own zs HL.out ho)
    have hzl : zs.length ≤ 300 := by rw [HR.out.1]; omega
    clear hk hmod hmodE tb1 tb2
    go_enter Try.func5, Try.ntmps5
    go_wp2_with fail
    refine (sum_ok _ _ _ _ _ HR.out (by omega) HL.out).mono ?_
    rintro e w1 ⟨rfl, hb1⟩
    generalize hcs : csum zs = c at *
    go_wp2_with fail
    refine (bits_ok c _ hs).mono ?_
    rintro e w2 ⟨A2, cap2, rfl, hi2, hb2⟩
    rw [ofB_len] at hi2 ⊢
    have HI2 := Lib.hid hi2
    have HB2 := Lib.hid (nxt hb1 hb2)
    have HR2 := Lib.hid (HR.out.below HB2.out)
    have L15 := Lib.hid (ofB_len c 15)
    have HA := Lib.hid (ofB_all c 15)
    clear hi2 hb1 hb2
    generalize ofB c 15 = bs at *
    have HO := Lib.hid (Own.lit w2 w2.heap.size [] (Nat.le_refl _) (by simp))
    go_wp2_with (first
      | (at_builtin; (refine append_ints2 _ rfl (.tmp 50) (.tmp 51) rfl w2.heap.size _ [] rfl HO.out A n cap zs rfl (HR2.out.alloc _) (by simp; omega) (by simp) ?_); intro v4 w4 ho4 hg4 _; have hb4 := below_lit hg4; clear hg4; have HO4 := Lib.hid ho4; clear ho4)
      | (at_builtin; (refine append_ints2 _ rfl (.tmp 52) (.tmp 53) rfl w2.heap.size v4 ([] ++ zs) rfl HO4.out A2 15 cap2 bs rfl (HI2.out.below hb4) (by simp; omega) hb4.size ?_); intro v5 w5 ho5 hg5 _; have hb5 := hb4.grown hg5 hb4.size HO4.out.row; have HO5 := Lib.hid ho5.il2; clear ho5 hg5))
    obtain ⟨A5, cap5, rfl, hi5, hc5⟩ := HO5.out
    rw [List.nil_append] at hi5 hc5 ⊢
    have HI5 := Lib.hid hi5
    have HB5 := Lib.hid (nxt HB2.out hb5)
    have HA5 := Lib.hid (all_append HL.out HA.out)
    have hl5 : (zs ++ bs).length ≤ 400 := by rw [List.length_append, L15.out]; omega
    clear hi5 HO5 HO4 HO hb4 hb5 HI2 HR2
    generalize zs ++ bs = ws at *
    refine (sum_ok _ _ _ _ _ HI5.out (by omega) HA5.out).mono ?_
    rintro e w6 ⟨rfl, hb6⟩
    rw [HZ.out.2 trivial]
    go_wp2_with fail
    refine (bits_ok o _ ho).mono ?_
    rintro e w7 ⟨A7, cap7, rfl, hi7, hb7⟩
    rw [ofB_len] at hi7 ⊢
    have HI7 := Lib.hid hi7
    have L7 := Lib.hid (ofB_len o 15)
    have HA7 := Lib.hid (ofB_all o 15)
    have HB7 := Lib.hid (nxt (nxt HB5.out hb6) hb7)
    have HI57 := Lib.hid (HI5.out.below (nxt hb6 hb7))
    clear hi7 hb6 hb7 HB5 HI5
    generalize ofB o 15 = os at *
    go_wp2_with fail
    refine (right_any _ _ _ _ _ HI57.out (by omega) hc5).mono ?_
    rintro e w8 ⟨rfl, hb8⟩
    rw [HG.out, show (c == c) = true from by simp]
    have HB8 := Lib.hid (nxt HB7.out hb8)
    have HR8 := Lib.hid (HR.out.below HB8.out)
    have HI78 := Lib.hid (HI7.out.below hb8)
    clear HI57 HI7 HB7 hb8
    have HO := Lib.hid (Own.lit w8 w8.heap.size [] (Nat.le_refl _) (by simp))
    go_wp2_with (first
      | (at_builtin; (refine append_ints2 _ rfl (.tmp 84) (.tmp 85) rfl w8.heap.size _ [] rfl HO.out A n cap zs rfl (HR8.out.alloc _) (by simp; omega) (by simp) ?_); intro v4 w14 ho4 hg4 _; have hb4 := below_lit hg4; clear hg4; have HO4 := Lib.hid ho4; clear ho4)
      | (at_builtin; (refine append_ints2 _ rfl (.tmp 86) (.tmp 87) rfl w8.heap.size v4 ([] ++ zs) rfl HO4.out A7 15 cap7 os rfl (HI78.out.below hb4) (by simp; omega) hb4.size ?_); intro v9 w15 ho5 hg5 _; have hb5 := hb4.grown hg5 hb4.size HO4.out.row; have HO5 := Lib.hid ho5.il2; clear ho5 hg5))
    obtain ⟨A9, cap9, rfl, hi9, hc9⟩ := HO5.out
    rw [List.nil_append] at hi9 hc9 ⊢
    have HI9 := Lib.hid hi9
    have HB9 := Lib.hid (nxt HB8.out hb5)
    have HA9 := Lib.hid (all_append HL.out HA7.out)
    have hl9 : (zs ++ os).length ≤ 400 := by rw [List.length_append, L7.out]; omega
    clear hi9 HO5 HO4 HO hb4 hb5 HI78 HR8 HB8
    generalize zs ++ os = ys at *
    refine (sum_ok _ _ _ _ _ HI9.out (by omega) HA9.out).mono ?_
    rintro e w16 ⟨rfl, hb16⟩
    go_wp2_with fail
    refine (right_any _ _ _ _ _ (HI9.out.below hb16) (by omega) hc9).mono ?_
    rintro e w17 ⟨rfl, hb17⟩
    rw [HG2.out]
    have q1 : ((o == c) == ((o : Int) == (c : Int))) = true := by rw [beq_nat]; simp
    have q2 : ((((csum ys : Nat) : Int) == 0) == ((o : Int) == (c : Int))) = true := by rw [beq_nil _ o c HZ2.out]; simp
    generalize csum ys = y at *
    go_wp2_with fail
    refine (awake_ok _).mono ?_
    rintro e w18 ⟨rfl, hb18⟩
    go_wp2
    go_ret
    exact ⟨rfl, nxt (nxt (nxt HB9.out hb16) hb17) hb18⟩
  · have HX := Lib.hid (rgt_bad hk)
    go_enter Try.func5, Try.ntmps5
    go_wp2_with fail
    refine (sum_bad _ _ _ _ _ HR.out (by omega) hk).mono ?_
    rintro e w1 ⟨rfl, rfl⟩
    go_wp2_with fail
    refine (right_any _ _ _ _ _ HR.out (by omega) hcap).mono ?_
    rintro e w2 ⟨rfl, hb2⟩
    rw [HX.out]
    go_wp2_with fail
    refine (awake_ok _).mono ?_
    rintro e w8 ⟨rfl, hb8⟩
    go_wp2
    go_ret
    exact ⟨rfl, nxt hb2 hb8⟩
end Go.Proofs.Ytafcabnjkkbfiaa
