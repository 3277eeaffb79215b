/- The walk of the law Crc15Zeros. -/
import Derived.Test.YtafcabnjkkbfiaaQ5
namespace Go.Proofs.Ytafcabnjkkbfiaa
open Go.RowKit

theorem chk_zeros {zs : List Int} (m : Nat) (h : 0 ≤ chk zs) : 0 ≤ chk (List.replicate m 0 ++ zs) := by
  obtain ⟨z, hz, hv⟩ := fst_nonneg lvl _ h
  rcases Int.lt_or_le (chk (List.replicate m 0 ++ zs)) 0 with hn | hn
  · have := fst_neg lvl _ hn z (List.mem_append_right _ hz)
    rw [hv] at this; cases this
  · exact hn
theorem rgt_zeros (m : Nat) {zs : List Int} (hl : 15 ≤ zs.length) : rgt (List.replicate m 0 ++ zs) = rgt zs := by
  rcases Int.lt_or_le (chk zs) 0 with hn | hn
  · have ha := fst_neg lvl _ hn
    rw [rgt_sum zs ha hl, rgt_sum _ (all_append (all_nought m) ha) (by rw [List.length_append]; omega), csum_nought]
  · rw [rgt_bad hn, rgt_bad (chk_zeros m hn)]
theorem stp_two {s : Nat} {z : Int} (hs : s < 32768) (hz : z = 0 ∨ z = 1) : stp s z ^^^ stp s (1 - z) = 17817 := by
  rw [stp_xor hs hs hz (by omega), Nat.xor_self]
  rcases hz with rfl | rfl <;> rfl
theorem box_two (w : World) (x y : Int) (t : TypeId) : (w.alloc (.cells #[.int .i64 x, .int .i64 y] t)).cell? ⟨w.heap.size, 0, none⟩ = some (.int .i64 x) ∧ (w.alloc (.cells #[.int .i64 x, .int .i64 y] t)).cell? ⟨w.heap.size, 1, none⟩ = some (.int .i64 y) := by
  constructor <;> simp
theorem Own.made (w : World) (base m : Nat) (hb : base ≤ w.heap.size) (hl : m ≤ 1000) :
    Own (w.alloc (.cells ((List.replicate m 0).map (Value.int .i64)).toArray 3)) base (.slice (some ⟨w.heap.size, 0, none⟩) m m) (List.replicate m 0) := by
  have h := Own.lit w base (List.replicate m 0) hb (by simpa using hl)
  rwa [List.length_replicate] at h

set_option maxHeartbeats 3200000 in
theorem law26 (A : Option Addr) (n cap : Nat) (zs : List Int) (m x y : Int) (w : World) (hr : Il w A n zs) (hcap : n ≤ cap) :
    Calls Try.prog 8 #[.slice A n cap, .int .i64 m, .agg #[.int .i64 x, .int .i64 y]] w fun e w' => e = .returned (.bool true) ∧ Below w.heap.size w w' := by
  have HR := Lib.hid hr
  clear hr
  have HW := Lib.hid ((Below.refl w.heap.size w).alloc (Nat.le_refl _) (.cells #[.int .i64 x, .int .i64 y] 42))
  by_cases hn : 300 < n
  · go_enter Try.func8, Try.ntmps8
    go_wp2_with (go_at_call 11; (refine (awake_ok _).mono ?_); rintro e w1 ⟨rfl, hb1⟩)
    go_ret
    exact ⟨rfl, nxt HW.out hb1⟩
  have h0 : decide ((300 : Int) < (n : Int)) = false := by simp; omega
  by_cases hm0 : m < 0
  · have g0 : decide (m < 0) = true := by simp; omega
    go_enter Try.func8, Try.ntmps8
    go_wp2_with (go_at_call 11; (refine (awake_ok _).mono ?_); rintro e w1 ⟨rfl, hb1⟩)
    go_ret
    exact ⟨rfl, nxt HW.out hb1⟩
  have g0 : decide (m < 0) = false := by simp; omega
  by_cases hm1 : 100 < m
  · have g1 : decide (100 < m) = true := by simp; omega
    go_enter Try.func8, Try.ntmps8
    go_wp2_with (go_at_call 11; (refine (awake_ok _).mono ?_); rintro e w1 ⟨rfl, hb1⟩)
    go_ret
    exact ⟨rfl, nxt HW.out hb1⟩
  have g1 : decide (100 < m) = false := by simp; omega
  obtain ⟨k, rfl⟩ := Int.eq_ofNat_of_zero_le (show 0 ≤ m by omega)
  obtain ⟨a, ha, am1, am2, at1, at2⟩ := mod_in x 32768 (by omega)
  obtain ⟨b, hb, bm1, bm2, bt1, bt2⟩ := mod_in y 32768 (by omega)
  have am3 : (x.tmod 32768 + 32768).tmod 32768 = (a : Int) := am1
  have am4 : (x.tmod 32768 + 32768) % 32768 = (a : Int) := am2
  have at3 : -32768 < x.tmod 32768 := at1
  have at4 : x.tmod 32768 < 32768 := at2
  have bm3 : (y.tmod 32768 + 32768).tmod 32768 = (b : Int) := bm1
  have bm4 : (y.tmod 32768 + 32768) % 32768 = (b : Int) := bm2
  have bt3 : -32768 < y.tmod 32768 := bt1
  have bt4 : y.tmod 32768 < 32768 := bt2
  have hbx := box_two w x y 42
  have hbx1 := hbx.1; have hbx2 := hbx.2
  clear am1 am2 at1 at2 bm1 bm2 bt1 bt2 hm0 hbx
  go_enter Try.func8, Try.ntmps8
  go_wp2
  clear am3 am4 at3 at4 bm3 bm4 bt3 bt4 hbx1 hbx2
  generalize w.alloc (.cells #[.int .i64 x, .int .i64 y] 42) = wb at *
  go_loopw [9] (fun i wr => ∃ j : Nat, j ≤ 2 ∧ i = .int .i64 j ∧ Below w.heap.size w wr) (fun i _ => 2 - (intOf i).toNat)
  case atStart => exact ⟨0, by omega, rfl, HW.out⟩
  case round =>
    obtain ⟨j, hj, rfl, hbel⟩ := hrel
    by_cases hlt : j < 2
    · have hj01 : (j : Int) = 0 ∨ (j : Int) = 1 := by omega
      have HJ := Lib.hid hj01
      have HX := Lib.hid (stp_two ha hj01)
      have HI := Lib.hid (fun h => stp_inj ha hb hj01 h)
      have s1 := stp_lt a (j : Int); have s2 := stp_lt b (j : Int); have s3 := stp_lt a (1 - (j : Int))
      clear hj01
      go_wp2_with fail
      refine (step_ok a _ _ ha HJ.out).mono ?_
      rintro e w1 ⟨rfl, hb1⟩
      go_wp2_with fail
      refine (step_ok b _ _ hb HJ.out).mono ?_
      rintro e w2 ⟨rfl, hb2⟩
      go_wp2_with fail
      refine (step_ok a _ _ ha (by have := HJ.out; omega)).mono ?_
      rintro e w3 ⟨rfl, hb3⟩
      have q1 : (((stp a (j : Int) : Nat) : Int) == ((stp b (j : Int) : Nat) : Int)) = ((a : Int) == (b : Int)) := by
        rw [beq_nat, beq_nat]
        by_cases h : a = b
        · rw [h]; simp
        · have : ¬ stp a (j : Int) = stp b (j : Int) := fun e => h (HI.out e)
          rw [beq_eq_false_iff_ne.2 h, beq_eq_false_iff_ne.2 this]
      have q2 : (bits .xor .i64 ((stp a (j : Int) : Nat) : Int) ((stp a (1 - (j : Int)) : Nat) : Int) != 17817) = false := by
        rw [i64_xor_nat _ _ (by omega) (by omega), HX.out]; rfl
      have HB3 := Lib.hid (nxt (nxt (nxt hbel hb1) hb2) hb3)
      clear hb1 hb2 hb3 HX HI
      generalize stp a (j : Int) = sa at *
      generalize stp b (j : Int) = sb at *
      generalize stp a (1 - (j : Int)) = sc at *
      go_wp2
      go_roundw
      case rel => exact ⟨j + 1, by omega, by go_num, HB3.out⟩
      case measure => simp [intOf]; omega
    · have hmk := make22 k (by omega)
      have HO := Lib.hid (Own.made wr wr.heap.size k (Nat.le_refl _) (by omega))
      have HRr := Lib.hid (HR.out.below hbel)
      generalize hcs : ((List.replicate k 0).map (Value.int .i64)).toArray = cs at hmk HO
      have hzl : (List.replicate k (0 : Int)).length = k := by simp
      have HZL := Lib.hid hzl
      clear hzl hcs
      go_wp2_with (at_builtin; (refine append_ints2 _ rfl (.tmp 92) (.tmp 93) rfl wr.heap.size _ (List.replicate k 0) rfl HO.out A n cap zs rfl (HRr.out.alloc _) (by rw [HZL.out]; omega) (by simp) ?_); intro v4 w4 ho4 hg4 _; have hb4 := below_lit hg4; clear hg4; have HO4 := Lib.hid ho4.il2; clear ho4)
      obtain ⟨A4, cap4, rfl, hi4, hc4⟩ := HO4.out
      have hll : (List.replicate k 0 ++ zs).length ≤ 400 := by rw [List.length_append, HZL.out, HRr.out.1]; omega
      have HI4 := Lib.hid hi4
      have HB4 := Lib.hid (nxt hbel hb4)
      have HR4 := Lib.hid (HR.out.below HB4.out)
      clear hi4 HO4 HO hb4 HRr hmk
      have HCS := Lib.hid (csum_nought k zs)
      have HAL := Lib.hid (fun h => all_append (all_nought k) (ys := zs) h)
      have HCK := Lib.hid (fun h => chk_zeros (zs := zs) k h)
      have HRG := Lib.hid (fun h => rgt_zeros k (zs := zs) h)
      have HN := Lib.hid HR.out.1
      generalize List.replicate k 0 ++ zs = ys at *
      rcases Int.lt_or_le (chk zs) 0 with hk | hk
      · have HL := Lib.hid (fst_neg lvl zs hk)
        clear hk
        refine (sum_ok _ _ _ _ _ HR4.out (by omega) HL.out).mono ?_
        rintro e w5 ⟨rfl, hb5⟩
        go_wp2_with fail
        refine (sum_ok _ _ _ _ _ (HI4.out.below hb5) (by omega) (HAL.out HL.out)).mono ?_
        rintro e w6 ⟨rfl, hb6⟩
        rw [HCS.out]
        generalize csum zs = c at *
        have HB6 := Lib.hid (nxt (nxt HB4.out hb5) hb6)
        have HI6 := Lib.hid (HI4.out.below (nxt hb5 hb6))
        clear hb5 hb6
        by_cases h15 : n < 15
        · go_wp2_with fail
          refine (awake_ok _).mono ?_
          rintro e w8 ⟨rfl, hb8⟩
          go_wp2
          go_ret
          exact ⟨rfl, nxt HB6.out hb8⟩
        · have g15 : decide ((n : Int) < 15) = false := by simp; omega
          have hbb : (rgt zs == rgt zs) = true := by simp
          have HE := Lib.hid (HRG.out (by rw [HN.out]; omega))
          clear h15
          go_wp2_with fail
          refine (right_any _ _ _ _ _ (HR.out.below HB6.out) (by omega) hcap).mono ?_
          rintro e w7 ⟨rfl, hb7⟩
          go_wp2_with fail
          refine (right_any _ _ _ _ _ (HI6.out.below hb7) (by omega) hc4).mono ?_
          rintro e w8 ⟨rfl, hb8⟩
          rw [HE.out]
          generalize rgt zs = bb at *
          go_wp2_with fail
          refine (awake_ok _).mono ?_
          rintro e w9 ⟨rfl, hb9⟩
          go_wp2
          go_ret
          exact ⟨rfl, nxt (nxt (nxt HB6.out hb7) hb8) hb9⟩
      · have HK := Lib.hid hk
        clear hk
        refine (sum_bad _ _ _ _ _ HR4.out (by omega) HK.out).mono ?_
        rintro e w5 ⟨rfl, rfl⟩
        go_wp2_with fail
        refine (sum_bad _ _ _ _ _ HI4.out (by omega) (HCK.out HK.out)).mono ?_
        rintro e w6 ⟨rfl, rfl⟩
        by_cases h15 : n < 15
        · go_wp2_with fail
          refine (awake_ok _).mono ?_
          rintro e w8 ⟨rfl, hb8⟩
          go_wp2
          go_ret
          exact ⟨rfl, nxt HB4.out hb8⟩
        · have g15 : decide ((n : Int) < 15) = false := by simp; omega
          have hbb : (rgt zs == rgt zs) = true := by simp
          have HE := Lib.hid (HRG.out (by rw [HN.out]; omega))
          clear h15
          go_wp2_with fail
          refine (right_any _ _ _ _ _ HR4.out (by omega) hcap).mono ?_
          rintro e w7 ⟨rfl, hb7⟩
          go_wp2_with fail
          refine (right_any _ _ _ _ _ (HI4.out.below hb7) (by omega) hc4).mono ?_
          rintro e w8 ⟨rfl, hb8⟩
          rw [HE.out]
          generalize rgt zs = bb at *
          go_wp2_with fail
          refine (awake_ok _).mono ?_
          rintro e w9 ⟨rfl, hb9⟩
          go_wp2
          go_ret
          exact ⟨rfl, nxt (nxt (nxt HB4.out hb7) hb8) hb9⟩
end Go.Proofs.Ytafcabnjkkbfiaa
