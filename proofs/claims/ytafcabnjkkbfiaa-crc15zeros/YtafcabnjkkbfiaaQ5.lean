/- The walk of the law Crc15Turns. -/
import Derived.Test.YtafcabnjkkbfiaaQ4
namespace Go.Proofs.Ytafcabnjkkbfiaa
open Go.RowKit

theorem box_bools (w : World) (bs : List Bool) (t : TypeId) : ∀ i, i < bs.length → (w.alloc (.cells (bs.map Value.bool).toArray t)).cell? ⟨w.heap.size, i, none⟩ = some (.bool (bs.getD i false)) := by
  intro i hi
  rw [cell_of_row _ w.heap.size i _ t (0, 0) (heap_alloc_new w _)]
  simp [hi]

set_option maxHeartbeats 3200000 in
theorem law24 (A : Option Addr) (n cap : Nat) (zs : List Int) (start : Int) (bs : List Bool) (w : World) (hr : Il w A n zs) (hbs : bs.length = 15) :
    Calls Try.prog 6 #[.slice A n cap, .int .i64 start, .agg (bs.map Value.bool).toArray] w fun e w' => e = .returned (.bool true) ∧ Below w.heap.size w w' := by
  have HR := Lib.hid hr; have HBS := Lib.hid hbs
  clear hr hbs
  by_cases hn : 300 < n
  · go_enter Try.func6, Try.ntmps6
    go_wp2_with (go_at_call 11; (refine (awake_ok _).mono ?_); rintro e w1 ⟨rfl, hb1⟩)
    go_ret
    exact ⟨rfl, nxt ((Below.refl _ _).alloc (Nat.le_refl _) _) hb1⟩
  have h0 : decide ((300 : Int) < (n : Int)) = false := by simp; omega
  rcases Int.lt_or_le (chk zs) 0 with hk | hk
  · have HL := Lib.hid (fst_neg lvl zs hk)
    have hs := csum_lt zs
    have HZ := Lib.hid (csum_own zs hs)
    have hzl : zs.length ≤ 300 := by rw [HR.out.1]; omega
    clear hk
    go_enter Try.func6, Try.ntmps6
    go_wp2_with fail
    have HW := Lib.hid ((Below.refl w.heap.size w).alloc (Nat.le_refl _) (.cells (bs.map Value.bool).toArray 38))
    have HBX := Lib.hid (box_bools w bs 38)
    have HSZ := Lib.hid (show (w.alloc (.cells (bs.map Value.bool).toArray 38)).heap.size = w.heap.size + 1 by simp)
    generalize w.alloc (.cells (bs.map Value.bool).toArray 38) = wb at *
    refine (sum_ok _ _ _ _ _ (HR.out.below HW.out) (by omega) HL.out).mono ?_
    rintro e w1 ⟨rfl, hb1⟩
    generalize hcs : csum zs = c at *
    have HCS := Lib.hid hcs
    clear hcs
    go_wp2_with fail
    refine (bits_ok c _ hs).mono ?_
    rintro e w2 ⟨A2, cap2, rfl, hi2, hb2⟩
    rw [ofB_len] at hi2 ⊢
    have HI2 := Lib.hid hi2
    have HB2 := Lib.hid (nxt hb1 hb2)
    have HR2 := Lib.hid (HR.out.below (nxt HW.out HB2.out))
    have L15 := Lib.hid (ofB_len c 15)
    have HA := Lib.hid (ofB_all c 15)
    clear hi2 hb1 hb2
    generalize ofB c 15 = cs at *
    obtain ⟨p, hp, hmod1, hmod2, tb1, tb2⟩ := mod_in start (n + 15) (by omega)
    rw [show ((n + 15 : Nat) : Int) = (n : Int) + 15 from by omega] at hmod1 hmod2 tb1 tb2
    have HO := Lib.hid (Own.lit w2 w2.heap.size [] (Nat.le_refl _) (by simp))
    have HLEN := Lib.hid (show ([] ++ zs ++ cs).length = n + 15 from by rw [List.nil_append, List.length_append, HR.out.1, L15.out])
    go_wp2_with (first
      | (at_builtin; (refine append_ints2 _ rfl (.tmp 42) (.tmp 43) rfl w2.heap.size _ [] rfl HO.out A n cap zs rfl (HR2.out.alloc _) (by simp; omega) (by simp) ?_); intro v4 w4 ho4 hg4 _; have hb4 := below_lit hg4; clear hg4; have HO4 := Lib.hid ho4; clear ho4)
      | (at_builtin; (refine append_ints2 _ rfl (.tmp 44) (.tmp 45) rfl w2.heap.size v4 ([] ++ zs) rfl HO4.out A2 15 cap2 cs rfl (HI2.out.below hb4) (by simp; omega) hb4.size ?_); intro v5 w5 ho5 hg5 _; have hb5 := hb4.grown hg5 hb4.size HO4.out.row; have HO5 := Lib.hid ho5; obtain ⟨g, cap5, rfl, hg, hc5⟩ := ho5.shape (by rw [HLEN.out]; omega); rw [HLEN.out]; clear ho5 hg5))
    have HB5 := Lib.hid (HB2.out.trans (hb5.mono HB2.out.size))
    have HBW := Lib.hid (nxt HW.out HB5.out)
    rw [List.nil_append] at HO5 hc5 HLEN
    have HAW := Lib.hid (all_append HL.out HA.out)
    have HC0 := Lib.hid (HZ.out.2 trivial)
    have HTK := Lib.hid (show (zs ++ cs).take n = zs from by rw [← HR.out.1]; exact List.take_left)
    rw [HLEN.out] at HO5 hc5
    have hgb : wb.heap.size ≤ g := Nat.le_trans HB2.out.size hg
    clear HO HO4 hb4 hb5 HI2 HR2 HZ hg
    generalize zs ++ cs = ws at *
    generalize hgw : w2.heap.size = B at *
    clear hgw
    go_wp2
    clear hmod1 hmod2 tb1 tb2
    go_loopw [12, 13, 14] (fun t a i wr => ∃ (k : Nat) (xs : List Int) (tt aa : Bool), k ≤ 15 ∧ i = .int .i64 k ∧ t = .bool tt ∧ a = .bool aa ∧ Turned ws n p k xs tt aa ∧ Own wr B (.slice (some ⟨g, 0, none⟩) (n + 15) cap5) xs ∧ Below wb.heap.size wb wr) (fun _ _ i _ => 15 - (intOf i).toNat)
    case atStart => exact ⟨0, ws, false, false, Nat.zero_le _, rfl, rfl, rfl, Turned.start _ _ HAW.out, HO5.out, HB5.out⟩
    case round =>
      obtain ⟨k, xs, tt, aa, hk, rfl, rfl, rfl, hT, hO, hbel⟩ := hrel
      have HT := Lib.hid hT; have HX := Lib.hid hO
      clear hT hO
      by_cases hin : k < 15 ∧ p + k < n + 15
      · obtain ⟨h15, hpk⟩ := hin
        have hwc := HBX.out k (by rw [HBS.out]; exact h15)
        have hwc2 : wr.cell? ⟨w.heap.size, k, none⟩ = some (.bool (bs.getD k false)) := (hbel.cell (p := ⟨w.heap.size, k, none⟩) (by show w.heap.size < wb.heap.size; rw [HSZ.out]; omega)).trans hwc
        have hxl : p + k < xs.length := by rw [HT.out.len, HLEN.out]; exact hpk
        have hcell := HX.out.cell hxl
        have hfz := HX.out.frozen (p + k)
        have hz := getD_some xs (p + k) hxl
        have hz01 := lvl_01 (HT.out.all _ (List.mem_of_getElem? hz))
        have i1 : (k : Int) < 15 := by omega
        have i2 : (p : Int) + (k : Int) < (n : Int) + 15 := by omega
        have i3 : (0 : Int) ≤ (p : Int) + (k : Int) := by omega
        have i4 : (0 : Int) ≤ (k : Int) := by omega
        clear hwc hxl
        generalize xs.getD (p + k) 0 = z at *
        generalize bs.getD k false = b at *
        have z1 : 0 ≤ z := by omega
        have z2 : z ≤ 1 := by omega
        have HZ := Lib.hid hz
        clear hz hz01
        cases b with
        | false =>
          go_wp2
          go_roundw
          case rel => exact ⟨k + 1, xs, tt, aa, by omega, by go_num, rfl, rfl, HT.out.skip, HX.out, hbel⟩
          case measure => simp [intOf]; omega
        | true =>
          have HTU := Lib.hid (HT.out.turn HZ.out)
          cases aa with
          | true =>
            go_wp2
            go_roundw
            case rel => exact ⟨k + 1, _, true, true, by omega, by go_num, rfl, rfl, by simpa using HTU.out, HX.out.put _ _, hbel.setCell (p := ⟨g, p + k, none⟩) hgb _⟩
            case measure => simp [intOf]; omega
          | false =>
            rw [Bool.false_or] at HTU
            have q : decide ((p : Int) + (k : Int) < (n : Int)) = decide (p + k < n) := by
              by_cases h : p + k < n
              · rw [decide_eq_true h]; simp; omega
              · rw [decide_eq_false h]; simp; omega
            generalize decide (p + k < n) = d at *
            go_wp2
            go_roundw
            case rel => exact ⟨k + 1, _, true, d, by omega, by go_num, rfl, rfl, HTU.out, HX.out.put _ _, hbel.setCell (p := ⟨g, p + k, none⟩) hgb _⟩
            case measure => simp [intOf]; omega
      · have hend : k = 15 ∨ ws.length ≤ p + k := by rw [HLEN.out]; omega
        have HRT := Lib.hid (HT.out.right HAW.out (by rw [HLEN.out]; omega) HC0.out hend hk)
        have HSM := Lib.hid (HT.out.sums HAW.out hend hk)
        rw [HTK.out, HCS.out] at HSM
        have hq : ((!tt) == tt) = false := by cases tt <;> rfl
        have hq2 : (aa == aa) = true := by simp
        have hq3 : decide ((n : Int) + 15 < (n : Int)) = false := by simp; omega
        have j1 : (0 : Int) ≤ (n : Int) := by omega
        have j2 : (n : Int) ≤ (cap5 : Int) := by omega
        have j3 : n ≤ cap5 := by omega
        by_cases h15 : k < 15
        · have g2 : decide ((p : Int) + (k : Int) < (n : Int) + 15) = false := by simp; omega
          clear hin hend
          go_wp2_with fail
          refine (right_any _ _ _ _ _ HX.out.il_at (by omega) hc5).mono ?_
          rintro e w6 ⟨rfl, hb6⟩
          rw [HRT.out]
          have HX6 := Lib.hid (HX.out.below hb6)
          go_wp2_with fail
          refine (sum_ok _ _ _ _ _ (HX6.out.il_at.take n (by omega)) (by omega) (all_take HT.out.all n)).mono ?_
          rintro e w7 ⟨rfl, hb7⟩
          generalize csum (xs.take n) = y at *
          have hy := HSM.out
          go_wp2_with fail
          refine (awake_ok _).mono ?_
          rintro e w8 ⟨rfl, hb8⟩
          go_wp2
          go_ret
          exact ⟨rfl, nxt HW.out (nxt (nxt (nxt hbel hb6) hb7) hb8)⟩
        · have g2 : decide ((k : Int) < 15) = false := by simp; omega
          clear hin hend
          go_wp2_with fail
          refine (right_any _ _ _ _ _ HX.out.il_at (by omega) hc5).mono ?_
          rintro e w6 ⟨rfl, hb6⟩
          rw [HRT.out]
          have HX6 := Lib.hid (HX.out.below hb6)
          go_wp2_with fail
          refine (sum_ok _ _ _ _ _ (HX6.out.il_at.take n (by omega)) (by omega) (all_take HT.out.all n)).mono ?_
          rintro e w7 ⟨rfl, hb7⟩
          generalize csum (xs.take n) = y at *
          have hy := HSM.out
          go_wp2_with fail
          refine (awake_ok _).mono ?_
          rintro e w8 ⟨rfl, hb8⟩
          go_wp2
          go_ret
          exact ⟨rfl, nxt HW.out (nxt (nxt (nxt hbel hb6) hb7) hb8)⟩
  · go_enter Try.func6, Try.ntmps6
    have HW := Lib.hid ((Below.refl w.heap.size w).alloc (Nat.le_refl _) (.cells (bs.map Value.bool).toArray 38))
    go_wp2_with fail
    refine (sum_bad _ _ _ _ _ (HR.out.below HW.out) (by omega) hk).mono ?_
    rintro e w1 ⟨rfl, rfl⟩
    go_wp2_with fail
    refine (bits_ok 0 _ (by omega)).mono ?_
    rintro e w2 ⟨A2, cap2, rfl, hi2, hb2⟩
    clear hi2
    go_wp2_with fail
    refine (awake_ok _).mono ?_
    rintro e w8 ⟨rfl, hb8⟩
    go_wp2
    go_ret
    exact ⟨rfl, nxt (nxt HW.out hb2) hb8⟩
end Go.Proofs.Ytafcabnjkkbfiaa
