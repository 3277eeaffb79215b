/- The walk of the law StuffParts. -/
import Derived.Test.YtaamklfedcbccaaL4
import Derived.Test.YtaamklfedcbccaaSP
import Derived.Test.YtaamklfedcbccaaBox
import Derived.Deep.RegionHeld3
import Derived.Deep.DrawnRows
namespace Go.Proofs.Ytaamklfedcbccaa
open Go.RowKit

attribute [local go_sem ↓] Go.wp_at_zero Go.wp_at_succ

theorem parts_front {xs ys ls : List Int} {La : Nat} (h : [] ++ xs ++ ys = ls) (hl : (stf xs).length = La) : La ≤ (stf ls).length ∧ (stf ls).take La = stf xs := by
  rw [List.nil_append] at h
  subst h; subst hl
  obtain ⟨r, hr⟩ := stf_more xs ys
  rw [hr]
  exact ⟨by simp, by simp⟩

set_option maxRecDepth 100000 in
set_option maxHeartbeats 6400000 in
theorem law55 (A B : Option Addr) (n m cap cap' : Nat) (xs ys : List Int) (q : Int) (w : World) (ha : Il w A n xs) (hb : Il w B m ys) :
    Calls Try.prog 7 #[.agg #[.slice A n cap, .slice B m cap'], .int .i64 q] w fun e w' => e = .returned (.bool true) ∧ Below w.heap.size w w' := by
  have HA := Lib.hid ha; have HB := Lib.hid hb
  clear ha hb
  by_cases hn : 150 < n
  · have g0 : decide ((150 : Int) < (n : Int)) = true := by simp; omega
    go_enter Try.func7, Try.ntmps7
    go_wp2_with (go_at_call 9; (refine (awake5 _).mono ?_); rintro e w1 ⟨rfl, hb1⟩)
    go_ret
    exact ⟨rfl, nxt ((Below.refl _ _).alloc (Nat.le_refl _) _) hb1⟩
  have g0 : decide ((150 : Int) < (n : Int)) = false := by simp; omega
  by_cases hm : 150 < m
  · have g1 : decide ((150 : Int) < (m : Int)) = true := by simp; omega
    go_enter Try.func7, Try.ntmps7
    go_wp2_with (go_at_call 9; (refine (awake5 _).mono ?_); rintro e w1 ⟨rfl, hb1⟩)
    go_ret
    exact ⟨rfl, nxt ((Below.refl _ _).alloc (Nat.le_refl _) _) hb1⟩
  have g1 : decide ((150 : Int) < (m : Int)) = false := by simp; omega
  go_enter Try.func7, Try.ntmps7
  go_wp2_with fail
  have HO := Lib.hid (own_box w (.cells #[.slice A n cap, .slice B m cap'] 36))
  have HA1 := Lib.hid (HA.out.alloc (.cells #[.slice A n cap, .slice B m cap'] 36)); have HB1 := Lib.hid (HB.out.alloc (.cells #[.slice A n cap, .slice B m cap'] 36))
  have HC := Lib.hid (box_cells w (.slice A n cap) (.slice B m cap') 36)
  have hxl : xs.length ≤ 150 := by rw [HA.out.1]; omega
  have hyl : ys.length ≤ 150 := by rw [HB.out.1]; omega
  go_region_held3 (fun w' => w'.cell? ⟨w.heap.size, 0, none⟩ = some (.slice A n cap) ∧ w'.cell? ⟨w.heap.size, 1, none⟩ = some (.slice B m cap'))
    (first
      | go_keep
      | (go_split_ands
         exact ⟨(hb5.cell (p := ⟨w.heap.size, 0, none⟩) (by simp)).trans HC.out.1, (hb5.cell (p := ⟨w.heap.size, 1, none⟩) (by simp)).trans HC.out.2⟩)
      | (go_split_ands
         exact ⟨(hb4.cell (p := ⟨w.heap.size, 0, none⟩) (by simp)).trans HC.out.1, (hb4.cell (p := ⟨w.heap.size, 1, none⟩) (by simp)).trans HC.out.2⟩))
    (first
      | (refine step_append_ints _ (by rfl) (.tmp 28) (.tmp 30) (by rfl) (w.heap.size + 1) (.slice (some ⟨w.heap.size + 1, 0, none⟩) 0 0) [] (by rfl) (by exact HO.out) A n cap xs (by rfl) (by exact HA1.out.alloc _) (by simp; omega) (by simp) ?_; intro v4 w4 ho4 hg4; have hb4 := below_box hg4; clear hg4; have HO4 := Lib.hid ho4; clear ho4)
      | (refine step_append_ints _ (by rfl) (.tmp 31) (.tmp 33) (by rfl) (w.heap.size + 1) v4 ([] ++ xs) (by rfl) (by exact HO4.out) B m cap' ys (by rfl) (by exact HB1.out.below (by simpa using hb4)) (by simp; omega) (by have := hb4.size; simp at this; omega) ?_; intro v5 w5 ho5 hg5; have hb5 := hb4.grown hg5 (by have := hb4.size; simp at this; omega) HO4.out.row; have HO5 := Lib.hid ho5.il; clear ho5 hg5))
  obtain ⟨A5, cap5, rfl, hi5⟩ := HO5.out
  have hbx : Below (w.heap.size + 1) (w.alloc (.cells #[.slice A n cap, .slice B m cap'] 36)) w5 := hb5
  have HL := Lib.hid hi5
  have hll : ([] ++ xs ++ ys).length ≤ 300 := by simp; omega
  generalize hls : [] ++ xs ++ ys = ls at *
  have HLS := Lib.hid hls
  clear hi5 hls HO5 HO4 HO HB1 hb4 hb5
  have hbw0 := (Below.refl w.heap.size w).alloc (Nat.le_refl _) (.cells #[.slice A n cap, .slice B m cap'] 36)
  have HBW0 := Lib.hid hbw0
  clear hbw0
  generalize hbw : w.alloc (.cells #[.slice A n cap, .slice B m cap'] 36) = wb at *
  have hwb : w.heap.size + 1 = wb.heap.size := by rw [← hbw]; simp
  have HWS := Lib.hid hwb
  clear hbw
  rw [hwb] at hbx
  clear hwb
  have HBX := Lib.hid hbx
  clear hbx
  generalize hN : ls.length = N at *
  have HN := Lib.hid hN
  clear hN
  go_wp2_with fail
  refine (check_any _ _ _ _ _ HL.out (by omega)).mono ?_
  rintro e w' ⟨rfl, rfl⟩
  rcases Int.lt_or_le (chk ls) 0 with hk | hk
  · have HV := Lib.hid (fst_neg lvl ls hk)
    rw [show chk ls = -1 from fst_of_all lvl ls HV.out]
    clear hk
    have HVX := Lib.hid (show ∀ z ∈ xs, lvl z = true from fun z hz => HV.out z (by rw [← HLS.out]; simp [hz]))
    have hc5 : w5.cell? ⟨w.heap.size, 0, none⟩ = some (.slice A n cap) := (HBX.out.cell (p := ⟨w.heap.size, 0, none⟩) (by show w.heap.size < wb.heap.size; have := HWS.out; omega)).trans HC.out.1
    have hsa := stf_len xs
    have hsb := stf_len ls
    rw [HA.out.1] at hsa
    rw [HN.out] at hsb
    obtain ⟨La, hLa⟩ : ∃ La, (stf xs).length = La := ⟨_, rfl⟩
    obtain ⟨Lb, hLb⟩ : ∃ Lb, (stf ls).length = Lb := ⟨_, rfl⟩
    have HPF := Lib.hid (parts_front HLS.out hLa)
    rw [hLa] at hsa
    rw [hLb] at hsb
    rw [hLb] at HPF
    have hab := HPF.out.1
    have HLA := Lib.hid hLa; have HLB := Lib.hid hLb
    clear hLa hLb
    go_wp2_with fail
    refine (add_ok _ _ _ _ _ (HA1.out.below HBX.out) (by omega) HVX.out).mono ?_
    rintro e w6 ⟨A6, cap6, rfl, hi6, hc6, hb6⟩
    rw [HLA.out] at hi6 hc6 ⊢
    have HI6 := Lib.hid hi6; have HB6 := Lib.hid (nxt HBX.out hb6); have HL6 := Lib.hid (HL.out.below hb6)
    clear hi6 hb6 hc6 hc5
    go_wp2_with fail
    refine (add_ok _ _ _ _ _ HL6.out (by omega) HV.out).mono ?_
    rintro e w7 ⟨A7, cap7, rfl, hi7, hc7, hb7⟩
    rw [HLB.out] at hi7 hc7 ⊢
    have HI7 := Lib.hid hi7; have HB7 := Lib.hid (nxt HB6.out hb7); have HL7 := Lib.hid (HL6.out.below hb7); have HI67 := Lib.hid (HI6.out.below hb7)
    clear hi7 hb7
    have q1 : decide ((Lb : Int) < (La : Int)) = false := by simp; omega
    have q1' : decide (Lb < La) = false := by simp; omega
    have j1 : (0 : Int) ≤ (La : Int) := by omega
    have j2 : (La : Int) ≤ (cap7 : Int) := by omega
    have j3 : La ≤ cap7 := by omega
    go_wp2_with fail
    refine (ints_b _ _ _ _ _ _ _ _ _ (HI7.out.take La hab) HI67.out (by omega)).mono ?_
    rintro e w8 ⟨rfl, hb8⟩
    rw [HPF.out.2, show (stf xs == stf xs) = true from by simp]
    have HB8 := Lib.hid (nxt HB7.out hb8); have HL8 := Lib.hid (HL7.out.below hb8); have HI8 := Lib.hid (HI7.out.below hb8)
    clear hb8 HI6 HI67 HI7 HB7 HB6 HL6 HL7
    have HO8 := Lib.hid (Own.lit w8 w8.heap.size [] (Nat.le_refl _) (by simp))
    go_wp2
    go_loopw [8, 9] (fun v i wr => ∃ k : Nat, k ≤ N ∧ i = .int .i64 k ∧ Own wr w8.heap.size v (flp (ls.take k)) ∧ Below w8.heap.size w8 wr) (fun _ i _ => N - (intOf i).toNat)
    case atStart => exact ⟨0, Nat.zero_le _, rfl, HO8.out, lit_below _ _⟩
    case round =>
      obtain ⟨k, hk, rfl, ho, hbel⟩ := hrel
      by_cases hlt : k < N
      · obtain ⟨ad, z, rfl, hz, hc⟩ := (HL8.out.below hbel).at_ hlt
        have hz01 := lvl_01 (HV.out z (List.mem_of_getElem? hz))
        have z1 : 0 ≤ z := by omega
        have z2 : z ≤ 1 := by omega
        have HF := Lib.hid (flp_take ls k z hz)
        have hol : (flp (ls.take k)).length ≤ 300 := by rw [flp_len, List.length_take]; omega
        have hsz := hbel.size
        have HO := Lib.hid ho
        clear hz ho hz01
        generalize flp (ls.take k) = o at *
        go_wp2_with (first | (at_builtin; (refine append_ints2 _ rfl (.tmp 70) (.tmp 76) rfl w8.heap.size u8 o rfl (HO.out.alloc _) _ 1 1 [1 - z] rfl (Arr.new wr .i64 3 [1 - z]).il (by omega) (by simp; omega) ?_); intro v1 w1 ho1 hg1 hl1; have HO1 := Lib.hid ho1; have HB1 := Lib.hid (push_lit hbel hsz HO.out hg1); clear ho1 hg1 hl1) | fail)
        go_roundw
        case rel => exact ⟨k + 1, by omega, by go_num, by rw [HF.out]; exact HO1.out, HB1.out⟩
        case measure => simp [intOf]; omega
      · have HTK := Lib.hid (show ls.take k = ls from List.take_of_length_le (by rw [HN.out]; omega))
        rw [HTK.out] at ho
        obtain ⟨A9, cap9, rfl, hi9⟩ := ho.il
        rw [flp_len, HN.out] at hi9 ⊢
        have HI9 := Lib.hid hi9
        have HB9 := Lib.hid (nxt HB8.out hbel)
        have HI79 := Lib.hid (HI8.out.below hbel)
        clear hi9 hbel ho HO8 HL8 HI8
        go_wp2_with fail
        refine (add_ok _ _ _ _ _ HI9.out (by omega) (flp_lvl HV.out)).mono ?_
        rintro e w10 ⟨A10, cap10, rfl, hi10, hc10, hb10⟩
        rw [stf_flp, flp_len, HLB.out] at hi10 hc10 ⊢
        have HI10 := Lib.hid hi10
        have HB10 := Lib.hid (nxt HB9.out hb10)
        have HI710 := Lib.hid (HI79.out.below hb10)
        clear hi10 hb10 hc10 HI79 HI9 HB9
        have q2 : ((Lb : Int) != (Lb : Int)) = false := by simp
        have HSV := Lib.hid (stf_lvl ls HV.out)
        go_wp2
        go_loopw [11] (fun i wr => ∃ k qq : Nat, k ≤ Lb ∧ i = .int .i64 k ∧ wr = w10.drewN qq) (fun i _ => Lb - (intOf i).toNat)
        case atStart => exact ⟨0, 0, Nat.zero_le _, rfl, rfl⟩
        case round =>
          obtain ⟨k, qq, hk, rfl, rfl⟩ := hrel
          by_cases hlt : k < Lb
          · obtain ⟨ad, rfl, -, -⟩ := HI10.out.2 (by omega)
            obtain ⟨bd, rfl, -, -⟩ := HI710.out.2 (by omega)
            have hc := il_getD HI10.out hlt
            have hd := il_getD HI710.out hlt
            have hkl : k < (stf ls).length := by rw [HLB.out]; exact hlt
            have hz01 := getD_lvl HSV.out hkl
            rw [flp_getD hkl] at hc
            clear hkl
            generalize (stf ls).getD k 0 = z at *
            have z1 : 0 ≤ z := by omega
            have z2 : z ≤ 1 := by omega
            have e1 : IntKind.i64.wrap (1 - z) = 1 - z := IntWalk.i64_in _ (by omega)
            have q3 : ((1 - z) != (1 - z)) = false := by simp
            have i1 : (0 : Int) ≤ (k : Int) := by omega
            have i2 : (k : Int) < (Lb : Int) := by omega
            clear hz01
            go_wp2
            go_quiet (fail)
            go_wp2
            go_roundw
            case rel => exact ⟨k + 1, _, by omega, by go_num, rfl⟩
            case measure => simp [intOf]; omega
          · have HBK := Lib.hid (nxt HBW0.out (belowN HB10.out qq))
            clear HI10 HI710 HB10
            generalize w10.drewN qq = w11 at *
            by_cases hq0 : q < 0
            · have g3 : decide (q < 0) = true := by simpa using hq0
              clear hq0
              go_wp2_with fail
              refine (awake5 _).mono ?_
              rintro e w13 ⟨rfl, hb13⟩
              go_wp2
              go_ret
              exact ⟨rfl, nxt HBK.out hb13⟩
            have g3 : decide (q < 0) = false := by simp; omega
            by_cases hq1 : 200 < q
            · have g4 : decide (200 < q) = true := by simpa using hq1
              clear hq0 hq1
              go_wp2_with fail
              refine (awake5 _).mono ?_
              rintro e w13 ⟨rfl, hb13⟩
              go_wp2
              go_ret
              exact ⟨rfl, nxt HBK.out hb13⟩
            obtain ⟨t, rfl⟩ := Int.eq_ofNat_of_zero_le (show 0 ≤ q by omega)
            have g4 : decide ((200 : Int) < (t : Int)) = false := by simp; omega
            have ht : t ≤ 200 := by omega
            clear hq0 hq1
            have HO11 := Lib.hid (Own.lit w11 w11.heap.size [] (Nat.le_refl _) (by simp))
            go_wp2
            go_loopw [12, 13] (fun v i wr => ∃ k : Nat, k ≤ t ∧ i = .int .i64 k ∧ Own wr w11.heap.size v (prow k) ∧ Below w11.heap.size w11 wr) (fun _ i _ => t - (intOf i).toNat)
            case atStart => exact ⟨0, Nat.zero_le _, rfl, HO11.out, lit_below _ _⟩
            case round =>
              obtain ⟨k, hk, rfl, ho, hbel⟩ := hrel
              by_cases hlt : k < t
              · have hol := prow_len k
                have hsz := hbel.size
                have HO := Lib.hid ho
                have HS := Lib.hid (prow_succ k)
                clear ho
                generalize prow k = o at *
                by_cases h5 : k < 5
                · have HP := Lib.hid (show pel k = 0 by unfold pel; rw [if_pos h5])
                  go_wp2_with (first | (at_builtin; (refine append_ints2 _ rfl (.tmp 120) (.tmp 122) rfl w11.heap.size u12 o rfl (HO.out.alloc _) _ 1 1 [0] rfl (Arr.new wr .i64 3 [0]).il (by omega) (by simp; omega) ?_); intro v1 w1 ho1 hg1 hl1; have HO1 := Lib.hid ho1; have HB1 := Lib.hid (push_lit hbel hsz HO.out hg1); clear ho1 hg1 hl1) | fail)
                  go_roundw
                  case rel => exact ⟨k + 1, by omega, by go_num, by rw [HS.out, HP.out]; exact HO1.out, HB1.out⟩
                  case measure => simp [intOf]; omega
                · have HP := Lib.hid (show pel k = ((k : Int) - 1) / 4 % 2 by unfold pel; rw [if_neg h5])
                  go_wp2_with (first | (at_builtin; (refine append_ints2 _ rfl (.tmp 120) (.tmp 122) rfl w11.heap.size u12 o rfl (HO.out.alloc _) _ 1 1 [((k : Int) - 1) / 4 % 2] rfl (Arr.new wr .i64 3 [((k : Int) - 1) / 4 % 2]).il (by omega) (by simp; omega) ?_); intro v1 w1 ho1 hg1 hl1; have HO1 := Lib.hid ho1; have HB1 := Lib.hid (push_lit hbel hsz HO.out hg1); clear ho1 hg1 hl1) | fail)
                  go_roundw
                  case rel => exact ⟨k + 1, by omega, by go_num, by rw [HS.out, HP.out]; exact HO1.out, HB1.out⟩
                  case measure => simp [intOf]; omega
              · obtain rfl : k = t := by omega
                obtain ⟨A12, cap12, rfl, hi12⟩ := ho.il
                rw [prow_len] at hi12 ⊢
                have HI12 := Lib.hid hi12
                have HM := Lib.hid (prow_most k ht)
                have HG := Lib.hid (stf_few (prow k)).2
                rw [prow_len] at HG
                clear hi12 ho HO11
                go_wp2_with fail
                refine (most_ok k _ (by omega)).mono ?_
                rintro e w' ⟨rfl, rfl⟩
                obtain ⟨ms, hms⟩ : ∃ ms, (k - 1) / 4 = ms := ⟨_, rfl⟩
                rw [hms] at HM ⊢
                clear hms
                go_wp2_with fail
                refine (count_ok _ _ _ _ _ HI12.out (by omega) (prow_lvl k)).mono ?_
                rintro e w12 ⟨rfl, hb12⟩
                have q5 : ((((stf (prow k)).length : Nat) : Int) - (k : Int) == (ms : Int)) = true := by
                  have h1 := HM.out
                  have h2 := HG.out
                  simp; omega
                generalize ((((stf (prow k)).length : Nat) : Int) - (k : Int)) = cc at *
                go_wp2_with fail
                refine (awake5 _).mono ?_
                rintro e w13 ⟨rfl, hb13⟩
                go_wp2
                go_ret
                exact ⟨rfl, nxt HBK.out (nxt (nxt hbel hb12) hb13)⟩
  · have HK := Lib.hid hk
    go_wp2_with fail
    refine (count_bad _ _ _ _ _ HL.out (by omega) HK.out).mono ?_
    rintro e w' ⟨rfl, rfl⟩
    go_wp2_with fail
    refine (awake5 _).mono ?_
    rintro e w13 ⟨rfl, hb13⟩
    go_wp2
    go_ret
    exact ⟨rfl, nxt HBW0.out (nxt HBX.out hb13)⟩
end Go.Proofs.Ytaamklfedcbccaa
