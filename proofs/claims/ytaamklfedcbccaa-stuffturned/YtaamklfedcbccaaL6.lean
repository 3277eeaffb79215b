/- The walk of the law StuffTurned. -/
import Derived.Test.YtaamklfedcbccaaL4
import Derived.Deep.RegionHeld3
import Derived.Deep.DrawnRows
namespace Go.Proofs.Ytaamklfedcbccaa
open Go.RowKit

attribute [local go_sem ↓] Go.wp_at_zero Go.wp_at_succ

theorem grown_undrew5 {w w' : World} {o : Obj} {row : Option Nat} (h : (w.alloc o).drew.grownBy w' row) : (w.alloc o).grownBy w' row := ⟨h.os, h.tape, h.output, h.size, h.block⟩
theorem slice_to (sd : Addr) (L cap p : Nat) (hp : p ≤ cap) : (∀ w : World, (Instr.sliceAt 22 (.slice (some sd) L cap) none (some (.int .i64 (p : Int))) none).run Try.prog w = .ok (.slice (some sd) p cap) w) ∧
    ∀ w : World, (Instr.slice 22 (.slice (some sd) L cap) none (some (.int .i64 (p : Int))) none).run Try.prog w = .ok (.slice (some sd) p cap) w := by
  obtain ⟨i, hi, -, hsz, -⟩ := info3
  have h : ∀ w : World, (Instr.slice 22 (.slice (some sd) L cap) none (some (.int .i64 (p : Int))) none).run Try.prog w = .ok (.slice (some sd) p cap) w := by
    intro w
    rw [run_slice_h _ _ _ _ _ Try.underlying22 _ _ (by omega) (by omega)]
    simp only [sliced, Int.toNat_natCast, Nat.sub_zero, Nat.zero_mul, Option.map, at_zero, ite_self]
    show ((sizeOf 3).run Try.prog w).andThen _ = _
    simp [sizeOf, typeInfo, hi]
  exact ⟨fun w => by rw [run_sliceAt_slice _ _ _ _ _ _ Try.underlying22]; exact h w, h⟩
theorem slice_from (sd : Addr) (L cap p : Nat) (hp : p < L) (hc : L ≤ cap) : ∃ X, (∀ (w : World) (zs : List Int), Il w (some sd) L zs → Il w X (L - (p + 1)) (zs.drop (p + 1))) ∧
    (∀ w : World, (Instr.sliceAt 22 (.slice (some sd) L cap) (some (.int .i64 ((p : Int) + 1))) none none).run Try.prog w = .ok (.slice X (L - (p + 1)) (cap - (p + 1))) w) ∧
    ∀ w : World, (Instr.slice 22 (.slice (some sd) L cap) (some (.int .i64 ((p : Int) + 1))) none none).run Try.prog w = .ok (.slice X (L - (p + 1)) (cap - (p + 1))) w := by
  obtain ⟨i, hi, -, hsz, -⟩ := info3
  have h : ∀ w : World, (Instr.slice 22 (.slice (some sd) L cap) (some (.int .i64 ((p : Int) + 1))) none none).run Try.prog w = .ok (.slice (if cap = p + 1 then some sd else some (sd.add (p + 1))) (L - (p + 1)) (cap - (p + 1))) w := by
    intro w
    rw [run_slice_l _ _ _ _ _ Try.underlying22 _ _ (by omega) (by omega)]
    show ((sizeOf 3).run Try.prog w).andThen _ = _
    simp [sizeOf, typeInfo, hi, sliced, hsz, show ((p : Int) + 1).toNat = p + 1 by omega]
  refine ⟨_, fun w zs hz => ?_, fun w => by rw [run_sliceAt_slice _ _ _ _ _ _ Try.underlying22]; exact h w, h⟩
  by_cases hcp : cap = p + 1
  · rw [show L - (p + 1) = 0 by omega, List.drop_eq_nil_of_le (by rw [hz.1]; omega)]
    exact ⟨rfl, fun h => by omega⟩
  · rw [if_neg hcp]
    exact hz.drop (p + 1) (by omega)
/-- Of a row with one left out nothing is taken, or another row. -/
theorem left_out {zs s us : List Int} {L p : Nat} (hs : stf zs = s) (hl : s.length = L) (hp : p < L) (hu : us.length = L - 1) (he : tkE us = 0) : (tkR us == zs) = false := by
  rw [beq_eq_false_iff_ne]
  intro e
  have h := (stf_tk he).1
  rw [e, hs] at h
  rw [← h, hl] at hu
  omega
theorem turned_same {zs s xs : List Int} (hs : stf zs = s) (hv : ∀ z ∈ zs, lvl z = true) (h : xs = s) : tkE xs = 0 ∧ (tkR xs == zs) = true := by
  subst hs; subst h
  obtain ⟨h1, _, h3⟩ := tk_stf hv
  exact ⟨h1, by rw [h3]; simp⟩
theorem turned_other {zs s xs : List Int} (hs : stf zs = s) (h : ¬ xs = s) (he : tkE xs = 0) : (tkR xs == zs) = false := by
  rw [beq_eq_false_iff_ne]
  intro e
  have h2 := (stf_tk he).1
  rw [e, hs] at h2
  exact h h2.symm

set_option maxRecDepth 100000 in
set_option maxHeartbeats 6400000 in
theorem law56 (A B : Option Addr) (n m cap capb : Nat) (zs ts : List Int) (out : Int) (w : World) (hr : Il w A n zs) (hb : Il w B m ts) :
    Calls Try.prog 8 #[.slice A n cap, .slice B m capb, .int .i64 out] w fun e w' => e = .returned (.bool true) ∧ Below w.heap.size w w' := by
  have HR := Lib.hid hr; have HT := Lib.hid hb
  clear hr hb
  by_cases hn : 300 < n
  · have h0 : decide ((300 : Int) < (n : Int)) = true := by simp; omega
    go_enter Try.func8, Try.ntmps8
    go_wp2_with (go_at_call 9; (refine (awake5 _).mono ?_); rintro e w1 ⟨rfl, hb1⟩)
    go_ret
    exact ⟨rfl, hb1⟩
  have h0 : decide ((300 : Int) < (n : Int)) = false := by simp; omega
  by_cases hm : 10 < m
  · have h1 : decide ((10 : Int) < (m : Int)) = true := by simp; omega
    go_enter Try.func8, Try.ntmps8
    go_wp2_with (go_at_call 9; (refine (awake5 _).mono ?_); rintro e w1 ⟨rfl, hb1⟩)
    go_ret
    exact ⟨rfl, hb1⟩
  have h1 : decide ((10 : Int) < (m : Int)) = false := by simp; omega
  rcases Int.lt_or_le (chk zs) 0 with hk | hk
  · have HV := Lib.hid (fst_neg lvl zs hk)
    have HC := Lib.hid (show chk zs = -1 from fst_of_all lvl zs HV.out)
    have hsl := stf_len zs
    have HSV := Lib.hid (stf_lvl zs HV.out)
    rw [HR.out.1] at hsl
    generalize hst : stf zs = s at *
    have HST := Lib.hid hst
    generalize hL : s.length = L at *
    have HSL := Lib.hid hL
    clear hk hL hst
    go_enter Try.func8, Try.ntmps8
    go_wp2_with fail
    refine (check_any _ _ _ _ _ HR.out (by omega)).mono ?_
    rintro e w' ⟨rfl, rfl⟩
    rw [HC.out]
    go_wp2_with fail
    refine (add_ok _ _ _ _ _ HR.out (by omega) HV.out).mono ?_
    rintro e w1 ⟨A1, cap1, rfl, hi1, hc1, hb1⟩
    rw [HST.out, HSL.out] at hi1 hc1 ⊢
    have HI1 := Lib.hid hi1; have HB1 := Lib.hid hb1
    clear hi1 hb1
    have g0 : decide ((L : Int) < (n : Int)) = false := by simp; omega
    by_cases hL0 : L = 0
    · have g1 : ((L : Int) == 0) = true := by simp; omega
      clear hL0
      go_wp2_with fail
      refine (awake5 _).mono ?_
      rintro e w13 ⟨rfl, hb13⟩
      go_wp2
      go_ret
      exact ⟨rfl, nxt HB1.out hb13⟩
    have g1 : ((L : Int) == 0) = false := by simp; omega
    obtain ⟨sd, rfl, -, -⟩ := HI1.out.2 (by omega)
    have HO := Lib.hid (Own.lit w1 w1.heap.size [] (Nat.le_refl _) (by simp))
    have hbs : w1.heap.size ≤ w1.heap.size := Nat.le_refl _
    go_wp2_with (first
      | (at_builtin; (refine append_ints2 _ rfl (.tmp 44) (.tmp 45) rfl w1.heap.size _ [] rfl HO.out (some sd) L cap1 s rfl (HI1.out.alloc _) (by simp; omega) (by simp) ?_); intro v4 w4 ho4 hg4 _; have hb4 := below_lit hg4; clear hg4; have HO4 := Lib.hid ho4; obtain ⟨g, cap4, rfl, hg, hc4⟩ := ho4.shape (by rw [List.nil_append, HSL.out]; omega); rw [List.nil_append, HSL.out] at HO4 hc4 ⊢; clear ho4)
      | fail)
    have HB4 := Lib.hid hb4
    have hgw : w.heap.size ≤ g := Nat.le_trans HB1.out.size hg
    clear hb4 HO hbs
    go_loopw [9] (fun i wr => ∃ (k : Nat) (xs : List Int), k ≤ m ∧ i = .int .i64 k ∧ xs.length = L ∧ (∀ z ∈ xs, lvl z = true) ∧ Own wr w1.heap.size (.slice (some ⟨g, 0, none⟩) L cap4) xs ∧ Below w1.heap.size w1 wr) (fun i _ => m - (intOf i).toNat)
    case atStart => exact ⟨0, s, Nat.zero_le _, rfl, HSL.out, HSV.out, HO4.out, HB4.out⟩
    case round =>
      obtain ⟨k, xs, hkm, rfl, hxl, hxv, hxo, hbel⟩ := hrel
      have HXL := Lib.hid hxl; have HXV := Lib.hid hxv; have HXO := Lib.hid hxo
      clear hxl hxv hxo
      by_cases hlt : k < m
      · obtain ⟨bd, x, rfl, hx, hcx⟩ := ((HT.out.below HB1.out).below hbel).at_ hlt
        obtain ⟨p, hp, hmod1, hmod2, tb1, tb2⟩ := mod_in x L (by omega)
        have hpx : p < xs.length := by rw [HXL.out]; exact hp
        have hcell := HXO.out.cell hpx
        have hfz := HXO.out.frozen p
        have hz01 := getD_lvl HXV.out hpx
        have i1 : (0 : Int) ≤ (p : Int) := by omega
        have i2 : (p : Int) < (L : Int) := by omega
        clear hx hpx
        generalize xs.getD p 0 = z at *
        have z1 : 0 ≤ z := by omega
        have z2 : z ≤ 1 := by omega
        have HF := Lib.hid (show lvl (1 - z) = true by rcases hz01 with rfl | rfl <;> rfl)
        clear hz01
        go_wp2
        go_roundw
        case rel =>
          refine ⟨k + 1, xs.set p (1 - z), by omega, by go_num, by rw [List.length_set, HXL.out], fun y hy => ?_, HXO.out.put _ _, hbel.setCell (p := ⟨g, p, none⟩) hg _⟩
          rcases List.mem_or_eq_of_mem_set hy with h | h
          · exact HXV.out y h
          · rw [h]; exact HF.out
        case measure => simp [intOf]; omega
      · have HB5 := Lib.hid (nxt HB1.out hbel)
        have hin := tkAt_in xs
        rw [HXL.out] at hin
        have hrl := tkR_len xs
        rw [HXL.out] at hrl
        go_wp2_with fail
        refine (take_any _ _ _ _ _ HXO.out.il_at (by omega)).mono ?_
        rintro e w6 ⟨A6, cap6, rfl, hi6, hc6, hb6⟩
        have HI6 := Lib.hid hi6
        have HB6 := Lib.hid (nxt HB5.out hb6)
        have HX6 := Lib.hid (HXO.out.below hb6)
        have HS6 := Lib.hid ((HI1.out.below hbel).below hb6)
        clear hi6 hc6 hb6 hbel
        obtain ⟨ta1, ta2⟩ := hin
        by_cases hxs : xs = s
        · obtain ⟨t1, t2⟩ := turned_same HST.out HV.out hxs
          have HQ := Lib.hid (show (xs == s) = true by simpa using hxs)
          have HQ2 := Lib.hid t2
          rw [t1]
          clear t1 t2 hxs
          generalize tkAt xs = ta at *
          generalize (tkR xs).length = Lr at *
          go_wp2_with fail
          refine (ints_b _ _ _ _ _ _ _ _ _ HI6.out (HR.out.below HB6.out) (by omega)).mono ?_
          rintro e w7 ⟨rfl, hb7⟩
          rw [HQ2.out]
          have HB7 := Lib.hid (nxt HB6.out hb7); have HX7 := Lib.hid (HX6.out.below hb7); have HS7 := Lib.hid (HS6.out.below hb7)
          clear hb7
          go_wp2_with fail
          refine (ints_b _ _ _ _ _ _ _ _ _ HX7.out.il_at HS7.out (by omega)).mono ?_
          rintro e w9 ⟨rfl, hb9⟩
          rw [HQ.out]
          have HB9 := Lib.hid (nxt HB7.out hb9); have HS9 := Lib.hid (HS7.out.below hb9)
          clear hb9 HB7 HX7 HS7 HX6 HS6 HI6 HXO HXL HXV
          obtain ⟨p, hp, hmod1, hmod2, tb1, tb2⟩ := mod_in out L (by omega)
          have HO9 := Lib.hid (Own.lit w9 w9.heap.size [] (Nat.le_refl _) (by simp))
          obtain ⟨us, hus⟩ : ∃ us, ([] ++ s.take p ++ s.drop (p + 1)) = us := ⟨_, rfl⟩
          have HUS := Lib.hid hus
          have HUL := Lib.hid (show us.length = L - 1 by rw [← hus, List.nil_append, List.length_append, List.length_take, List.length_drop, HSL.out]; omega)
          have HUN := Lib.hid (left_out HST.out HSL.out hp HUL.out)
          obtain ⟨hs1, hs3⟩ := slice_to sd L cap1 p (by omega)
          obtain ⟨X, hX, hs2, hs4⟩ := slice_from sd L cap1 p hp hc1
          have HD0 := Lib.hid (hX _ _ HS9.out)
          have hw1 : IntKind.i64.wrap ((p : Int) + 1) = (p : Int) + 1 := IntWalk.i64_in _ (by omega)
          clear hus hX
          go_wp2_with fail
          go_region_held3 (fun _ => True) (trivial)
            (first
              | (refine step_append_ints2 _ (by rfl) (.tmp 129) (.tmp 132) (by rfl) w9.heap.size (.slice (some ⟨w9.heap.size, 0, none⟩) 0 0) [] (by rfl) (by exact HO9.out) (some sd) p cap1 (s.take p) (by rfl) (by exact (HS9.out.take p (by omega)).below (belowN (lit_below w9 _) 1)) (by rw [List.length_nil]; omega) (by simp) ?_; intro v10 w10 ho10 hg10 hl10; have hb10 := below_lit (grown_undrew5 hg10); clear hg10 hl10; have HO10 := Lib.hid ho10; clear ho10)
              | (refine step_append_ints2 _ (by rfl) (.tmp 133) (.tmp 137) (by rfl) w9.heap.size v10 ([] ++ s.take p) (by rfl) (by exact HO10.out) X (L - (p + 1)) (cap1 - (p + 1)) (s.drop (p + 1)) (by rfl) (by exact HD0.out.below hb10) (by rw [List.nil_append, List.length_take, HSL.out]; omega) (by exact hb10.size) ?_; intro v11 w11 ho11 hg11 hl11; have hb11 := hb10.grown hg11 hb10.size HO10.out.row; have HO11 := Lib.hid ho11; clear ho11 hg11 hl11))
          obtain ⟨A10, cap10, hv10, hi10⟩ := HO11.out.il
          have HI10 := Lib.hid hi10
          rw [show ([] ++ s.take p ++ s.drop (p + 1)) = us from HUS.out] at hv10 HI10
          rw [HUL.out] at hv10 HI10
          subst hv10
          have HU := Lib.hid (And.intro HI10.out (HB9.out.trans (hb11.mono HB9.out.size)))
          clear HI10 HO11 HO10 hb10 hb11 hi10 hs1 hs2 hs3 hs4
          go_wp2_with fail
          refine (take_any _ _ _ _ _ HU.out.1 (by omega)).mono ?_
          rintro e w11 ⟨A11, cap11, rfl, hi11, hc11, hb11⟩
          have HB11 := Lib.hid (nxt HU.out.2 hb11)
          have HI11 := Lib.hid hi11
          have hl11 : (tkR us).length ≤ 600 := by have := tkR_len us; rw [HUL.out] at this; omega
          clear hi11 hc11 hb11
          rcases Classical.em (tkE us = 0) with he | he
          · have hnz := HUN.out he
            rw [he]
            clear he
            generalize tkAt us = tu at *
            generalize hLu : (tkR us).length = Lu at *
            clear hLu
            go_wp2_with fail
            refine (ints_b _ _ _ _ _ _ _ _ _ HI11.out (HR.out.below HB11.out) (by omega)).mono ?_
            rintro e w12 ⟨rfl, hb12⟩
            rw [hnz]
            have HB12 := Lib.hid (nxt HB11.out hb12)
            clear hb12 hnz
            go_wp2_with fail
            refine (awake5 _).mono ?_
            rintro e w13 ⟨rfl, hb13⟩
            go_wp2
            go_ret
            exact ⟨rfl, nxt HB12.out hb13⟩
          · have hne : (tkE us != 0) = true := by simpa using he
            generalize tkE us = te at *
            generalize tkAt us = tu at *
            generalize (tkR us).length = Lu at *
            clear he
            go_wp2_with fail
            refine (awake5 _).mono ?_
            rintro e w13 ⟨rfl, hb13⟩
            go_wp2
            go_ret
            exact ⟨rfl, nxt HB11.out hb13⟩
        · have HQ := Lib.hid (show (xs == s) = false by simpa using hxs)
          rcases Classical.em (tkE xs = 0) with he | he
          · have HQ2 := Lib.hid (turned_other HST.out hxs he)
            rw [he]
            clear he hxs
            generalize tkAt xs = ta at *
            generalize (tkR xs).length = Lr at *
            go_wp2_with fail
            refine (ints_b _ _ _ _ _ _ _ _ _ HI6.out (HR.out.below HB6.out) (by omega)).mono ?_
            rintro e w7 ⟨rfl, hb7⟩
            rw [HQ2.out]
            have HB7 := Lib.hid (nxt HB6.out hb7); have HX7 := Lib.hid (HX6.out.below hb7); have HS7 := Lib.hid (HS6.out.below hb7)
            clear hb7
            go_wp2_with fail
            refine (ints_b _ _ _ _ _ _ _ _ _ HX7.out.il_at HS7.out (by omega)).mono ?_
            rintro e w9 ⟨rfl, hb9⟩
            rw [HQ.out]
            have HB9 := Lib.hid (nxt HB7.out hb9); have HS9 := Lib.hid (HS7.out.below hb9)
            clear hb9 HB7 HX7 HS7 HX6 HS6 HI6 HXO HXL HXV
            obtain ⟨p, hp, hmod1, hmod2, tb1, tb2⟩ := mod_in out L (by omega)
            have HO9 := Lib.hid (Own.lit w9 w9.heap.size [] (Nat.le_refl _) (by simp))
            obtain ⟨us, hus⟩ : ∃ us, ([] ++ s.take p ++ s.drop (p + 1)) = us := ⟨_, rfl⟩
            have HUS := Lib.hid hus
            have HUL := Lib.hid (show us.length = L - 1 by rw [← hus, List.nil_append, List.length_append, List.length_take, List.length_drop, HSL.out]; omega)
            have HUN := Lib.hid (left_out HST.out HSL.out hp HUL.out)
            obtain ⟨hs1, hs3⟩ := slice_to sd L cap1 p (by omega)
            obtain ⟨X, hX, hs2, hs4⟩ := slice_from sd L cap1 p hp hc1
            have HD0 := Lib.hid (hX _ _ HS9.out)
            have hw1 : IntKind.i64.wrap ((p : Int) + 1) = (p : Int) + 1 := IntWalk.i64_in _ (by omega)
            clear hus hX
            go_wp2_with fail
            go_region_held3 (fun _ => True) (trivial)
              (first
                | (refine step_append_ints2 _ (by rfl) (.tmp 129) (.tmp 132) (by rfl) w9.heap.size (.slice (some ⟨w9.heap.size, 0, none⟩) 0 0) [] (by rfl) (by exact HO9.out) (some sd) p cap1 (s.take p) (by rfl) (by exact (HS9.out.take p (by omega)).below (belowN (lit_below w9 _) 1)) (by rw [List.length_nil]; omega) (by simp) ?_; intro v10 w10 ho10 hg10 hl10; have hb10 := below_lit (grown_undrew5 hg10); clear hg10 hl10; have HO10 := Lib.hid ho10; clear ho10)
                | (refine step_append_ints2 _ (by rfl) (.tmp 133) (.tmp 137) (by rfl) w9.heap.size v10 ([] ++ s.take p) (by rfl) (by exact HO10.out) X (L - (p + 1)) (cap1 - (p + 1)) (s.drop (p + 1)) (by rfl) (by exact HD0.out.below hb10) (by rw [List.nil_append, List.length_take, HSL.out]; omega) (by exact hb10.size) ?_; intro v11 w11 ho11 hg11 hl11; have hb11 := hb10.grown hg11 hb10.size HO10.out.row; have HO11 := Lib.hid ho11; clear ho11 hg11 hl11))
            obtain ⟨A10, cap10, hv10, hi10⟩ := HO11.out.il
            have HI10 := Lib.hid hi10
            rw [show ([] ++ s.take p ++ s.drop (p + 1)) = us from HUS.out] at hv10 HI10
            rw [HUL.out] at hv10 HI10
            subst hv10
            have HU := Lib.hid (And.intro HI10.out (HB9.out.trans (hb11.mono HB9.out.size)))
            clear HI10 HO11 HO10 hb10 hb11 hi10 hs1 hs2 hs3 hs4
            go_wp2_with fail
            refine (take_any _ _ _ _ _ HU.out.1 (by omega)).mono ?_
            rintro e w11 ⟨A11, cap11, rfl, hi11, hc11, hb11⟩
            have HB11 := Lib.hid (nxt HU.out.2 hb11)
            have HI11 := Lib.hid hi11
            have hl11 : (tkR us).length ≤ 600 := by have := tkR_len us; rw [HUL.out] at this; omega
            clear hi11 hc11 hb11
            rcases Classical.em (tkE us = 0) with he | he
            · have hnz := HUN.out he
              rw [he]
              clear he
              generalize tkAt us = tu at *
              generalize hLu : (tkR us).length = Lu at *
              clear hLu
              go_wp2_with fail
              refine (ints_b _ _ _ _ _ _ _ _ _ HI11.out (HR.out.below HB11.out) (by omega)).mono ?_
              rintro e w12 ⟨rfl, hb12⟩
              rw [hnz]
              have HB12 := Lib.hid (nxt HB11.out hb12)
              clear hb12 hnz
              go_wp2_with fail
              refine (awake5 _).mono ?_
              rintro e w13 ⟨rfl, hb13⟩
              go_wp2
              go_ret
              exact ⟨rfl, nxt HB12.out hb13⟩
            · have hne : (tkE us != 0) = true := by simpa using he
              generalize tkE us = te at *
              generalize tkAt us = tu at *
              generalize (tkR us).length = Lu at *
              clear he
              go_wp2_with fail
              refine (awake5 _).mono ?_
              rintro e w13 ⟨rfl, hb13⟩
              go_wp2
              go_ret
              exact ⟨rfl, nxt HB11.out hb13⟩
          · have hne : (tkE xs != 0) = true := by simpa using he
            have hne2 : (tkE xs == 0) = false := by simpa using he
            have HN := Lib.hid (tkR_none he)
            rw [HN.out, List.length_nil]
            have g2 : decide (tkAt xs < 0) = false := by simp; omega
            have g3 : decide ((L : Int) < tkAt xs) = false := by simp; omega
            clear he hxs hrl
            generalize tkAt xs = ta at *
            generalize tkE xs = te at *
            go_wp2_with fail
            refine (ints_b _ _ _ _ _ _ _ _ _ HX6.out.il_at HS6.out (by omega)).mono ?_
            rintro e w9 ⟨rfl, hb9⟩
            rw [HQ.out]
            have HB9 := Lib.hid (nxt HB6.out hb9); have HS9 := Lib.hid (HS6.out.below hb9)
            clear hb9 HX6 HS6 HI6 HXO HXL HXV
            obtain ⟨p, hp, hmod1, hmod2, tb1, tb2⟩ := mod_in out L (by omega)
            have HO9 := Lib.hid (Own.lit w9 w9.heap.size [] (Nat.le_refl _) (by simp))
            obtain ⟨us, hus⟩ : ∃ us, ([] ++ s.take p ++ s.drop (p + 1)) = us := ⟨_, rfl⟩
            have HUS := Lib.hid hus
            have HUL := Lib.hid (show us.length = L - 1 by rw [← hus, List.nil_append, List.length_append, List.length_take, List.length_drop, HSL.out]; omega)
            have HUN := Lib.hid (left_out HST.out HSL.out hp HUL.out)
            obtain ⟨hs1, hs3⟩ := slice_to sd L cap1 p (by omega)
            obtain ⟨X, hX, hs2, hs4⟩ := slice_from sd L cap1 p hp hc1
            have HD0 := Lib.hid (hX _ _ HS9.out)
            have hw1 : IntKind.i64.wrap ((p : Int) + 1) = (p : Int) + 1 := IntWalk.i64_in _ (by omega)
            clear hus hX
            go_wp2_with fail
            go_region_held3 (fun _ => True) (trivial)
              (first
                | (refine step_append_ints2 _ (by rfl) (.tmp 129) (.tmp 132) (by rfl) w9.heap.size (.slice (some ⟨w9.heap.size, 0, none⟩) 0 0) [] (by rfl) (by exact HO9.out) (some sd) p cap1 (s.take p) (by rfl) (by exact (HS9.out.take p (by omega)).below (belowN (lit_below w9 _) 1)) (by rw [List.length_nil]; omega) (by simp) ?_; intro v10 w10 ho10 hg10 hl10; have hb10 := below_lit (grown_undrew5 hg10); clear hg10 hl10; have HO10 := Lib.hid ho10; clear ho10)
                | (refine step_append_ints2 _ (by rfl) (.tmp 133) (.tmp 137) (by rfl) w9.heap.size v10 ([] ++ s.take p) (by rfl) (by exact HO10.out) X (L - (p + 1)) (cap1 - (p + 1)) (s.drop (p + 1)) (by rfl) (by exact HD0.out.below hb10) (by rw [List.nil_append, List.length_take, HSL.out]; omega) (by exact hb10.size) ?_; intro v11 w11 ho11 hg11 hl11; have hb11 := hb10.grown hg11 hb10.size HO10.out.row; have HO11 := Lib.hid ho11; clear ho11 hg11 hl11))
            obtain ⟨A10, cap10, hv10, hi10⟩ := HO11.out.il
            have HI10 := Lib.hid hi10
            rw [show ([] ++ s.take p ++ s.drop (p + 1)) = us from HUS.out] at hv10 HI10
            rw [HUL.out] at hv10 HI10
            subst hv10
            have HU := Lib.hid (And.intro HI10.out (HB9.out.trans (hb11.mono HB9.out.size)))
            clear HI10 HO11 HO10 hb10 hb11 hi10 hs1 hs2 hs3 hs4
            go_wp2_with fail
            refine (take_any _ _ _ _ _ HU.out.1 (by omega)).mono ?_
            rintro e w11 ⟨A11, cap11, rfl, hi11, hc11, hb11⟩
            have HB11 := Lib.hid (nxt HU.out.2 hb11)
            have HI11 := Lib.hid hi11
            have hl11 : (tkR us).length ≤ 600 := by have := tkR_len us; rw [HUL.out] at this; omega
            clear hi11 hc11 hb11
            rcases Classical.em (tkE us = 0) with he | he
            · have hnz := HUN.out he
              rw [he]
              clear he
              generalize tkAt us = tu at *
              generalize hLu : (tkR us).length = Lu at *
              clear hLu
              go_wp2_with fail
              refine (ints_b _ _ _ _ _ _ _ _ _ HI11.out (HR.out.below HB11.out) (by omega)).mono ?_
              rintro e w12 ⟨rfl, hb12⟩
              rw [hnz]
              have HB12 := Lib.hid (nxt HB11.out hb12)
              clear hb12 hnz
              go_wp2_with fail
              refine (awake5 _).mono ?_
              rintro e w13 ⟨rfl, hb13⟩
              go_wp2
              go_ret
              exact ⟨rfl, nxt HB12.out hb13⟩
            · have hne : (tkE us != 0) = true := by simpa using he
              generalize tkE us = te at *
              generalize tkAt us = tu at *
              generalize (tkR us).length = Lu at *
              clear he
              go_wp2_with fail
              refine (awake5 _).mono ?_
              rintro e w13 ⟨rfl, hb13⟩
              go_wp2
              go_ret
              exact ⟨rfl, nxt HB11.out hb13⟩
  · go_enter Try.func8, Try.ntmps8
    go_wp2_with fail
    refine (check_any _ _ _ _ _ HR.out (by omega)).mono ?_
    rintro e w' ⟨rfl, rfl⟩
    go_wp2_with fail
    refine (awake5 _).mono ?_
    rintro e w13 ⟨rfl, hb13⟩
    go_wp2
    go_ret
    exact ⟨rfl, hb13⟩
end Go.Proofs.Ytaamklfedcbccaa
