/- The walk of the law FieldBack: frames that may be. -/
import Derived.Test.YtclinogamfpooaaLb4
import Derived.Deep.DeepCutAuto
namespace Go.Proofs.Ytclinogamfpooaa
open Go.RowKit

/-- Go's '(x%m + m) % m'. -/
theorem mod_fit (x : Int) (m : Nat) (hm : 0 < m) : ∃ k : Nat, k < m ∧ ((x.tmod m + m).tmod m) = (k : Int) ∧ (x.tmod m + m) % m = (k : Int) ∧ -(m : Int) < x.tmod m ∧ x.tmod m < m := by
  have h1 : -(m : Int) < x.tmod m := by
    have := Int.lt_tmod_of_pos x (show (0 : Int) < m by omega)
    omega
  have h2 : x.tmod m < m := Int.tmod_lt_of_pos x (by omega)
  have h3 : 0 ≤ x.tmod m + m := by omega
  refine ⟨((x.tmod m + m) % m).toNat, ?_, ?_, ?_, h1, h2⟩
  · have := Int.emod_lt_of_pos (x.tmod m + m) (show (0 : Int) < m by omega)
    have := Int.emod_nonneg (x.tmod m + m) (show (m : Int) ≠ 0 by omega)
    omega
  · rw [Int.tmod_eq_emod_of_nonneg h3]
    have := Int.emod_nonneg (x.tmod m + m) (show (m : Int) ≠ 0 by omega)
    omega
  · have := Int.emod_nonneg (x.tmod m + m) (show (m : Int) ≠ 0 by omega)
    omega
theorem alls_front (f : Fr) : (alls f).take (bts f).length = bts f := by
  unfold alls; rw [List.append_assoc, List.take_left]

set_option maxRecDepth 100000 in
set_option maxHeartbeats 6400000 in
theorem back_false_low (f : Fr) (left turned : Int) (w : World) (hm : f.may = true) (hwf : f.wf) (hrt : f.rtr = false) (hl : left < 0) :
    Calls Try.prog 6 #[f.val, .int .i64 left, .int .i64 turned] w fun e w' => e = .returned (.bool true) ∧ Below w.heap.size w w' := by
  obtain ⟨n, hn, hn8⟩ := len_nat hm
  have hnd : nDat f = n := by unfold nDat; rw [hrt, hn]; rfl
  have hE := hEnd_le f.ext
  have hE0 := hEnd_13 f.ext
  have hbl := bts_len f
  have hal := alls_len f
  have HAO := Lib.hid (alls_aout hm)
  have HRO := Lib.hid (alls_rout hm)
  have HTR := Lib.hid (fun p h1 h2 => trn_rout hm (p := p) h1 h2)
  have HFO := Lib.hid (fun k h => alls_fout hm hwf (k := k) h)
  have HSH := Lib.hid (fun k h h2 => fout_short (zs := alls f) (k := k) (by rw [alls_ahead hm]; exact h) h2)
  have HAL := Lib.hid (alls_all f)
  have HFR := Lib.hid (alls_front f)
  have HM := Lib.hid hm; have HWF := Lib.hid hwf; have HN := Lib.hid hn; have HRT := Lib.hid hrt
  rw [hnd] at hbl HAO
  obtain ⟨E, hEE⟩ : ∃ E, hEnd f.ext = E := ⟨_, rfl⟩
  rw [hEE] at hE hE0 hbl HAO HTR
  have hbl2 : (bts f).length = E + 8 * n := by omega
  have hal2 : (alls f).length = E + 8 * n + 25 := by omega
  rw [hbl2] at HFR HTR HFO HSH 
  rw [hal2] at HSH
  have HBL := Lib.hid hbl2; have HALN := Lib.hid hal2
  rw [show ((E + 8 * n : Nat) : Int) = ((E + 8 * n : Nat) : Int) by omega] at HAO
  have h22 := eq22
  clear hm hwf hn hrt hnd hbl hal hEE hbl2 hal2
  obtain ⟨k, hk, hmod1, hmod2, tb1, tb2⟩ := mod_fit turned (8 * n + 15) (by omega)
  rw [show ((8 * n + 15 : Nat) : Int) = 8 * (n : Int) + 15 from by omega] at hmod1 hmod2 tb1 tb2
  go_enter Try.func6, Try.ntmps6
  go_wp2_with fail
  refine (fall_ok f _ HM.out HWF.out).mono ?_
  rintro e w1 ⟨v1, rfl, ho1, hb1⟩
  have HB1 := Lib.hid (nxt (boxed f w) hb1)
  have F1 : Fb w1 w.heap.size f := (fb_new w f).below hb1 (by simp)
  have HF1 := Lib.hid F1
  have hsz : (w.alloc (.cells f.cells 24)).heap.size = w.heap.size + 1 := by simp
  rw [hsz] at ho1
  obtain ⟨g, cap1, rfl, hg, hcap1⟩ := ho1.shape (by rw [HALN.out]; omega)
  rw [HALN.out] at ho1 hcap1 ⊢
  have HO1 := Lib.hid ho1
  obtain ⟨c0, c1, c2, c3, c4, c5, c6, c7, c8, c9, c10, c11⟩ := F1.bx
  clear hb1 ho1 F1 hsz
  go_wp2_with fail
  refine (fbits_ok f _ HM.out HWF.out).mono ?_
  rintro e w2 ⟨v2, rfl, ho2, hb2⟩
  clear c0 c1 c2 c3 c4 c5 c6 c7 c8 c9 c10 c11
  obtain ⟨A2, cap2, rfl, hi2, hc2⟩ := ho2.il2
  rw [HBL.out] at hi2 hc2 ⊢
  have HB2 := Lib.hid (nxt HB1.out hb2)
  have HF2 := Lib.hid (HF1.out.below hb2 HF1.out.lt)
  have HO2 := Lib.hid (HO1.out.below hb2)
  have HI2 := Lib.hid hi2
  clear hb2 hi2 ho2 HF1 HO1 HB1
  go_wp2_with fail
  refine (ahead_any _ _ _ _ _ HO2.out.il_at (by omega) hcap1 HAL.out).mono ?_
  rintro e w3 ⟨rfl, hb3⟩
  rw [HAO.out]
  have HB3 := Lib.hid (nxt HB2.out hb3)
  have HF3 := Lib.hid (HF2.out.below hb3 HF2.out.lt)
  have HO3 := Lib.hid (HO2.out.below hb3)
  have HI3 := Lib.hid (HI2.out.below hb3)
  clear hb3 HF2 HO2 HB2 HI2
  go_wp2_with fail
  refine (fright_any _ _ _ _ _ HO3.out.il_at (by omega) hcap1 HAL.out).mono ?_
  rintro e w4 ⟨rfl, hb4⟩
  rw [HRO.out]
  have HB4 := Lib.hid (nxt HB3.out hb4)
  have HF4 := Lib.hid (HF3.out.below hb4 HF3.out.lt)
  have HO4 := Lib.hid (HO3.out.below hb4)
  have HI4 := Lib.hid (HI3.out.below hb4)
  clear hb4 HF3 HO3 HB3 HI3
  go_wp2_with fail
  refine (ints_b _ _ (E + 8 * n) (E + 8 * n) _ _ ((alls f).take (E + 8 * n)) (bts f) _ (HO4.out.il_at.take (E + 8 * n) (by omega)) HI4.out (by omega)).mono ?_
  rintro e w5 ⟨rfl, hb5⟩
  rw [HFR.out, show (bts f == bts f) = true by simp]
  have HB5 := Lib.hid (nxt HB4.out hb5)
  have HF5 := Lib.hid (HF4.out.below hb5 HF4.out.lt)
  have HO5 := Lib.hid (HO4.out.below hb5)
  clear hb5 HF4 HO4 HB4 HI4
  have HF6 := HF5; have HO6 := HO5; have HB6 := HB5
  obtain ⟨c0, c1, c2, c3, c4, c5, c6, c7, c8, c9, c10, c11⟩ := HF6.out.bx
  rw [HRT.out] at c2
  rw [HN.out] at c3
  clear HF5 HO5 HB5
  have l0 := HF6.out.lt
  have lg : g < w5.heap.size := (World.ownsRow.lt HO6.out g rfl).2
  have lne : w.heap.size ≠ g := by omega
  have e1 : (E : Int) + 8 * (n : Int) - 8 * (n : Int) = (E : Int) := by omega
  have hcl := HO6.out.cell (j := E + k) (by rw [HALN.out]; omega)
  have fz := fun j => HO6.out.frozen j
  have HTN := Lib.hid (show trn f (E + k) = (alls f).set (E + k) (1 - (alls f).getD (E + k) 0) from rfl)
  have hy := lvl_01 (HAL.out _ (List.mem_of_getElem? (getD_some _ (E + k) (by rw [HALN.out]; omega))))
  obtain ⟨y, hyy⟩ : ∃ y, (alls f).getD (E + k) 0 = y := ⟨_, rfl⟩
  rw [hyy] at HTN hy hcl
  have y1 : 0 ≤ y := by omega
  have y2 : y ≤ 1 := by omega
  clear hyy hy
  have HIL := Lib.hid (show Il (w5.setCell ⟨g, E + k, none⟩ (.int .i64 (1 - y))) (some ⟨g, 0, none⟩) (E + 8 * n + 25) (trn f (E + k)) from by rw [HTN.out]; exact (HO6.out.put _ _).il_at)
  have HBL7 := Lib.hid (show Below w.heap.size w (w5.setCell ⟨g, E + k, none⟩ (.int .i64 (1 - y))) from HB6.out.setCell (p := ⟨g, E + k, none⟩) (by simp; omega) _)
  go_wp2_with fail
  refine (fright_any _ _ _ _ _ HIL.out (by omega) hcap1 (trn_all f _)).mono ?_
  rintro e w7 ⟨rfl, hb7⟩
  rw [HTR.out (E + k) (by omega) (by omega)]
  clear c0 c1 c2 c3 c4 c5 c6 c7 c8 c9 c10 c11 hcl fz
  go_wp2_with fail
  refine (awake04 _).mono ?_
  rintro e wa ⟨rfl, hba⟩
  go_wp2
  go_ret
  exact ⟨rfl, nxt (nxt HBL7.out hb7) hba⟩

set_option maxRecDepth 100000 in
set_option maxHeartbeats 6400000 in
theorem back_false_high (f : Fr) (left turned : Int) (w : World) (hm : f.may = true) (hwf : f.wf) (hrt : f.rtr = false) (hl : ((alls f).length : Int) < left) :
    Calls Try.prog 6 #[f.val, .int .i64 left, .int .i64 turned] w fun e w' => e = .returned (.bool true) ∧ Below w.heap.size w w' := by
  obtain ⟨n, hn, hn8⟩ := len_nat hm
  have hnd : nDat f = n := by unfold nDat; rw [hrt, hn]; rfl
  have hE := hEnd_le f.ext
  have hE0 := hEnd_13 f.ext
  have hbl := bts_len f
  have hal := alls_len f
  have HAO := Lib.hid (alls_aout hm)
  have HRO := Lib.hid (alls_rout hm)
  have HTR := Lib.hid (fun p h1 h2 => trn_rout hm (p := p) h1 h2)
  have HFO := Lib.hid (fun k h => alls_fout hm hwf (k := k) h)
  have HSH := Lib.hid (fun k h h2 => fout_short (zs := alls f) (k := k) (by rw [alls_ahead hm]; exact h) h2)
  have HAL := Lib.hid (alls_all f)
  have HFR := Lib.hid (alls_front f)
  have HM := Lib.hid hm; have HWF := Lib.hid hwf; have HN := Lib.hid hn; have HRT := Lib.hid hrt
  rw [hnd] at hbl HAO
  obtain ⟨E, hEE⟩ : ∃ E, hEnd f.ext = E := ⟨_, rfl⟩
  rw [hEE] at hE hE0 hbl HAO HTR
  have hbl2 : (bts f).length = E + 8 * n := by omega
  have hal2 : (alls f).length = E + 8 * n + 25 := by omega
  rw [hbl2] at HFR HTR HFO HSH 
  rw [hal2] at HSH hl
  have HBL := Lib.hid hbl2; have HALN := Lib.hid hal2
  rw [show ((E + 8 * n : Nat) : Int) = ((E + 8 * n : Nat) : Int) by omega] at HAO
  have h22 := eq22
  clear hm hwf hn hrt hnd hbl hal hEE hbl2 hal2
  obtain ⟨k, hk, hmod1, hmod2, tb1, tb2⟩ := mod_fit turned (8 * n + 15) (by omega)
  rw [show ((8 * n + 15 : Nat) : Int) = 8 * (n : Int) + 15 from by omega] at hmod1 hmod2 tb1 tb2
  go_enter Try.func6, Try.ntmps6
  go_wp2_with fail
  refine (fall_ok f _ HM.out HWF.out).mono ?_
  rintro e w1 ⟨v1, rfl, ho1, hb1⟩
  have HB1 := Lib.hid (nxt (boxed f w) hb1)
  have F1 : Fb w1 w.heap.size f := (fb_new w f).below hb1 (by simp)
  have HF1 := Lib.hid F1
  have hsz : (w.alloc (.cells f.cells 24)).heap.size = w.heap.size + 1 := by simp
  rw [hsz] at ho1
  obtain ⟨g, cap1, rfl, hg, hcap1⟩ := ho1.shape (by rw [HALN.out]; omega)
  rw [HALN.out] at ho1 hcap1 ⊢
  have HO1 := Lib.hid ho1
  obtain ⟨c0, c1, c2, c3, c4, c5, c6, c7, c8, c9, c10, c11⟩ := F1.bx
  clear hb1 ho1 F1 hsz
  go_wp2_with fail
  refine (fbits_ok f _ HM.out HWF.out).mono ?_
  rintro e w2 ⟨v2, rfl, ho2, hb2⟩
  clear c0 c1 c2 c3 c4 c5 c6 c7 c8 c9 c10 c11
  obtain ⟨A2, cap2, rfl, hi2, hc2⟩ := ho2.il2
  rw [HBL.out] at hi2 hc2 ⊢
  have HB2 := Lib.hid (nxt HB1.out hb2)
  have HF2 := Lib.hid (HF1.out.below hb2 HF1.out.lt)
  have HO2 := Lib.hid (HO1.out.below hb2)
  have HI2 := Lib.hid hi2
  clear hb2 hi2 ho2 HF1 HO1 HB1
  go_wp2_with fail
  refine (ahead_any _ _ _ _ _ HO2.out.il_at (by omega) hcap1 HAL.out).mono ?_
  rintro e w3 ⟨rfl, hb3⟩
  rw [HAO.out]
  have HB3 := Lib.hid (nxt HB2.out hb3)
  have HF3 := Lib.hid (HF2.out.below hb3 HF2.out.lt)
  have HO3 := Lib.hid (HO2.out.below hb3)
  have HI3 := Lib.hid (HI2.out.below hb3)
  clear hb3 HF2 HO2 HB2 HI2
  go_wp2_with fail
  refine (fright_any _ _ _ _ _ HO3.out.il_at (by omega) hcap1 HAL.out).mono ?_
  rintro e w4 ⟨rfl, hb4⟩
  rw [HRO.out]
  have HB4 := Lib.hid (nxt HB3.out hb4)
  have HF4 := Lib.hid (HF3.out.below hb4 HF3.out.lt)
  have HO4 := Lib.hid (HO3.out.below hb4)
  have HI4 := Lib.hid (HI3.out.below hb4)
  clear hb4 HF3 HO3 HB3 HI3
  go_wp2_with fail
  refine (ints_b _ _ (E + 8 * n) (E + 8 * n) _ _ ((alls f).take (E + 8 * n)) (bts f) _ (HO4.out.il_at.take (E + 8 * n) (by omega)) HI4.out (by omega)).mono ?_
  rintro e w5 ⟨rfl, hb5⟩
  rw [HFR.out, show (bts f == bts f) = true by simp]
  have HB5 := Lib.hid (nxt HB4.out hb5)
  have HF5 := Lib.hid (HF4.out.below hb5 HF4.out.lt)
  have HO5 := Lib.hid (HO4.out.below hb5)
  clear hb5 HF4 HO4 HB4 HI4
  have HF6 := HF5; have HO6 := HO5; have HB6 := HB5
  obtain ⟨c0, c1, c2, c3, c4, c5, c6, c7, c8, c9, c10, c11⟩ := HF6.out.bx
  rw [HRT.out] at c2
  rw [HN.out] at c3
  clear HF5 HO5 HB5
  have l0 := HF6.out.lt
  have lg : g < w5.heap.size := (World.ownsRow.lt HO6.out g rfl).2
  have lne : w.heap.size ≠ g := by omega
  have e1 : (E : Int) + 8 * (n : Int) - 8 * (n : Int) = (E : Int) := by omega
  have hcl := HO6.out.cell (j := E + k) (by rw [HALN.out]; omega)
  have fz := fun j => HO6.out.frozen j
  have HTN := Lib.hid (show trn f (E + k) = (alls f).set (E + k) (1 - (alls f).getD (E + k) 0) from rfl)
  have hy := lvl_01 (HAL.out _ (List.mem_of_getElem? (getD_some _ (E + k) (by rw [HALN.out]; omega))))
  obtain ⟨y, hyy⟩ : ∃ y, (alls f).getD (E + k) 0 = y := ⟨_, rfl⟩
  rw [hyy] at HTN hy hcl
  have y1 : 0 ≤ y := by omega
  have y2 : y ≤ 1 := by omega
  clear hyy hy
  have HIL := Lib.hid (show Il (w5.setCell ⟨g, E + k, none⟩ (.int .i64 (1 - y))) (some ⟨g, 0, none⟩) (E + 8 * n + 25) (trn f (E + k)) from by rw [HTN.out]; exact (HO6.out.put _ _).il_at)
  have HBL7 := Lib.hid (show Below w.heap.size w (w5.setCell ⟨g, E + k, none⟩ (.int .i64 (1 - y))) from HB6.out.setCell (p := ⟨g, E + k, none⟩) (by simp; omega) _)
  go_wp2_with fail
  refine (fright_any _ _ _ _ _ HIL.out (by omega) hcap1 (trn_all f _)).mono ?_
  rintro e w7 ⟨rfl, hb7⟩
  rw [HTR.out (E + k) (by omega) (by omega)]
  clear c0 c1 c2 c3 c4 c5 c6 c7 c8 c9 c10 c11 hcl fz
  go_wp2_with fail
  refine (awake04 _).mono ?_
  rintro e wa ⟨rfl, hba⟩
  go_wp2
  go_ret
  exact ⟨rfl, nxt (nxt HBL7.out hb7) hba⟩

set_option maxRecDepth 100000 in
set_option maxHeartbeats 6400000 in
theorem back_false_short (f : Fr) (left turned : Int) (w : World) (hm : f.may = true) (hwf : f.wf) (hrt : f.rtr = false) (h0 : 0 ≤ left) (hl : left < ((bts f).length : Int)) :
    Calls Try.prog 6 #[f.val, .int .i64 left, .int .i64 turned] w fun e w' => e = .returned (.bool true) ∧ Below w.heap.size w w' := by
  obtain ⟨n, hn, hn8⟩ := len_nat hm
  have hnd : nDat f = n := by unfold nDat; rw [hrt, hn]; rfl
  have hE := hEnd_le f.ext
  have hE0 := hEnd_13 f.ext
  have hbl := bts_len f
  have hal := alls_len f
  have HAO := Lib.hid (alls_aout hm)
  have HRO := Lib.hid (alls_rout hm)
  have HTR := Lib.hid (fun p h1 h2 => trn_rout hm (p := p) h1 h2)
  have HFO := Lib.hid (fun k h => alls_fout hm hwf (k := k) h)
  have HSH := Lib.hid (fun k h h2 => fout_short (zs := alls f) (k := k) (by rw [alls_ahead hm]; exact h) h2)
  have HAL := Lib.hid (alls_all f)
  have HFR := Lib.hid (alls_front f)
  have HM := Lib.hid hm; have HWF := Lib.hid hwf; have HN := Lib.hid hn; have HRT := Lib.hid hrt
  rw [hnd] at hbl HAO
  obtain ⟨E, hEE⟩ : ∃ E, hEnd f.ext = E := ⟨_, rfl⟩
  rw [hEE] at hE hE0 hbl HAO HTR
  have hbl2 : (bts f).length = E + 8 * n := by omega
  have hal2 : (alls f).length = E + 8 * n + 25 := by omega
  rw [hbl2] at HFR HTR HFO HSH hl
  rw [hal2] at HSH
  have HBL := Lib.hid hbl2; have HALN := Lib.hid hal2
  rw [show ((E + 8 * n : Nat) : Int) = ((E + 8 * n : Nat) : Int) by omega] at HAO
  have h22 := eq22
  clear hm hwf hn hrt hnd hbl hal hEE hbl2 hal2
  obtain ⟨k, hk, hmod1, hmod2, tb1, tb2⟩ := mod_fit turned (8 * n + 15) (by omega)
  rw [show ((8 * n + 15 : Nat) : Int) = 8 * (n : Int) + 15 from by omega] at hmod1 hmod2 tb1 tb2
  go_enter Try.func6, Try.ntmps6
  go_wp2_with fail
  refine (fall_ok f _ HM.out HWF.out).mono ?_
  rintro e w1 ⟨v1, rfl, ho1, hb1⟩
  have HB1 := Lib.hid (nxt (boxed f w) hb1)
  have F1 : Fb w1 w.heap.size f := (fb_new w f).below hb1 (by simp)
  have HF1 := Lib.hid F1
  have hsz : (w.alloc (.cells f.cells 24)).heap.size = w.heap.size + 1 := by simp
  rw [hsz] at ho1
  obtain ⟨g, cap1, rfl, hg, hcap1⟩ := ho1.shape (by rw [HALN.out]; omega)
  rw [HALN.out] at ho1 hcap1 ⊢
  have HO1 := Lib.hid ho1
  obtain ⟨c0, c1, c2, c3, c4, c5, c6, c7, c8, c9, c10, c11⟩ := F1.bx
  clear hb1 ho1 F1 hsz
  go_wp2_with fail
  refine (fbits_ok f _ HM.out HWF.out).mono ?_
  rintro e w2 ⟨v2, rfl, ho2, hb2⟩
  clear c0 c1 c2 c3 c4 c5 c6 c7 c8 c9 c10 c11
  obtain ⟨A2, cap2, rfl, hi2, hc2⟩ := ho2.il2
  rw [HBL.out] at hi2 hc2 ⊢
  have HB2 := Lib.hid (nxt HB1.out hb2)
  have HF2 := Lib.hid (HF1.out.below hb2 HF1.out.lt)
  have HO2 := Lib.hid (HO1.out.below hb2)
  have HI2 := Lib.hid hi2
  clear hb2 hi2 ho2 HF1 HO1 HB1
  go_wp2_with fail
  refine (ahead_any _ _ _ _ _ HO2.out.il_at (by omega) hcap1 HAL.out).mono ?_
  rintro e w3 ⟨rfl, hb3⟩
  rw [HAO.out]
  have HB3 := Lib.hid (nxt HB2.out hb3)
  have HF3 := Lib.hid (HF2.out.below hb3 HF2.out.lt)
  have HO3 := Lib.hid (HO2.out.below hb3)
  have HI3 := Lib.hid (HI2.out.below hb3)
  clear hb3 HF2 HO2 HB2 HI2
  go_wp2_with fail
  refine (fright_any _ _ _ _ _ HO3.out.il_at (by omega) hcap1 HAL.out).mono ?_
  rintro e w4 ⟨rfl, hb4⟩
  rw [HRO.out]
  have HB4 := Lib.hid (nxt HB3.out hb4)
  have HF4 := Lib.hid (HF3.out.below hb4 HF3.out.lt)
  have HO4 := Lib.hid (HO3.out.below hb4)
  have HI4 := Lib.hid (HI3.out.below hb4)
  clear hb4 HF3 HO3 HB3 HI3
  go_wp2_with fail
  refine (ints_b _ _ (E + 8 * n) (E + 8 * n) _ _ ((alls f).take (E + 8 * n)) (bts f) _ (HO4.out.il_at.take (E + 8 * n) (by omega)) HI4.out (by omega)).mono ?_
  rintro e w5 ⟨rfl, hb5⟩
  rw [HFR.out, show (bts f == bts f) = true by simp]
  have HB5 := Lib.hid (nxt HB4.out hb5)
  have HF5 := Lib.hid (HF4.out.below hb5 HF4.out.lt)
  have HO5 := Lib.hid (HO4.out.below hb5)
  clear hb5 HF4 HO4 HB4 HI4
  obtain ⟨q, rfl⟩ := Int.eq_ofNat_of_zero_le h0
  go_wp2_with fail
  refine (frame_any _ q _ ((alls f).take q) _ (HO5.out.il_at.take q (by omega)) (by omega) (by omega) (all_take HAL.out q)).mono ?_
  rintro e w6 ⟨rfl, hb6⟩
  rw [HSH.out q (by omega) (by omega)]
  have HB6 := Lib.hid (nxt HB5.out hb6)
  have HF6 := Lib.hid (HF5.out.below hb6 HF5.out.lt)
  have HO6 := Lib.hid (HO5.out.below hb6)
  clear hb6 HF5 HO5 HB5
  obtain ⟨c0, c1, c2, c3, c4, c5, c6, c7, c8, c9, c10, c11⟩ := HF6.out.bx
  have l00 := HF6.out.lt
  go_upto_region 13 with fail
  rw [HRT.out] at c2
  rw [HN.out] at c3
  clear l00
  have l0 := HF6.out.lt
  have lg : g < w6.heap.size := (World.ownsRow.lt HO6.out g rfl).2
  have lne : w.heap.size ≠ g := by omega
  have e1 : (E : Int) + 8 * (n : Int) - 8 * (n : Int) = (E : Int) := by omega
  have hcl := HO6.out.cell (j := E + k) (by rw [HALN.out]; omega)
  have fz := fun j => HO6.out.frozen j
  have HTN := Lib.hid (show trn f (E + k) = (alls f).set (E + k) (1 - (alls f).getD (E + k) 0) from rfl)
  have hy := lvl_01 (HAL.out _ (List.mem_of_getElem? (getD_some _ (E + k) (by rw [HALN.out]; omega))))
  obtain ⟨y, hyy⟩ : ∃ y, (alls f).getD (E + k) 0 = y := ⟨_, rfl⟩
  rw [hyy] at HTN hy hcl
  have y1 : 0 ≤ y := by omega
  have y2 : y ≤ 1 := by omega
  clear hyy hy
  have HIL := Lib.hid (show Il ((w6.setCell ⟨g, E + k, none⟩ (.int .i64 (1 - y))).alloc (.cells Fr.zero.cells 24)) (some ⟨g, 0, none⟩) (E + 8 * n + 25) (trn f (E + k)) from by rw [HTN.out]; exact (HO6.out.put _ _).il_at.alloc _)
  have HBL7 := Lib.hid (show Below w.heap.size w ((w6.setCell ⟨g, E + k, none⟩ (.int .i64 (1 - y))).alloc (.cells Fr.zero.cells 24)) from (HB6.out.setCell (p := ⟨g, E + k, none⟩) (by simp; omega) _).alloc (by rw [World.size_setCell]; omega) _)
  go_wp2_with fail
  refine (fright_any _ _ _ _ _ HIL.out (by omega) hcap1 (trn_all f _)).mono ?_
  rintro e w7 ⟨rfl, hb7⟩
  rw [HTR.out (E + k) (by omega) (by omega)]
  clear c0 c1 c2 c3 c4 c5 c6 c7 c8 c9 c10 c11 hcl fz
  go_wp2_with fail
  refine (awake04 _).mono ?_
  rintro e wa ⟨rfl, hba⟩
  go_wp2
  go_ret
  exact ⟨rfl, nxt (nxt HBL7.out hb7) hba⟩

set_option maxRecDepth 100000 in
set_option maxHeartbeats 6400000 in
theorem back_false_long (f : Fr) (left turned : Int) (w : World) (hm : f.may = true) (hwf : f.wf) (hrt : f.rtr = false) (h0 : ((bts f).length : Int) ≤ left) (hl : left ≤ ((alls f).length : Int)) :
    Calls Try.prog 6 #[f.val, .int .i64 left, .int .i64 turned] w fun e w' => e = .returned (.bool true) ∧ Below w.heap.size w w' := by
  obtain ⟨n, hn, hn8⟩ := len_nat hm
  have hnd : nDat f = n := by unfold nDat; rw [hrt, hn]; rfl
  have hE := hEnd_le f.ext
  have hE0 := hEnd_13 f.ext
  have hbl := bts_len f
  have hal := alls_len f
  have HAO := Lib.hid (alls_aout hm)
  have HRO := Lib.hid (alls_rout hm)
  have HTR := Lib.hid (fun p h1 h2 => trn_rout hm (p := p) h1 h2)
  have HFO := Lib.hid (fun k h => alls_fout hm hwf (k := k) h)
  have HSH := Lib.hid (fun k h h2 => fout_short (zs := alls f) (k := k) (by rw [alls_ahead hm]; exact h) h2)
  have HAL := Lib.hid (alls_all f)
  have HFR := Lib.hid (alls_front f)
  have HM := Lib.hid hm; have HWF := Lib.hid hwf; have HN := Lib.hid hn; have HRT := Lib.hid hrt
  rw [hnd] at hbl HAO
  obtain ⟨E, hEE⟩ : ∃ E, hEnd f.ext = E := ⟨_, rfl⟩
  rw [hEE] at hE hE0 hbl HAO HTR
  have hbl2 : (bts f).length = E + 8 * n := by omega
  have hal2 : (alls f).length = E + 8 * n + 25 := by omega
  rw [hbl2] at HFR HTR HFO HSH h0
  rw [hal2] at HSH hl
  have HBL := Lib.hid hbl2; have HALN := Lib.hid hal2
  rw [show ((E + 8 * n : Nat) : Int) = ((E + 8 * n : Nat) : Int) by omega] at HAO
  have h22 := eq22
  clear hm hwf hn hrt hnd hbl hal hEE hbl2 hal2
  obtain ⟨k, hk, hmod1, hmod2, tb1, tb2⟩ := mod_fit turned (8 * n + 15) (by omega)
  rw [show ((8 * n + 15 : Nat) : Int) = 8 * (n : Int) + 15 from by omega] at hmod1 hmod2 tb1 tb2
  go_enter Try.func6, Try.ntmps6
  go_wp2_with fail
  refine (fall_ok f _ HM.out HWF.out).mono ?_
  rintro e w1 ⟨v1, rfl, ho1, hb1⟩
  have HB1 := Lib.hid (nxt (boxed f w) hb1)
  have F1 : Fb w1 w.heap.size f := (fb_new w f).below hb1 (by simp)
  have HF1 := Lib.hid F1
  have hsz : (w.alloc (.cells f.cells 24)).heap.size = w.heap.size + 1 := by simp
  rw [hsz] at ho1
  obtain ⟨g, cap1, rfl, hg, hcap1⟩ := ho1.shape (by rw [HALN.out]; omega)
  rw [HALN.out] at ho1 hcap1 ⊢
  have HO1 := Lib.hid ho1
  obtain ⟨c0, c1, c2, c3, c4, c5, c6, c7, c8, c9, c10, c11⟩ := F1.bx
  clear hb1 ho1 F1 hsz
  go_wp2_with fail
  refine (fbits_ok f _ HM.out HWF.out).mono ?_
  rintro e w2 ⟨v2, rfl, ho2, hb2⟩
  clear c0 c1 c2 c3 c4 c5 c6 c7 c8 c9 c10 c11
  obtain ⟨A2, cap2, rfl, hi2, hc2⟩ := ho2.il2
  rw [HBL.out] at hi2 hc2 ⊢
  have HB2 := Lib.hid (nxt HB1.out hb2)
  have HF2 := Lib.hid (HF1.out.below hb2 HF1.out.lt)
  have HO2 := Lib.hid (HO1.out.below hb2)
  have HI2 := Lib.hid hi2
  clear hb2 hi2 ho2 HF1 HO1 HB1
  go_wp2_with fail
  refine (ahead_any _ _ _ _ _ HO2.out.il_at (by omega) hcap1 HAL.out).mono ?_
  rintro e w3 ⟨rfl, hb3⟩
  rw [HAO.out]
  have HB3 := Lib.hid (nxt HB2.out hb3)
  have HF3 := Lib.hid (HF2.out.below hb3 HF2.out.lt)
  have HO3 := Lib.hid (HO2.out.below hb3)
  have HI3 := Lib.hid (HI2.out.below hb3)
  clear hb3 HF2 HO2 HB2 HI2
  go_wp2_with fail
  refine (fright_any _ _ _ _ _ HO3.out.il_at (by omega) hcap1 HAL.out).mono ?_
  rintro e w4 ⟨rfl, hb4⟩
  rw [HRO.out]
  have HB4 := Lib.hid (nxt HB3.out hb4)
  have HF4 := Lib.hid (HF3.out.below hb4 HF3.out.lt)
  have HO4 := Lib.hid (HO3.out.below hb4)
  have HI4 := Lib.hid (HI3.out.below hb4)
  clear hb4 HF3 HO3 HB3 HI3
  go_wp2_with fail
  refine (ints_b _ _ (E + 8 * n) (E + 8 * n) _ _ ((alls f).take (E + 8 * n)) (bts f) _ (HO4.out.il_at.take (E + 8 * n) (by omega)) HI4.out (by omega)).mono ?_
  rintro e w5 ⟨rfl, hb5⟩
  rw [HFR.out, show (bts f == bts f) = true by simp]
  have HB5 := Lib.hid (nxt HB4.out hb5)
  have HF5 := Lib.hid (HF4.out.below hb5 HF4.out.lt)
  have HO5 := Lib.hid (HO4.out.below hb5)
  clear hb5 HF4 HO4 HB4 HI4
  obtain ⟨q, rfl⟩ := Int.eq_ofNat_of_zero_le (show 0 ≤ left by omega)
  go_wp2_with fail
  refine (frame_any _ q _ ((alls f).take q) _ (HO5.out.il_at.take q (by omega)) (by omega) (by omega) (all_take HAL.out q)).mono ?_
  rintro e w6 ⟨rfl, hb6⟩
  rw [HFO.out q (by omega)]
  have HB6 := Lib.hid (nxt HB5.out hb6)
  have HF6 := Lib.hid (HF5.out.below hb6 HF5.out.lt)
  have HO6 := Lib.hid (HO5.out.below hb6)
  clear hb6 HF5 HO5 HB5
  obtain ⟨c0, c1, c2, c3, c4, c5, c6, c7, c8, c9, c10, c11⟩ := HF6.out.bx
  have l00 := HF6.out.lt
  go_upto_region 13 with fail
  rw [HRT.out] at c2
  rw [HN.out] at c3
  clear l00
  have l0 := HF6.out.lt
  have lg : g < w6.heap.size := (World.ownsRow.lt HO6.out g rfl).2
  have lne : w.heap.size ≠ g := by omega
  have e1 : (E : Int) + 8 * (n : Int) - 8 * (n : Int) = (E : Int) := by omega
  have hcl := HO6.out.cell (j := E + k) (by rw [HALN.out]; omega)
  have fz := fun j => HO6.out.frozen j
  have HTN := Lib.hid (show trn f (E + k) = (alls f).set (E + k) (1 - (alls f).getD (E + k) 0) from rfl)
  have hy := lvl_01 (HAL.out _ (List.mem_of_getElem? (getD_some _ (E + k) (by rw [HALN.out]; omega))))
  obtain ⟨y, hyy⟩ : ∃ y, (alls f).getD (E + k) 0 = y := ⟨_, rfl⟩
  rw [hyy] at HTN hy hcl
  have y1 : 0 ≤ y := by omega
  have y2 : y ≤ 1 := by omega
  clear hyy hy
  have HIL := Lib.hid (show Il ((w6.setCell ⟨g, E + k, none⟩ (.int .i64 (1 - y))).alloc (.cells f.cells 24)) (some ⟨g, 0, none⟩) (E + 8 * n + 25) (trn f (E + k)) from by rw [HTN.out]; exact (HO6.out.put _ _).il_at.alloc _)
  have HBL7 := Lib.hid (show Below w.heap.size w ((w6.setCell ⟨g, E + k, none⟩ (.int .i64 (1 - y))).alloc (.cells f.cells 24)) from (HB6.out.setCell (p := ⟨g, E + k, none⟩) (by simp; omega) _).alloc (by rw [World.size_setCell]; omega) _)
  go_wp2_with fail
  refine (fright_any _ _ _ _ _ HIL.out (by omega) hcap1 (trn_all f _)).mono ?_
  rintro e w7 ⟨rfl, hb7⟩
  rw [HTR.out (E + k) (by omega) (by omega)]
  clear c0 c1 c2 c3 c4 c5 c6 c7 c8 c9 c10 c11 hcl fz
  go_wp2_with fail
  refine (awake04 _).mono ?_
  rintro e wa ⟨rfl, hba⟩
  go_wp2
  go_ret
  exact ⟨rfl, nxt (nxt HBL7.out hb7) hba⟩
end Go.Proofs.Ytclinogamfpooaa
