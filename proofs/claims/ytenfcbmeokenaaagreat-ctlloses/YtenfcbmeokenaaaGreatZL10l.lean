/- The walk of the law CtlLoses. -/
import Derived.Test.YtenfcbmeokenaaaGreatZL10v
import Derived.Test.YtenfcbmeokenaaaGreatZMH
import Derived.Test.YtenfcbmeokenaaaGreatX01
namespace Go.Proofs.YtenfcbmeokenaaaGreat
set_option maxRecDepth 20000
open Go.RowKit
set_option linter.unusedSimpArgs false

theorem enc_ge2 (f : Fr) (b : Bool) : 44 ≤ (enc f b).length := by
  rw [enc_len]
  have h1 := (stf_len (raw f)).1
  rw [raw_len, bts_len] at h1
  have h2 : 19 ≤ hEnd f.ext := by cases f.ext <;> decide
  omega
theorem less_b (f g : Fr) (w : World) :
    Calls Tryz.prog 20 #[f.val, g.val] w fun e w' => e = .returned (.bool ((f.may && g.may) && decide (f.plc < g.plc))) ∧ Below w.heap.size w w' := by
  cases h : (f.may && g.may)
  · exact less_no f g w h
  · rw [Bool.and_eq_true] at h
    exact less_yes f g w h.1 h.2

set_option maxHeartbeats 4000000 in
theorem loses_not (a b : Fr) (w : World) (h : ((b.may && a.may) && decide (b.plc < a.plc)) = false) :
    Calls Tryz.prog 10 #[a.val, b.val] w fun e w' => e = .returned (.bool true) ∧ Below w.heap.size w w' := by
  have HB := Lib.hid (boxed2 a b w)
  have HX := Lib.hid (And.intro (bx_two1 w a b) (bx_two2 w a b))
  have HZ := Lib.hid (show ((w.alloc (.cells a.cells 32)).alloc (.cells b.cells 32)).heap.size = w.heap.size + 2 by simp)
  have HL := Lib.hid h
  clear h
  go_enter Tryz.func10, Tryz.ntmps10
  go_wp2_with fail
  refine (less_b b a _).mono ?_
  rintro e w1 ⟨rfl, hb1⟩
  rw [HL.out]
  have HB1 := Lib.hid (nxt HB.out hb1)
  obtain ⟨c0, c1, c2, c3, c4, c5, c6, c7, c8, c9, c10, c11⟩ := HX.out.1.below hb1 (by rw [HZ.out]; omega)
  obtain ⟨d0, d1, d2, d3, d4, d5, d6, d7, d8, d9, d10, d11⟩ := HX.out.2.below hb1 (by rw [HZ.out]; omega)
  clear hb1
  go_wp2_with fail
  refine (less_b b a _).mono ?_
  rintro e w2 ⟨rfl, hb2⟩
  rw [HL.out]
  have HB2 := Lib.hid (nxt HB1.out hb2)
  clear hb2 c0 c1 c2 c3 c4 c5 c6 c7 c8 c9 c10 c11 d0 d1 d2 d3 d4 d5 d6 d7 d8 d9 d10 d11
  go_wp2_with fail
  refine (awake10 _).mono ?_
  rintro e w3 ⟨rfl, hb3⟩
  have HB3 := Lib.hid (nxt HB2.out hb3)
  clear hb3
  go_wp2
  go_ret
  exact ⟨rfl, HB3.out⟩

set_option maxHeartbeats 16000000 in
set_option maxRecDepth 100000 in
theorem loses_in (a b : Fr) (w : World) (ha : a.may = true) (hb : b.may = true) (haw : a.wf) (hbw : b.wf) (hlt : b.plc < a.plc) :
    Calls Tryz.prog 10 #[a.val, b.val] w fun e w' => e = .returned (.bool true) ∧ Below w.heap.size w w' := by
  obtain ⟨w0, hw0⟩ : ∃ w0, (w.alloc (.cells a.cells 32)).alloc (.cells b.cells 32) = w0 := ⟨_, rfl⟩
  have HBX := Lib.hid (boxed2 a b w)
  have HX0 := Lib.hid (And.intro (bx_two1 w a b) (bx_two2 w a b))
  have HZ := Lib.hid (show ((w.alloc (.cells a.cells 32)).alloc (.cells b.cells 32)).heap.size = w.heap.size + 2 by simp)
  rw [hw0] at HBX HX0 HZ
  have HW0 := Lib.hid hw0
  have HA := Lib.hid ha
  have HB := Lib.hid hb
  have HAW := Lib.hid haw
  have HBW := Lib.hid hbw
  obtain ⟨p, hp⟩ := plc_lt hb ha hlt
  have HAT := Lib.hid hp
  obtain ⟨q1, q2, q3, q4, q5⟩ := lose_pos hb ha hp
  obtain ⟨K, hK⟩ : ∃ K, sK b (p + 1) = K := ⟨_, rfl⟩
  have HKK := Lib.hid hK
  rw [hK] at q1 q2 q4 q5
  have HKP := Lib.hid (And.intro q1 (And.intro q2 (And.intro q4 q5)))
  have HL := Lib.hid (show ((b.may && a.may) && decide (b.plc < a.plc)) = true by rw [hb, ha, decide_eq_true hlt]; rfl)
  clear ha hb haw hbw hlt hp q1 q2 q3 q4 q5 hK hw0
  go_enter Tryz.func10, Tryz.ntmps10
  go_wp2_with fail
  refine (less_b b a _).mono ?_
  rintro e w1 ⟨rfl, hb1⟩
  rw [HL.out]
  rw [HW0.out] at hb1
  have HB1 := Lib.hid hb1
  have HX1 := Lib.hid (And.intro (HX0.out.1.below hb1 (by rw [HZ.out]; omega)) (HX0.out.2.below hb1 (by rw [HZ.out]; omega)))
  have HZ1 := Lib.hid hb1.size
  obtain ⟨c0, c1, c2, c3, c4, c5, c6, c7, c8, c9, c10, c11⟩ := HX1.out.1
  obtain ⟨d0, d1, d2, d3, d4, d5, d6, d7, d8, d9, d10, d11⟩ := HX1.out.2
  clear hb1
  go_wp2_with fail
  refine (encode_ok b true _ HB.out HBW.out).mono ?_
  rintro e w2 ⟨v, rfl, ho, hb2⟩
  obtain ⟨Ar, cp, hv, hi, hc⟩ := ho.il2
  have hm44 := enc_ge2 b true
  have hm310 := enc_le HB.out true
  obtain ⟨m, hml⟩ : ∃ m, (enc b true).length = m := ⟨_, rfl⟩
  have HML := Lib.hid (show m = sl_ b + 10 by rw [← hml, enc_ln])
  rw [hml] at hv hi hc hm44 hm310
  obtain ⟨ar, rfl, -, -⟩ := hi.2 (by omega)
  subst hv
  have HEL := Lib.hid hml
  have HB2 := Lib.hid (nxt HB1.out hb2)
  have HO2 := Lib.hid (ho.mono HZ1.out)
  have HX2 := Lib.hid (And.intro (HX1.out.1.below hb2 (by have := HZ1.out; rw [HZ.out] at this; omega)) (HX1.out.2.below hb2 (by have := HZ1.out; rw [HZ.out] at this; omega)))
  have HZ2 := Lib.hid (Nat.le_trans HZ1.out hb2.size)
  clear hb2 ho hi hc hml c0 c1 c2 c3 c4 c5 c6 c7 c8 c9 c10 c11 d0 d1 d2 d3 d4 d5 d6 d7 d8 d9 d10 d11
  obtain ⟨c0, c1, c2, c3, c4, c5, c6, c7, c8, c9, c10, c11⟩ := HX2.out.1
  obtain ⟨d0, d1, d2, d3, d4, d5, d6, d7, d8, d9, d10, d11⟩ := HX2.out.2
  go_wp2_with fail
  refine (encode_ok a false _ HA.out HAW.out).mono ?_
  rintro e w3 ⟨v, rfl, ho, hb3⟩
  obtain ⟨Mr, cm, hv, hi, hc⟩ := ho.il2
  have hn44 := enc_ge2 a false
  have hn310 := enc_le HA.out false
  obtain ⟨mm, hml⟩ : ∃ mm, (enc a false).length = mm := ⟨_, rfl⟩
  have HMM := Lib.hid (show mm = sl_ a + 10 by rw [← hml, enc_ln])
  rw [hml] at hv hi hc hn44 hn310
  obtain ⟨mr, rfl, -, -⟩ := hi.2 (by omega)
  subst hv
  have HEM := Lib.hid hml
  have HB3 := Lib.hid (nxt HB2.out hb3)
  have HO3 := Lib.hid (And.intro (HO2.out.below hb3) (ho.mono HZ2.out))
  have HX3 := Lib.hid (And.intro (HX2.out.1.below hb3 (by have := HZ2.out; rw [HZ.out] at this; omega)) (HX2.out.2.below hb3 (by have := HZ2.out; rw [HZ.out] at this; omega)))
  clear hb3 ho hi hc hml c0 c1 c2 c3 c4 c5 c6 c7 c8 c9 c10 c11 d0 d1 d2 d3 d4 d5 d6 d7 d8 d9 d10 d11
  obtain ⟨c0, c1, c2, c3, c4, c5, c6, c7, c8, c9, c10, c11⟩ := HX3.out.1
  obtain ⟨d0, d1, d2, d3, d4, d5, d6, d7, d8, d9, d10, d11⟩ := HX3.out.2
  have HBL := Lib.hid ((Below.refl w3.heap.size w3).alloc (Nat.le_refl _) (.cells (fcs [a]).toArray 32))
  have HFL := Lib.hid (fl_lit w3 [a])
  have HO4 := Lib.hid (And.intro (HO3.out.1.below HBL.out) (HO3.out.2.below HBL.out))
  have hmI : (m : Int) ≤ 310 := by omega
  have hmJ : ¬ (m : Int) < 44 := by omega
  have hnI : (mm : Int) ≤ 310 := by omega
  have hnJ : ¬ (mm : Int) < 44 := by omega
  go_wp2_with fail
  refine (joined_any (some ⟨w3.heap.size, 0, none⟩) 1 1 (fun j => [a].getD j Fr.zero) _ HFL.out (by omega) (fun i hi => by obtain rfl : i = 0 := (by omega); exact HA.out)).mono ?_
  clear c0 c1 c2 c3 c4 c5 c6 c7 c8 c9 c10 c11 d0 d1 d2 d3 d4 d5 d6 d7 d8 d9 d10 d11
  rintro e w4 ⟨g, gq, rfl, h1⟩
  have h2 := (h1.to (show idl (putsN (fun j => [a].getD j Fr.zero) 1) = idl [a] from rfl)).old2 HO4.out.1 HO4.out.2 (nxt HB3.out HBL.out) (Nat.le_refl _) (Nat.le_refl _)
  have H1 := Lib.hid h2
  have HK := Lib.hid (kept_both (kept_both kept_no (kept_row w0.heap.size (.slice (some ar) m cp) (enc b true))) (kept_row w0.heap.size (.slice (some mr) mm cm) (enc a false)))
  clear h1 h2 HFL HO4 HO3 HO2 HBL HX1 HX2 HX3 HB1 HB2 HB3
  generalize hP : Both (Both NoSide (RowS w0.heap.size (.slice (some ar) m cp) (enc b true))) (RowS w0.heap.size (.slice (some mr) mm cm) (enc a false)) = P at *
  have HP := Lib.hid hP
  clear hP
  have HROW := Lib.hid (show ∀ W nd k, k < m → Nst w0 W g gq nd P → W.cell? (ar.add k) = some (.int .i64 ((enc b true).getD k 0)) from fun W nd k hk h => by
    obtain ⟨F, hF⟩ := h.side
    rw [← HP.out] at hF
    exact hF.1.2.cell (j := k) (by rw [HEL.out]; exact hk))
  have HMIN := Lib.hid (show ∀ W nd k, k < mm → Nst w0 W g gq nd P → W.cell? (mr.add k) = some (.int .i64 ((enc a false).getD k 0)) from fun W nd k hk h => by
    obtain ⟨F, hF⟩ := h.side
    rw [← HP.out] at hF
    exact hF.2.cell (j := k) (by rw [HEM.out]; exact hk))
  go_wp2
  go_loopw [10, 11] (fun l i wr => ∃ k : Nat, k ≤ m ∧ i = .int .i64 k ∧ ∃ nd, Nst w0 wr g gq nd P ∧ ((k ≤ K ∧ l = .int .i64 (-1) ∧ TxAt (idl [a]) a true k nd) ∨ (K < k ∧ l = .int .i64 (K : Int) ∧ LsB b a k nd))) (fun _ i _ => m - (intOf i).toNat)
  case atStart => exact ⟨0, Nat.zero_le _, rfl, _, H1.out, .inl ⟨Nat.zero_le _, rfl, .inl ⟨rfl, rfl⟩⟩⟩
  case round =>
    obtain ⟨k, hk, rfl, nd, hn, hz⟩ := hrel
    have HN := Lib.hid hn
    clear hn
    by_cases hkm : k < m
    · have hkmI : (k : Int) < (m : Int) := by omega
      have hrow := fun (W : World) (h : Nst w0 W g gq nd P) => HROW.out W nd k hkm h
      rcases hz with ⟨hkK, rfl, hta⟩ | ⟨hkK, rfl, hlb⟩
      · have hkmm : k < mm := by have := HKP.out; have := HMM.out; omega
        have hkmmI : (k : Int) < (mm : Int) := by omega
        have HRW0 := Lib.hid (fun (W : World) (x : Nd) (h : Nst w0 W g gq x P) => HROW.out W x k hkm h)
        have HMN0 := Lib.hid (fun (W : World) (x : Nd) (h : Nst w0 W g gq x P) => HMIN.out W x k hkmm h)
        have hmin := fun (W : World) (h : Nst w0 W g gq nd P) => HMIN.out W nd k hkmm h
        have HFIT := Lib.hid (lsA_fit HA.out HAW.out hta (by have := HKP.out; omega))
        have hdr := fun (W : World) (h : Nst w0 W g gq nd P) => nst_drive h fun h => (HFIT.out.inf h).f
        rw [tx_drive HA.out rfl rfl hta (by have := HKP.out; omega)] at hdr
        by_cases hke : k = K
        · have e3 : (enc b true).getD k 0 = 0 := by rw [hke, ← HKK.out]; exact (lose_at HB.out HA.out HAT.out true).1
          have e4 : (enc a false).getD k 0 = 1 := by rw [hke, ← HKK.out]; exact (lose_at HB.out HA.out HAT.out false).2
          obtain ⟨n', hst, hlb⟩ := lsA_lost HB.out HA.out HAT.out (n := nd) (by rw [HKK.out, ← hke]; exact hta)
          have HST := Lib.hid hst
          have HLB := Lib.hid (show LsB b a (k + 1) n' by rw [HKK.out, ← hke] at hlb; exact hlb)
          rw [e3] at hrow
          rw [e4] at hdr hmin
          have HD := Lib.hid hdr
          have HRW := Lib.hid hrow
          have HMN := Lib.hid hmin
          have HKE := Lib.hid hke
          have hk39 : ¬ 39 < (k : Int) := by have := HKP.out; omega
          have HE3 := Lib.hid e3
          have HE4 := Lib.hid e4
          clear hst hlb hta e3 e4 hdr hrow hmin hke
          have r0 := HRW.out _ HN.out
          go_wp2_with fail
          refine (HD.out _ HN.out).mono ?_
          rintro e w5 ⟨rfl, hb5⟩
          have HN5 := Lib.hid (HN.out.next HK.out hb5)
          clear hb5
          go_wp2_with fail
          refine wp_region_held_drew (S := fun w' => w'.cell? (mr.add k) = some (.int .i64 1)) (by kernel_rfl) (HMN.out _ (HN5.out.drew HK.out)) (fun hHeld => ?_)
          refine takeH (i := 0) (v := .int .i64 (-1)) rfl (by kernel_rfl) (by kernel_rfl) (by kernel_rfl) (fun _ _ _ h => h) (Or.inl ⟨by rfl, fun w hSw => ?_⟩) hHeld ?_
          · (clear hSw; go_simp)
          simp only [Act.put, List.setIfInBounds_toArray, List.set_cons_zero, List.set_cons_succ]
          refine takeH (i := 1) (v := .bool true) rfl (by kernel_rfl) (by kernel_rfl) (by kernel_rfl) (fun _ _ _ h => h) (Or.inl ⟨by rfl, fun w hSw => ?_⟩) hHeld ?_
          · (clear hSw; go_simp)
          simp only [Act.put, List.setIfInBounds_toArray, List.set_cons_zero, List.set_cons_succ]
          refine takeH (i := 2) (v := .bool true) rfl (by kernel_rfl) (by kernel_rfl) (by kernel_rfl) (fun _ _ _ h => h) (Or.inl ⟨by rfl, fun w hSw => ?_⟩) hHeld ?_
          · (clear hSw; go_simp)
          simp only [Act.put, List.setIfInBounds_toArray, List.set_cons_zero, List.set_cons_succ]
          refine takeH (i := 3) (v := .pointer (some ⟨g, 0, none⟩)) rfl (by kernel_rfl) (by kernel_rfl) (by kernel_rfl) (fun _ _ _ h => h) (Or.inl ⟨by rfl, fun w hSw => ?_⟩) hHeld ?_
          · (clear hSw; go_simp)
          simp only [Act.put, List.setIfInBounds_toArray, List.set_cons_zero, List.set_cons_succ]
          refine takeH (i := 5) (v := .slice (some mr) mm cm) rfl (by kernel_rfl) (by kernel_rfl) (by kernel_rfl) (fun _ _ _ h => h) (Or.inl ⟨by rfl, fun w hSw => ?_⟩) hHeld ?_
          · (clear hSw; go_simp)
          simp only [Act.put, List.setIfInBounds_toArray, List.set_cons_zero, List.set_cons_succ]
          refine takeH (i := 6) (v := .int .i64 k) rfl (by kernel_rfl) (by kernel_rfl) (by kernel_rfl) (fun _ _ _ h => h) (Or.inl ⟨by rfl, fun w hSw => ?_⟩) hHeld ?_
          · (clear hSw; go_simp)
          simp only [Act.put, List.setIfInBounds_toArray, List.set_cons_zero, List.set_cons_succ]
          refine takeH (i := 7) (v := .pointer (some (mr.add k))) rfl (by kernel_rfl) (by kernel_rfl) (by kernel_rfl) (fun _ _ _ h => h) (Or.inl ⟨by rfl, fun w hSw => ?_⟩) hHeld ?_
          · (clear hSw; go_simp)
          simp only [Act.put, List.setIfInBounds_toArray, List.set_cons_zero, List.set_cons_succ]
          refine takeH (i := 8) (v := .int .i64 1) rfl (by kernel_rfl) (by kernel_rfl) (by kernel_rfl) (fun _ _ _ h => h) (Or.inl ⟨by rfl, fun w hSw => ?_⟩) hHeld ?_
          · (have q1 := hSw; clear hSw; go_simp)
          simp only [Act.put, List.setIfInBounds_toArray, List.set_cons_zero, List.set_cons_succ]
          refine wpAnyH_ready (rs := [4]) (by kernel_rfl) (by simp) ?_
          refine AllReadyH.cons rfl (fun K hK => ?_) AllReadyH.nil
          go_simp
          refine (HD.out _ (HN5.out.drew HK.out)).mono ?_
          rintro e w6 ⟨rfl, hb6⟩
          have HN6 := Lib.hid (HN5.out.next HK.out (undrew hb6))
          clear hb6
          clear hHeld
          dsimp only
          refine hK.out _ _ (HMN.out _ HN6.out) (fun hHeld => ?_)
          clear hK K
          try simp only [Act.put, List.setIfInBounds_toArray, List.set_cons_zero, List.set_cons_succ]
          refine takeH (i := 9) (v := .bool false) rfl (by kernel_rfl) (by kernel_rfl) (by kernel_rfl) (fun _ _ _ h => h) (Or.inl ⟨by rfl, fun w hSw => ?_⟩) hHeld ?_
          · (clear hSw; go_simp)
          simp only [Act.put, List.setIfInBounds_toArray, List.set_cons_zero, List.set_cons_succ]
          refine takeH (i := 10) (v := .bool false) rfl (by kernel_rfl) (by kernel_rfl) (by kernel_rfl) (fun _ _ _ h => h) (Or.inl ⟨by rfl, fun w hSw => ?_⟩) hHeld ?_
          · (clear hSw; go_simp)
          simp only [Act.put, List.setIfInBounds_toArray, List.set_cons_zero, List.set_cons_succ]
          refine wpAnyH_done (by kernel_rfl) ?_ _
          clear hHeld
          have r6 := HRW.out _ HN6.out
          have hs6 := nst_step HN6.out HK.out HFIT.out 0 (.inl rfl)
          rw [HST.out] at hs6
          have HS := Lib.hid hs6
          clear hs6
          go_wp2_with fail
          refine HS.out.mono ?_
          rintro e w7 ⟨u, rfl, h5, h6, h7⟩
          have HN7 := Lib.hid h6
          obtain ⟨ge, ce, rfl, hce⟩ := h5.shape (by simp)
          have k2 : w7.cell? ⟨ge, 2, none⟩ = some (.int .i64 3) := hce 2 _ rfl
          clear h5 h6 h7 HS hce
          have r7 := HRW0.out _ _ HN7.out
          have r8 := HMN0.out _ _ HN7.out
          rw [HE3.out] at r7
          rw [HE4.out] at r8
          go_wp2
          go_roundw
          case rel => exact ⟨k + 1, by omega, by go_num, n', HN7.out, .inr ⟨by have := HKE.out; omega, by rw [HKE.out], HLB.out⟩⟩
          case measure => simp [intOf]; omega
        · have hkl : k < K := by omega
          have e1 : (enc a false).getD k 0 = (enc b true).getD k 0 := lose_same HB.out HA.out HAT.out (by rw [HKK.out]; exact hkl) false
          have e2 : (enc a true).getD k 0 = (enc b true).getD k 0 := lose_same HB.out HA.out HAT.out (by rw [HKK.out]; exact hkl) true
          have hlv : (enc b true).getD k 0 = 0 ∨ (enc b true).getD k 0 = 1 := lvl_01 (way_lvl (by have := HKP.out; omega))
          obtain ⟨n', hst, hta'⟩ := tx_step HA.out rfl rfl hta (by have := HKP.out; omega) (fun _ => rfl)
          rw [e2] at hst
          rw [e1] at hdr hmin
          have HST := Lib.hid hst
          have HTA := Lib.hid hta'
          clear hst hta' hta e1 e2
          generalize (enc b true).getD k 0 = z at *
          have HD := Lib.hid hdr
          have HRW := Lib.hid hrow
          have HMN := Lib.hid hmin
          clear hdr hrow hmin hke
          obtain rfl | rfl := hlv
          · have r0 := HRW.out _ HN.out
            go_wp2_with fail
            refine (HD.out _ HN.out).mono ?_
            rintro e w5 ⟨rfl, hb5⟩
            have HN5 := Lib.hid (HN.out.next HK.out hb5)
            clear hb5
            have r5 := HRW.out _ HN5.out
            go_wp2_with fail
            refine wp_region_held_drew (S := fun w' => w'.cell? (mr.add k) = some (.int .i64 0)) (by kernel_rfl) (HMN.out _ (HN5.out.drew HK.out)) (fun hHeld => ?_)
            refine takeH (i := 0) (v := .int .i64 (-1)) rfl (by kernel_rfl) (by kernel_rfl) (by kernel_rfl) (fun _ _ _ h => h) (Or.inl ⟨by rfl, fun w hSw => ?_⟩) hHeld ?_
            · (clear hSw; go_simp)
            simp only [Act.put, List.setIfInBounds_toArray, List.set_cons_zero, List.set_cons_succ]
            refine takeH (i := 1) (v := .bool true) rfl (by kernel_rfl) (by kernel_rfl) (by kernel_rfl) (fun _ _ _ h => h) (Or.inl ⟨by rfl, fun w hSw => ?_⟩) hHeld ?_
            · (clear hSw; go_simp)
            simp only [Act.put, List.setIfInBounds_toArray, List.set_cons_zero, List.set_cons_succ]
            refine takeH (i := 2) (v := .bool true) rfl (by kernel_rfl) (by kernel_rfl) (by kernel_rfl) (fun _ _ _ h => h) (Or.inl ⟨by rfl, fun w hSw => ?_⟩) hHeld ?_
            · (clear hSw; go_simp)
            simp only [Act.put, List.setIfInBounds_toArray, List.set_cons_zero, List.set_cons_succ]
            refine takeH (i := 3) (v := .pointer (some ⟨g, 0, none⟩)) rfl (by kernel_rfl) (by kernel_rfl) (by kernel_rfl) (fun _ _ _ h => h) (Or.inl ⟨by rfl, fun w hSw => ?_⟩) hHeld ?_
            · (clear hSw; go_simp)
            simp only [Act.put, List.setIfInBounds_toArray, List.set_cons_zero, List.set_cons_succ]
            refine takeH (i := 5) (v := .slice (some mr) mm cm) rfl (by kernel_rfl) (by kernel_rfl) (by kernel_rfl) (fun _ _ _ h => h) (Or.inl ⟨by rfl, fun w hSw => ?_⟩) hHeld ?_
            · (clear hSw; go_simp)
            simp only [Act.put, List.setIfInBounds_toArray, List.set_cons_zero, List.set_cons_succ]
            refine takeH (i := 6) (v := .int .i64 k) rfl (by kernel_rfl) (by kernel_rfl) (by kernel_rfl) (fun _ _ _ h => h) (Or.inl ⟨by rfl, fun w hSw => ?_⟩) hHeld ?_
            · (clear hSw; go_simp)
            simp only [Act.put, List.setIfInBounds_toArray, List.set_cons_zero, List.set_cons_succ]
            refine takeH (i := 7) (v := .pointer (some (mr.add k))) rfl (by kernel_rfl) (by kernel_rfl) (by kernel_rfl) (fun _ _ _ h => h) (Or.inl ⟨by rfl, fun w hSw => ?_⟩) hHeld ?_
            · (clear hSw; go_simp)
            simp only [Act.put, List.setIfInBounds_toArray, List.set_cons_zero, List.set_cons_succ]
            refine takeH (i := 8) (v := .int .i64 0) rfl (by kernel_rfl) (by kernel_rfl) (by kernel_rfl) (fun _ _ _ h => h) (Or.inl ⟨by rfl, fun w hSw => ?_⟩) hHeld ?_
            · (have q1 := hSw; clear hSw; go_simp)
            simp only [Act.put, List.setIfInBounds_toArray, List.set_cons_zero, List.set_cons_succ]
            refine wpAnyH_ready (rs := [4]) (by kernel_rfl) (by simp) ?_
            refine AllReadyH.cons rfl (fun K hK => ?_) AllReadyH.nil
            go_simp
            refine (HD.out _ (HN5.out.drew HK.out)).mono ?_
            rintro e w6 ⟨rfl, hb6⟩
            have HN6 := Lib.hid (HN5.out.next HK.out (undrew hb6))
            clear hb6
            clear hHeld
            dsimp only
            refine hK.out _ _ (HMN.out _ HN6.out) (fun hHeld => ?_)
            clear hK K
            try simp only [Act.put, List.setIfInBounds_toArray, List.set_cons_zero, List.set_cons_succ]
            refine takeH (i := 9) (v := .bool false) rfl (by kernel_rfl) (by kernel_rfl) (by kernel_rfl) (fun _ _ _ h => h) (Or.inl ⟨by rfl, fun w hSw => ?_⟩) hHeld ?_
            · (clear hSw; go_simp)
            simp only [Act.put, List.setIfInBounds_toArray, List.set_cons_zero, List.set_cons_succ]
            refine takeH (i := 10) (v := .bool false) rfl (by kernel_rfl) (by kernel_rfl) (by kernel_rfl) (fun _ _ _ h => h) (Or.inl ⟨by rfl, fun w hSw => ?_⟩) hHeld ?_
            · (clear hSw; go_simp)
            simp only [Act.put, List.setIfInBounds_toArray, List.set_cons_zero, List.set_cons_succ]
            refine wpAnyH_done (by kernel_rfl) ?_ _
            clear hHeld
            have r6 := HRW.out _ HN6.out
            have hs6 := nst_step HN6.out HK.out HFIT.out 0 (.inl rfl)
            rw [HST.out] at hs6
            have HS := Lib.hid hs6
            clear hs6
            go_wp2_with fail
            refine HS.out.mono ?_
            rintro e w7 ⟨u, rfl, h5, h6, h7⟩
            have HN7 := Lib.hid h6
            obtain ⟨Ae, ce, rfl, -⟩ := h5.len
            clear h5 h6 h7 HS
            go_wp2
            go_roundw
            case rel => exact ⟨k + 1, by omega, by go_num, n', HN7.out, .inl ⟨by omega, rfl, HTA.out⟩⟩
            case measure => simp [intOf]; omega
          · have r0 := HRW.out _ HN.out
            go_wp2_with fail
            refine (HD.out _ HN.out).mono ?_
            rintro e w5 ⟨rfl, hb5⟩
            have HN5 := Lib.hid (HN.out.next HK.out hb5)
            clear hb5
            go_wp2_with fail
            refine wp_region_held_drew (S := fun w' => w'.cell? (mr.add k) = some (.int .i64 1)) (by kernel_rfl) (HMN.out _ (HN5.out.drew HK.out)) (fun hHeld => ?_)
            refine takeH (i := 0) (v := .int .i64 (-1)) rfl (by kernel_rfl) (by kernel_rfl) (by kernel_rfl) (fun _ _ _ h => h) (Or.inl ⟨by rfl, fun w hSw => ?_⟩) hHeld ?_
            · (clear hSw; go_simp)
            simp only [Act.put, List.setIfInBounds_toArray, List.set_cons_zero, List.set_cons_succ]
            refine takeH (i := 1) (v := .bool true) rfl (by kernel_rfl) (by kernel_rfl) (by kernel_rfl) (fun _ _ _ h => h) (Or.inl ⟨by rfl, fun w hSw => ?_⟩) hHeld ?_
            · (clear hSw; go_simp)
            simp only [Act.put, List.setIfInBounds_toArray, List.set_cons_zero, List.set_cons_succ]
            refine takeH (i := 2) (v := .bool true) rfl (by kernel_rfl) (by kernel_rfl) (by kernel_rfl) (fun _ _ _ h => h) (Or.inl ⟨by rfl, fun w hSw => ?_⟩) hHeld ?_
            · (clear hSw; go_simp)
            simp only [Act.put, List.setIfInBounds_toArray, List.set_cons_zero, List.set_cons_succ]
            refine takeH (i := 3) (v := .pointer (some ⟨g, 0, none⟩)) rfl (by kernel_rfl) (by kernel_rfl) (by kernel_rfl) (fun _ _ _ h => h) (Or.inl ⟨by rfl, fun w hSw => ?_⟩) hHeld ?_
            · (clear hSw; go_simp)
            simp only [Act.put, List.setIfInBounds_toArray, List.set_cons_zero, List.set_cons_succ]
            refine takeH (i := 5) (v := .slice (some mr) mm cm) rfl (by kernel_rfl) (by kernel_rfl) (by kernel_rfl) (fun _ _ _ h => h) (Or.inl ⟨by rfl, fun w hSw => ?_⟩) hHeld ?_
            · (clear hSw; go_simp)
            simp only [Act.put, List.setIfInBounds_toArray, List.set_cons_zero, List.set_cons_succ]
            refine takeH (i := 6) (v := .int .i64 k) rfl (by kernel_rfl) (by kernel_rfl) (by kernel_rfl) (fun _ _ _ h => h) (Or.inl ⟨by rfl, fun w hSw => ?_⟩) hHeld ?_
            · (clear hSw; go_simp)
            simp only [Act.put, List.setIfInBounds_toArray, List.set_cons_zero, List.set_cons_succ]
            refine takeH (i := 7) (v := .pointer (some (mr.add k))) rfl (by kernel_rfl) (by kernel_rfl) (by kernel_rfl) (fun _ _ _ h => h) (Or.inl ⟨by rfl, fun w hSw => ?_⟩) hHeld ?_
            · (clear hSw; go_simp)
            simp only [Act.put, List.setIfInBounds_toArray, List.set_cons_zero, List.set_cons_succ]
            refine takeH (i := 8) (v := .int .i64 1) rfl (by kernel_rfl) (by kernel_rfl) (by kernel_rfl) (fun _ _ _ h => h) (Or.inl ⟨by rfl, fun w hSw => ?_⟩) hHeld ?_
            · (have q1 := hSw; clear hSw; go_simp)
            simp only [Act.put, List.setIfInBounds_toArray, List.set_cons_zero, List.set_cons_succ]
            refine wpAnyH_ready (rs := [4]) (by kernel_rfl) (by simp) ?_
            refine AllReadyH.cons rfl (fun K hK => ?_) AllReadyH.nil
            go_simp
            refine (HD.out _ (HN5.out.drew HK.out)).mono ?_
            rintro e w6 ⟨rfl, hb6⟩
            have HN6 := Lib.hid (HN5.out.next HK.out (undrew hb6))
            clear hb6
            clear hHeld
            dsimp only
            refine hK.out _ _ (HMN.out _ HN6.out) (fun hHeld => ?_)
            clear hK K
            try simp only [Act.put, List.setIfInBounds_toArray, List.set_cons_zero, List.set_cons_succ]
            refine takeH (i := 9) (v := .bool false) rfl (by kernel_rfl) (by kernel_rfl) (by kernel_rfl) (fun _ _ _ h => h) (Or.inl ⟨by rfl, fun w hSw => ?_⟩) hHeld ?_
            · (clear hSw; go_simp)
            simp only [Act.put, List.setIfInBounds_toArray, List.set_cons_zero, List.set_cons_succ]
            refine takeH (i := 10) (v := .bool false) rfl (by kernel_rfl) (by kernel_rfl) (by kernel_rfl) (fun _ _ _ h => h) (Or.inl ⟨by rfl, fun w hSw => ?_⟩) hHeld ?_
            · (clear hSw; go_simp)
            simp only [Act.put, List.setIfInBounds_toArray, List.set_cons_zero, List.set_cons_succ]
            refine wpAnyH_done (by kernel_rfl) ?_ _
            clear hHeld
            have r6 := HRW.out _ HN6.out
            have hs6 := nst_step HN6.out HK.out HFIT.out 1 (.inr rfl)
            rw [HST.out] at hs6
            have HS := Lib.hid hs6
            clear hs6
            go_wp2_with fail
            refine HS.out.mono ?_
            rintro e w7 ⟨u, rfl, h5, h6, h7⟩
            have HN7 := Lib.hid h6
            obtain ⟨Ae, ce, rfl, -⟩ := h5.len
            clear h5 h6 h7 HS
            go_wp2
            go_roundw
            case rel => exact ⟨k + 1, by omega, by go_num, n', HN7.out, .inl ⟨by omega, rfl, HTA.out⟩⟩
            case measure => simp [intOf]; omega
      · obtain ⟨hlv, hfit, hdrv, es, n', hst, hza, hes, hes8⟩ := lsB_step HB.out HBW.out HA.out HAW.out hlb (by have := HML.out; omega)
        have HLV := Lib.hid hlv
        have HFIT := Lib.hid hfit
        have hdr := fun (W : World) (h : Nst w0 W g gq nd P) => nst_drive h fun h => (HFIT.out.inf h).f
        rw [hdrv] at hdr
        have HST := Lib.hid hst
        have HZA := Lib.hid hza
        have HES := Lib.hid (And.intro hes hes8)
        have HZS := Lib.hid (show k = sl_ b + 1 → (enc b true).getD k 0 = 0 from fun h => by rw [enc_two (by omega) true, if_pos h]; rfl)
        have hK0 : ¬ (K : Int) < 0 := by omega
        have hK1 : (0 : Int) ≤ (K : Int) := by omega
        clear hlv hfit hdrv hst hza hes hes8 hlb
        generalize (enc b true).getD k 0 = z at *
        have HRW := Lib.hid hrow
        clear hrow
        by_cases hsl : k = sl_ b + 1
        · rw [if_pos hsl] at hdr
          obtain rfl := HZS.out hsl
          obtain rfl := HES.out.1 (by omega)
          have hs1 : ((k : Int) == (m : Int) - 9) = true := by have := HML.out; simp; omega
          have HD := Lib.hid hdr
          clear hdr hsl
          have r0 := HRW.out _ HN.out
          go_wp2_with fail
          refine (HD.out _ HN.out).mono ?_
          rintro e w5 ⟨rfl, hb5⟩
          have HN5 := Lib.hid (HN.out.next HK.out hb5)
          clear hb5
          have r5 := HRW.out _ HN5.out
          go_wp2_with fail
          refine wp_region_held_drew (S := fun _ => True) (by kernel_rfl) (trivial) (fun hHeld => ?_)
          refine takeH (i := 0) (v := .int .i64 (K : Int)) rfl (by kernel_rfl) (by kernel_rfl) (by kernel_rfl) (fun _ _ _ h => h) (Or.inl ⟨by rfl, fun w hSw => ?_⟩) hHeld ?_
          · (clear hSw; go_simp)
          simp only [Act.put, List.setIfInBounds_toArray, List.set_cons_zero, List.set_cons_succ]
          refine takeH (i := 1) (v := .bool false) rfl (by kernel_rfl) (by kernel_rfl) (by kernel_rfl) (fun _ _ _ h => h) (Or.inl ⟨by rfl, fun w hSw => ?_⟩) hHeld ?_
          · (have h00 := hK0; clear hSw; go_simp)
          simp only [Act.put, List.setIfInBounds_toArray, List.set_cons_zero, List.set_cons_succ]
          refine takeH (i := 2) (v := .bool false) rfl (by kernel_rfl) (by kernel_rfl) (by kernel_rfl) (fun _ _ _ h => h) (Or.inl ⟨by rfl, fun w hSw => ?_⟩) hHeld ?_
          · (clear hSw; go_simp)
          simp only [Act.put, List.setIfInBounds_toArray, List.set_cons_zero, List.set_cons_succ]
          refine takeH (i := 3) (v := undef) rfl (by kernel_rfl) (by kernel_rfl) (by kernel_rfl) (fun _ _ _ h => h) (Or.inr ⟨by rfl, rfl⟩) hHeld ?_
          simp only [Act.put, List.setIfInBounds_toArray, List.set_cons_zero, List.set_cons_succ]
          refine takeH (i := 4) (v := undef) rfl (by kernel_rfl) (by kernel_rfl) (by kernel_rfl) (fun _ _ _ h => h) (Or.inr ⟨by rfl, rfl⟩) hHeld ?_
          simp only [Act.put, List.setIfInBounds_toArray, List.set_cons_zero, List.set_cons_succ]
          refine takeH (i := 5) (v := undef) rfl (by kernel_rfl) (by kernel_rfl) (by kernel_rfl) (fun _ _ _ h => h) (Or.inr ⟨by rfl, rfl⟩) hHeld ?_
          simp only [Act.put, List.setIfInBounds_toArray, List.set_cons_zero, List.set_cons_succ]
          refine takeH (i := 6) (v := undef) rfl (by kernel_rfl) (by kernel_rfl) (by kernel_rfl) (fun _ _ _ h => h) (Or.inr ⟨by rfl, rfl⟩) hHeld ?_
          simp only [Act.put, List.setIfInBounds_toArray, List.set_cons_zero, List.set_cons_succ]
          refine takeH (i := 7) (v := undef) rfl (by kernel_rfl) (by kernel_rfl) (by kernel_rfl) (fun _ _ _ h => h) (Or.inr ⟨by rfl, rfl⟩) hHeld ?_
          simp only [Act.put, List.setIfInBounds_toArray, List.set_cons_zero, List.set_cons_succ]
          refine takeH (i := 8) (v := undef) rfl (by kernel_rfl) (by kernel_rfl) (by kernel_rfl) (fun _ _ _ h => h) (Or.inr ⟨by rfl, rfl⟩) hHeld ?_
          simp only [Act.put, List.setIfInBounds_toArray, List.set_cons_zero, List.set_cons_succ]
          refine takeH (i := 9) (v := undef) rfl (by kernel_rfl) (by kernel_rfl) (by kernel_rfl) (fun _ _ _ h => h) (Or.inr ⟨by rfl, rfl⟩) hHeld ?_
          simp only [Act.put, List.setIfInBounds_toArray, List.set_cons_zero, List.set_cons_succ]
          refine takeH (i := 10) (v := .bool false) rfl (by kernel_rfl) (by kernel_rfl) (by kernel_rfl) (fun _ _ _ h => h) (Or.inl ⟨by rfl, fun w hSw => ?_⟩) hHeld ?_
          · (clear hSw; go_simp)
          simp only [Act.put, List.setIfInBounds_toArray, List.set_cons_zero, List.set_cons_succ]
          refine wpAnyH_done (by kernel_rfl) ?_ _
          clear hHeld
          have HN5b := Lib.hid (HN5.out.drew HK.out)
          go_wp2_with fail
          refine (HD.out _ HN5b.out).mono ?_
          rintro e w6 ⟨rfl, hb6⟩
          have HN6 := Lib.hid (HN5b.out.next HK.out hb6)
          clear hb6
          have r6 := HRW.out _ HN6.out
          have hs6 := nst_step HN6.out HK.out HFIT.out 0 (.inl rfl)
          rw [HST.out] at hs6
          have HS := Lib.hid hs6
          clear hs6
          go_wp2_with fail
          refine HS.out.mono ?_
          rintro e w7 ⟨u, rfl, h5, h6, h7⟩
          have HN7 := Lib.hid h6
          obtain ⟨Ae, ce, rfl, -⟩ := h5.len
          clear h5 h6 h7 HS
          go_wp2
          go_roundw
          case rel => exact ⟨k + 1, by omega, by go_num, n', HN7.out, .inr ⟨by omega, rfl, HZA.out⟩⟩
          case measure => simp [intOf]; omega
        · rw [if_neg hsl] at hdr
          have hs1 : ((k : Int) == (m : Int) - 9) = false := by have := HML.out; simp; omega
          have HD := Lib.hid hdr
          clear hdr
          by_cases h8 : k = sl_ b + 8
          · have hl1 : ((k : Int) != (m : Int) - 2) = false := by have := HML.out; simp; omega
            obtain ⟨gf, rfl, hgv⟩ := HES.out.2 h8
            have HGV := Lib.hid hgv
            clear hsl h8 hgv
            go_wp2_with fail
            refine (HD.out _ HN.out).mono ?_
            rintro e w5 ⟨rfl, hb5⟩
            have HN5 := Lib.hid (HN.out.next HK.out hb5)
            clear hb5
            go_wp2_with fail
            refine wp_region_held_drew (S := fun _ => True) (by kernel_rfl) (trivial) (fun hHeld => ?_)
            refine takeH (i := 0) (v := .int .i64 (K : Int)) rfl (by kernel_rfl) (by kernel_rfl) (by kernel_rfl) (fun _ _ _ h => h) (Or.inl ⟨by rfl, fun w hSw => ?_⟩) hHeld ?_
            · (clear hSw; go_simp)
            simp only [Act.put, List.setIfInBounds_toArray, List.set_cons_zero, List.set_cons_succ]
            refine takeH (i := 1) (v := .bool false) rfl (by kernel_rfl) (by kernel_rfl) (by kernel_rfl) (fun _ _ _ h => h) (Or.inl ⟨by rfl, fun w hSw => ?_⟩) hHeld ?_
            · (have h00 := hK0; clear hSw; go_simp)
            simp only [Act.put, List.setIfInBounds_toArray, List.set_cons_zero, List.set_cons_succ]
            refine takeH (i := 2) (v := .bool false) rfl (by kernel_rfl) (by kernel_rfl) (by kernel_rfl) (fun _ _ _ h => h) (Or.inl ⟨by rfl, fun w hSw => ?_⟩) hHeld ?_
            · (clear hSw; go_simp)
            simp only [Act.put, List.setIfInBounds_toArray, List.set_cons_zero, List.set_cons_succ]
            refine takeH (i := 3) (v := undef) rfl (by kernel_rfl) (by kernel_rfl) (by kernel_rfl) (fun _ _ _ h => h) (Or.inr ⟨by rfl, rfl⟩) hHeld ?_
            simp only [Act.put, List.setIfInBounds_toArray, List.set_cons_zero, List.set_cons_succ]
            refine takeH (i := 4) (v := undef) rfl (by kernel_rfl) (by kernel_rfl) (by kernel_rfl) (fun _ _ _ h => h) (Or.inr ⟨by rfl, rfl⟩) hHeld ?_
            simp only [Act.put, List.setIfInBounds_toArray, List.set_cons_zero, List.set_cons_succ]
            refine takeH (i := 5) (v := undef) rfl (by kernel_rfl) (by kernel_rfl) (by kernel_rfl) (fun _ _ _ h => h) (Or.inr ⟨by rfl, rfl⟩) hHeld ?_
            simp only [Act.put, List.setIfInBounds_toArray, List.set_cons_zero, List.set_cons_succ]
            refine takeH (i := 6) (v := undef) rfl (by kernel_rfl) (by kernel_rfl) (by kernel_rfl) (fun _ _ _ h => h) (Or.inr ⟨by rfl, rfl⟩) hHeld ?_
            simp only [Act.put, List.setIfInBounds_toArray, List.set_cons_zero, List.set_cons_succ]
            refine takeH (i := 7) (v := undef) rfl (by kernel_rfl) (by kernel_rfl) (by kernel_rfl) (fun _ _ _ h => h) (Or.inr ⟨by rfl, rfl⟩) hHeld ?_
            simp only [Act.put, List.setIfInBounds_toArray, List.set_cons_zero, List.set_cons_succ]
            refine takeH (i := 8) (v := undef) rfl (by kernel_rfl) (by kernel_rfl) (by kernel_rfl) (fun _ _ _ h => h) (Or.inr ⟨by rfl, rfl⟩) hHeld ?_
            simp only [Act.put, List.setIfInBounds_toArray, List.set_cons_zero, List.set_cons_succ]
            refine takeH (i := 9) (v := undef) rfl (by kernel_rfl) (by kernel_rfl) (by kernel_rfl) (fun _ _ _ h => h) (Or.inr ⟨by rfl, rfl⟩) hHeld ?_
            simp only [Act.put, List.setIfInBounds_toArray, List.set_cons_zero, List.set_cons_succ]
            refine takeH (i := 10) (v := .bool false) rfl (by kernel_rfl) (by kernel_rfl) (by kernel_rfl) (fun _ _ _ h => h) (Or.inl ⟨by rfl, fun w hSw => ?_⟩) hHeld ?_
            · (clear hSw; go_simp)
            simp only [Act.put, List.setIfInBounds_toArray, List.set_cons_zero, List.set_cons_succ]
            refine wpAnyH_done (by kernel_rfl) ?_ _
            clear hHeld
            have HN5b := Lib.hid (HN5.out.drew HK.out)
            go_wp2_with fail
            refine (HD.out _ HN5b.out).mono ?_
            rintro e w6 ⟨rfl, hb6⟩
            have HN6 := Lib.hid (HN5b.out.next HK.out hb6)
            clear hb6
            have r6 := HRW.out _ HN6.out
            have hs6 := nst_step HN6.out HK.out HFIT.out z HLV.out
            rw [HST.out] at hs6
            have HS := Lib.hid hs6
            clear hs6
            go_wp2_with fail
            refine HS.out.mono ?_
            rintro e w7 ⟨u, rfl, h5, h6, h7⟩
            have HN7 := Lib.hid h6
            obtain ⟨ge, ce, rfl, hce⟩ := h5.shape (by simp)
            have k2 : w7.cell? ⟨ge, 2, none⟩ = some (.int .i64 2) := hce 2 _ rfl
            have k3 : w7.cell? ⟨ge, 3, none⟩ = some (.int .i64 gf.id) := hce 3 _ rfl
            have k4 : w7.cell? ⟨ge, 4, none⟩ = some (.bool gf.ext) := hce 4 _ rfl
            have k5 : w7.cell? ⟨ge, 5, none⟩ = some (.bool gf.rtr) := hce 5 _ rfl
            have k6 : w7.cell? ⟨ge, 6, none⟩ = some (.int .i64 gf.len) := hce 6 _ rfl
            have k7 : w7.cell? ⟨ge, 7, none⟩ = some (.int .u8 (gf.d 0)) := hce 7 _ rfl
            have k8 : w7.cell? ⟨ge, 8, none⟩ = some (.int .u8 (gf.d 1)) := hce 8 _ rfl
            have k9 : w7.cell? ⟨ge, 9, none⟩ = some (.int .u8 (gf.d 2)) := hce 9 _ rfl
            have k10 : w7.cell? ⟨ge, 10, none⟩ = some (.int .u8 (gf.d 3)) := hce 10 _ rfl
            have k11 : w7.cell? ⟨ge, 11, none⟩ = some (.int .u8 (gf.d 4)) := hce 11 _ rfl
            have k12 : w7.cell? ⟨ge, 12, none⟩ = some (.int .u8 (gf.d 5)) := hce 12 _ rfl
            have k13 : w7.cell? ⟨ge, 13, none⟩ = some (.int .u8 (gf.d 6)) := hce 13 _ rfl
            have k14 : w7.cell? ⟨ge, 14, none⟩ = some (.int .u8 (gf.d 7)) := hce 14 _ rfl
            obtain ⟨d0, d1, d2, d3, d4, d5, d6, d7, d8, d9, d10, d11⟩ := HX0.out.2.below HN7.out.below (by rw [HZ.out]; omega)
            have hfe := fun W => fneq gf b W
            rw [same_val.2 HGV.out] at hfe
            clear h5 h6 h7 HS hce
            go_wp2
            go_quiet (fail)
            go_wp2
            go_roundw
            case rel => exact ⟨k + 1, by omega, by go_num, n', HN7.out.next HK.out (belowN (Below.refl _ _) _), .inr ⟨by omega, rfl, HZA.out⟩⟩
            case measure => simp [intOf]; omega
          · obtain rfl := HES.out.1 h8
            clear hsl h8
            go_wp2_with fail
            refine (HD.out _ HN.out).mono ?_
            rintro e w5 ⟨rfl, hb5⟩
            have HN5 := Lib.hid (HN.out.next HK.out hb5)
            clear hb5
            go_wp2_with fail
            refine wp_region_held_drew (S := fun _ => True) (by kernel_rfl) (trivial) (fun hHeld => ?_)
            refine takeH (i := 0) (v := .int .i64 (K : Int)) rfl (by kernel_rfl) (by kernel_rfl) (by kernel_rfl) (fun _ _ _ h => h) (Or.inl ⟨by rfl, fun w hSw => ?_⟩) hHeld ?_
            · (clear hSw; go_simp)
            simp only [Act.put, List.setIfInBounds_toArray, List.set_cons_zero, List.set_cons_succ]
            refine takeH (i := 1) (v := .bool false) rfl (by kernel_rfl) (by kernel_rfl) (by kernel_rfl) (fun _ _ _ h => h) (Or.inl ⟨by rfl, fun w hSw => ?_⟩) hHeld ?_
            · (have h00 := hK0; clear hSw; go_simp)
            simp only [Act.put, List.setIfInBounds_toArray, List.set_cons_zero, List.set_cons_succ]
            refine takeH (i := 2) (v := .bool false) rfl (by kernel_rfl) (by kernel_rfl) (by kernel_rfl) (fun _ _ _ h => h) (Or.inl ⟨by rfl, fun w hSw => ?_⟩) hHeld ?_
            · (clear hSw; go_simp)
            simp only [Act.put, List.setIfInBounds_toArray, List.set_cons_zero, List.set_cons_succ]
            refine takeH (i := 3) (v := undef) rfl (by kernel_rfl) (by kernel_rfl) (by kernel_rfl) (fun _ _ _ h => h) (Or.inr ⟨by rfl, rfl⟩) hHeld ?_
            simp only [Act.put, List.setIfInBounds_toArray, List.set_cons_zero, List.set_cons_succ]
            refine takeH (i := 4) (v := undef) rfl (by kernel_rfl) (by kernel_rfl) (by kernel_rfl) (fun _ _ _ h => h) (Or.inr ⟨by rfl, rfl⟩) hHeld ?_
            simp only [Act.put, List.setIfInBounds_toArray, List.set_cons_zero, List.set_cons_succ]
            refine takeH (i := 5) (v := undef) rfl (by kernel_rfl) (by kernel_rfl) (by kernel_rfl) (fun _ _ _ h => h) (Or.inr ⟨by rfl, rfl⟩) hHeld ?_
            simp only [Act.put, List.setIfInBounds_toArray, List.set_cons_zero, List.set_cons_succ]
            refine takeH (i := 6) (v := undef) rfl (by kernel_rfl) (by kernel_rfl) (by kernel_rfl) (fun _ _ _ h => h) (Or.inr ⟨by rfl, rfl⟩) hHeld ?_
            simp only [Act.put, List.setIfInBounds_toArray, List.set_cons_zero, List.set_cons_succ]
            refine takeH (i := 7) (v := undef) rfl (by kernel_rfl) (by kernel_rfl) (by kernel_rfl) (fun _ _ _ h => h) (Or.inr ⟨by rfl, rfl⟩) hHeld ?_
            simp only [Act.put, List.setIfInBounds_toArray, List.set_cons_zero, List.set_cons_succ]
            refine takeH (i := 8) (v := undef) rfl (by kernel_rfl) (by kernel_rfl) (by kernel_rfl) (fun _ _ _ h => h) (Or.inr ⟨by rfl, rfl⟩) hHeld ?_
            simp only [Act.put, List.setIfInBounds_toArray, List.set_cons_zero, List.set_cons_succ]
            refine takeH (i := 9) (v := undef) rfl (by kernel_rfl) (by kernel_rfl) (by kernel_rfl) (fun _ _ _ h => h) (Or.inr ⟨by rfl, rfl⟩) hHeld ?_
            simp only [Act.put, List.setIfInBounds_toArray, List.set_cons_zero, List.set_cons_succ]
            refine takeH (i := 10) (v := .bool false) rfl (by kernel_rfl) (by kernel_rfl) (by kernel_rfl) (fun _ _ _ h => h) (Or.inl ⟨by rfl, fun w hSw => ?_⟩) hHeld ?_
            · (clear hSw; go_simp)
            simp only [Act.put, List.setIfInBounds_toArray, List.set_cons_zero, List.set_cons_succ]
            refine wpAnyH_done (by kernel_rfl) ?_ _
            clear hHeld
            have HN5b := Lib.hid (HN5.out.drew HK.out)
            go_wp2_with fail
            refine (HD.out _ HN5b.out).mono ?_
            rintro e w6 ⟨rfl, hb6⟩
            have HN6 := Lib.hid (HN5b.out.next HK.out hb6)
            clear hb6
            have r6 := HRW.out _ HN6.out
            have hs6 := nst_step HN6.out HK.out HFIT.out z HLV.out
            rw [HST.out] at hs6
            have HS := Lib.hid hs6
            clear hs6
            go_wp2_with fail
            refine HS.out.mono ?_
            rintro e w7 ⟨u, rfl, h5, h6, h7⟩
            have HN7 := Lib.hid h6
            obtain ⟨Ae, ce, rfl, -⟩ := h5.len
            clear h5 h6 h7 HS
            go_wp2
            go_roundw
            case rel => exact ⟨k + 1, by omega, by go_num, n', HN7.out, .inr ⟨by omega, rfl, HZA.out⟩⟩
            case measure => simp [intOf]; omega
    · have hkmI : ¬ (k : Int) < (m : Int) := by omega
      have hkm' : k = m := by omega
      have h1 := HML.out
      have h2 := HKP.out
      rcases hz with ⟨h, _, _⟩ | ⟨_, rfl, h | h⟩
      · omega
      · have := h.1; omega
      have hnd : nd = LsP a 0 := h.2
      clear h h1 h2
      have hK1 : (0 : Int) < (K : Int) := by have := HKP.out; omega
      have H7 := Lib.hid (Nst.less (Q := NoSide) (HN.out.to hnd) fun _ _ => trivial)
      clear HN hkm hkm' hnd H1 hk
      rename World => wa
      go_wp2
      go_loopw [14] (fun i wr => ∃ j : Nat, j ≤ 3 ∧ i = .int .i64 j ∧ Nst w0 wr g gq (LsP a j) NoSide) (fun i _ => 3 - (intOf i).toNat)
      case atStart => exact ⟨0, by omega, rfl, H7.out⟩
      case round =>
        obtain ⟨j, hj, rfl, hn⟩ := hrel
        have HN := Lib.hid hn
        clear hn
        by_cases hj3 : j < 3
        · have hj3I : (j : Int) < 3 := by omega
          obtain ⟨hfit, hst⟩ := lsP_step HA.out HAW.out hj3
          have hs := nst_step HN.out kept_no hfit 1 (.inr rfl)
          rw [hst] at hs
          have HS := Lib.hid hs
          clear hs hst hfit
          go_wp2_with fail
          refine HS.out.mono ?_
          rintro e w5 ⟨u, rfl, h5, h6, h7⟩
          have HN5 := Lib.hid h6
          clear h5 h6 h7 HS
          go_wp2
          go_roundw
          case rel => exact ⟨j + 1, by omega, by go_num, HN5.out⟩
          case measure => simp [intOf]; omega
        · have hj3I : ¬ (j : Int) < 3 := by omega
          have H9 := Lib.hid (HN.out.to (show LsP a j = idl [a] by rw [show j = 3 by omega]; rfl))
          have hlk := nst_look H9.out
          rw [show (idl [a]).lookV = .agg #[.int .i64 1, .bool false, .int .i64 0, .int .i64 0, .bool false, .int .i64 1] from rfl] at hlk
          have HL9 := Lib.hid hlk
          have hcq := ceq0
          clear HN hj3 hj H7 hlk
          go_wp2_with fail
          refine HL9.out.mono ?_
          rintro e w8 ⟨rfl, hb8⟩
          have hbb : Below w8.heap.size w8 (w8.alloc (.cells #[.int .i64 1, .bool false, .int .i64 0, .int .i64 0, .bool false, .int .i64 1] 43)) := (Below.refl _ _).alloc (Nat.le_refl _) _
          have HN9 := Lib.hid (H9.out.next kept_no (nxt hb8 hbb))
          have hd := nst_drive HN9.out fun h => by cases h
          rw [show (idl [a]).drv = 0 from rfl] at hd
          have HD9 := Lib.hid hd
          clear hb8 hbb HL9 hd
          go_wp2_with fail
          refine HD9.out.mono ?_
          rintro e w9 ⟨rfl, hb9⟩
          have HB9 := Lib.hid (nxt HN9.out.below hb9)
          clear hb9
          go_wp2_with fail
          refine (awake10 _).mono ?_
          rintro e w10 ⟨rfl, hb10⟩
          have HB10 := Lib.hid (nxt HBX.out (nxt HB9.out hb10))
          clear hb10
          go_wp2
          go_ret
          exact ⟨rfl, HB10.out⟩

theorem ctlLoses_any (a b : Fr) (w : World) (haw : a.wf) (hbw : b.wf) :
    Calls Tryz.prog 10 #[a.val, b.val] w fun e w' => e = .returned (.bool true) ∧ Below w.heap.size w w' := by
  cases h : ((b.may && a.may) && decide (b.plc < a.plc))
  · exact loses_not a b w h
  · rw [Bool.and_eq_true, Bool.and_eq_true] at h
    exact loses_in a b w h.1.2 h.1.1 haw hbw (of_decide_eq_true h.2)
end Go.Proofs.YtenfcbmeokenaaaGreat
