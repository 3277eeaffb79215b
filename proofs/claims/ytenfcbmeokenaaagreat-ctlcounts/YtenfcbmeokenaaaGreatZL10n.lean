/- The walk of the law CtlCounts. -/
import Derived.Test.YtenfcbmeokenaaaGreatY5
import Derived.Test.YtenfcbmeokenaaaGreatY6
namespace Go.Proofs.YtenfcbmeokenaaaGreat
set_option maxRecDepth 20000
open Go.RowKit
set_option linter.unusedSimpArgs false

theorem cneqS (t r : Int) (w : World) : (binOp .neq 41 (.agg #[.int .i64 t, .int .i64 r, .bool true]) (.agg #[.int .i64 t, .int .i64 r, .bool true])).run Tryz.prog w = .ok (.bool false) w := by
  rw [run_neq_struct, show (Op.equalIn 10000 41 (.agg #[.int .i64 t, .int .i64 r, .bool true]) (.agg #[.int .i64 t, .int .i64 r, .bool true])).run Tryz.prog w = .ok true w from by go_simp]; rfl
theorem cneqZ (w : World) : (binOp .neq 41 (.agg #[.int .i64 0, .int .i64 0, .bool false]) (.agg #[.int .i64 0, .int .i64 0, .bool false])).run Tryz.prog w = .ok (.bool false) w := by
  rw [run_neq_struct]; rfl
theorem Nst.blk {w0 w : World} {g gq : Nat} {n : Nd} {P : World → (Nat → Prop) → Prop} {b : Nat} {a : Array Value} {T : TypeId} (h : Nst w0 w g gq n (Both P (BlkS b a T))) : w.heap[b]? = some (.cells a T) := by
  obtain ⟨F, hF⟩ := h.side
  exact hF.2.1

set_option maxHeartbeats 800000 in
theorem counts_out (A : Option Addr) (n c : Nat) (a : Int) (w : World) (h : 300 < n ∨ a < 0 ∨ 12 < a) :
    Calls Tryz.prog 6 #[.slice A n c, .int .i64 a] w fun e w' => e = .returned (.bool true) ∧ Below w.heap.size w w' := by
  by_cases h1 : 300 < n
  · have g1 : (300 : Int) < (n : Int) := by omega
    clear h h1
    go_enter Tryz.func6, Tryz.ntmps6
    go_wp2_with fail
    refine (awake10 _).mono ?_
    rintro e w1 ⟨rfl, hb1⟩
    go_wp2
    go_ret
    exact ⟨rfl, hb1⟩
  have g1 : ¬ (300 : Int) < (n : Int) := by omega
  by_cases h2 : a < 0
  · clear h h1
    go_enter Tryz.func6, Tryz.ntmps6
    go_wp2_with fail
    refine (awake10 _).mono ?_
    rintro e w1 ⟨rfl, hb1⟩
    go_wp2
    go_ret
    exact ⟨rfl, hb1⟩
  have g3 : 12 < a := by omega
  clear h h1
  go_enter Tryz.func6, Tryz.ntmps6
  go_wp2_with fail
  refine (awake10 _).mono ?_
  rintro e w1 ⟨rfl, hb1⟩
  go_wp2
  go_ret
  exact ⟨rfl, hb1⟩

set_option maxHeartbeats 16000000 in
set_option maxRecDepth 100000 in
theorem counts_in (A : Option Addr) (n cap : Nat) (ts : Nat → Tn) (a : Nat) (w : World) (hr : Tl w A n ts) (hwf : ∀ i, i < n → (ts i).f.wf) (hn : n ≤ 300) (ha : a ≤ 12) :
    Calls Tryz.prog 6 #[.slice A n cap, .int .i64 (a : Int)] w fun e w' => e = .returned (.bool true) ∧ Below w.heap.size w w' := by
  have HR := Lib.hid hr
  have HWF := Lib.hid hwf
  have hnI : ¬ (300 : Int) < (n : Int) := by omega
  have hnJ : (n : Int) ≤ 300 := by omega
  have ha0 : ¬ (a : Int) < 0 := by omega
  have ha2 : ¬ 12 < (a : Int) := by omega
  obtain ⟨M, hM⟩ : ∃ M, n * a = M := ⟨_, rfl⟩
  have hMI : (n : Int) * (a : Int) = (M : Int) := by rw [← hM]; simp
  have hMb : M ≤ 3600 := by rw [← hM]; exact Nat.le_trans (Nat.mul_le_mul hn ha) (by decide)
  have hMJ : (M : Int) ≤ 3600 := by omega
  have HM := Lib.hid (show n = 0 → M = 0 from fun e => by rw [← hM, e]; simp)
  clear hr hwf hM
  go_enter Tryz.func6, Tryz.ntmps6
  go_wp2_with fail
  refine (nst_new w w (Below.refl _ _)).mono ?_
  rintro e w1 ⟨g, gq, rfl, h1, hb1⟩
  have H1 := Lib.hid h1
  clear h1 hb1
  go_wp2
  go_loopw [8, 6, 7] (fun i u6 u7 wr => ∃ k : Nat, k ≤ M ∧ i = .int .i64 k ∧ ∃ run rows nd, u6 = .int .i64 run ∧ u7 = .int .i64 rows ∧ Cn k nd run rows ∧ Nst w wr g gq nd NoSide) (fun i _ _ _ => M - (intOf i).toNat)
  case atStart => exact ⟨0, Nat.zero_le _, rfl, 0, 0, _, rfl, rfl, cn_new, H1.out⟩
  case round =>
    obtain ⟨k, hk, rfl, run, rows, nd0, rfl, rfl, hc, hn⟩ := hrel
    have HN0 := Lib.hid hn
    have HC0 := Lib.hid hc
    clear hn hc
    by_cases hlt : k < M
    · have hlt' : (k : Int) < (M : Int) := by omega
      have hn0 : 0 < n := by
        rcases Nat.eq_zero_or_pos n with h | h
        · have := HM.out h; omega
        · exact h
      have hnz : ((n : Int) == 0) = false := by simp; omega
      obtain ⟨j, hj⟩ : ∃ j, k % n = j := ⟨_, rfl⟩
      have hjn : j < n := by rw [← hj]; exact Nat.mod_lt _ hn0
      have hjm : (k : Int).tmod (n : Int) = (j : Int) := by rw [← hj]; rfl
      have hjI : (j : Int) < (n : Int) := by omega
      obtain ⟨ad, hAD, -, x0, x1, x2, x3, x4, x5, x6, x7, x8, x9, x10, x11, x12, x13⟩ := (HR.out.below HN0.out.below).at_ hjn
      subst hAD
      have htw := HWF.out j hjn
      obtain ⟨t, ht⟩ : ∃ t, ts j = t := ⟨_, rfl⟩
      rw [ht] at x0 x1 x2 x3 x4 x5 x6 x7 x8 x9 x10 x11 x12 x13 htw
      have HTW := Lib.hid htw
      clear ht htw
      have hadd := HN0.out.add kept_no (below_new wr (.cells (tnc t) 52)) (blkS_new wr (tnc t) 52)
      have HN1 := Lib.hid hadd
      clear hadd
      obtain ⟨gt, hgt⟩ : ∃ gt, wr.heap.size = gt := ⟨_, rfl⟩
      go_upto_if 49 with fail
      clear x0 x1 x2 x3 x4 x5 x6 x7 x8 x9 x10 x11 x12 x13
      obtain ⟨W1, hW1⟩ : ∃ W1, wr.alloc (.cells (tnc t) 52) = W1 := ⟨_, rfl⟩
      rw [hW1] at HN1 ⊢
      rw [hgt] at HN1
      clear hW1 hgt
      have HK1 := Lib.hid (kept_both kept_no (kept_blk gt (tnc t) 52))
      have y := HN1.out.blk
      have y0 := cell_of_row W1 gt 0 _ _ (0, 0) y
      have y1 := cell_of_row W1 gt 1 _ _ (0, 0) y
      have y2 := cell_of_row W1 gt 2 _ _ (0, 0) y
      have y3 := cell_of_row W1 gt 3 _ _ (0, 0) y
      have y4 := cell_of_row W1 gt 4 _ _ (0, 0) y
      have y5 := cell_of_row W1 gt 5 _ _ (0, 0) y
      have y6 := cell_of_row W1 gt 6 _ _ (0, 0) y
      have y7 := cell_of_row W1 gt 7 _ _ (0, 0) y
      have y8 := cell_of_row W1 gt 8 _ _ (0, 0) y
      have y9 := cell_of_row W1 gt 9 _ _ (0, 0) y
      have y10 := cell_of_row W1 gt 10 _ _ (0, 0) y
      have y11 := cell_of_row W1 gt 11 _ _ (0, 0) y
      have y12 := cell_of_row W1 gt 12 _ _ (0, 0) y
      have y13 := cell_of_row W1 gt 13 _ _ (0, 0) y
      go_cut [] (fun wx => ∃ nd, Cn k nd run rows ∧ Nst w wx g gq nd (Both NoSide (BlkS gt (tnc t) 52)))
      case first =>
        as_aux_lemma =>
          obtain ⟨bp, hbp⟩ : ∃ b, t.put = b := ⟨_, rfl⟩
          rw [hbp]
          clear hbp
          cases bp
          · clear y0 y1 y2 y3 y4 y5 y6 y7 y8 y9 y10 y11 y12 y13
            go_wp2
            go_meet
            case rel => exact ⟨_, HC0.out, HN1.out⟩
          · go_wp2_with fail
            clear y0 y1 y2 y3 y4 y5 y6 y7 y8 y9 y10 y11 y12 y13
            refine (nst_put HN1.out HK1.out t.f HC0.out.s.q (by have := HC0.out.s.ql; omega)).mono ?_
            rintro e w3 ⟨rfl, hn⟩
            have HN2 := Lib.hid hn
            clear hn
            go_wp2
            go_meet
            case rel => exact ⟨_, HC0.out.put t.f HTW.out, HN2.out⟩
      case rest =>
        as_aux_lemma =>
          clear y y0 y1 y2 y3 y4 y5 y6 y7 y8 y9 y10 y11 y12 y13 HN0 HC0 HN1
          obtain ⟨nd, hc, hn⟩ := hcut
          have HC := Lib.hid hc
          have HN2 := Lib.hid hn
          clear hc hn
          have HFIT := Lib.hid (HC.out.s.fit (by omega))
          obtain ⟨ct, hct⟩ : ∃ ct, nd.ct = ct := ⟨_, rfl⟩
          obtain ⟨t0, r0, o⟩ := ct
          have HCT := Lib.hid hct
          have hlk := nst_look HN2.out
          rw [show nd.lookV = .agg #[.int .i64 nd.mode, .bool nd.tx, .int .i64 nd.ct.t, .int .i64 nd.ct.r, .bool nd.ct.o, .int .i64 (nd.q.length : Nat)] from rfl, hct] at hlk
          dsimp only at hlk
          have HL := Lib.hid hlk
          clear hlk hct
          go_wp2_with fail
          refine HL.out.mono ?_
          rintro e w3 ⟨rfl, hb3⟩
          have HN3 := Lib.hid (HN2.out.next HK1.out hb3)
          clear hb3 HL HN2
          go_upto_region 15 with fail
          have hadd := HN3.out.add HK1.out (below_new w3 (.cells #[.int .i64 nd.mode, .bool nd.tx, .int .i64 t0, .int .i64 r0, .bool o, .int .i64 (nd.q.length : Nat)] 43)) (blkS_new w3 #[.int .i64 nd.mode, .bool nd.tx, .int .i64 t0, .int .i64 r0, .bool o, .int .i64 (nd.q.length : Nat)] 43)
          have HN4 := Lib.hid hadd
          clear hadd HN3
          obtain ⟨W4, hW4⟩ : ∃ W4, w3.alloc (.cells #[.int .i64 nd.mode, .bool nd.tx, .int .i64 t0, .int .i64 r0, .bool o, .int .i64 (nd.q.length : Nat)] 43) = W4 := ⟨_, rfl⟩
          obtain ⟨ga, hga⟩ : ∃ ga, w3.heap.size = ga := ⟨_, rfl⟩
          rw [hW4, hga] at HN4
          rw [hW4, hga]
          clear hW4 hga
          have HK4 := Lib.hid (kept_both HK1.out (kept_blk ga #[.int .i64 nd.mode, .bool nd.tx, .int .i64 t0, .int .i64 r0, .bool o, .int .i64 (nd.q.length : Nat)] 43))
          have HBT := Lib.hid (fun (W : World) (nd' : Nd) (h : Nst w W g gq nd' (Both (Both NoSide (BlkS gt (tnc t) 52)) (BlkS ga #[.int .i64 nd.mode, .bool nd.tx, .int .i64 t0, .int .i64 r0, .bool o, .int .i64 (nd.q.length : Nat)] 43))) => (h.less (fun F h => h.1)).blk)
          have HBA := Lib.hid (fun (W : World) (nd' : Nd) (h : Nst w W g gq nd' (Both (Both NoSide (BlkS gt (tnc t) 52)) (BlkS ga #[.int .i64 nd.mode, .bool nd.tx, .int .i64 t0, .int .i64 r0, .bool o, .int .i64 (nd.q.length : Nat)] 43))) => h.blk)
          generalize hP : Both (Both NoSide (BlkS gt (tnc t) 52)) (BlkS ga #[.int .i64 nd.mode, .bool nd.tx, .int .i64 t0, .int .i64 r0, .bool o, .int .i64 (nd.q.length : Nat)] 43) = P at *
          clear hP
          obtain ⟨d, hd⟩ : ∃ d, nd.drv = d := ⟨_, rfl⟩
          have HD := Lib.hid (drv_01 HC.out.s)
          have hdr := fun (W : World) (h : Nst w W g gq nd P) => nst_drive h fun h => (HFIT.out.inf h).f
          rw [hd] at HD hdr
          have HDR := Lib.hid hdr
          have HDE := Lib.hid hd
          clear hdr hd
          have HZ := Lib.hid (Tn.z01 (t := t) HD.out)
          obtain ⟨z, hz⟩ : ∃ z, t.z d = z := ⟨_, rfl⟩
          have hlv := fun W => level_any t d W
          rw [hz] at HZ hlv
          have HLV := Lib.hid hlv
          clear hz hlv
          refine wp_region_held_drew (S := fun w' => w'.heap[gt]? = some (.cells (tnc t) 52)) (by kernel_rfl) (HBT.out _ _ (HN4.out.drew HK4.out)) (fun hHeld => ?_)
          refine takeH (i := 0) (v := .agg (tnc t)) rfl (by kernel_rfl) (by kernel_rfl) (by kernel_rfl) (fun _ _ _ h => h) (Or.inl ⟨by rfl, fun w hSw => ?_⟩) hHeld ?_
          · (have q0 := cell_of_row w gt 0 _ _ (0, 0) hSw; have q1 := cell_of_row w gt 1 _ _ (0, 0) hSw; have q2 := cell_of_row w gt 2 _ _ (0, 0) hSw; have q3 := cell_of_row w gt 3 _ _ (0, 0) hSw; have q4 := cell_of_row w gt 4 _ _ (0, 0) hSw; have q5 := cell_of_row w gt 5 _ _ (0, 0) hSw; have q6 := cell_of_row w gt 6 _ _ (0, 0) hSw; have q7 := cell_of_row w gt 7 _ _ (0, 0) hSw; have q8 := cell_of_row w gt 8 _ _ (0, 0) hSw; have q9 := cell_of_row w gt 9 _ _ (0, 0) hSw; have q10 := cell_of_row w gt 10 _ _ (0, 0) hSw; have q11 := cell_of_row w gt 11 _ _ (0, 0) hSw; have q12 := cell_of_row w gt 12 _ _ (0, 0) hSw; have q13 := cell_of_row w gt 13 _ _ (0, 0) hSw; clear hSw; go_simp)
          simp only [Act.put, List.setIfInBounds_toArray, List.set_cons_zero, List.set_cons_succ]
          refine takeH (i := 1) (v := .pointer (some ⟨g, 0, none⟩)) rfl (by kernel_rfl) (by kernel_rfl) (by kernel_rfl) (fun _ _ _ h => h) (Or.inl ⟨by rfl, fun w hSw => ?_⟩) hHeld ?_
          · (clear hSw; go_simp)
          simp only [Act.put, List.setIfInBounds_toArray, List.set_cons_zero, List.set_cons_succ]
          refine wpAnyH_ready (rs := [2]) (by kernel_rfl) (by simp) ?_
          refine AllReadyH.cons rfl (fun K hK => ?_) AllReadyH.nil
          go_simp
          refine (HDR.out _ (HN4.out.drew HK4.out)).mono ?_
          rintro e w4 ⟨rfl, hb4⟩
          have HN5 := Lib.hid (HN4.out.next HK4.out (undrew hb4))
          clear hb4
          clear hHeld
          dsimp only
          refine hK.out _ _ (HBT.out _ _ HN5.out) (fun hHeld => ?_)
          clear hK K
          try simp only [Act.put, List.setIfInBounds_toArray, List.set_cons_zero, List.set_cons_succ]
          refine wpAnyH_ready (rs := [3]) (by kernel_rfl) (by simp) ?_
          refine AllReadyH.cons rfl (fun K hK => ?_) AllReadyH.nil
          go_simp
          refine (HLV.out _).mono ?_
          rintro e w5 ⟨rfl, hb5⟩
          have HN6 := Lib.hid (HN5.out.next HK4.out hb5)
          clear hb5
          clear hHeld
          dsimp only
          refine hK.out _ _ (HBT.out _ _ HN6.out) (fun hHeld => ?_)
          clear hK K
          try simp only [Act.put, List.setIfInBounds_toArray, List.set_cons_zero, List.set_cons_succ]
          refine takeH (i := 4) (v := .int .i64 z) rfl (by kernel_rfl) (by kernel_rfl) (by kernel_rfl) (fun _ _ _ h => h) (Or.inl ⟨by rfl, fun w hSw => ?_⟩) hHeld ?_
          · (clear hSw; go_simp)
          simp only [Act.put, List.setIfInBounds_toArray, List.set_cons_zero, List.set_cons_succ]
          refine wpAnyH_done (by kernel_rfl) ?_ _
          clear hHeld
          have hst := fun (W : World) (h : Nst w W g gq nd P) => nst_step h HK4.out HFIT.out z HZ.out
          obtain ⟨ct', hct'⟩ : ∃ c, (nd.stp z).2.ct = c := ⟨_, rfl⟩
          obtain ⟨t1, r1, o1⟩ := ct'
          obtain ⟨⟨b1, b2, b3⟩, herr, h10, h11, hlen, hmd, hon, hoff⟩ := HC.out.turn HZ.out HCT.out hct'
          obtain ⟨es, hes⟩ : ∃ es, (nd.stp z).1 = es := ⟨_, rfl⟩
          obtain ⟨n1, hn1⟩ : ∃ n1, (nd.stp z).2 = n1 := ⟨_, rfl⟩
          rw [hes, hn1] at hst
          rw [hes] at h10 h11 hlen
          rw [hn1] at hmd hon hoff hct'
          rw [HDE.out] at hoff
          have HST := Lib.hid hst
          have HES := Lib.hid (And.intro h10 h11)
          have HON := Lib.hid hon
          have HOFF := Lib.hid hoff
          have HMD := Lib.hid hmd
          have hck := fun W => kcheck_any ⟨t1, r1, o1⟩ W
          rw [herr] at hck
          have HCK := Lib.hid hck
          have hlk1 := fun (W : World) (h : Nst w W g gq n1 P) => nst_look h
          rw [show n1.lookV = .agg #[.int .i64 n1.mode, .bool n1.tx, .int .i64 n1.ct.t, .int .i64 n1.ct.r, .bool n1.ct.o, .int .i64 (n1.q.length : Nat)] from rfl, hct'] at hlk1
          dsimp only at hlk1
          have HLK1 := Lib.hid hlk1
          have HWA := Lib.hid (fun (W : World) (nd' : Nd) (h : Nst w W g gq nd' P) => (⟨cell_of_row W ga 2 _ _ (0, 0) (HBA.out W nd' h), cell_of_row W ga 3 _ _ (0, 0) (HBA.out W nd' h), cell_of_row W ga 4 _ _ (0, 0) (HBA.out W nd' h)⟩ : W.cell? ⟨ga, 2, none⟩ = some (.int .i64 t0) ∧ W.cell? ⟨ga, 3, none⟩ = some (.int .i64 r0) ∧ W.cell? ⟨ga, 4, none⟩ = some (.bool o)))
          have hrun := HC.out.a
          have hrows := HC.out.b
          clear hst h10 h11 hon hoff hmd hck herr hlk1 hes hn1 hct' HBT HBA HDE HLV
          generalize nd.mode = m0 at *
          cases o
          · obtain ⟨a2, a3, a4⟩ := HWA.out _ _ HN6.out
            go_wp2_with fail
            refine (HST.out _ HN6.out).mono ?_
            rintro e w8 ⟨u, rfl, h5, h6, h7⟩
            obtain ⟨Ae, ce, rfl, -⟩ := h5.len
            have HN8 := Lib.hid h6
            have HE8 := Lib.hid h5
            clear h5 h6 h7 HST a2 a3 a4
            cases o1
            · as_aux_lemma =>
                go_wp2_with fail
                refine (HLK1.out _ HN8.out).mono ?_
                rintro e w9 ⟨rfl, hb9⟩
                have HN9 := Lib.hid (HN8.out.next HK4.out hb9)
                have HE9 := Lib.hid (HE8.out.below hb9)
                clear hb9 HLK1
                go_wp2_with fail
                have hadd := HN9.out.add HK4.out (below_new w9 (.cells #[.int .i64 n1.mode, .bool n1.tx, .int .i64 t1, .int .i64 r1, .bool false, .int .i64 (n1.q.length : Nat)] 43)) (blkS_new w9 #[.int .i64 n1.mode, .bool n1.tx, .int .i64 t1, .int .i64 r1, .bool false, .int .i64 (n1.q.length : Nat)] 43)
                have HE10 := Lib.hid (HE9.out.below (below_new w9 (.cells #[.int .i64 n1.mode, .bool n1.tx, .int .i64 t1, .int .i64 r1, .bool false, .int .i64 (n1.q.length : Nat)] 43)))
                have HN10 := Lib.hid hadd
                clear hadd
                have HK5 := Lib.hid (kept_both HK4.out (kept_blk w9.heap.size #[.int .i64 n1.mode, .bool n1.tx, .int .i64 t1, .int .i64 r1, .bool false, .int .i64 (n1.q.length : Nat)] 43))
                refine (HCK.out _).mono ?_
                rintro e w11 ⟨rfl, hb11⟩
                have HN11 := Lib.hid (HN10.out.next HK5.out hb11)
                have HE11 := Lib.hid (HE10.out.below hb11)
                have hblk := HN11.out.blk
                have c0 := cell_of_row w11 w9.heap.size 0 _ _ (0, 0) hblk
                have c2 := cell_of_row w11 w9.heap.size 2 _ _ (0, 0) hblk
                have c3 := cell_of_row w11 w9.heap.size 3 _ _ (0, 0) hblk
                have c4 := cell_of_row w11 w9.heap.size 4 _ _ (0, 0) hblk
                have HB := Lib.hid hblk
                clear hb11 hblk HCK
                obtain ⟨a2, a3, a4⟩ := HWA.out _ _ (HN11.out.less (fun F h => h.1))
                have hmt : (n1.mode == 10) = false := by simpa using HMD.out
                have hle : ¬ t0 + 8 < t1 := by omega
                go_wp2
                rename World => wo
                go_loopw [17, 15, 16] (fun i u15 u16 wr => wr = wo ∧ ∃ x : Nat, x ≤ es.length ∧ i = .int .i64 x ∧ u15 = .bool (has 11 (es.take x)) ∧ u16 = .bool (has 10 (es.take x))) (fun i _ _ _ => es.length - (intOf i).toNat)
                case atStart => exact ⟨rfl, 0, Nat.zero_le _, rfl, rfl, rfl⟩
                case round =>
                  obtain ⟨rfl, x, hx, rfl, rfl, rfl⟩ := hrel
                  by_cases hxl : x < es.length
                  · have hxI : (x : Int) < (es.length : Int) := by omega
                    have hm11 := has_more (k := 11) hxl
                    have hm10 := has_more (k := 10) hxl
                    obtain ⟨ge, rfl, hce⟩ := HE11.out.at_ hxl
                    have e2 := hce 2 _ rfl
                    obtain ⟨kd2, hkd⟩ : ∃ kd2, (es.getD x (0, Fr.zero)).1 = kd2 := ⟨_, rfl⟩
                    rw [hkd] at hm11 hm10 e2
                    obtain ⟨q1, hq1⟩ : ∃ q1, has 11 (es.take x) = q1 := ⟨_, rfl⟩
                    obtain ⟨q2, hq2⟩ : ∃ q2, has 10 (es.take x) = q2 := ⟨_, rfl⟩
                    rw [hq1] at hm11
                    rw [hq2] at hm10
                    rw [hq1, hq2]
                    have H11 := Lib.hid hm11
                    have H10 := Lib.hid hm10
                    clear hm11 hm10 hq1 hq2 hkd hce
                    cases q1
                    · cases q2
                      · go_wp2
                        go_roundw
                        case rel => exact ⟨by trivial, x + 1, by omega, by go_num, by rw [H11.out]; rfl, by rw [H10.out]; rfl⟩
                        case measure => simp [intOf]; omega
                      · go_wp2
                        go_roundw
                        case rel => exact ⟨by trivial, x + 1, by omega, by go_num, by rw [H11.out]; rfl, by rw [H10.out]; rfl⟩
                        case measure => simp [intOf]; omega
                    · cases q2
                      · go_wp2
                        go_roundw
                        case rel => exact ⟨by trivial, x + 1, by omega, by go_num, by rw [H11.out]; rfl, by rw [H10.out]; rfl⟩
                        case measure => simp [intOf]; omega
                      · go_wp2
                        go_roundw
                        case rel => exact ⟨by trivial, x + 1, by omega, by go_num, by rw [H11.out]; rfl, by rw [H10.out]; rfl⟩
                        case measure => simp [intOf]; omega
                  · have hxI : ¬ (x : Int) < (es.length : Int) := by omega
                    have e11 : has 11 (es.take x) = false := by rw [show x = es.length by omega, List.take_length]; simpa using HES.out.2
                    have e10 : has 10 (es.take x) = false := by rw [show x = es.length by omega, List.take_length]; simpa using HES.out.1
                    rw [e11, e10]
                    clear e11 e10 hx
                    go_wp2
                    go_roundw
                    case rel => exact ⟨k + 1, by omega, by go_num, 0, 0, n1, rfl, rfl, by simpa using HON.out, HN11.out.less fun _ _ => trivial⟩
                    case measure => simp [intOf]; omega
            · as_aux_lemma =>
                go_wp2_with fail
                refine (HLK1.out _ HN8.out).mono ?_
                rintro e w9 ⟨rfl, hb9⟩
                have HN9 := Lib.hid (HN8.out.next HK4.out hb9)
                have HE9 := Lib.hid (HE8.out.below hb9)
                clear hb9 HLK1
                go_wp2_with fail
                have hadd := HN9.out.add HK4.out (below_new w9 (.cells #[.int .i64 n1.mode, .bool n1.tx, .int .i64 t1, .int .i64 r1, .bool true, .int .i64 (n1.q.length : Nat)] 43)) (blkS_new w9 #[.int .i64 n1.mode, .bool n1.tx, .int .i64 t1, .int .i64 r1, .bool true, .int .i64 (n1.q.length : Nat)] 43)
                have HE10 := Lib.hid (HE9.out.below (below_new w9 (.cells #[.int .i64 n1.mode, .bool n1.tx, .int .i64 t1, .int .i64 r1, .bool true, .int .i64 (n1.q.length : Nat)] 43)))
                have HN10 := Lib.hid hadd
                clear hadd
                have HK5 := Lib.hid (kept_both HK4.out (kept_blk w9.heap.size #[.int .i64 n1.mode, .bool n1.tx, .int .i64 t1, .int .i64 r1, .bool true, .int .i64 (n1.q.length : Nat)] 43))
                refine (HCK.out _).mono ?_
                rintro e w11 ⟨rfl, hb11⟩
                have HN11 := Lib.hid (HN10.out.next HK5.out hb11)
                have HE11 := Lib.hid (HE10.out.below hb11)
                have hblk := HN11.out.blk
                have c0 := cell_of_row w11 w9.heap.size 0 _ _ (0, 0) hblk
                have c2 := cell_of_row w11 w9.heap.size 2 _ _ (0, 0) hblk
                have c3 := cell_of_row w11 w9.heap.size 3 _ _ (0, 0) hblk
                have c4 := cell_of_row w11 w9.heap.size 4 _ _ (0, 0) hblk
                have HB := Lib.hid hblk
                clear hb11 hblk HCK
                obtain ⟨a2, a3, a4⟩ := HWA.out _ _ (HN11.out.less (fun F h => h.1))
                have hmt : (n1.mode == 10) = true := by simpa using HMD.out
                have hle : ¬ t0 + 8 < t1 := by omega
                go_wp2
                rename World => wo
                go_loopw [17, 15, 16] (fun i u15 u16 wr => wr = wo ∧ ∃ x : Nat, x ≤ es.length ∧ i = .int .i64 x ∧ u15 = .bool (has 11 (es.take x)) ∧ u16 = .bool (has 10 (es.take x))) (fun i _ _ _ => es.length - (intOf i).toNat)
                case atStart => exact ⟨rfl, 0, Nat.zero_le _, rfl, rfl, rfl⟩
                case round =>
                  obtain ⟨rfl, x, hx, rfl, rfl, rfl⟩ := hrel
                  by_cases hxl : x < es.length
                  · have hxI : (x : Int) < (es.length : Int) := by omega
                    have hm11 := has_more (k := 11) hxl
                    have hm10 := has_more (k := 10) hxl
                    obtain ⟨ge, rfl, hce⟩ := HE11.out.at_ hxl
                    have e2 := hce 2 _ rfl
                    obtain ⟨kd2, hkd⟩ : ∃ kd2, (es.getD x (0, Fr.zero)).1 = kd2 := ⟨_, rfl⟩
                    rw [hkd] at hm11 hm10 e2
                    obtain ⟨q1, hq1⟩ : ∃ q1, has 11 (es.take x) = q1 := ⟨_, rfl⟩
                    obtain ⟨q2, hq2⟩ : ∃ q2, has 10 (es.take x) = q2 := ⟨_, rfl⟩
                    rw [hq1] at hm11
                    rw [hq2] at hm10
                    rw [hq1, hq2]
                    have H11 := Lib.hid hm11
                    have H10 := Lib.hid hm10
                    clear hm11 hm10 hq1 hq2 hkd hce
                    cases q1
                    · cases q2
                      · go_wp2
                        go_roundw
                        case rel => exact ⟨by trivial, x + 1, by omega, by go_num, by rw [H11.out]; rfl, by rw [H10.out]; rfl⟩
                        case measure => simp [intOf]; omega
                      · go_wp2
                        go_roundw
                        case rel => exact ⟨by trivial, x + 1, by omega, by go_num, by rw [H11.out]; rfl, by rw [H10.out]; rfl⟩
                        case measure => simp [intOf]; omega
                    · cases q2
                      · go_wp2
                        go_roundw
                        case rel => exact ⟨by trivial, x + 1, by omega, by go_num, by rw [H11.out]; rfl, by rw [H10.out]; rfl⟩
                        case measure => simp [intOf]; omega
                      · go_wp2
                        go_roundw
                        case rel => exact ⟨by trivial, x + 1, by omega, by go_num, by rw [H11.out]; rfl, by rw [H10.out]; rfl⟩
                        case measure => simp [intOf]; omega
                  · have hxI : ¬ (x : Int) < (es.length : Int) := by omega
                    have e11 : has 11 (es.take x) = false := by rw [show x = es.length by omega, List.take_length]; simpa using HES.out.2
                    have e10 : has 10 (es.take x) = true := by rw [show x = es.length by omega, List.take_length]; simpa using HES.out.1
                    rw [e11, e10]
                    clear e11 e10 hx
                    go_wp2
                    go_roundw
                    case rel => exact ⟨k + 1, by omega, by go_num, 0, 0, n1, rfl, rfl, by simpa using HON.out, HN11.out.less fun _ _ => trivial⟩
                    case measure => simp [intOf]; omega
          · obtain ⟨a2, a3, a4⟩ := HWA.out _ _ HN6.out
            obtain ⟨hd1, HWAY⟩ := HOFF.out rfl
            have HWAYS := Lib.hid HWAY
            clear HWAY
            subst hd1
            go_wp2_with fail
            refine (HDR.out _ HN6.out).mono ?_
            rintro e w7 ⟨rfl, hb7⟩
            have HN7 := Lib.hid (HN6.out.next HK4.out hb7)
            clear hb7 a2 a3 a4
            obtain ⟨a2, a3, a4⟩ := HWA.out _ _ HN7.out
            go_wp2_with fail
            refine (HST.out _ HN7.out).mono ?_
            rintro e w8 ⟨u, rfl, h5, h6, h7⟩
            obtain ⟨Ae, ce, rfl, -⟩ := h5.len
            have HN8 := Lib.hid h6
            have HE8 := Lib.hid h5
            clear h5 h6 h7 HST a2 a3 a4
            cases o1
            · as_aux_lemma =>
                go_wp2_with fail
                refine (HLK1.out _ HN8.out).mono ?_
                rintro e w9 ⟨rfl, hb9⟩
                have HN9 := Lib.hid (HN8.out.next HK4.out hb9)
                have HE9 := Lib.hid (HE8.out.below hb9)
                clear hb9 HLK1
                go_wp2_with fail
                have hadd := HN9.out.add HK4.out (below_new w9 (.cells #[.int .i64 n1.mode, .bool n1.tx, .int .i64 t1, .int .i64 r1, .bool false, .int .i64 (n1.q.length : Nat)] 43)) (blkS_new w9 #[.int .i64 n1.mode, .bool n1.tx, .int .i64 t1, .int .i64 r1, .bool false, .int .i64 (n1.q.length : Nat)] 43)
                have HE10 := Lib.hid (HE9.out.below (below_new w9 (.cells #[.int .i64 n1.mode, .bool n1.tx, .int .i64 t1, .int .i64 r1, .bool false, .int .i64 (n1.q.length : Nat)] 43)))
                have HN10 := Lib.hid hadd
                clear hadd
                have HK5 := Lib.hid (kept_both HK4.out (kept_blk w9.heap.size #[.int .i64 n1.mode, .bool n1.tx, .int .i64 t1, .int .i64 r1, .bool false, .int .i64 (n1.q.length : Nat)] 43))
                refine (HCK.out _).mono ?_
                rintro e w11 ⟨rfl, hb11⟩
                have HN11 := Lib.hid (HN10.out.next HK5.out hb11)
                have HE11 := Lib.hid (HE10.out.below hb11)
                have hblk := HN11.out.blk
                have c0 := cell_of_row w11 w9.heap.size 0 _ _ (0, 0) hblk
                have c2 := cell_of_row w11 w9.heap.size 2 _ _ (0, 0) hblk
                have c3 := cell_of_row w11 w9.heap.size 3 _ _ (0, 0) hblk
                have c4 := cell_of_row w11 w9.heap.size 4 _ _ (0, 0) hblk
                have HB := Lib.hid hblk
                clear hb11 hblk HCK
                obtain ⟨a2, a3, a4⟩ := HWA.out _ _ (HN11.out.less (fun F h => h.1))
                have hmt : (n1.mode == 10) = false := by simpa using HMD.out
                have hle : ¬ t0 + 8 < t1 := by omega
                go_wp2
                rename World => wo
                go_loopw [17, 15, 16] (fun i u15 u16 wr => wr = wo ∧ ∃ x : Nat, x ≤ es.length ∧ i = .int .i64 x ∧ u15 = .bool (has 11 (es.take x)) ∧ u16 = .bool (has 10 (es.take x))) (fun i _ _ _ => es.length - (intOf i).toNat)
                case atStart => exact ⟨rfl, 0, Nat.zero_le _, rfl, rfl, rfl⟩
                case round =>
                  obtain ⟨rfl, x, hx, rfl, rfl, rfl⟩ := hrel
                  by_cases hxl : x < es.length
                  · have hxI : (x : Int) < (es.length : Int) := by omega
                    have hm11 := has_more (k := 11) hxl
                    have hm10 := has_more (k := 10) hxl
                    obtain ⟨ge, rfl, hce⟩ := HE11.out.at_ hxl
                    have e2 := hce 2 _ rfl
                    obtain ⟨kd2, hkd⟩ : ∃ kd2, (es.getD x (0, Fr.zero)).1 = kd2 := ⟨_, rfl⟩
                    rw [hkd] at hm11 hm10 e2
                    obtain ⟨q1, hq1⟩ : ∃ q1, has 11 (es.take x) = q1 := ⟨_, rfl⟩
                    obtain ⟨q2, hq2⟩ : ∃ q2, has 10 (es.take x) = q2 := ⟨_, rfl⟩
                    rw [hq1] at hm11
                    rw [hq2] at hm10
                    rw [hq1, hq2]
                    have H11 := Lib.hid hm11
                    have H10 := Lib.hid hm10
                    clear hm11 hm10 hq1 hq2 hkd hce
                    cases q1
                    · cases q2
                      · go_wp2
                        go_roundw
                        case rel => exact ⟨by trivial, x + 1, by omega, by go_num, by rw [H11.out]; rfl, by rw [H10.out]; rfl⟩
                        case measure => simp [intOf]; omega
                      · go_wp2
                        go_roundw
                        case rel => exact ⟨by trivial, x + 1, by omega, by go_num, by rw [H11.out]; rfl, by rw [H10.out]; rfl⟩
                        case measure => simp [intOf]; omega
                    · cases q2
                      · go_wp2
                        go_roundw
                        case rel => exact ⟨by trivial, x + 1, by omega, by go_num, by rw [H11.out]; rfl, by rw [H10.out]; rfl⟩
                        case measure => simp [intOf]; omega
                      · go_wp2
                        go_roundw
                        case rel => exact ⟨by trivial, x + 1, by omega, by go_num, by rw [H11.out]; rfl, by rw [H10.out]; rfl⟩
                        case measure => simp [intOf]; omega
                  · have hxI : ¬ (x : Int) < (es.length : Int) := by omega
                    have e11 : has 11 (es.take x) = true := by rw [show x = es.length by omega, List.take_length]; simpa using HES.out.2
                    have e10 : has 10 (es.take x) = false := by rw [show x = es.length by omega, List.take_length]; simpa using HES.out.1
                    rw [e11, e10]
                    clear e11 e10 hx
                    rcases HWAYS.out with ⟨-, -, e3, -⟩ | ⟨rfl, rfl, -, rfl, h11, hr, hc⟩
                    · simp at e3
                    · have hcs := cneqZ
                      have hrb : (rows + 1 == 128) = true := by simpa using hr
                      have h1b : (run + 1 == 11) = true := by simpa using h11
                      rw [← hr] at hc
                      have HC2 := Lib.hid hc
                      clear hc hr h11 HWAYS
                      go_wp2
                      go_roundw
                      case rel => exact ⟨k + 1, by omega, by go_num, 0, rows + 1, n1, rfl, rfl, HC2.out, HN11.out.less fun _ _ => trivial⟩
                      case measure => simp [intOf]; omega
            · as_aux_lemma =>
                go_wp2_with fail
                refine (HLK1.out _ HN8.out).mono ?_
                rintro e w9 ⟨rfl, hb9⟩
                have HN9 := Lib.hid (HN8.out.next HK4.out hb9)
                have HE9 := Lib.hid (HE8.out.below hb9)
                clear hb9 HLK1
                go_wp2_with fail
                have hadd := HN9.out.add HK4.out (below_new w9 (.cells #[.int .i64 n1.mode, .bool n1.tx, .int .i64 t1, .int .i64 r1, .bool true, .int .i64 (n1.q.length : Nat)] 43)) (blkS_new w9 #[.int .i64 n1.mode, .bool n1.tx, .int .i64 t1, .int .i64 r1, .bool true, .int .i64 (n1.q.length : Nat)] 43)
                have HE10 := Lib.hid (HE9.out.below (below_new w9 (.cells #[.int .i64 n1.mode, .bool n1.tx, .int .i64 t1, .int .i64 r1, .bool true, .int .i64 (n1.q.length : Nat)] 43)))
                have HN10 := Lib.hid hadd
                clear hadd
                have HK5 := Lib.hid (kept_both HK4.out (kept_blk w9.heap.size #[.int .i64 n1.mode, .bool n1.tx, .int .i64 t1, .int .i64 r1, .bool true, .int .i64 (n1.q.length : Nat)] 43))
                refine (HCK.out _).mono ?_
                rintro e w11 ⟨rfl, hb11⟩
                have HN11 := Lib.hid (HN10.out.next HK5.out hb11)
                have HE11 := Lib.hid (HE10.out.below hb11)
                have hblk := HN11.out.blk
                have c0 := cell_of_row w11 w9.heap.size 0 _ _ (0, 0) hblk
                have c2 := cell_of_row w11 w9.heap.size 2 _ _ (0, 0) hblk
                have c3 := cell_of_row w11 w9.heap.size 3 _ _ (0, 0) hblk
                have c4 := cell_of_row w11 w9.heap.size 4 _ _ (0, 0) hblk
                have HB := Lib.hid hblk
                clear hb11 hblk HCK
                obtain ⟨a2, a3, a4⟩ := HWA.out _ _ (HN11.out.less (fun F h => h.1))
                have hmt : (n1.mode == 10) = true := by simpa using HMD.out
                have hle : ¬ t0 + 8 < t1 := by omega
                go_wp2
                rename World => wo
                go_loopw [17, 15, 16] (fun i u15 u16 wr => wr = wo ∧ ∃ x : Nat, x ≤ es.length ∧ i = .int .i64 x ∧ u15 = .bool (has 11 (es.take x)) ∧ u16 = .bool (has 10 (es.take x))) (fun i _ _ _ => es.length - (intOf i).toNat)
                case atStart => exact ⟨rfl, 0, Nat.zero_le _, rfl, rfl, rfl⟩
                case round =>
                  obtain ⟨rfl, x, hx, rfl, rfl, rfl⟩ := hrel
                  by_cases hxl : x < es.length
                  · have hxI : (x : Int) < (es.length : Int) := by omega
                    have hm11 := has_more (k := 11) hxl
                    have hm10 := has_more (k := 10) hxl
                    obtain ⟨ge, rfl, hce⟩ := HE11.out.at_ hxl
                    have e2 := hce 2 _ rfl
                    obtain ⟨kd2, hkd⟩ : ∃ kd2, (es.getD x (0, Fr.zero)).1 = kd2 := ⟨_, rfl⟩
                    rw [hkd] at hm11 hm10 e2
                    obtain ⟨q1, hq1⟩ : ∃ q1, has 11 (es.take x) = q1 := ⟨_, rfl⟩
                    obtain ⟨q2, hq2⟩ : ∃ q2, has 10 (es.take x) = q2 := ⟨_, rfl⟩
                    rw [hq1] at hm11
                    rw [hq2] at hm10
                    rw [hq1, hq2]
                    have H11 := Lib.hid hm11
                    have H10 := Lib.hid hm10
                    clear hm11 hm10 hq1 hq2 hkd hce
                    cases q1
                    · cases q2
                      · go_wp2
                        go_roundw
                        case rel => exact ⟨by trivial, x + 1, by omega, by go_num, by rw [H11.out]; rfl, by rw [H10.out]; rfl⟩
                        case measure => simp [intOf]; omega
                      · go_wp2
                        go_roundw
                        case rel => exact ⟨by trivial, x + 1, by omega, by go_num, by rw [H11.out]; rfl, by rw [H10.out]; rfl⟩
                        case measure => simp [intOf]; omega
                    · cases q2
                      · go_wp2
                        go_roundw
                        case rel => exact ⟨by trivial, x + 1, by omega, by go_num, by rw [H11.out]; rfl, by rw [H10.out]; rfl⟩
                        case measure => simp [intOf]; omega
                      · go_wp2
                        go_roundw
                        case rel => exact ⟨by trivial, x + 1, by omega, by go_num, by rw [H11.out]; rfl, by rw [H10.out]; rfl⟩
                        case measure => simp [intOf]; omega
                  · have hxI : ¬ (x : Int) < (es.length : Int) := by omega
                    have e11 : has 11 (es.take x) = false := by rw [show x = es.length by omega, List.take_length]; simpa using HES.out.2
                    have e10 : has 10 (es.take x) = false := by rw [show x = es.length by omega, List.take_length]; simpa using HES.out.1
                    rw [e11, e10]
                    clear e11 e10 hx
                    rcases HWAYS.out with ⟨e1, e2, -, hw⟩ | ⟨-, -, e3, -⟩
                    · subst e1
                      subst e2
                      have hcs := cneqS t1 r1
                      rcases hw with ⟨rfl, hr, hc⟩ | ⟨rfl, h11, hr, hc⟩ | ⟨rfl, h11, hr, hc⟩
                      · have hrb : (rows == 128) = false := by simpa using hr
                        have HC2 := Lib.hid hc
                        clear hc hr HWAYS
                        go_wp2
                        go_roundw
                        case rel => exact ⟨k + 1, by omega, by go_num, 0, rows, n1, rfl, rfl, HC2.out, HN11.out.less fun _ _ => trivial⟩
                        case measure => simp [intOf]; omega
                      · have hrb : (rows == 128) = false := by simpa using hr
                        have h1b : (run + 1 == 11) = false := by simpa using h11
                        have HC2 := Lib.hid hc
                        clear hc hr h11 HWAYS
                        go_wp2
                        go_roundw
                        case rel => exact ⟨k + 1, by omega, by go_num, run + 1, rows, n1, rfl, rfl, HC2.out, HN11.out.less fun _ _ => trivial⟩
                        case measure => simp [intOf]; omega
                      · have hrb : (rows + 1 == 128) = false := by simpa using hr
                        have h1b : (run + 1 == 11) = true := by simpa using h11
                        have HC2 := Lib.hid hc
                        clear hc hr h11 HWAYS
                        go_wp2
                        go_roundw
                        case rel => exact ⟨k + 1, by omega, by go_num, 0, rows + 1, n1, rfl, rfl, HC2.out, HN11.out.less fun _ _ => trivial⟩
                        case measure => simp [intOf]; omega
                    · simp at e3
    · have hlt' : ¬ (k : Int) < (M : Int) := by omega
      have HB0 := Lib.hid HN0.out.below
      go_wp2_with fail
      refine (awake10 _).mono ?_
      rintro e w8 ⟨rfl, hb8⟩
      have HB8 := Lib.hid (nxt HB0.out hb8)
      clear hb8
      go_wp2
      go_ret
      exact ⟨rfl, HB8.out⟩
theorem counts_any (A : Option Addr) (n c : Nat) (ts : Nat → Tn) (a : Int) (w : World) (hr : Tl w A n ts) (hwf : ∀ i, i < n → (ts i).f.wf) :
    Calls Tryz.prog 6 #[.slice A n c, .int .i64 a] w fun e w' => e = .returned (.bool true) ∧ Below w.heap.size w w' := by
  by_cases h : 300 < n ∨ a < 0 ∨ 12 < a
  · exact counts_out A n c a w h
  · obtain ⟨x, rfl⟩ := Int.eq_ofNat_of_zero_le (show 0 ≤ a by omega)
    exact counts_in A n c ts x w hr hwf (by omega) (by omega)
end Go.Proofs.YtenfcbmeokenaaaGreat
