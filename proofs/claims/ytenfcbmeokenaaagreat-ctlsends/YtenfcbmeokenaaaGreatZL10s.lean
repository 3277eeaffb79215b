/- The walk of the law CtlSends. -/
import Derived.Test.YtenfcbmeokenaaaGreatZL10v
import Derived.Test.YtenfcbmeokenaaaGreatZMF
namespace Go.Proofs.YtenfcbmeokenaaaGreat
set_option maxRecDepth 20000
open Go.RowKit
set_option linter.unusedSimpArgs false

set_option maxHeartbeats 400000 in
theorem sends_out (A : Option Addr) (n c : Nat) (w : World) (h : 5 < n) :
    Calls Tryz.prog 4 #[.slice A n c] w fun e w' => e = .returned (.bool true) ∧ Below w.heap.size w w' := by
  have g1 : (5 : Int) < (n : Int) := by omega
  clear h
  go_enter Tryz.func4, Tryz.ntmps4
  go_wp2_with fail
  refine (awake10 _).mono ?_
  rintro e w1 ⟨rfl, hb1⟩
  go_wp2
  go_ret
  exact ⟨rfl, hb1⟩
theorem Bxa.below {w w' : World} {p : Addr} {f : Fr} (h : Bxa w p f) (hl : p.block < w.heap.size) (hb : Below w.heap.size w w') : Bxa w' p f := by
  obtain ⟨c0, c1, c2, c3, c4, c5, c6, c7, c8, c9, c10, c11⟩ := h
  exact ⟨(hb.cell hl).trans c0, (hb.cell (p := ⟨p.block, p.off + 1, none⟩) hl).trans c1, (hb.cell (p := ⟨p.block, p.off + 2, none⟩) hl).trans c2, (hb.cell (p := ⟨p.block, p.off + 3, none⟩) hl).trans c3, (hb.cell (p := ⟨p.block, p.off + 4, none⟩) hl).trans c4, (hb.cell (p := ⟨p.block, p.off + 5, none⟩) hl).trans c5, (hb.cell (p := ⟨p.block, p.off + 6, none⟩) hl).trans c6, (hb.cell (p := ⟨p.block, p.off + 7, none⟩) hl).trans c7, (hb.cell (p := ⟨p.block, p.off + 8, none⟩) hl).trans c8, (hb.cell (p := ⟨p.block, p.off + 9, none⟩) hl).trans c9, (hb.cell (p := ⟨p.block, p.off + 10, none⟩) hl).trans c10, (hb.cell (p := ⟨p.block, p.off + 11, none⟩) hl).trans c11⟩
theorem FrsS.fl {B n cap : Nat} {A : Option Addr} {gs : List Fr} {F : Nat → Prop} {w : World} (h : FrsS B (.slice A n cap) gs w F) : Fl w A gs.length (fun j => gs.getD j Fr.zero) := by
  obtain ⟨A', c', e, hf, _⟩ := h.1.fl
  injection e with e1 _ _
  subst e1
  exact hf
theorem drop_cons10 {gs : List Fr} {i : Nat} (h : i < gs.length) : gs.drop i = gs.getD i Fr.zero :: gs.drop (i + 1) := by
  rw [getD_get h]; exact (List.getElem_cons_drop h).symm

set_option maxHeartbeats 8000000 in
set_option maxRecDepth 100000 in
theorem sends_in (A : Option Addr) (n cap : Nat) (fs : Nat → Fr) (w : World) (hr : Fl w A n fs) (hwf : ∀ i, i < n → (fs i).wf) (hn : n ≤ 5) :
    Calls Tryz.prog 4 #[.slice A n cap] w fun e w' => e = .returned (.bool true) ∧ Below w.heap.size w w' := by
  have HR := Lib.hid hr
  have HWF := Lib.hid hwf
  have hnI : ¬ (5 : Int) < (n : Int) := by omega
  have hn5 : (n : Int) ≤ 5 := by omega
  have HN5N := Lib.hid hn
  clear hr hwf hn
  go_enter Tryz.func4, Tryz.ntmps4
  go_wp2
  go_loopw [3] (fun i wr => ∃ j : Nat, j ≤ n ∧ i = .int .i64 j ∧ (∀ x, x < j → (fs x).may = true) ∧ Below w.heap.size w wr) (fun i _ => n - (intOf i).toNat)
  case atStart => exact ⟨0, Nat.zero_le _, rfl, fun x hx => by omega, Below.refl _ _⟩
  case round =>
    obtain ⟨j, hj, rfl, hmj, hb⟩ := hrel
    have HMJ := Lib.hid hmj
    have HB := Lib.hid hb
    clear hmj hb
    by_cases hlt : j < n
    · have hlt' : (j : Int) < (n : Int) := by omega
      obtain ⟨ad, rfl, hl, c0, c1, c2, c3, c4, c5, c6, c7, c8, c9, c10, c11⟩ := (HR.out.below HB.out).at_ hlt
      have hck := fun W => fcheck_any (fs j) W
      cases hmay : (fs j).may
      · rw [show (fs j).err = 14 from by unfold Fr.err; rw [hmay]; rfl] at hck
        go_wp2_with fail
        refine (hck _).mono ?_
        rintro e w3 ⟨rfl, hb3⟩
        have HB3 := Lib.hid (nxt HB.out hb3)
        clear hb3
        go_wp2_with fail
        refine (awake10 _).mono ?_
        rintro e w4 ⟨rfl, hb4⟩
        have HB4 := Lib.hid (nxt HB3.out hb4)
        clear hb4
        go_wp2
        go_ret
        exact ⟨rfl, HB4.out⟩
      · rw [show (fs j).err = 0 from by unfold Fr.err; rw [hmay]; rfl] at hck
        have HMY := Lib.hid hmay
        go_wp2_with fail
        refine (hck _).mono ?_
        rintro e w3 ⟨rfl, hb3⟩
        have HB3 := Lib.hid (nxt HB.out hb3)
        clear hb3
        go_wp2
        go_roundw
        case rel => exact ⟨j + 1, by omega, by go_num, fun x hx => by
          rcases Nat.lt_or_ge x j with h | h
          · exact HMJ.out x h
          · rw [show x = j by omega]; exact HMY.out, HB3.out⟩
        case measure => simp [intOf]; omega
    · have hltI : ¬ (j : Int) < (n : Int) := by omega
      have HMA := Lib.hid (show ∀ x, x < n → (fs x).may = true from fun x hx => HMJ.out x (by omega))
      clear HMJ hlt hj
      rename World => wa
      go_wp2_with fail
      refine (joined_any A n cap fs wa (HR.out.below HB.out) (by have := HN5N.out; omega) HMA.out).mono ?_
      rintro e w1 ⟨g, gq, rfl, h1⟩
      have H1 := Lib.hid (h1.rebase HB.out)
      clear h1
      obtain ⟨gs, hgs⟩ : ∃ gs, putsN fs n = gs := ⟨_, rfl⟩
      have HGL := Lib.hid (show gs.length = n by rw [← hgs]; exact putsN_len fs n)
      have HGO := Lib.hid (show Okq gs by rw [← hgs]; exact putsN_ok fs n HMA.out)
      have HGF := Lib.hid (show Okfs gs from fun x hx => by
        rw [← hgs] at hx
        obtain ⟨i, h2, rfl⟩ := putsN_mem fs n x hx
        exact ⟨HMA.out i h2, HWF.out i h2⟩)
      rw [hgs] at H1
      clear hgs
      have HG16 := Lib.hid (show gs.length ≤ 16 by rw [HGL.out]; have := HN5N.out; omega)
      go_wp2_with fail
      refine (nst_queue H1.out (show gs.length ≤ 1000000 by have := HG16.out; omega)).mono ?_
      rintro e w2 ⟨uq, rfl, hq, hb2⟩
      have hq' : Fown w2 w1.heap.size uq gs := hq
      have h3 := H1.out.add (Q := FrsS w.heap.size uq gs) kept_no hb2 (fun F hF => ⟨hq'.base H1.out.below.size, fun k hk hf => by have a := (World.ownsRow.lt hq' k hk).1; have b := hF k hf; omega⟩)
      obtain ⟨Aq, cq, huq, hfl, hcq⟩ := hq'.fl
      rw [HGL.out] at huq hcq
      subst huq
      have H3 := Lib.hid h3
      have HK := Lib.hid (kept_both kept_no (kept_frs w.heap.size (.slice Aq n cq) gs))
      clear h3 hq hq' hb2 hfl hcq H1
      generalize hP : Both NoSide (FrsS w.heap.size (.slice Aq n cq) gs) = P at *
      have HP := Lib.hid hP
      clear hP
      have HFL := Lib.hid (show ∀ W nd, Nst w W g gq nd P → Fl W Aq n (fun j => gs.getD j Fr.zero) from fun W nd h => by
        obtain ⟨F, hF⟩ := h.side
        rw [← HP.out] at hF
        have := hF.2.fl
        rwa [HGL.out] at this)
      go_wp2
      go_loopw [6] (fun i wr => ∃ j : Nat, j ≤ n ∧ i = .int .i64 j ∧ Nst w wr g gq (idt (gs.drop j) (decide (0 < j))) P) (fun i _ => n - (intOf i).toNat)
      case atStart => exact ⟨0, Nat.zero_le _, rfl, H3.out⟩
      case round =>
        obtain ⟨i, hi, rfl, hn⟩ := hrel
        have HN := Lib.hid hn
        clear hn
        by_cases hlt : i < n
        · have hlt' : (i : Int) < (n : Int) := by omega
          obtain ⟨aq, rfl, hl, c0, c1, c2, c3, c4, c5, c6, c7, c8, c9, c10, c11⟩ := (HFL.out _ _ HN.out).at_ hlt
          obtain ⟨f, hf⟩ : ∃ f, gs.getD i Fr.zero = f := ⟨_, rfl⟩
          have hdr := drop_cons10 (gs := gs) (i := i) (by rw [HGL.out]; exact hlt)
          rw [hf] at hdr
          have HDR := Lib.hid hdr
          have HFE := Lib.hid hf
          have hfm := HGF.out f (by rw [← hf, getD_get (by rw [HGL.out]; exact hlt)]; exact List.getElem_mem _)
          have HM := Lib.hid hfm.1
          have HFW := Lib.hid hfm.2
          have HN2 := Lib.hid (HN.out.to (by rw [hdr]))
          rw [hf] at c0 c1 c2 c3 c4 c5 c6 c7 c8 c9 c10 c11
          clear hdr hf hfm HN
          obtain ⟨rest, hrest⟩ : ∃ rest, gs.drop (i + 1) = rest := ⟨_, rfl⟩
          have HRS := Lib.hid hrest
          rw [hrest] at HN2 HDR
          clear hrest
          obtain ⟨bt, hbt⟩ : ∃ bt, decide (0 < i) = bt := ⟨_, rfl⟩
          rw [hbt] at HN2
          clear hbt
          have hreg : ∃ q : Prop, q := ⟨True, trivial⟩
          clear hreg
          by_cases hi0 : i = 0
          · have HI0 := Lib.hid hi0
            clear hi0
            go_wp2_with fail
            refine wp_region_held_drew (S := fun _ => True) (by kernel_rfl) (trivial) (fun hHeld => ?_)
            refine takeH (i := 0) (v := .int .i64 i) rfl (by kernel_rfl) (by kernel_rfl) (by kernel_rfl) (fun _ _ _ h => h) (Or.inl ⟨by rfl, fun w hSw => ?_⟩) hHeld ?_
            · (clear hSw; go_simp)
            simp only [Act.put, List.setIfInBounds_toArray, List.set_cons_zero, List.set_cons_succ]
            refine takeH (i := 1) (v := .bool false) rfl (by kernel_rfl) (by kernel_rfl) (by kernel_rfl) (fun _ _ _ h => h) (Or.inl ⟨by rfl, fun w hSw => ?_⟩) hHeld ?_
            · (have h00 := HI0.out; clear hSw; go_simp)
            simp only [Act.put, List.setIfInBounds_toArray, List.set_cons_zero, List.set_cons_succ]
            refine takeH (i := 2) (v := .bool false) rfl (by kernel_rfl) (by kernel_rfl) (by kernel_rfl) (fun _ _ _ h => h) (Or.inl ⟨by rfl, fun w hSw => ?_⟩) hHeld ?_
            · (clear hSw; go_simp)
            simp only [Act.put, List.setIfInBounds_toArray, List.set_cons_zero, List.set_cons_succ]
            refine takeH (i := 3) (v := undef) rfl (by kernel_rfl) (by kernel_rfl) (by kernel_rfl) (fun _ _ _ h => h) (Or.inr ⟨by rfl, rfl⟩) hHeld ?_
            simp only [Act.put, List.setIfInBounds_toArray, List.set_cons_zero, List.set_cons_succ]
            refine takeH (i := 4) (v := undef) rfl (by kernel_rfl) (by kernel_rfl) (by kernel_rfl) (fun _ _ _ h => h) (Or.inr ⟨by rfl, rfl⟩) hHeld ?_
            simp only [Act.put, List.setIfInBounds_toArray, List.set_cons_zero, List.set_cons_succ]
            refine takeH (i := 5) (v := undef) rfl (by kernel_rfl) (by kernel_rfl) (by kernel_rfl) (fun _ _ _ h => h) (Or.inr ⟨by rfl, rfl⟩) hHeld ?_
            simp only [Act.put, List.setIfInBounds_toArray, List.set_cons_zero, List.set_cons_succ]
            refine takeH (i := 6) (v := undef) rfl (by kernel_rfl) (by kernel_rfl) (by kernel_rfl) (fun _ _ _ h => h) (Or.inr ⟨by rfl, rfl⟩) hHeld ?_
            simp only [Act.put, List.setIfInBounds_toArray, List.set_cons_zero, List.set_cons_succ]
            refine takeH (i := 7) (v := undef) rfl (by kernel_rfl) (by kernel_rfl) (by kernel_rfl) (fun _ _ _ h => h) (Or.inr ⟨by rfl, rfl⟩) hHeld ?_
            simp only [Act.put, List.setIfInBounds_toArray, List.set_cons_zero, List.set_cons_succ]
            refine takeH (i := 8) (v := undef) rfl (by kernel_rfl) (by kernel_rfl) (by kernel_rfl) (fun _ _ _ h => h) (Or.inr ⟨by rfl, rfl⟩) hHeld ?_
            simp only [Act.put, List.setIfInBounds_toArray, List.set_cons_zero, List.set_cons_succ]
            refine takeH (i := 9) (v := undef) rfl (by kernel_rfl) (by kernel_rfl) (by kernel_rfl) (fun _ _ _ h => h) (Or.inr ⟨by rfl, rfl⟩) hHeld ?_
            simp only [Act.put, List.setIfInBounds_toArray, List.set_cons_zero, List.set_cons_succ]
            refine takeH (i := 10) (v := undef) rfl (by kernel_rfl) (by kernel_rfl) (by kernel_rfl) (fun _ _ _ h => h) (Or.inr ⟨by rfl, rfl⟩) hHeld ?_
            simp only [Act.put, List.setIfInBounds_toArray, List.set_cons_zero, List.set_cons_succ]
            refine takeH (i := 11) (v := undef) rfl (by kernel_rfl) (by kernel_rfl) (by kernel_rfl) (fun _ _ _ h => h) (Or.inr ⟨by rfl, rfl⟩) hHeld ?_
            simp only [Act.put, List.setIfInBounds_toArray, List.set_cons_zero, List.set_cons_succ]
            refine takeH (i := 12) (v := undef) rfl (by kernel_rfl) (by kernel_rfl) (by kernel_rfl) (fun _ _ _ h => h) (Or.inr ⟨by rfl, rfl⟩) hHeld ?_
            simp only [Act.put, List.setIfInBounds_toArray, List.set_cons_zero, List.set_cons_succ]
            refine takeH (i := 13) (v := .bool false) rfl (by kernel_rfl) (by kernel_rfl) (by kernel_rfl) (fun _ _ _ h => h) (Or.inl ⟨by rfl, fun w hSw => ?_⟩) hHeld ?_
            · (clear hSw; go_simp)
            simp only [Act.put, List.setIfInBounds_toArray, List.set_cons_zero, List.set_cons_succ]
            refine wpAnyH_done (by kernel_rfl) ?_ _
            clear hHeld
            have HNX := Lib.hid (HN2.out.drew HK.out)
            go_wp2_with fail
            refine (encode_ok f false _ HM.out HFW.out).mono ?_
            rintro e w5 ⟨v, rfl, ho, hb5⟩
            have h6 := HNX.out.add HK.out hb5 (rowS_new ho HNX.out.below.size)
            obtain ⟨B, cp, hv, hi5, hc⟩ := ho.il2
            obtain ⟨m, hml⟩ : ∃ m, (enc f false).length = m := ⟨_, rfl⟩
            have HML := Lib.hid (show m = sl_ f + 10 by rw [← hml, enc_ln])
            have hm310 : m ≤ 310 := by rw [← hml]; exact enc_le HM.out false
            rw [hml] at hv hi5 hc
            obtain ⟨ar, rfl, -, -⟩ := hi5.2 (by have := HML.out; omega)
            subst hv
            have H6 := Lib.hid h6
            have HKR := Lib.hid (kept_both HK.out (kept_row w.heap.size (.slice (some ar) m cp) (enc f false)))
            have HEL := Lib.hid hml
            clear h6 ho hb5 hi5 hc hml c0 c1 c2 c3 c4 c5 c6 c7 c8 c9 c10 c11 hl
            generalize hR : Both P (RowS w.heap.size (.slice (some ar) m cp) (enc f false)) = R at *
            have HRR := Lib.hid hR
            clear hR
            have HNP := Lib.hid (show ∀ W nd, Nst w W g gq nd R → Nst w W g gq nd P from fun W nd h => h.less fun F hF => by rw [← HRR.out] at hF; exact hF.1)
            have HROW := Lib.hid (show ∀ W nd k, k < m → Nst w W g gq nd R → W.cell? (ar.add k) = some (.int .i64 ((enc f false).getD k 0)) from fun W nd k hk h => by
              obtain ⟨F, hF⟩ := h.side
              rw [← HRR.out] at hF
              exact hF.2.cell (j := k) (by rw [HEL.out]; exact hk))
            have hmI : (m : Int) ≤ 310 := by omega
            have hm10 : (10 : Int) ≤ (m : Int) := by have := HML.out; omega
            have HQ1 := Lib.hid (show Okfs (f :: rest) by rw [← HDR.out]; exact fun x hx => HGF.out x (List.mem_of_mem_drop hx))
            have HQ2 := Lib.hid (show (f :: rest).length ≤ 16 by rw [← HDR.out, List.length_drop]; have := HG16.out; omega)
            clear HNX H3 HN2
            rename World => wo
            go_wp2
            go_loopw [10] (fun i wr => ∃ k : Nat, k ≤ m + 3 ∧ i = .int .i64 k ∧ ∃ nd, TxS f rest bt k nd ∧ Nst w wr g gq nd R) (fun i _ => m + 3 - (intOf i).toNat)
            case atStart => exact ⟨0, by omega, rfl, _, .inl ⟨by have := HML.out; omega, .inl ⟨rfl, rfl⟩⟩, H6.out⟩
            case round =>
              obtain ⟨k, hk, rfl, nd, hz, hn⟩ := hrel
              have HN3 := Lib.hid hn
              clear hn
              by_cases hkt : k < m + 3
              · have hkt' : (k : Int) < (m : Int) + 3 := by omega
                obtain ⟨hlv, hfit, hdrv, es, n', hst, hza, hes, hes9⟩ := txs_step HM.out HQ1.out HQ2.out hz (by have := HML.out; omega)
                have HLV := Lib.hid hlv
                have HFIT := Lib.hid hfit
                have hd := nst_drive HN3.out fun h => (HFIT.out.inf h).f
                rw [hdrv] at hd
                have HD := Lib.hid hd
                have HST := Lib.hid hst
                have HZA := Lib.hid hza
                have HES := Lib.hid (And.intro hes hes9)
                have HLE := Lib.hid (show lv3 f k = if k < sl_ f + 10 then (if k = sl_ f + 1 then 0 else (enc f false).getD k 0) else 1 by
                  unfold lv3
                  split
                  · rename_i h
                    rw [enc_two h true]; rfl
                  · rfl)
                clear hlv hfit hdrv hd hst hza hes hes9 hz
                generalize lv3 f k = z at *
                by_cases hkm0 : k < m
                · have hkmI : (k : Int) < (m : Int) := by omega
                  by_cases hsl : k = sl_ f + 1
                  · have hs1 : ((k : Int) == (m : Int) - 9) = true := by have := HML.out; simp; omega
                    have hl1 : ((k : Int) == (m : Int) - 1) = false := by have := HML.out; simp; omega
                    rw [if_pos (by have := HML.out; omega)] at HD HLE
                    have r0 := HROW.out _ _ k hkm0 HN3.out
                    rw [if_pos (by have := HML.out; omega)] at HLE
                    obtain ⟨d, hd⟩ : ∃ d, (enc f false).getD k 0 = d := ⟨_, rfl⟩
                    rw [hd] at HD r0
                    clear hd
                    obtain rfl : z = 0 := HLE.out
                    obtain rfl := HES.out.1 (by have := HML.out; omega)
                    clear hsl
                    go_wp2_with fail
                    refine HD.out.mono ?_
                    rintro e w4 ⟨rfl, hb4⟩
                    have HN4 := Lib.hid (HN3.out.next HKR.out hb4)
                    have hst := nst_step HN4.out HKR.out HFIT.out 0 (.inl rfl)
                    rw [HST.out] at hst
                    have HS := Lib.hid hst
                    clear hst HD hb4
                    go_wp2_with fail
                    refine HS.out.mono ?_
                    rintro e w5 ⟨u, rfl, h5, h6, h7⟩
                    have HN5 := Lib.hid h6
                    obtain ⟨Ae, ce, rfl, -⟩ := h5.len
                    clear h5 h6 h7 HS
                    go_wp2
                    go_quiet (fail)
                    go_wp2
                    go_roundw
                    case rel => exact ⟨k + 1, by omega, by go_num, n', HZA.out, HN5.out.next HKR.out (belowN (Below.refl _ _) _)⟩
                    case measure => simp [intOf]; omega
                  by_cases h9 : k = sl_ f + 9
                  · have hs1 : ((k : Int) == (m : Int) - 9) = false := by have := HML.out; simp; omega
                    have hl1 : ((k : Int) == (m : Int) - 1) = true := by have := HML.out; simp; omega
                    rw [if_pos (by have := HML.out; omega)] at HD HLE
                    have r0 := HROW.out _ _ k hkm0 HN3.out
                    rw [if_neg (by have := HML.out; omega)] at HLE
                    rw [← HLE.out] at HD r0
                    obtain rfl := HES.out.2 (by have := HML.out; omega)
                    clear hsl h9
                    go_wp2_with fail
                    refine HD.out.mono ?_
                    rintro e w4 ⟨rfl, hb4⟩
                    have HN4 := Lib.hid (HN3.out.next HKR.out hb4)
                    have hst := nst_step HN4.out HKR.out HFIT.out z HLV.out
                    rw [HST.out] at hst
                    have HS := Lib.hid hst
                    clear hst HD hb4
                    go_wp2_with fail
                    refine HS.out.mono ?_
                    rintro e w5 ⟨u, rfl, h5, h6, h7⟩
                    have HN5 := Lib.hid h6
                    obtain ⟨ge, ce, rfl, hce⟩ := h5.shape (by simp)
                    have k2 : w5.cell? ⟨ge, 2, none⟩ = some (.int .i64 1) := hce 2 _ rfl
                    have k3 : w5.cell? ⟨ge, 3, none⟩ = some (.int .i64 f.id) := hce 3 _ rfl
                    have k4 : w5.cell? ⟨ge, 4, none⟩ = some (.bool f.ext) := hce 4 _ rfl
                    have k5 : w5.cell? ⟨ge, 5, none⟩ = some (.bool f.rtr) := hce 5 _ rfl
                    have k6 : w5.cell? ⟨ge, 6, none⟩ = some (.int .i64 f.len) := hce 6 _ rfl
                    have k7 : w5.cell? ⟨ge, 7, none⟩ = some (.int .u8 (f.d 0)) := hce 7 _ rfl
                    have k8 : w5.cell? ⟨ge, 8, none⟩ = some (.int .u8 (f.d 1)) := hce 8 _ rfl
                    have k9 : w5.cell? ⟨ge, 9, none⟩ = some (.int .u8 (f.d 2)) := hce 9 _ rfl
                    have k10 : w5.cell? ⟨ge, 10, none⟩ = some (.int .u8 (f.d 3)) := hce 10 _ rfl
                    have k11 : w5.cell? ⟨ge, 11, none⟩ = some (.int .u8 (f.d 4)) := hce 11 _ rfl
                    have k12 : w5.cell? ⟨ge, 12, none⟩ = some (.int .u8 (f.d 5)) := hce 12 _ rfl
                    have k13 : w5.cell? ⟨ge, 13, none⟩ = some (.int .u8 (f.d 6)) := hce 13 _ rfl
                    have k14 : w5.cell? ⟨ge, 14, none⟩ = some (.int .u8 (f.d 7)) := hce 14 _ rfl
                    obtain ⟨ad2, e2, hl2, d0, d1, d2, d3, d4, d5, d6, d7, d8, d9, d10, d11⟩ := (HFL.out _ _ (HNP.out _ _ HN5.out)).at_ hlt
                    injection e2 with e2
                    subst e2
                    rw [HFE.out] at d0 d1 d2 d3 d4 d5 d6 d7 d8 d9 d10 d11
                    have hfe := fun W => fneq f f W
                    rw [same_refl] at hfe
                    clear h5 h6 h7 HS hce
                    go_wp2
                    go_quiet (fail)
                    go_wp2
                    go_roundw
                    case rel => exact ⟨k + 1, by omega, by go_num, n', HZA.out, HN5.out.next HKR.out (belowN (Below.refl _ _) _)⟩
                    case measure => simp [intOf]; omega
                  have hs1 : ((k : Int) == (m : Int) - 9) = false := by have := HML.out; simp; omega
                  have hl1 : ((k : Int) == (m : Int) - 1) = false := by have := HML.out; simp; omega
                  rw [if_pos (by have := HML.out; omega)] at HD HLE
                  have r0 := HROW.out _ _ k hkm0 HN3.out
                  rw [if_neg (by have := HML.out; omega)] at HLE
                  rw [← HLE.out] at HD r0
                  obtain rfl := HES.out.1 (by have := HML.out; omega)
                  clear hsl h9
                  go_wp2_with fail
                  refine HD.out.mono ?_
                  rintro e w4 ⟨rfl, hb4⟩
                  have HN4 := Lib.hid (HN3.out.next HKR.out hb4)
                  have hst := nst_step HN4.out HKR.out HFIT.out z HLV.out
                  rw [HST.out] at hst
                  have HS := Lib.hid hst
                  clear hst HD hb4
                  go_wp2_with fail
                  refine HS.out.mono ?_
                  rintro e w5 ⟨u, rfl, h5, h6, h7⟩
                  have HN5 := Lib.hid h6
                  obtain ⟨Ae, ce, rfl, -⟩ := h5.len
                  clear h5 h6 h7 HS
                  go_wp2
                  go_quiet (fail)
                  go_wp2
                  go_roundw
                  case rel => exact ⟨k + 1, by omega, by go_num, n', HZA.out, HN5.out.next HKR.out (belowN (Below.refl _ _) _)⟩
                  case measure => simp [intOf]; omega
                · have hkmI : ¬ (k : Int) < (m : Int) := by omega
                  have hs1 : ((k : Int) == (m : Int) - 9) = false := by have := HML.out; simp; omega
                  have hl1 : ((k : Int) == (m : Int) - 1) = false := by have := HML.out; simp; omega
                  rw [if_neg (by have := HML.out; omega)] at HD HLE
                  obtain rfl : z = 1 := HLE.out
                  obtain rfl := HES.out.1 (by have := HML.out; omega)
                  go_wp2_with fail
                  refine HD.out.mono ?_
                  rintro e w4 ⟨rfl, hb4⟩
                  have HN4 := Lib.hid (HN3.out.next HKR.out hb4)
                  have hst := nst_step HN4.out HKR.out HFIT.out 1 (.inr rfl)
                  rw [HST.out] at hst
                  have HS := Lib.hid hst
                  clear hst HD hb4
                  go_wp2_with fail
                  refine HS.out.mono ?_
                  rintro e w5 ⟨u, rfl, h5, h6, h7⟩
                  have HN5 := Lib.hid h6
                  obtain ⟨Ae, ce, rfl, -⟩ := h5.len
                  clear h5 h6 h7 HS
                  go_wp2
                  go_quiet (fail)
                  go_wp2
                  go_roundw
                  case rel => exact ⟨k + 1, by omega, by go_num, n', HZA.out, HN5.out.next HKR.out (belowN (Below.refl _ _) _)⟩
                  case measure => simp [intOf]; omega
              · have hkt' : ¬ (k : Int) < (m : Int) + 3 := by omega
                have hnd : nd = idt rest true := by
                  have := HML.out
                  rcases hz with h | h | h
                  · omega
                  · omega
                  · exact h.2
                have H7 := Lib.hid (HNP.out _ _ (HN3.out.to hnd))
                clear HN3 H6 hz hnd hkt
                go_wp2
                go_roundw
                case rel => exact ⟨i + 1, by omega, by go_num, by rw [HRS.out, decide_eq_true (Nat.succ_pos i)]; exact H7.out⟩
                case measure => simp [intOf]; omega
          · have hi0I : (0 : Int) < (i : Int) := by omega
            obtain ⟨j, hjj⟩ : ∃ j, i = j + 1 := ⟨i - 1, by omega⟩
            have hjn : j < n := by omega
            have hjnI : (j : Int) < (n : Int) := by omega
            have hij : (i : Int) - 1 = (j : Int) := by omega
            obtain ⟨p, hp⟩ : ∃ p, gs.getD j Fr.zero = p := ⟨_, rfl⟩
            have hpm := HGF.out p (by rw [← hp, getD_get (by rw [HGL.out]; exact hjn)]; exact List.getElem_mem _)
            have HMP := Lib.hid hpm.1
            have HLS := Lib.hid (show decide (f.plc < p.plc) = false from decide_eq_false (by
              have h := upq_get HGO.out.1 (a := j) (b := i) (by omega) (by rw [HGL.out]; exact hlt)
              rw [HFE.out, hp] at h
              omega))
            obtain ⟨aq2, e2, hl2, hbp⟩ := (HFL.out _ _ HN2.out).at_ hjn
            injection e2 with e2
            subst e2
            rw [hp] at hbp
            have HB1 := Lib.hid (show Bxa wr (aq.add (i * 12)) f ∧ Bxa wr (aq.add (j * 12)) p ∧ (aq.add (i * 12)).block < wr.heap.size ∧ (aq.add (j * 12)).block < wr.heap.size from ⟨⟨c0, c1, c2, c3, c4, c5, c6, c7, c8, c9, c10, c11⟩, hbp, by rw [block_of_add]; exact hl, by rw [block_of_add]; exact hl⟩)
            clear c0 c1 c2 c3 c4 c5 c6 c7 c8 c9 c10 c11 hjj hp hpm hbp hl2
            go_wp2_with fail
            refine wp_region_held_drew (S := fun w' => Bxa w' (aq.add (i * 12)) f ∧ Bxa w' (aq.add (j * 12)) p) (by kernel_rfl) (⟨HB1.out.1, HB1.out.2.1⟩) (fun hHeld => ?_)
            refine takeH (i := 0) (v := .int .i64 i) rfl (by kernel_rfl) (by kernel_rfl) (by kernel_rfl) (fun _ _ _ h => h) (Or.inl ⟨by rfl, fun w hSw => ?_⟩) hHeld ?_
            · (clear hSw; go_simp)
            simp only [Act.put, List.setIfInBounds_toArray, List.set_cons_zero, List.set_cons_succ]
            refine takeH (i := 1) (v := .bool true) rfl (by kernel_rfl) (by kernel_rfl) (by kernel_rfl) (fun _ _ _ h => h) (Or.inl ⟨by rfl, fun w hSw => ?_⟩) hHeld ?_
            · (have h00 : 0 < i := (by omega); clear hSw; go_simp)
            simp only [Act.put, List.setIfInBounds_toArray, List.set_cons_zero, List.set_cons_succ]
            refine takeH (i := 2) (v := .bool true) rfl (by kernel_rfl) (by kernel_rfl) (by kernel_rfl) (fun _ _ _ h => h) (Or.inl ⟨by rfl, fun w hSw => ?_⟩) hHeld ?_
            · (clear hSw; go_simp)
            simp only [Act.put, List.setIfInBounds_toArray, List.set_cons_zero, List.set_cons_succ]
            refine takeH (i := 3) (v := .slice (some aq) n cq) rfl (by kernel_rfl) (by kernel_rfl) (by kernel_rfl) (fun _ _ _ h => h) (Or.inl ⟨by rfl, fun w hSw => ?_⟩) hHeld ?_
            · (clear hSw; go_simp)
            simp only [Act.put, List.setIfInBounds_toArray, List.set_cons_zero, List.set_cons_succ]
            refine takeH (i := 4) (v := .int .i64 i) rfl (by kernel_rfl) (by kernel_rfl) (by kernel_rfl) (fun _ _ _ h => h) (Or.inl ⟨by rfl, fun w hSw => ?_⟩) hHeld ?_
            · (clear hSw; go_simp)
            simp only [Act.put, List.setIfInBounds_toArray, List.set_cons_zero, List.set_cons_succ]
            refine takeH (i := 5) (v := .pointer (some (aq.add (i * 12)))) rfl (by kernel_rfl) (by kernel_rfl) (by kernel_rfl) (fun _ _ _ h => h) (Or.inl ⟨by rfl, fun w hSw => ?_⟩) hHeld ?_
            · (have hlx := hlt; clear hSw; go_simp)
            simp only [Act.put, List.setIfInBounds_toArray, List.set_cons_zero, List.set_cons_succ]
            refine takeH (i := 6) (v := f.val) rfl (by kernel_rfl) (by kernel_rfl) (by kernel_rfl) (fun _ _ _ h => h) (Or.inl ⟨by rfl, fun w hSw => ?_⟩) hHeld ?_
            · (obtain ⟨x0, x1, x2, x3, x4, x5, x6, x7, x8, x9, x10, x11⟩ := hSw.1; clear hSw; go_simp)
            simp only [Act.put, List.setIfInBounds_toArray, List.set_cons_zero, List.set_cons_succ]
            refine takeH (i := 7) (v := .slice (some aq) n cq) rfl (by kernel_rfl) (by kernel_rfl) (by kernel_rfl) (fun _ _ _ h => h) (Or.inl ⟨by rfl, fun w hSw => ?_⟩) hHeld ?_
            · (clear hSw; go_simp)
            simp only [Act.put, List.setIfInBounds_toArray, List.set_cons_zero, List.set_cons_succ]
            refine takeH (i := 8) (v := .int .i64 i) rfl (by kernel_rfl) (by kernel_rfl) (by kernel_rfl) (fun _ _ _ h => h) (Or.inl ⟨by rfl, fun w hSw => ?_⟩) hHeld ?_
            · (clear hSw; go_simp)
            simp only [Act.put, List.setIfInBounds_toArray, List.set_cons_zero, List.set_cons_succ]
            refine takeH (i := 9) (v := .int .i64 j) rfl (by kernel_rfl) (by kernel_rfl) (by kernel_rfl) (fun _ _ _ h => h) (Or.inl ⟨by rfl, fun w hSw => ?_⟩) hHeld ?_
            · (have hwj := hij; have hwj2 : IntKind.i64.wrap (j : Int) = (j : Int) := (IntWalk.i64_in _ (by omega)); clear hSw; go_simp)
            simp only [Act.put, List.setIfInBounds_toArray, List.set_cons_zero, List.set_cons_succ]
            refine takeH (i := 10) (v := .pointer (some (aq.add (j * 12)))) rfl (by kernel_rfl) (by kernel_rfl) (by kernel_rfl) (fun _ _ _ h => h) (Or.inl ⟨by rfl, fun w hSw => ?_⟩) hHeld ?_
            · (have hlx := hjn; clear hSw; go_simp)
            simp only [Act.put, List.setIfInBounds_toArray, List.set_cons_zero, List.set_cons_succ]
            refine takeH (i := 11) (v := p.val) rfl (by kernel_rfl) (by kernel_rfl) (by kernel_rfl) (fun _ _ _ h => h) (Or.inl ⟨by rfl, fun w hSw => ?_⟩) hHeld ?_
            · (obtain ⟨x0, x1, x2, x3, x4, x5, x6, x7, x8, x9, x10, x11⟩ := hSw.2; clear hSw; go_simp)
            simp only [Act.put, List.setIfInBounds_toArray, List.set_cons_zero, List.set_cons_succ]
            refine wpAnyH_ready (rs := [12]) (by kernel_rfl) (by simp) ?_
            refine AllReadyH.cons rfl (fun K hK => ?_) AllReadyH.nil
            go_simp
            refine (less_yes f p _ HM.out HMP.out).mono ?_
            rintro e w5 ⟨rfl, hb5⟩
            rw [HLS.out]
            have HNX := Lib.hid (HN2.out.next HK.out (undrew hb5))
            have HBX := Lib.hid (And.intro (HB1.out.1.below HB1.out.2.2.1 (undrew hb5)) (HB1.out.2.1.below HB1.out.2.2.2 (undrew hb5)))
            clear hb5
            clear hHeld
            dsimp only
            refine hK.out _ _ (HBX.out) (fun hHeld => ?_)
            clear hK K
            try simp only [Act.put, List.setIfInBounds_toArray, List.set_cons_zero, List.set_cons_succ]
            refine takeH (i := 13) (v := .bool false) rfl (by kernel_rfl) (by kernel_rfl) (by kernel_rfl) (fun _ _ _ h => h) (Or.inl ⟨by rfl, fun w hSw => ?_⟩) hHeld ?_
            · (clear hSw; go_simp)
            simp only [Act.put, List.setIfInBounds_toArray, List.set_cons_zero, List.set_cons_succ]
            refine wpAnyH_done (by kernel_rfl) ?_ _
            clear hHeld
            obtain ⟨c0, c1, c2, c3, c4, c5, c6, c7, c8, c9, c10, c11⟩ := HBX.out.1
            go_wp2_with fail
            refine (encode_ok f false _ HM.out HFW.out).mono ?_
            rintro e w5 ⟨v, rfl, ho, hb5⟩
            have h6 := HNX.out.add HK.out hb5 (rowS_new ho HNX.out.below.size)
            obtain ⟨B, cp, hv, hi5, hc⟩ := ho.il2
            obtain ⟨m, hml⟩ : ∃ m, (enc f false).length = m := ⟨_, rfl⟩
            have HML := Lib.hid (show m = sl_ f + 10 by rw [← hml, enc_ln])
            have hm310 : m ≤ 310 := by rw [← hml]; exact enc_le HM.out false
            rw [hml] at hv hi5 hc
            obtain ⟨ar, rfl, -, -⟩ := hi5.2 (by have := HML.out; omega)
            subst hv
            have H6 := Lib.hid h6
            have HKR := Lib.hid (kept_both HK.out (kept_row w.heap.size (.slice (some ar) m cp) (enc f false)))
            have HEL := Lib.hid hml
            clear h6 ho hb5 hi5 hc hml c0 c1 c2 c3 c4 c5 c6 c7 c8 c9 c10 c11 hl
            generalize hR : Both P (RowS w.heap.size (.slice (some ar) m cp) (enc f false)) = R at *
            have HRR := Lib.hid hR
            clear hR
            have HNP := Lib.hid (show ∀ W nd, Nst w W g gq nd R → Nst w W g gq nd P from fun W nd h => h.less fun F hF => by rw [← HRR.out] at hF; exact hF.1)
            have HROW := Lib.hid (show ∀ W nd k, k < m → Nst w W g gq nd R → W.cell? (ar.add k) = some (.int .i64 ((enc f false).getD k 0)) from fun W nd k hk h => by
              obtain ⟨F, hF⟩ := h.side
              rw [← HRR.out] at hF
              exact hF.2.cell (j := k) (by rw [HEL.out]; exact hk))
            have hmI : (m : Int) ≤ 310 := by omega
            have hm10 : (10 : Int) ≤ (m : Int) := by have := HML.out; omega
            have HQ1 := Lib.hid (show Okfs (f :: rest) by rw [← HDR.out]; exact fun x hx => HGF.out x (List.mem_of_mem_drop hx))
            have HQ2 := Lib.hid (show (f :: rest).length ≤ 16 by rw [← HDR.out, List.length_drop]; have := HG16.out; omega)
            clear HNX H3 HN2
            rename World => wo
            go_wp2
            go_loopw [10] (fun i wr => ∃ k : Nat, k ≤ m + 3 ∧ i = .int .i64 k ∧ ∃ nd, TxS f rest bt k nd ∧ Nst w wr g gq nd R) (fun i _ => m + 3 - (intOf i).toNat)
            case atStart => exact ⟨0, by omega, rfl, _, .inl ⟨by have := HML.out; omega, .inl ⟨rfl, rfl⟩⟩, H6.out⟩
            case round =>
              obtain ⟨k, hk, rfl, nd, hz, hn⟩ := hrel
              have HN3 := Lib.hid hn
              clear hn
              by_cases hkt : k < m + 3
              · have hkt' : (k : Int) < (m : Int) + 3 := by omega
                obtain ⟨hlv, hfit, hdrv, es, n', hst, hza, hes, hes9⟩ := txs_step HM.out HQ1.out HQ2.out hz (by have := HML.out; omega)
                have HLV := Lib.hid hlv
                have HFIT := Lib.hid hfit
                have hd := nst_drive HN3.out fun h => (HFIT.out.inf h).f
                rw [hdrv] at hd
                have HD := Lib.hid hd
                have HST := Lib.hid hst
                have HZA := Lib.hid hza
                have HES := Lib.hid (And.intro hes hes9)
                have HLE := Lib.hid (show lv3 f k = if k < sl_ f + 10 then (if k = sl_ f + 1 then 0 else (enc f false).getD k 0) else 1 by
                  unfold lv3
                  split
                  · rename_i h
                    rw [enc_two h true]; rfl
                  · rfl)
                clear hlv hfit hdrv hd hst hza hes hes9 hz
                generalize lv3 f k = z at *
                by_cases hkm0 : k < m
                · have hkmI : (k : Int) < (m : Int) := by omega
                  by_cases hsl : k = sl_ f + 1
                  · have hs1 : ((k : Int) == (m : Int) - 9) = true := by have := HML.out; simp; omega
                    have hl1 : ((k : Int) == (m : Int) - 1) = false := by have := HML.out; simp; omega
                    rw [if_pos (by have := HML.out; omega)] at HD HLE
                    have r0 := HROW.out _ _ k hkm0 HN3.out
                    rw [if_pos (by have := HML.out; omega)] at HLE
                    obtain ⟨d, hd⟩ : ∃ d, (enc f false).getD k 0 = d := ⟨_, rfl⟩
                    rw [hd] at HD r0
                    clear hd
                    obtain rfl : z = 0 := HLE.out
                    obtain rfl := HES.out.1 (by have := HML.out; omega)
                    clear hsl
                    go_wp2_with fail
                    refine HD.out.mono ?_
                    rintro e w4 ⟨rfl, hb4⟩
                    have HN4 := Lib.hid (HN3.out.next HKR.out hb4)
                    have hst := nst_step HN4.out HKR.out HFIT.out 0 (.inl rfl)
                    rw [HST.out] at hst
                    have HS := Lib.hid hst
                    clear hst HD hb4
                    go_wp2_with fail
                    refine HS.out.mono ?_
                    rintro e w5 ⟨u, rfl, h5, h6, h7⟩
                    have HN5 := Lib.hid h6
                    obtain ⟨Ae, ce, rfl, -⟩ := h5.len
                    clear h5 h6 h7 HS
                    go_wp2
                    go_quiet (fail)
                    go_wp2
                    go_roundw
                    case rel => exact ⟨k + 1, by omega, by go_num, n', HZA.out, HN5.out.next HKR.out (belowN (Below.refl _ _) _)⟩
                    case measure => simp [intOf]; omega
                  by_cases h9 : k = sl_ f + 9
                  · have hs1 : ((k : Int) == (m : Int) - 9) = false := by have := HML.out; simp; omega
                    have hl1 : ((k : Int) == (m : Int) - 1) = true := by have := HML.out; simp; omega
                    rw [if_pos (by have := HML.out; omega)] at HD HLE
                    have r0 := HROW.out _ _ k hkm0 HN3.out
                    rw [if_neg (by have := HML.out; omega)] at HLE
                    rw [← HLE.out] at HD r0
                    obtain rfl := HES.out.2 (by have := HML.out; omega)
                    clear hsl h9
                    go_wp2_with fail
                    refine HD.out.mono ?_
                    rintro e w4 ⟨rfl, hb4⟩
                    have HN4 := Lib.hid (HN3.out.next HKR.out hb4)
                    have hst := nst_step HN4.out HKR.out HFIT.out z HLV.out
                    rw [HST.out] at hst
                    have HS := Lib.hid hst
                    clear hst HD hb4
                    go_wp2_with fail
                    refine HS.out.mono ?_
                    rintro e w5 ⟨u, rfl, h5, h6, h7⟩
                    have HN5 := Lib.hid h6
                    obtain ⟨ge, ce, rfl, hce⟩ := h5.shape (by simp)
                    have k2 : w5.cell? ⟨ge, 2, none⟩ = some (.int .i64 1) := hce 2 _ rfl
                    have k3 : w5.cell? ⟨ge, 3, none⟩ = some (.int .i64 f.id) := hce 3 _ rfl
                    have k4 : w5.cell? ⟨ge, 4, none⟩ = some (.bool f.ext) := hce 4 _ rfl
                    have k5 : w5.cell? ⟨ge, 5, none⟩ = some (.bool f.rtr) := hce 5 _ rfl
                    have k6 : w5.cell? ⟨ge, 6, none⟩ = some (.int .i64 f.len) := hce 6 _ rfl
                    have k7 : w5.cell? ⟨ge, 7, none⟩ = some (.int .u8 (f.d 0)) := hce 7 _ rfl
                    have k8 : w5.cell? ⟨ge, 8, none⟩ = some (.int .u8 (f.d 1)) := hce 8 _ rfl
                    have k9 : w5.cell? ⟨ge, 9, none⟩ = some (.int .u8 (f.d 2)) := hce 9 _ rfl
                    have k10 : w5.cell? ⟨ge, 10, none⟩ = some (.int .u8 (f.d 3)) := hce 10 _ rfl
                    have k11 : w5.cell? ⟨ge, 11, none⟩ = some (.int .u8 (f.d 4)) := hce 11 _ rfl
                    have k12 : w5.cell? ⟨ge, 12, none⟩ = some (.int .u8 (f.d 5)) := hce 12 _ rfl
                    have k13 : w5.cell? ⟨ge, 13, none⟩ = some (.int .u8 (f.d 6)) := hce 13 _ rfl
                    have k14 : w5.cell? ⟨ge, 14, none⟩ = some (.int .u8 (f.d 7)) := hce 14 _ rfl
                    obtain ⟨ad2, e2, hl2, d0, d1, d2, d3, d4, d5, d6, d7, d8, d9, d10, d11⟩ := (HFL.out _ _ (HNP.out _ _ HN5.out)).at_ hlt
                    injection e2 with e2
                    subst e2
                    rw [HFE.out] at d0 d1 d2 d3 d4 d5 d6 d7 d8 d9 d10 d11
                    have hfe := fun W => fneq f f W
                    rw [same_refl] at hfe
                    clear h5 h6 h7 HS hce
                    go_wp2
                    go_quiet (fail)
                    go_wp2
                    go_roundw
                    case rel => exact ⟨k + 1, by omega, by go_num, n', HZA.out, HN5.out.next HKR.out (belowN (Below.refl _ _) _)⟩
                    case measure => simp [intOf]; omega
                  have hs1 : ((k : Int) == (m : Int) - 9) = false := by have := HML.out; simp; omega
                  have hl1 : ((k : Int) == (m : Int) - 1) = false := by have := HML.out; simp; omega
                  rw [if_pos (by have := HML.out; omega)] at HD HLE
                  have r0 := HROW.out _ _ k hkm0 HN3.out
                  rw [if_neg (by have := HML.out; omega)] at HLE
                  rw [← HLE.out] at HD r0
                  obtain rfl := HES.out.1 (by have := HML.out; omega)
                  clear hsl h9
                  go_wp2_with fail
                  refine HD.out.mono ?_
                  rintro e w4 ⟨rfl, hb4⟩
                  have HN4 := Lib.hid (HN3.out.next HKR.out hb4)
                  have hst := nst_step HN4.out HKR.out HFIT.out z HLV.out
                  rw [HST.out] at hst
                  have HS := Lib.hid hst
                  clear hst HD hb4
                  go_wp2_with fail
                  refine HS.out.mono ?_
                  rintro e w5 ⟨u, rfl, h5, h6, h7⟩
                  have HN5 := Lib.hid h6
                  obtain ⟨Ae, ce, rfl, -⟩ := h5.len
                  clear h5 h6 h7 HS
                  go_wp2
                  go_quiet (fail)
                  go_wp2
                  go_roundw
                  case rel => exact ⟨k + 1, by omega, by go_num, n', HZA.out, HN5.out.next HKR.out (belowN (Below.refl _ _) _)⟩
                  case measure => simp [intOf]; omega
                · have hkmI : ¬ (k : Int) < (m : Int) := by omega
                  have hs1 : ((k : Int) == (m : Int) - 9) = false := by have := HML.out; simp; omega
                  have hl1 : ((k : Int) == (m : Int) - 1) = false := by have := HML.out; simp; omega
                  rw [if_neg (by have := HML.out; omega)] at HD HLE
                  obtain rfl : z = 1 := HLE.out
                  obtain rfl := HES.out.1 (by have := HML.out; omega)
                  go_wp2_with fail
                  refine HD.out.mono ?_
                  rintro e w4 ⟨rfl, hb4⟩
                  have HN4 := Lib.hid (HN3.out.next HKR.out hb4)
                  have hst := nst_step HN4.out HKR.out HFIT.out 1 (.inr rfl)
                  rw [HST.out] at hst
                  have HS := Lib.hid hst
                  clear hst HD hb4
                  go_wp2_with fail
                  refine HS.out.mono ?_
                  rintro e w5 ⟨u, rfl, h5, h6, h7⟩
                  have HN5 := Lib.hid h6
                  obtain ⟨Ae, ce, rfl, -⟩ := h5.len
                  clear h5 h6 h7 HS
                  go_wp2
                  go_quiet (fail)
                  go_wp2
                  go_roundw
                  case rel => exact ⟨k + 1, by omega, by go_num, n', HZA.out, HN5.out.next HKR.out (belowN (Below.refl _ _) _)⟩
                  case measure => simp [intOf]; omega
              · have hkt' : ¬ (k : Int) < (m : Int) + 3 := by omega
                have hnd : nd = idt rest true := by
                  have := HML.out
                  rcases hz with h | h | h
                  · omega
                  · omega
                  · exact h.2
                have H7 := Lib.hid (HNP.out _ _ (HN3.out.to hnd))
                clear HN3 H6 hz hnd hkt
                go_wp2
                go_roundw
                case rel => exact ⟨i + 1, by omega, by go_num, by rw [HRS.out, decide_eq_true (Nat.succ_pos i)]; exact H7.out⟩
                case measure => simp [intOf]; omega
        · have hltI : ¬ (i : Int) < (n : Int) := by omega
          have hH := HN.out.to (show idt (gs.drop i) (decide (0 < i)) = idt [] (decide (0 < i)) by rw [List.drop_of_length_le (by rw [HGL.out]; omega)])
          obtain ⟨bt, hbt⟩ : ∃ bt, decide (0 < i) = bt := ⟨_, rfl⟩
          rw [hbt] at hH
          have H4 := Lib.hid hH
          have hlk := nst_look H4.out
          rw [show (idt [] bt).lookV = .agg #[.int .i64 1, .bool bt, .int .i64 0, .int .i64 0, .bool false, .int .i64 0] from rfl] at hlk
          have HL := Lib.hid hlk
          have hcq := ceq0
          clear hH hbt HN H3 hlk hlt hi
          go_wp2_with fail
          refine HL.out.mono ?_
          rintro e w8 ⟨rfl, hb8⟩
          have hbb : Below w8.heap.size w8 (w8.alloc (.cells #[.int .i64 1, .bool bt, .int .i64 0, .int .i64 0, .bool false, .int .i64 0] 43)) := (Below.refl _ _).alloc (Nat.le_refl _) _
          have HN9 := Lib.hid (H4.out.next HK.out (nxt hb8 hbb))
          have hd := nst_drive HN9.out fun h => by cases h
          rw [show (idt [] bt).drv = 1 from rfl] at hd
          have HD := Lib.hid hd
          clear hb8 hbb HL hd
          go_wp2_with fail
          refine HD.out.mono ?_
          rintro e w9 ⟨rfl, hb9⟩
          have HB9 := Lib.hid (nxt HN9.out.below hb9)
          clear hb9
          go_wp2_with fail
          refine (awake10 _).mono ?_
          rintro e w10 ⟨rfl, hb10⟩
          have HB10 := Lib.hid (nxt HB9.out hb10)
          clear hb10
          go_wp2
          go_ret
          exact ⟨rfl, HB10.out⟩
theorem sends_any (A : Option Addr) (n cap : Nat) (fs : Nat → Fr) (w : World) (hr : Fl w A n fs) (hwf : ∀ i, i < n → (fs i).wf) :
    Calls Tryz.prog 4 #[.slice A n cap] w fun e w' => e = .returned (.bool true) ∧ Below w.heap.size w w' := by
  rcases Nat.lt_or_ge 5 n with h | h
  · exact sends_out A n cap w h
  · exact sends_in A n cap fs w hr hwf h
end Go.Proofs.YtenfcbmeokenaaaGreat
