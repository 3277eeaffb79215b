/- The walk of the law CtlCalms. -/
import Derived.Test.YtenfcbmeokenaaaGreatY5
import Derived.Test.YtenfcbmeokenaaaGreatY6
namespace Go.Proofs.YtenfcbmeokenaaaGreat
set_option maxRecDepth 20000
open Go.RowKit
set_option linter.unusedSimpArgs false

set_option maxHeartbeats 400000 in
theorem calms_out (A : Option Addr) (n c : Nat) (w : World) (h : 300 < n) :
    Calls Tryz.prog 5 #[.slice A n c] w fun e w' => e = .returned (.bool true) ∧ Below w.heap.size w w' := by
  have g1 : (300 : Int) < (n : Int) := by omega
  clear h
  go_enter Tryz.func5, Tryz.ntmps5
  go_wp2_with fail
  refine (awake10 _).mono ?_
  rintro e w1 ⟨rfl, hb1⟩
  go_wp2
  go_ret
  exact ⟨rfl, hb1⟩

set_option maxHeartbeats 8000000 in
set_option maxRecDepth 100000 in
theorem calms_in (A : Option Addr) (n cap : Nat) (ts : Nat → Tn) (w : World) (hr : Tl w A n ts) (hn : n ≤ 300) :
    Calls Tryz.prog 5 #[.slice A n cap] w fun e w' => e = .returned (.bool true) ∧ Below w.heap.size w w' := by
  have HR := Lib.hid hr
  have hnI : ¬ (300 : Int) < (n : Int) := by omega
  have hnJ : (n : Int) ≤ 300 := by omega
  clear hr
  go_enter Tryz.func5, Tryz.ntmps5
  go_wp2_with fail
  refine (nst_new w w (Below.refl _ _)).mono ?_
  rintro e w1 ⟨g, gq, rfl, h1, hb1⟩
  have H1 := Lib.hid h1
  clear h1 hb1
  go_wp2
  go_loopw [4] (fun i wr => ∃ k : Nat, k ≤ n ∧ i = .int .i64 k ∧ ∃ nd, Cm k nd ∧ Nst w wr g gq nd NoSide) (fun i _ => n - (intOf i).toNat)
  case atStart => exact ⟨0, Nat.zero_le _, rfl, _, cm_new, H1.out⟩
  case round =>
    obtain ⟨k, hk, rfl, nd, hc, hn⟩ := hrel
    have HN := Lib.hid hn
    have HC := Lib.hid hc
    clear hn hc
    by_cases hlt : k < n
    · have hlt' : (k : Int) < (n : Int) := by omega
      obtain ⟨ad, hAD, -, -⟩ := (HR.out.below HN.out.below).at_ hlt
      subst hAD
      have HD := Lib.hid (drv_01 HC.out.s)
      have HF := Lib.hid (HC.out.s.fit (by omega))
      obtain ⟨d, hd⟩ : ∃ d, nd.drv = d := ⟨_, rfl⟩
      have hdr := fun (W : World) (h : Nst w W g gq nd NoSide) => nst_drive h fun h => (HF.out.inf h).f
      rw [hd] at HD hdr
      have HDR := Lib.hid hdr
      clear hdr hd
      obtain ⟨t, ht⟩ : ∃ t, ts k = t := ⟨_, rfl⟩
      have HT := Lib.hid ht
      clear ht
      have HZ := Lib.hid (Tn.z01 (t := t) HD.out)
      obtain ⟨z, hz⟩ : ∃ z, t.z d = z := ⟨_, rfl⟩
      have hlv := fun W => level_any t d W
      rw [hz] at HZ hlv
      have HLV := Lib.hid hlv
      clear hz hlv
      go_wp2_with fail
      refine wp_region_held_drew (S := fun w' => Below w.heap.size w w') (by kernel_rfl) (below_drew HN.out.below) (fun hHeld => ?_)
      refine takeH (i := 0) (v := .pointer (some ⟨g, 0, none⟩)) rfl (by kernel_rfl) (by kernel_rfl) (by kernel_rfl) (fun _ _ _ h => h) (Or.inl ⟨by rfl, fun w hSw => ?_⟩) hHeld ?_
      · (clear hSw; go_simp)
      simp only [Act.put, List.setIfInBounds_toArray, List.set_cons_zero, List.set_cons_succ]
      refine takeH (i := 1) (v := .slice (some ad) n cap) rfl (by kernel_rfl) (by kernel_rfl) (by kernel_rfl) (fun _ _ _ h => h) (Or.inl ⟨by rfl, fun w hSw => ?_⟩) hHeld ?_
      · (clear hSw; go_simp)
      simp only [Act.put, List.setIfInBounds_toArray, List.set_cons_zero, List.set_cons_succ]
      refine takeH (i := 2) (v := .int .i64 k) rfl (by kernel_rfl) (by kernel_rfl) (by kernel_rfl) (fun _ _ _ h => h) (Or.inl ⟨by rfl, fun w hSw => ?_⟩) hHeld ?_
      · (clear hSw; go_simp)
      simp only [Act.put, List.setIfInBounds_toArray, List.set_cons_zero, List.set_cons_succ]
      refine takeH (i := 3) (v := .pointer (some (ad.add (k * 14)))) rfl (by kernel_rfl) (by kernel_rfl) (by kernel_rfl) (fun _ _ _ h => h) (Or.inl ⟨by rfl, fun w hSw => ?_⟩) hHeld ?_
      · (clear hSw; go_simp)
      simp only [Act.put, List.setIfInBounds_toArray, List.set_cons_zero, List.set_cons_succ]
      refine takeH (i := 4) (v := .agg (tnc t)) rfl (by kernel_rfl) (by kernel_rfl) (by kernel_rfl) (fun _ _ _ h => h) (Or.inl ⟨by rfl, fun w hSw => ?_⟩) hHeld ?_
      · (obtain ⟨ad', hA', hl', x0, x1, x2, x3, x4, x5, x6, x7, x8, x9, x10, x11, x12, x13⟩ := (HR.out.below hSw).at_ hlt; injection hA' with hA'; subst hA'; rw [HT.out] at x0 x1 x2 x3 x4 x5 x6 x7 x8 x9 x10 x11 x12 x13; clear hl'; clear hSw; go_simp)
      simp only [Act.put, List.setIfInBounds_toArray, List.set_cons_zero, List.set_cons_succ]
      refine takeH (i := 5) (v := .pointer (some ⟨g, 0, none⟩)) rfl (by kernel_rfl) (by kernel_rfl) (by kernel_rfl) (fun _ _ _ h => h) (Or.inl ⟨by rfl, fun w hSw => ?_⟩) hHeld ?_
      · (clear hSw; go_simp)
      simp only [Act.put, List.setIfInBounds_toArray, List.set_cons_zero, List.set_cons_succ]
      refine wpAnyH_ready (rs := [6]) (by kernel_rfl) (by simp) ?_
      refine AllReadyH.cons rfl (fun K hK => ?_) AllReadyH.nil
      go_simp
      refine (HDR.out _ (HN.out.drew kept_no)).mono ?_
      rintro e w4 ⟨rfl, hb4⟩
      have HN4 := Lib.hid (HN.out.next kept_no (undrew hb4))
      clear hb4
      clear hHeld
      dsimp only
      refine hK.out _ _ (HN4.out.below) (fun hHeld => ?_)
      clear hK K
      try simp only [Act.put, List.setIfInBounds_toArray, List.set_cons_zero, List.set_cons_succ]
      refine wpAnyH_ready (rs := [7]) (by kernel_rfl) (by simp) ?_
      refine AllReadyH.cons rfl (fun K hK => ?_) AllReadyH.nil
      go_simp
      refine (HLV.out _).mono ?_
      rintro e w5 ⟨rfl, hb5⟩
      have HN5 := Lib.hid (HN4.out.next kept_no hb5)
      clear hb5
      clear hHeld
      dsimp only
      refine hK.out _ _ (HN5.out.below) (fun hHeld => ?_)
      clear hK K
      try simp only [Act.put, List.setIfInBounds_toArray, List.set_cons_zero, List.set_cons_succ]
      refine wpAnyH_ready (rs := [8]) (by kernel_rfl) (by simp) ?_
      refine AllReadyH.cons rfl (fun K hK => ?_) AllReadyH.nil
      go_simp
      refine (nst_step HN5.out kept_no HF.out z HZ.out).mono ?_
      rintro e w6 ⟨u, rfl, h5, h6, h7⟩
      obtain ⟨Ae, ce, rfl, -⟩ := h5.len
      have HN6 := Lib.hid h6
      clear h5 h6 h7
      clear hHeld
      dsimp only
      refine hK.out _ _ (HN6.out.below) (fun hHeld => ?_)
      clear hK K
      try simp only [Act.put, List.setIfInBounds_toArray, List.set_cons_zero, List.set_cons_succ]
      refine wpAnyH_done (by kernel_rfl) ?_ _
      clear hHeld
      go_wp2
      go_roundw
      case rel => exact ⟨k + 1, by omega, by go_num, _, HC.out.stp HZ.out, HN6.out⟩
      case measure => simp [intOf]; omega
    · have hlt' : ¬ (k : Int) < (n : Int) := by omega
      have HC2 := Lib.hid HC.out
      have hk300 : k ≤ 300 := by omega
      clear HC hk H1 HR
      rename World => wo
      go_wp2
      go_loopw [5] (fun i wr => ∃ j : Nat, j ≤ 60 ∧ i = .int .i64 j ∧ ∃ nd, Cm (k + j) nd ∧ rk nd ≤ 60 - (j : Nat) ∧ Nst w wr g gq nd NoSide) (fun i _ => 60 - (intOf i).toNat)
      case atStart => exact ⟨0, by omega, rfl, nd, HC2.out, by have := rk_le HC2.out.s HC2.out.f; omega, HN.out⟩
      case round =>
        clear HN HC2 nd
        obtain ⟨j, hj, rfl, nd, hc, hrk, hn⟩ := hrel
        have HN := Lib.hid hn
        have HC := Lib.hid hc
        have HRK := Lib.hid hrk
        clear hn hc hrk
        have HF := Lib.hid (HC.out.s.fit (by omega))
        by_cases hj60 : j < 60
        · have hjI : (j : Int) < 60 := by omega
          obtain ⟨d, hd⟩ : ∃ d, nd.drv = d := ⟨_, rfl⟩
          have hdr := fun (W : World) (h : Nst w W g gq nd NoSide) => nst_drive h fun h => (HF.out.inf h).f
          have HD := Lib.hid (drv_01 HC.out.s)
          have hst := fun h0 => drv_still HC.out.q h0
          rw [hd] at hdr HD hst
          have hs := fun (W : World) (h : Nst w W g gq nd NoSide) => nst_step h kept_no HF.out 1 (.inr rfl)
          have HS := Lib.hid hs
          have HDR := Lib.hid hdr
          clear hs hdr hd
          have hlk := nst_look HN.out
          obtain ⟨mo, hmo⟩ : ∃ mo, nd.mode = mo := ⟨_, rfl⟩
          rw [show nd.lookV = .agg #[.int .i64 nd.mode, .bool nd.tx, .int .i64 nd.ct.t, .int .i64 nd.ct.r, .bool nd.ct.o, .int .i64 (nd.q.length : Nat)] from rfl, hmo] at hlk
          rw [hmo] at hst
          have HL := Lib.hid hlk
          have hf0 := lookF0
          clear hlk hmo
          by_cases hd0 : d = 0
          · have hst2 := hst hd0
            subst hd0
            clear hst HD
            rcases hst2 with rfl | rfl | rfl
            · go_wp2_with fail
              refine HL.out.mono ?_
              rintro e w3 ⟨rfl, hb3⟩
              have HN3 := Lib.hid (HN.out.next kept_no hb3)
              clear hb3 HL
              go_wp2_with fail
              refine (HDR.out _ HN3.out).mono ?_
              rintro e w4 ⟨rfl, hb4⟩
              have HN4 := Lib.hid (HN3.out.next kept_no hb4)
              clear hb4 HDR
              go_wp2_with fail
              refine (HS.out _ HN4.out).mono ?_
              rintro e w5 ⟨u, rfl, h5, h6, h7⟩
              obtain ⟨Ae, ce, rfl, -⟩ := h5.len
              have HN5 := Lib.hid h6
              clear h5 h6 h7 HS
              go_wp2
              go_roundw
              case rel => exact ⟨j + 1, by omega, by go_num, _, HC.out.stp (.inr rfl), HC.out.near hj60 HRK.out, HN5.out⟩
              case measure => simp [intOf]; omega
            · go_wp2_with fail
              refine HL.out.mono ?_
              rintro e w3 ⟨rfl, hb3⟩
              have HN3 := Lib.hid (HN.out.next kept_no hb3)
              clear hb3 HL
              go_wp2_with fail
              refine (HDR.out _ HN3.out).mono ?_
              rintro e w4 ⟨rfl, hb4⟩
              have HN4 := Lib.hid (HN3.out.next kept_no hb4)
              clear hb4 HDR
              go_wp2_with fail
              refine (HS.out _ HN4.out).mono ?_
              rintro e w5 ⟨u, rfl, h5, h6, h7⟩
              obtain ⟨Ae, ce, rfl, -⟩ := h5.len
              have HN5 := Lib.hid h6
              clear h5 h6 h7 HS
              go_wp2
              go_roundw
              case rel => exact ⟨j + 1, by omega, by go_num, _, HC.out.stp (.inr rfl), HC.out.near hj60 HRK.out, HN5.out⟩
              case measure => simp [intOf]; omega
            · go_wp2_with fail
              refine HL.out.mono ?_
              rintro e w3 ⟨rfl, hb3⟩
              have HN3 := Lib.hid (HN.out.next kept_no hb3)
              clear hb3 HL
              go_wp2_with fail
              refine (HDR.out _ HN3.out).mono ?_
              rintro e w4 ⟨rfl, hb4⟩
              have HN4 := Lib.hid (HN3.out.next kept_no hb4)
              clear hb4 HDR
              go_wp2_with fail
              refine (HS.out _ HN4.out).mono ?_
              rintro e w5 ⟨u, rfl, h5, h6, h7⟩
              obtain ⟨Ae, ce, rfl, -⟩ := h5.len
              have HN5 := Lib.hid h6
              clear h5 h6 h7 HS
              go_wp2
              go_roundw
              case rel => exact ⟨j + 1, by omega, by go_num, _, HC.out.stp (.inr rfl), HC.out.near hj60 HRK.out, HN5.out⟩
              case measure => simp [intOf]; omega
          · have hd1 : d = 1 := by rcases HD.out with h | h <;> omega
            subst hd1
            clear hst HD hd0
            go_wp2_with fail
            refine HL.out.mono ?_
            rintro e w3 ⟨rfl, hb3⟩
            have HN3 := Lib.hid (HN.out.next kept_no hb3)
            clear hb3 HL
            go_wp2_with fail
            refine (HDR.out _ HN3.out).mono ?_
            rintro e w4 ⟨rfl, hb4⟩
            have HN4 := Lib.hid (HN3.out.next kept_no hb4)
            clear hb4 HDR
            go_wp2_with fail
            refine (HS.out _ HN4.out).mono ?_
            rintro e w5 ⟨u, rfl, h5, h6, h7⟩
            obtain ⟨Ae, ce, rfl, -⟩ := h5.len
            have HN5 := Lib.hid h6
            clear h5 h6 h7 HS
            go_wp2
            go_roundw
            case rel => exact ⟨j + 1, by omega, by go_num, _, HC.out.stp (.inr rfl), HC.out.near hj60 HRK.out, HN5.out⟩
            case measure => simp [intOf]; omega
        · have hjI : ¬ (j : Int) < 60 := by omega
          obtain rfl : j = 60 := by omega
          have hid := HC.out.idle (by have := HRK.out; omega)
          have HID := Lib.hid hid
          have hlk := nst_look HN.out
          obtain ⟨mo, hmo⟩ : ∃ mo, nd.mode = mo := ⟨_, rfl⟩
          rw [show nd.lookV = .agg #[.int .i64 nd.mode, .bool nd.tx, .int .i64 nd.ct.t, .int .i64 nd.ct.r, .bool nd.ct.o, .int .i64 (nd.q.length : Nat)] from rfl, hmo] at hlk
          rw [hmo] at hid
          have HL := Lib.hid hlk
          have hf0 := lookF0
          clear hlk hmo HRK hj
          rcases hid with rfl | rfl
          · go_wp2_with fail
            refine HL.out.mono ?_
            rintro e w3 ⟨rfl, hb3⟩
            have HN3 := Lib.hid (HN.out.next kept_no hb3)
            clear hb3 HL
            rename World => wb
            go_wp2
            clear hf0
            go_loopw [8] (fun i wr => ∃ j : Nat, j ≤ 1408 ∧ i = .int .i64 j ∧ ∃ nd, Cm (k + 60 + j) nd ∧ (nd.mode = 1 ∨ nd.mode = 10) ∧ ork nd ≤ 1408 - (j : Nat) ∧ Nst w wr g gq nd NoSide) (fun i _ => 1408 - (intOf i).toNat)
            case atStart => exact ⟨0, by omega, rfl, nd, HC.out, HID.out, by have := HC.out.orl; omega, HN3.out⟩
            case round =>
              clear HN HC HID HN3 HF
              obtain ⟨j, hj, rfl, nd2, hc, hid, hrk, hn⟩ := hrel
              have HN := Lib.hid hn
              have HC := Lib.hid hc
              have HID := Lib.hid hid
              have HRK := Lib.hid hrk
              clear hn hc hid hrk
              have HF := Lib.hid (HC.out.s.fit (by omega))
              by_cases hj60 : j < 1408
              · have hjJ : (j : Int) < 1408 := by omega
                have HX := Lib.hid (HC.out.nearer HID.out hj60 HRK.out)
                go_wp2_with fail
                refine (nst_step HN.out kept_no HF.out 1 (.inr rfl)).mono ?_
                rintro e w5 ⟨u, rfl, h5, h6, h7⟩
                obtain ⟨Ae, ce, rfl, -⟩ := h5.len
                have HN5 := Lib.hid h6
                clear h5 h6 h7
                go_wp2
                go_roundw
                case rel => exact ⟨j + 1, by omega, by go_num, _, HC.out.stp (.inr rfl), HX.out.1, HX.out.2, HN5.out⟩
                case measure => simp [intOf]; omega
              · have hjJ : ¬ (j : Int) < 1408 := by omega
                have hm1 := HC.out.back HID.out (by have := HRK.out; omega)
                have hlk := nst_look HN.out
                have hdr := fun (W : World) (h : Nst w W g gq nd2 NoSide) => nst_drive h fun h => (HF.out.inf h).f
                rw [HC.out.drv1 hm1] at hdr
                rw [show nd2.lookV = .agg #[.int .i64 nd2.mode, .bool nd2.tx, .int .i64 nd2.ct.t, .int .i64 nd2.ct.r, .bool nd2.ct.o, .int .i64 (nd2.q.length : Nat)] from rfl, hm1] at hlk
                have HL := Lib.hid hlk
                have HDR := Lib.hid hdr
                have hf0 := lookF0
                clear hlk hdr hm1
                go_wp2_with fail
                refine HL.out.mono ?_
                rintro e w6 ⟨rfl, hb6⟩
                have HN6 := Lib.hid (HN.out.next kept_no hb6)
                clear hb6 HL
                go_wp2_with fail
                refine (HDR.out _ HN6.out).mono ?_
                rintro e w7 ⟨rfl, hb7⟩
                have HN7 := Lib.hid (HN6.out.next kept_no hb7)
                clear hb7 HDR
                go_wp2_with fail
                refine (awake10 _).mono ?_
                rintro e w8 ⟨rfl, hb8⟩
                have HB8 := Lib.hid (nxt HN7.out.below hb8)
                clear hb8
                go_wp2
                go_ret
                exact ⟨rfl, HB8.out⟩
          · go_wp2_with fail
            refine HL.out.mono ?_
            rintro e w3 ⟨rfl, hb3⟩
            have HN3 := Lib.hid (HN.out.next kept_no hb3)
            clear hb3 HL
            rename World => wb
            go_wp2
            clear hf0
            go_loopw [8] (fun i wr => ∃ j : Nat, j ≤ 1408 ∧ i = .int .i64 j ∧ ∃ nd, Cm (k + 60 + j) nd ∧ (nd.mode = 1 ∨ nd.mode = 10) ∧ ork nd ≤ 1408 - (j : Nat) ∧ Nst w wr g gq nd NoSide) (fun i _ => 1408 - (intOf i).toNat)
            case atStart => exact ⟨0, by omega, rfl, nd, HC.out, HID.out, by have := HC.out.orl; omega, HN3.out⟩
            case round =>
              clear HN HC HID HN3 HF
              obtain ⟨j, hj, rfl, nd2, hc, hid, hrk, hn⟩ := hrel
              have HN := Lib.hid hn
              have HC := Lib.hid hc
              have HID := Lib.hid hid
              have HRK := Lib.hid hrk
              clear hn hc hid hrk
              have HF := Lib.hid (HC.out.s.fit (by omega))
              by_cases hj60 : j < 1408
              · have hjJ : (j : Int) < 1408 := by omega
                have HX := Lib.hid (HC.out.nearer HID.out hj60 HRK.out)
                go_wp2_with fail
                refine (nst_step HN.out kept_no HF.out 1 (.inr rfl)).mono ?_
                rintro e w5 ⟨u, rfl, h5, h6, h7⟩
                obtain ⟨Ae, ce, rfl, -⟩ := h5.len
                have HN5 := Lib.hid h6
                clear h5 h6 h7
                go_wp2
                go_roundw
                case rel => exact ⟨j + 1, by omega, by go_num, _, HC.out.stp (.inr rfl), HX.out.1, HX.out.2, HN5.out⟩
                case measure => simp [intOf]; omega
              · have hjJ : ¬ (j : Int) < 1408 := by omega
                have hm1 := HC.out.back HID.out (by have := HRK.out; omega)
                have hlk := nst_look HN.out
                have hdr := fun (W : World) (h : Nst w W g gq nd2 NoSide) => nst_drive h fun h => (HF.out.inf h).f
                rw [HC.out.drv1 hm1] at hdr
                rw [show nd2.lookV = .agg #[.int .i64 nd2.mode, .bool nd2.tx, .int .i64 nd2.ct.t, .int .i64 nd2.ct.r, .bool nd2.ct.o, .int .i64 (nd2.q.length : Nat)] from rfl, hm1] at hlk
                have HL := Lib.hid hlk
                have HDR := Lib.hid hdr
                have hf0 := lookF0
                clear hlk hdr hm1
                go_wp2_with fail
                refine HL.out.mono ?_
                rintro e w6 ⟨rfl, hb6⟩
                have HN6 := Lib.hid (HN.out.next kept_no hb6)
                clear hb6 HL
                go_wp2_with fail
                refine (HDR.out _ HN6.out).mono ?_
                rintro e w7 ⟨rfl, hb7⟩
                have HN7 := Lib.hid (HN6.out.next kept_no hb7)
                clear hb7 HDR
                go_wp2_with fail
                refine (awake10 _).mono ?_
                rintro e w8 ⟨rfl, hb8⟩
                have HB8 := Lib.hid (nxt HN7.out.below hb8)
                clear hb8
                go_wp2
                go_ret
                exact ⟨rfl, HB8.out⟩
theorem calms_any (A : Option Addr) (n c : Nat) (ts : Nat → Tn) (w : World) (hr : Tl w A n ts) :
    Calls Tryz.prog 5 #[.slice A n c] w fun e w' => e = .returned (.bool true) ∧ Below w.heap.size w w' := by
  rcases Nat.lt_or_ge 300 n with h | h
  · exact calms_out A n c w h
  · exact calms_in A n c ts w hr h
end Go.Proofs.YtenfcbmeokenaaaGreat
