/- The walk of the law CtlOverloads. -/
import Derived.Test.YtenfcbmeokenaaaGreatZL10r
import Derived.Test.YtenfcbmeokenaaaGreatZME
namespace Go.Proofs.YtenfcbmeokenaaaGreat
set_option maxRecDepth 20000
open Go.RowKit
set_option linter.unusedSimpArgs false

theorem ceq0 (w : World) : (binOp .eql 41 (.agg #[.int .i64 0, .int .i64 0, .bool false]) (.agg #[.int .i64 0, .int .i64 0, .bool false])).run Tryz.prog w = .ok (.bool true) w := by
  rw [run_eql_struct]; rfl
/-- A row that was there ahead of the node. -/
theorem Nst.old {w0 w w' : World} {g gq : Nat} {n : Nd} {P : World → (Nat → Prop) → Prop} {B : Nat} {v : Value} {rs : List Int} (h : Nst w w' g gq n P) (ho : Own w B v rs) (hb : Below w0.heap.size w0 w) (hB : w0.heap.size ≤ B) : Nst w0 w' g gq n (Both P (RowS w0.heap.size v rs)) := by
  obtain ⟨vo, vl, vq, h1, h2, h3⟩ := h
  refine ⟨vo, vl, vq, h1.base hb.size, ⟨h2, ?_, fun k hk hf => ?_⟩, nxt hb h3⟩
  · exact Own.mono (owns_move ho fun k hk => h3.block k (World.ownsRow.lt ho k hk).2) hB
  · have a := h1.fp_ge k hf
    have b := (World.ownsRow.lt ho k hk).2
    omega

set_option maxHeartbeats 2000000 in
theorem overloads_bad (f : Fr) (a b : Int) (w : World) (h : f.may = false) :
    Calls Tryz.prog 11 #[f.val, .int .i64 a, .int .i64 b] w fun e w' => e = .returned (.bool true) ∧ Below w.heap.size w w' := by
  have HB := Lib.hid (boxed f w)
  go_enter Tryz.func11, Tryz.ntmps11
  go_wp2_with fail
  refine (encode_bad f true _ h).mono ?_
  rintro e w2 ⟨rfl, hb2⟩
  have HB2 := Lib.hid (nxt HB.out hb2)
  clear hb2
  go_wp2_with fail
  refine (awake10 _).mono ?_
  rintro e w4 ⟨rfl, hb4⟩
  have HB4 := Lib.hid (nxt HB2.out hb4)
  clear hb4
  go_wp2
  go_ret
  exact ⟨rfl, HB4.out⟩
set_option maxHeartbeats 4000000 in
theorem overloads_out (f : Fr) (a b : Int) (w : World) (hm : f.may = true) (hwf : f.wf) (h : a < 0 ∨ 2 < a ∨ b < 0 ∨ 7 < b) :
    Calls Tryz.prog 11 #[f.val, .int .i64 a, .int .i64 b] w fun e w' => e = .returned (.bool true) ∧ Below w.heap.size w w' := by
  have HB := Lib.hid (boxed f w)
  by_cases h1 : a < 0
  · clear h
    go_enter Tryz.func11, Tryz.ntmps11
    go_wp2_with fail
    refine (encode_ok f true _ hm hwf).mono ?_
    rintro e w2 ⟨v, rfl, ho, hb2⟩
    obtain ⟨Ar, cp, hv, -, -⟩ := ho.il2
    subst hv
    have HB2 := Lib.hid (nxt HB.out hb2)
    clear hb2 ho
    go_wp2_with fail
    refine (awake10 _).mono ?_
    rintro e w4 ⟨rfl, hb4⟩
    have HB4 := Lib.hid (nxt HB2.out hb4)
    clear hb4
    go_wp2
    go_ret
    exact ⟨rfl, HB4.out⟩
  by_cases h2 : 2 < a
  · clear h
    go_enter Tryz.func11, Tryz.ntmps11
    go_wp2_with fail
    refine (encode_ok f true _ hm hwf).mono ?_
    rintro e w2 ⟨v, rfl, ho, hb2⟩
    obtain ⟨Ar, cp, hv, -, -⟩ := ho.il2
    subst hv
    have HB2 := Lib.hid (nxt HB.out hb2)
    clear hb2 ho
    go_wp2_with fail
    refine (awake10 _).mono ?_
    rintro e w4 ⟨rfl, hb4⟩
    have HB4 := Lib.hid (nxt HB2.out hb4)
    clear hb4
    go_wp2
    go_ret
    exact ⟨rfl, HB4.out⟩
  by_cases h3 : b < 0
  · clear h
    go_enter Tryz.func11, Tryz.ntmps11
    go_wp2_with fail
    refine (encode_ok f true _ hm hwf).mono ?_
    rintro e w2 ⟨v, rfl, ho, hb2⟩
    obtain ⟨Ar, cp, hv, -, -⟩ := ho.il2
    subst hv
    have HB2 := Lib.hid (nxt HB.out hb2)
    clear hb2 ho
    go_wp2_with fail
    refine (awake10 _).mono ?_
    rintro e w4 ⟨rfl, hb4⟩
    have HB4 := Lib.hid (nxt HB2.out hb4)
    clear hb4
    go_wp2
    go_ret
    exact ⟨rfl, HB4.out⟩
  have h4 : 7 < b := by omega
  clear h
  go_enter Tryz.func11, Tryz.ntmps11
  go_wp2_with fail
  refine (encode_ok f true _ hm hwf).mono ?_
  rintro e w2 ⟨v, rfl, ho, hb2⟩
  obtain ⟨Ar, cp, hv, -, -⟩ := ho.il2
  subst hv
  have HB2 := Lib.hid (nxt HB.out hb2)
  clear hb2 ho
  go_wp2_with fail
  refine (awake10 _).mono ?_
  rintro e w4 ⟨rfl, hb4⟩
  have HB4 := Lib.hid (nxt HB2.out hb4)
  clear hb4
  go_wp2
  go_ret
  exact ⟨rfl, HB4.out⟩

set_option maxHeartbeats 8000000 in
set_option maxRecDepth 100000 in
theorem overloads_in (f : Fr) (a b : Nat) (w : World) (hm : f.may = true) (hwf : f.wf) (ha : a ≤ 2) (hb : b ≤ 7) :
    Calls Tryz.prog 11 #[f.val, .int .i64 (a : Int), .int .i64 (b : Int)] w fun e w' => e = .returned (.bool true) ∧ Below w.heap.size w w' := by
  have HB := Lib.hid (boxed f w)
  have HM := Lib.hid hm
  have HFW := Lib.hid hwf
  have ha0 : ¬ (a : Int) < 0 := by omega
  have ha2 : ¬ 2 < (a : Int) := by omega
  have hb0 : ¬ (b : Int) < 0 := by omega
  have hb7 : ¬ 7 < (b : Int) := by omega
  clear hm hwf
  go_enter Tryz.func11, Tryz.ntmps11
  go_wp2_with fail
  refine (encode_ok f true _ HM.out HFW.out).mono ?_
  rintro e w2 ⟨v, rfl, ho, hb2⟩
  obtain ⟨Ar, cp, hv, hi, hc⟩ := ho.il2
  obtain ⟨m, hml⟩ : ∃ m, (enc f true).length = m := ⟨_, rfl⟩
  have HML := Lib.hid (show m = sl_ f + 10 by rw [← hml, enc_ln])
  have hm310 : m ≤ 310 := by rw [← hml]; exact enc_le HM.out true
  have hmI : (m : Int) ≤ 310 := by omega
  rw [hml] at hv hi hc
  obtain ⟨ar, rfl, -, -⟩ := hi.2 (by have := HML.out; omega)
  subst hv
  have HB2 := Lib.hid (nxt HB.out hb2)
  have HO := Lib.hid ho
  have HEL := Lib.hid hml
  clear ho hb2 hi hc hml
  go_wp2_with fail
  refine (joined_any none 0 0 (fun _ => Fr.zero) _ (fl_nil _ _) (by omega) (fun i hi => by omega)).mono ?_
  rintro e w3 ⟨g, gq, rfl, h1⟩
  have h2 := (h1.to (show idl (putsN (fun _ => Fr.zero) 0) = idl [] from rfl)).old HO.out HB2.out HB.out.size
  have H1 := Lib.hid h2
  have HK := Lib.hid (kept_both kept_no (kept_row w.heap.size (.slice (some ar) m cp) (enc f true)))
  clear h1 h2
  generalize hP : Both NoSide (RowS w.heap.size (.slice (some ar) m cp) (enc f true)) = P at *
  have HP := Lib.hid hP
  clear hP
  go_wp2
  go_loopw [10] (fun i wr => ∃ k : Nat, k ≤ m ∧ i = .int .i64 k ∧ ∃ nd, RxA f k nd ∧ Nst w wr g gq nd P) (fun i _ => m - (intOf i).toNat)
  case atStart => exact ⟨0, by omega, rfl, _, .inl ⟨by omega, .inl ⟨rfl, rfl⟩⟩, H1.out⟩
  case round =>
    obtain ⟨k, hk, rfl, nd, hz, hn⟩ := hrel
    have HN := Lib.hid hn
    clear hn
    by_cases hkm : k < m
    · have hkmI : (k : Int) < (m : Int) := by omega
      obtain ⟨hlv, hfit, hdr, es, n', hst, hza, hes, hes8⟩ := rxa_step HM.out HFW.out hz (by have := HML.out; omega)
      have hst' := nst_step HN.out HK.out hfit _ hlv
      rw [hst] at hst'
      have HS := Lib.hid hst'
      have HZA := Lib.hid hza
      have r0 : wr.cell? (ar.add k) = some (.int .i64 (lv3 f k)) := by
        obtain ⟨F, hF⟩ := HN.out.side
        rw [← HP.out] at hF
        have h := hF.2.cell (j := k) (by rw [HEL.out]; exact hkm)
        unfold lv3
        rw [h, if_pos (by have := HML.out; omega)]
      clear hlv hfit hdr hst hst' hza hes hes8 hz
      generalize lv3 f k = z at *
      go_wp2_with fail
      refine HS.out.mono ?_
      rintro e w5 ⟨u, rfl, h5, h6, h7⟩
      have HN5 := Lib.hid h6
      clear h5 h6 h7 HS
      go_wp2
      go_roundw
      case rel => exact ⟨k + 1, by omega, by go_num, n', HZA.out, HN5.out⟩
      case measure => simp [intOf]; omega
    · have hkmI : ¬ (k : Int) < (m : Int) := by omega
      have hnd : nd = pz (idl []) 0 := by
        have := HML.out
        rcases hz with h | h | h
        · omega
        · rw [show k - (sl_ f + 10) = 0 by omega] at h; exact h.2.2
        · omega
      have H2 := Lib.hid (Nst.less (Q := NoSide) (HN.out.to hnd) fun _ _ => trivial)
      clear HN hz hnd hkm hk H1
      rename World => wa
      go_wp2
      go_loopw [11] (fun i wr => ∃ j : Nat, j ≤ a ∧ i = .int .i64 j ∧ Nst w wr g gq (pz (idl []) j) NoSide) (fun i _ => a - (intOf i).toNat)
      case atStart => exact ⟨0, Nat.zero_le _, rfl, H2.out⟩
      case round =>
        obtain ⟨j, hj, rfl, hn⟩ := hrel
        have HN := Lib.hid hn
        clear hn
        by_cases hja : j < a
        · have hjaI : (j : Int) < (a : Int) := by omega
          have hs := nst_step HN.out kept_no (pz_fit (by omega) okfs_nil (Nat.zero_le 16)) 1 (.inr rfl)
          rw [pz_step _ (by omega)] at hs
          have HS := Lib.hid hs
          clear hs
          go_wp2_with fail
          refine HS.out.mono ?_
          rintro e w5 ⟨u, rfl, h5, h6, h7⟩
          have HN5 := Lib.hid h6
          clear h5 h6 h7 HS
          go_wp2
          go_roundw
          case rel => exact ⟨j + 1, by omega, by go_num, HN5.out⟩
          case measure => simp [intOf]; omega
        · have hjaI : ¬ (j : Int) < (a : Int) := by omega
          have hja' : j = a := by omega
          have H3 := Lib.hid (HN.out.to (show pz (idl []) j = pz (idl []) a by rw [hja']))
          clear HN hja hj hja' H2
          rename World => wb
          have hs := nst_step H3.out kept_no (pz_fit (by omega) okfs_nil (Nat.zero_le 16)) 0 (.inl rfl)
          have hf0 := lookF0
          by_cases h2a : a = 2
          · rw [show pz (idl []) a = pz (idl []) 2 by rw [h2a], pz_begin] at hs
            have HS := Lib.hid hs
            have h2b : ((a : Int) == 2) = true := by simp; omega
            clear hs h2a
            go_wp2_with fail
            refine HS.out.mono ?_
            rintro e w5 ⟨u, rfl, h5, h6, h7⟩
            obtain ⟨Ae, ce, rfl, -⟩ := h5.len
            have HN5 := Lib.hid h6
            have hlk := nst_look h6
            rw [show ((idl []).at_ [0] [0] false Fr.zero []).lookV = .agg #[.int .i64 2, .bool false, .int .i64 0, .int .i64 0, .bool false, .int .i64 0] from rfl] at hlk
            have HL := Lib.hid hlk
            clear h5 h6 h7 HS hlk
            go_wp2_with fail
            refine HL.out.mono ?_
            rintro e w6 ⟨rfl, hb6⟩
            have HN6 := Lib.hid (HN5.out.next kept_no hb6)
            have hd := nst_drive HN6.out fun _ => at_one_okf
            rw [at_one_drv] at hd
            have HD := Lib.hid hd
            clear hb6 hd HL
            go_wp2_with fail
            refine HD.out.mono ?_
            rintro e w7 ⟨rfl, hb7⟩
            have HB7 := Lib.hid (nxt HN6.out.below hb7)
            clear hb7
            go_wp2_with fail
            refine (awake10 _).mono ?_
            rintro e w8 ⟨rfl, hb8⟩
            have HB8 := Lib.hid (nxt HB7.out hb8)
            clear hb8
            go_wp2
            go_ret
            exact ⟨rfl, HB8.out⟩
          · rw [pz_over (by omega)] at hs
            have HS := Lib.hid hs
            have h2b : ((a : Int) == 2) = false := by simp; omega
            clear hs h2a
            go_wp2_with fail
            refine HS.out.mono ?_
            rintro e w5 ⟨u, rfl, h5, h6, h7⟩
            obtain ⟨ge, ce, rfl, hce⟩ := h5.shape (by simp)
            have k2 : w5.cell? ⟨ge, 2, none⟩ = some (.int .i64 9) := hce 2 _ rfl
            have H5 := Lib.hid h6
            clear h5 h6 h7 HS hce H3
            go_wp2
            go_loopw [14] (fun i wr => ∃ j : Nat, j ≤ 6 + b ∧ i = .int .i64 j ∧ Nst w wr g gq (ovn j) NoSide) (fun i _ => 6 + b - (intOf i).toNat)
            case atStart => exact ⟨0, Nat.zero_le _, rfl, H5.out⟩
            case round =>
              clear k2
              obtain ⟨j2, hj, rfl, hn⟩ := hrel
              have HN := Lib.hid hn
              clear hn
              by_cases hjb : j2 < 6 + b
              · have hjbI : (j2 : Int) < 6 + (b : Int) := by omega
                have hd := nst_drive HN.out fun h => by unfold ovn at h; split at h <;> cases h
                rw [ovn_drv] at hd
                have HD := Lib.hid hd
                clear hd
                by_cases hj6 : j2 < 6
                · have hj6I : (j2 : Int) < 6 := by omega
                  rw [if_pos hj6] at HD
                  have hs := fun (W : World) (h : Nst w W g gq (ovn j2) NoSide) => nst_step h kept_no (ovn_fit (by omega)) 0 (.inl rfl)
                  rw [ovn_step (by omega)] at hs
                  have HS := Lib.hid hs
                  clear hs
                  go_wp2_with fail
                  refine HD.out.mono ?_
                  rintro e w4 ⟨rfl, hb4⟩
                  have HN4 := Lib.hid (HN.out.next kept_no hb4)
                  clear hb4 HD
                  go_wp2_with fail
                  refine (HS.out _ HN4.out).mono ?_
                  rintro e w5 ⟨u, rfl, h5, h6, h7⟩
                  obtain ⟨Ae, ce, rfl, -⟩ := h5.len
                  have HN5 := Lib.hid h6
                  clear h5 h6 h7 HS
                  go_wp2
                  go_roundw
                  case rel => exact ⟨j2 + 1, by omega, by go_num, HN5.out⟩
                  case measure => simp [intOf]; omega
                · have hj6I : ¬ (j2 : Int) < 6 := by omega
                  rw [if_neg hj6] at HD
                  have hs := fun (W : World) (h : Nst w W g gq (ovn j2) NoSide) => nst_step h kept_no (ovn_fit (by omega)) 0 (.inl rfl)
                  rw [ovn_step (by omega)] at hs
                  have HS := Lib.hid hs
                  clear hs
                  go_wp2_with fail
                  refine HD.out.mono ?_
                  rintro e w4 ⟨rfl, hb4⟩
                  have HN4 := Lib.hid (HN.out.next kept_no hb4)
                  clear hb4 HD
                  go_wp2_with fail
                  refine (HS.out _ HN4.out).mono ?_
                  rintro e w5 ⟨u, rfl, h5, h6, h7⟩
                  obtain ⟨Ae, ce, rfl, -⟩ := h5.len
                  have HN5 := Lib.hid h6
                  clear h5 h6 h7 HS
                  go_wp2
                  go_roundw
                  case rel => exact ⟨j2 + 1, by omega, by go_num, HN5.out⟩
                  case measure => simp [intOf]; omega
              · have hjbI : ¬ (j2 : Int) < 6 + (b : Int) := by omega
                have H6 := Lib.hid (HN.out.to (show ovn j2 = cln b 0 by unfold cln; rw [if_pos rfl, show j2 = 6 + b by omega]))
                clear HN hjb hj H5
                rename World => wc
                go_wp2
                go_loopw [17] (fun i wr => ∃ j : Nat, j ≤ 11 ∧ i = .int .i64 j ∧ Nst w wr g gq (cln b j) NoSide) (fun i _ => 11 - (intOf i).toNat)
                case atStart => exact ⟨0, by omega, rfl, H6.out⟩
                case round =>
                  obtain ⟨j3, hj, rfl, hn⟩ := hrel
                  have HN := Lib.hid hn
                  clear hn
                  by_cases hj3 : j3 < 11
                  · have hj3I : (j3 : Int) < 11 := by omega
                    have hs := nst_step HN.out kept_no (cln_fit (by omega) hj) 1 (.inr rfl)
                    rw [cln_step hj3] at hs
                    have HS := Lib.hid hs
                    have HMO := Lib.hid (cln_mode (m := b) hj3)
                    clear hs
                    go_wp2_with fail
                    refine HS.out.mono ?_
                    rintro e w5 ⟨u, rfl, h5, h6, h7⟩
                    obtain ⟨Ae, ce, rfl, -⟩ := h5.len
                    have HN5 := Lib.hid h6
                    have hd := nst_drive h6 fun h => by
                      have e := HMO.out
                      rw [h] at e
                      split at e
                      · cases e
                      · split at e <;> cases e
                    rw [cln_drv] at hd
                    have HD := Lib.hid hd
                    clear h5 h6 h7 HS hd
                    go_wp2_with fail
                    refine HD.out.mono ?_
                    rintro e w6 ⟨rfl, hb6⟩
                    have HN6 := Lib.hid (HN5.out.next kept_no hb6)
                    obtain ⟨q1, q2, q3⟩ := cln_ct (m := b) (k := j3 + 1)
                    obtain ⟨md, hmd⟩ : ∃ md, (cln b (j3 + 1)).mode = md := ⟨_, rfl⟩
                    have hlk := nst_look HN6.out
                    rw [show (cln b (j3 + 1)).lookV = .agg #[.int .i64 md, .bool false, .int .i64 0, .int .i64 0, .bool false, .int .i64 0] by unfold Nd.lookV; rw [q1, q2, q3, hmd]; rfl] at hlk
                    have HL := Lib.hid hlk
                    rw [hmd] at HMO
                    clear hb6 hlk q1 q2 q3 hmd HD
                    by_cases h7 : j3 < 7
                    · have g7 : decide ((7 : Int) ≤ (j3 : Int)) = false := by simp; omega
                      have g7b : ¬ (7 : Int) ≤ (j3 : Int) := by omega
                      obtain rfl : md = 7 := by have := HMO.out; rw [if_pos h7] at this; exact this
                      go_wp2_with fail
                      refine HL.out.mono ?_
                      rintro e w7 ⟨rfl, hb7⟩
                      have HN7 := Lib.hid (HN6.out.next kept_no hb7)
                      clear hb7 HL
                      go_wp2
                      go_roundw
                      case rel => exact ⟨j3 + 1, by omega, by go_num, HN7.out⟩
                      case measure => simp [intOf]; omega
                    by_cases h10 : j3 < 10
                    · have g7b : (7 : Int) ≤ (j3 : Int) := by omega
                      have g10 : (j3 : Int) < 10 := by omega
                      obtain rfl : md = 8 := by have := HMO.out; rw [if_neg h7, if_pos h10] at this; exact this
                      go_wp2_with fail
                      refine HL.out.mono ?_
                      rintro e w7 ⟨rfl, hb7⟩
                      have HN7 := Lib.hid (HN6.out.next kept_no hb7)
                      clear hb7 HL
                      go_wp2
                      go_roundw
                      case rel => exact ⟨j3 + 1, by omega, by go_num, HN7.out⟩
                      case measure => simp [intOf]; omega
                    have g7b : (7 : Int) ≤ (j3 : Int) := by omega
                    have g10 : ¬ (j3 : Int) < 10 := by omega
                    obtain rfl : md = 1 := by have := HMO.out; rw [if_neg h7, if_neg h10] at this; exact this
                    go_wp2_with fail
                    refine HL.out.mono ?_
                    rintro e w7 ⟨rfl, hb7⟩
                    have HN7 := Lib.hid (HN6.out.next kept_no hb7)
                    clear hb7 HL
                    go_wp2
                    go_roundw
                    case rel => exact ⟨j3 + 1, by omega, by go_num, HN7.out⟩
                    case measure => simp [intOf]; omega
                  · have hj3I : ¬ (j3 : Int) < 11 := by omega
                    have H7 := Lib.hid (HN.out.to (show cln b j3 = idl [] by rw [show j3 = 11 by omega]; rfl))
                    have hlk := nst_look H7.out
                    rw [show (idl []).lookV = .agg #[.int .i64 1, .bool false, .int .i64 0, .int .i64 0, .bool false, .int .i64 0] from rfl] at hlk
                    have HL := Lib.hid hlk
                    have hcq := ceq0
                    clear HN hj3 hj H6 hlk
                    go_wp2_with fail
                    refine HL.out.mono ?_
                    rintro e w8 ⟨rfl, hb8⟩
                    have hbb : Below w8.heap.size w8 (w8.alloc (.cells #[.int .i64 1, .bool false, .int .i64 0, .int .i64 0, .bool false, .int .i64 0] 43)) := (Below.refl _ _).alloc (Nat.le_refl _) _
                    have HB9 := Lib.hid (nxt H7.out.below (nxt hb8 hbb))
                    clear hb8 hbb HL
                    go_wp2_with fail
                    refine (awake10 _).mono ?_
                    rintro e w9 ⟨rfl, hb9⟩
                    have HB10 := Lib.hid (nxt HB9.out hb9)
                    clear hb9
                    go_wp2
                    go_ret
                    exact ⟨rfl, HB10.out⟩

theorem overloads_any (f : Fr) (a b : Int) (w : World) (hwf : f.wf) :
    Calls Tryz.prog 11 #[f.val, .int .i64 a, .int .i64 b] w fun e w' => e = .returned (.bool true) ∧ Below w.heap.size w w' := by
  cases hm : f.may
  · exact overloads_bad f a b w hm
  · by_cases h : a < 0 ∨ 2 < a ∨ b < 0 ∨ 7 < b
    · exact overloads_out f a b w hm hwf h
    · obtain ⟨x, rfl⟩ := Int.eq_ofNat_of_zero_le (show 0 ≤ a by omega)
      obtain ⟨y, rfl⟩ := Int.eq_ofNat_of_zero_le (show 0 ≤ b by omega)
      exact overloads_in f x y w hm hwf (by omega) (by omega)
end Go.Proofs.YtenfcbmeokenaaaGreat
