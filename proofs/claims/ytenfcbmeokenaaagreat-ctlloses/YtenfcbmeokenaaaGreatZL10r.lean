/- The walk of the law CtlReceives. -/
import Derived.Test.YtenfcbmeokenaaaGreatX05
namespace Go.Proofs.YtenfcbmeokenaaaGreat
set_option maxRecDepth 20000
open Go.RowKit
set_option linter.unusedSimpArgs false

theorem cneq0 (w : World) : (binOp .neq 41 (.agg #[.int .i64 0, .int .i64 0, .bool false]) (.agg #[.int .i64 0, .int .i64 0, .bool false])).run Tryz.prog w = .ok (.bool false) w := by
  rw [run_neq_struct]; rfl
theorem fl_nil (w : World) (fs : Nat → Fr) : Fl w none 0 fs := fun h => by omega
theorem enc_le {f : Fr} (hm : f.may = true) (b : Bool) : (enc f b).length ≤ 310 := by have := stf_raw_le hm; rw [enc_ln]; unfold sl_; omega

set_option maxHeartbeats 400000 in
theorem receives_out (A : Option Addr) (n c : Nat) (w : World) (h : 4 < n) :
    Calls Tryz.prog 3 #[.slice A n c] w fun e w' => e = .returned (.bool true) ∧ Below w.heap.size w w' := by
  have g1 : (4 : Int) < (n : Int) := by omega
  clear h
  go_enter Tryz.func3, Tryz.ntmps3
  go_wp2_with fail
  refine (awake10 _).mono ?_
  rintro e w1 ⟨rfl, hb1⟩
  go_wp2
  go_ret
  exact ⟨rfl, hb1⟩

set_option maxHeartbeats 8000000 in
set_option maxRecDepth 100000 in
theorem receives_in (A : Option Addr) (n cap : Nat) (fs : Nat → Fr) (w : World) (hr : Fl w A n fs) (hwf : ∀ i, i < n → (fs i).wf) (hn : n ≤ 4) :
    Calls Tryz.prog 3 #[.slice A n cap] w fun e w' => e = .returned (.bool true) ∧ Below w.heap.size w w' := by
  have HR := Lib.hid hr
  have HWF := Lib.hid hwf
  have hnI : ¬ (4 : Int) < (n : Int) := by omega
  have hn4 : (n : Int) ≤ 4 := by omega
  clear hr hwf hn
  go_enter Tryz.func3, Tryz.ntmps3
  go_wp2_with fail
  refine (joined_any none 0 0 (fun _ => Fr.zero) w (fl_nil w _) (by omega) (fun i hi => by omega)).mono ?_
  rintro e w1 ⟨g, gq, rfl, h1⟩
  have H1 := Lib.hid (h1.to (show idl (putsN (fun _ => Fr.zero) 0) = idl [] from rfl))
  clear h1
  go_wp2
  go_loopw [4] (fun i wr => ∃ j : Nat, j ≤ n ∧ i = .int .i64 j ∧ Nst w wr g gq (idl []) NoSide) (fun i _ => n - (intOf i).toNat)
  case atStart => exact ⟨0, Nat.zero_le _, rfl, H1.out⟩
  case round =>
    obtain ⟨j, hj, rfl, hn⟩ := hrel
    have HN := Lib.hid hn
    clear hn
    by_cases hlt : j < n
    · have hlt' : (j : Int) < (n : Int) := by omega
      obtain ⟨ad, rfl, hl, c0, c1, c2, c3, c4, c5, c6, c7, c8, c9, c10, c11⟩ := (HR.out.below HN.out.below).at_ hlt
      have HFW := Lib.hid (HWF.out j hlt)
      obtain ⟨f, hf⟩ : ∃ f, fs j = f := ⟨_, rfl⟩
      have HFE := Lib.hid hf
      rw [hf] at c0 c1 c2 c3 c4 c5 c6 c7 c8 c9 c10 c11 HFW
      clear hf
      cases hmay : f.may
      · have hck := fun W => fcheck_any f W
        rw [show f.err = 14 from by unfold Fr.err; rw [hmay]; rfl] at hck
        go_wp2_with fail
        refine (encode_bad f true _ hmay).mono ?_
        rintro e w2 ⟨rfl, hb2⟩
        have HB2 := Lib.hid (nxt HN.out.below hb2)
        obtain ⟨ad2, e2, hl2, d0, d1, d2, d3, d4, d5, d6, d7, d8, d9, d10, d11⟩ := (HR.out.below HB2.out).at_ hlt
        injection e2 with e2
        subst e2
        rw [HFE.out] at d0 d1 d2 d3 d4 d5 d6 d7 d8 d9 d10 d11
        clear hb2 c0 c1 c2 c3 c4 c5 c6 c7 c8 c9 c10 c11
        go_wp2_with fail
        refine (hck _).mono ?_
        rintro e w3 ⟨rfl, hb3⟩
        have HB3 := Lib.hid (nxt HB2.out hb3)
        clear hb3
        go_wp2_with fail
        refine (awake10 _).mono ?_
        rintro e w4 ⟨rfl, hb4⟩
        have HB4 := Lib.hid (nxt HB3.out hb4)
        clear hb4
        go_wp2
        go_ret
        exact ⟨rfl, HB4.out⟩
      · have HM := Lib.hid hmay
        clear hmay
        go_wp2_with fail
        refine (encode_ok f true _ HM.out HFW.out).mono ?_
        rintro e w2 ⟨v, rfl, ho, hb2⟩
        have h3 := HN.out.add kept_no hb2 (rowS_new ho HN.out.below.size)
        obtain ⟨B, cp, hv, hi, hc⟩ := ho.il2
        obtain ⟨m, hml⟩ : ∃ m, (enc f true).length = m := ⟨_, rfl⟩
        have HML := Lib.hid (show m = sl_ f + 10 by rw [← hml, enc_ln])
        have hm310 : m ≤ 310 := by rw [← hml]; exact enc_le HM.out true
        rw [hml] at hv hi hc
        obtain ⟨ar, rfl, -, -⟩ := hi.2 (by have := HML.out; omega)
        subst hv
        have H3 := Lib.hid h3
        have HK := Lib.hid (kept_both kept_no (kept_row w.heap.size (.slice (some ar) m cp) (enc f true)))
        have HEL := Lib.hid hml
        clear h3 ho hb2 hi hc hml c0 c1 c2 c3 c4 c5 c6 c7 c8 c9 c10 c11 hl
        generalize hP : Both NoSide (RowS w.heap.size (.slice (some ar) m cp) (enc f true)) = P at *
        have HP := Lib.hid hP
        clear hP
        have hmI : (m : Int) ≤ 310 := by omega
        have hm10 : (10 : Int) ≤ (m : Int) := by have := HML.out; omega
        rename World => wo
        go_wp2
        go_loopw [8] (fun i wr => ∃ k : Nat, k ≤ m + 3 ∧ i = .int .i64 k ∧ ∃ nd, RxA f k nd ∧ Nst w wr g gq nd P) (fun i _ => m + 3 - (intOf i).toNat)
        case atStart => exact ⟨0, by omega, rfl, _, .inl ⟨by have := HML.out; omega, .inl ⟨rfl, rfl⟩⟩, H3.out⟩
        case round =>
          obtain ⟨k, hk, rfl, nd, hz, hn⟩ := hrel
          have HN3 := Lib.hid hn
          clear hn
          by_cases hkt : k < m + 3
          · have hkt' : (k : Int) < (m : Int) + 3 := by omega
            obtain ⟨hlv, hfit, hdr, es, n', hst, hza, hes, hes8⟩ := rxa_step HM.out HFW.out hz (by have := HML.out; omega)
            have HLV := Lib.hid hlv
            have HFIT := Lib.hid hfit
            have hd := nst_drive HN3.out fun h => (HFIT.out.inf h).f
            rw [hdr] at hd
            have HD := Lib.hid hd
            have HST := Lib.hid hst
            have HZA := Lib.hid hza
            have HES := Lib.hid (And.intro hes hes8)
            have HLE := Lib.hid (show lv3 f k = if k < sl_ f + 10 then (enc f true).getD k 0 else 1 from rfl)
            clear hlv hfit hdr hd hst hza hes hes8 hz
            generalize lv3 f k = z at *
            by_cases hkm0 : k < m
            · have hkm : k < m := hkm0
              have hkmI : (k : Int) < (m : Int) := by omega
              have r0 : wr.cell? (ar.add k) = some (.int .i64 z) := by
                obtain ⟨F, hF⟩ := HN3.out.side
                rw [← HP.out] at hF
                have h := hF.2.cell (j := k) (by rw [HEL.out]; exact hkm)
                rw [h, HLE.out, if_pos (by have := HML.out; omega)]
              by_cases hsl : k = sl_ f + 1
              · have hs1 : ((k : Int) == (m : Int) - 9) = true := by have := HML.out; simp; omega
                have hl1 : ((k : Int) != (m : Int) - 2) = true := by have := HML.out; simp; omega
                rw [if_pos (by have := HML.out; omega)] at HD
                obtain rfl := HES.out.1 (by omega)
                clear hsl
                go_wp2_with fail
                refine HD.out.mono ?_
                rintro e w4 ⟨rfl, hb4⟩
                have HN4 := Lib.hid (HN3.out.next HK.out hb4)
                have hst := nst_step HN4.out HK.out HFIT.out z HLV.out
                rw [HST.out] at hst
                have HS := Lib.hid hst
                clear hst HD hb4
                go_wp2_with fail
                refine HS.out.mono ?_
                rintro e w5 ⟨u, rfl, h5, h6, h7⟩
                have HN5 := Lib.hid h6
                obtain ⟨Ae, ce, rfl, -⟩ := h5.len
                clear h5 h6 h7 HS
                go_wp2
                go_roundw
                case rel => exact ⟨k + 1, by omega, by go_num, n', HZA.out, HN5.out⟩
                case measure => simp [intOf]; omega
              · by_cases h8 : k = sl_ f + 8
                · have hs1 : ((k : Int) == (m : Int) - 9) = false := by have := HML.out; simp; omega
                  have hl1 : ((k : Int) != (m : Int) - 2) = false := by have := HML.out; simp; omega
                  rw [if_neg (by have := HML.out; omega)] at HD
                  obtain ⟨gf, rfl, hgv⟩ := HES.out.2 h8
                  have HGV := Lib.hid hgv
                  clear hsl h8 hgv
                  go_wp2_with fail
                  refine HD.out.mono ?_
                  rintro e w4 ⟨rfl, hb4⟩
                  have HN4 := Lib.hid (HN3.out.next HK.out hb4)
                  have hst := nst_step HN4.out HK.out HFIT.out z HLV.out
                  rw [HST.out] at hst
                  have HS := Lib.hid hst
                  clear hst HD hb4
                  go_wp2_with fail
                  refine HS.out.mono ?_
                  rintro e w5 ⟨u, rfl, h5, h6, h7⟩
                  have HN5 := Lib.hid h6
                  obtain ⟨ge, ce, rfl, hce⟩ := h5.shape (by simp)
                  have k2 : w5.cell? ⟨ge, 2, none⟩ = some (.int .i64 2) := hce 2 _ rfl
                  have k3 : w5.cell? ⟨ge, 3, none⟩ = some (.int .i64 gf.id) := hce 3 _ rfl
                  have k4 : w5.cell? ⟨ge, 4, none⟩ = some (.bool gf.ext) := hce 4 _ rfl
                  have k5 : w5.cell? ⟨ge, 5, none⟩ = some (.bool gf.rtr) := hce 5 _ rfl
                  have k6 : w5.cell? ⟨ge, 6, none⟩ = some (.int .i64 gf.len) := hce 6 _ rfl
                  have k7 : w5.cell? ⟨ge, 7, none⟩ = some (.int .u8 (gf.d 0)) := hce 7 _ rfl
                  have k8 : w5.cell? ⟨ge, 8, none⟩ = some (.int .u8 (gf.d 1)) := hce 8 _ rfl
                  have k9 : w5.cell? ⟨ge, 9, none⟩ = some (.int .u8 (gf.d 2)) := hce 9 _ rfl
                  have k10 : w5.cell? ⟨ge, 10, none⟩ = some (.int .u8 (gf.d 3)) := hce 10 _ rfl
                  have k11 : w5.cell? ⟨ge, 11, none⟩ = some (.int .u8 (gf.d 4)) := hce 11 _ rfl
                  have k12 : w5.cell? ⟨ge, 12, none⟩ = some (.int .u8 (gf.d 5)) := hce 12 _ rfl
                  have k13 : w5.cell? ⟨ge, 13, none⟩ = some (.int .u8 (gf.d 6)) := hce 13 _ rfl
                  have k14 : w5.cell? ⟨ge, 14, none⟩ = some (.int .u8 (gf.d 7)) := hce 14 _ rfl
                  obtain ⟨ad2, e2, hl2, d0, d1, d2, d3, d4, d5, d6, d7, d8, d9, d10, d11⟩ := (HR.out.below HN5.out.below).at_ hlt
                  injection e2 with e2
                  subst e2
                  rw [HFE.out] at d0 d1 d2 d3 d4 d5 d6 d7 d8 d9 d10 d11
                  have hfe := fun W => fneq gf f W
                  rw [same_val.2 HGV.out] at hfe
                  clear h5 h6 h7 HS hce
                  go_wp2
                  go_quiet (fail)
                  go_wp2
                  go_roundw
                  case rel => exact ⟨k + 1, by omega, by go_num, n', HZA.out, HN5.out.next HK.out (belowN (Below.refl _ _) _)⟩
                  case measure => simp [intOf]; omega
                · have hs1 : ((k : Int) == (m : Int) - 9) = false := by have := HML.out; simp; omega
                  have hl1 : ((k : Int) != (m : Int) - 2) = true := by have := HML.out; simp; omega
                  rw [if_neg (by have := HML.out; omega)] at HD
                  obtain rfl := HES.out.1 h8
                  clear hsl h8
                  go_wp2_with fail
                  refine HD.out.mono ?_
                  rintro e w4 ⟨rfl, hb4⟩
                  have HN4 := Lib.hid (HN3.out.next HK.out hb4)
                  have hst := nst_step HN4.out HK.out HFIT.out z HLV.out
                  rw [HST.out] at hst
                  have HS := Lib.hid hst
                  clear hst HD hb4
                  go_wp2_with fail
                  refine HS.out.mono ?_
                  rintro e w5 ⟨u, rfl, h5, h6, h7⟩
                  have HN5 := Lib.hid h6
                  obtain ⟨Ae, ce, rfl, -⟩ := h5.len
                  clear h5 h6 h7 HS
                  go_wp2
                  go_roundw
                  case rel => exact ⟨k + 1, by omega, by go_num, n', HZA.out, HN5.out⟩
                  case measure => simp [intOf]; omega
            · have hkm : ¬ (k : Int) < (m : Int) := by omega
              obtain rfl : z = 1 := by have := HLE.out; rw [if_neg (by have := HML.out; omega)] at this; exact this
              have hs1 : ((k : Int) == (m : Int) - 9) = false := by have := HML.out; simp; omega
              have hl1 : ((k : Int) != (m : Int) - 2) = true := by have := HML.out; simp; omega
              rw [if_neg (by have := HML.out; omega)] at HD
              obtain rfl := HES.out.1 (by have := HML.out; omega)
              go_wp2_with fail
              refine HD.out.mono ?_
              rintro e w4 ⟨rfl, hb4⟩
              have HN4 := Lib.hid (HN3.out.next HK.out hb4)
              have hst := nst_step HN4.out HK.out HFIT.out 1 (.inr rfl)
              rw [HST.out] at hst
              have HS := Lib.hid hst
              clear hst HD hb4
              go_wp2_with fail
              refine HS.out.mono ?_
              rintro e w5 ⟨u, rfl, h5, h6, h7⟩
              have HN5 := Lib.hid h6
              obtain ⟨Ae, ce, rfl, -⟩ := h5.len
              clear h5 h6 h7 HS
              go_wp2
              go_roundw
              case rel => exact ⟨k + 1, by omega, by go_num, n', HZA.out, HN5.out⟩
              case measure => simp [intOf]; omega
          · have hkt' : ¬ (k : Int) < (m : Int) + 3 := by omega
            have hnd : nd = idl [] := by
              have := HML.out
              rcases hz with h | h | h
              · omega
              · omega
              · exact h.2
            have e8 : nd.lookV = .agg #[.int .i64 1, .bool false, .int .i64 0, .int .i64 0, .bool false, .int .i64 0] := by rw [hnd]; rfl
            have hlk := nst_look HN3.out
            rw [e8] at hlk
            have HL := Lib.hid hlk
            have HN4 := Lib.hid (HN3.out.to hnd)
            have hcn := cneq0
            clear hlk e8 hnd hz HN3 H3 hkt
            go_wp2_with fail
            refine HL.out.mono ?_
            rintro e w8 ⟨rfl, hb8⟩
            have hbb : Below w8.heap.size w8 (w8.alloc (.cells #[.int .i64 1, .bool false, .int .i64 0, .int .i64 0, .bool false, .int .i64 0] 43)) := (Below.refl _ _).alloc (Nat.le_refl _) _
            have HN5 := Lib.hid (Nst.less (Q := NoSide) (HN4.out.next HK.out (nxt hb8 hbb)) fun _ _ => trivial)
            clear hb8 hbb HN4 HL
            go_wp2
            go_roundw
            case rel => exact ⟨j + 1, by omega, by go_num, HN5.out⟩
            case measure => simp [intOf]; omega
    · have hltI : ¬ (j : Int) < (n : Int) := by omega
      have HB := Lib.hid HN.out.below
      clear HN hlt
      go_wp2_with fail
      refine (awake10 _).mono ?_
      rintro e w4 ⟨rfl, hb4⟩
      have HB4 := Lib.hid (nxt HB.out hb4)
      clear hb4
      go_wp2
      go_ret
      exact ⟨rfl, HB4.out⟩
theorem receives_any (A : Option Addr) (n cap : Nat) (fs : Nat → Fr) (w : World) (hr : Fl w A n fs) (hwf : ∀ i, i < n → (fs i).wf) :
    Calls Tryz.prog 3 #[.slice A n cap] w fun e w' => e = .returned (.bool true) ∧ Below w.heap.size w w' := by
  rcases Nat.lt_or_ge 4 n with h | h
  · exact receives_out A n cap w h
  · exact receives_in A n cap fs w hr hwf h
end Go.Proofs.YtenfcbmeokenaaaGreat
