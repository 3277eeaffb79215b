/- The walk of the law FieldLong: the frame of eight. -/
import Derived.Test.YtclinogamfpooaaLg
namespace Go.Proofs.Ytclinogamfpooaa
open Go.RowKit

theorem shr_bit (t : Nat) (k : Nat) : (t : Int) / 2 ^ k % 2 = bit t k := by unfold bit; simp


set_option maxHeartbeats 6400000 in
theorem long_false (f : Fr) (t : Nat) (A : Option Addr) (n cap : Nat) (zs : List Int) (w : World) (hm : f.may = true) (hwf : f.wf) (hx : f.ext = false) (h1 : 9 ≤ t) (h2 : t ≤ 15) (h8 : f.len = 8) (h20 : n ≤ 20) (hr : Il w A n zs) (hl : ∀ z ∈ zs, lvl z = true) :
    Calls Try.prog 8 #[f.val, .int .i64 (t : Int), .slice A n cap] w fun e w' => e = .returned (.bool true) ∧ Below w.heap.size w w' := by
  have HM := Lib.hid hm; have HWF := Lib.hid hwf; have HR := Lib.hid hr; have HL := Lib.hid hl; have HX := Lib.hid hx; have H8 := Lib.hid h8
  have HC := Lib.hid (show decide (chk zs < 0) = true from by rw [chk, fst_of_all lvl zs hl]; rfl)
  have HZ := Lib.hid hr.1
  have hnd := nDat_le hm
  have HN := Lib.hid (show ∀ k, k ≤ 4 → (tld f t k).length = 19 + 8 * nDat f from fun k hk => by rw [tld_len f t k hk, hx]; rfl)
  have HFO := Lib.hid (fun r => hdr_fout (f := f) (t := t) r hm hwf (by omega) (by rw [h8]; omega))
  have HAO := Lib.hid (show aout (hdr f t []) = .tuple #[.int .i64 ((19 + 8 * nDat f : Nat) : Int), .int .i64 0] from by rw [hdr_aout [] hm (by omega) (by rw [h8]; omega), hx]; rfl)
  have HT0 := Lib.hid (tld_zero t h8)
  have HNH := Lib.hid (show (hdr f t []).length = 19 + 8 * nDat f by rw [hdr_len, hx]; rfl)
  have HST := Lib.hid (show ∀ k, k < 4 → (tld f t k).set (15 + k) (bit t (3 - k)) = tld f t (k + 1) from fun k hk => by have := tld_step f t k hk; rw [hx] at this; exact this)
  have d1 : decide ((t : Int) < 9) = false := by simp; omega
  have d2 : decide ((15 : Int) < (t : Int)) = false := by simp; omega
  have d4 : decide ((20 : Int) < (n : Int)) = false := by simp; omega
  have h22 := eq22
  clear hm hwf hr hl hx h8
  go_enter Try.func8, Try.ntmps8
  go_wp2_with fail
  refine (fbits_ok f _ HM.out HWF.out).mono ?_
  rintro e w1 ⟨v1, rfl, ho1, hb1⟩
  have HB1 := Lib.hid (nxt (boxed f w) hb1)
  have F1 : Fb w1 w.heap.size f := (fb_new w f).below hb1 (by simp)
  have HF1 := Lib.hid F1
  obtain ⟨c0, c1, c2, c3, c4, c5, c6, c7, c8, c9, c10, c11⟩ := F1.bx
  rw [H8.out] at c3
  rw [HX.out] at c1
  rw [HT0.out] at ho1
  have hsz : (w.alloc (.cells f.cells 24)).heap.size = w.heap.size + 1 := by simp
  rw [hsz] at ho1
  obtain ⟨g, cap1, rfl, hg, hcap1⟩ := ho1.shape (by rw [HN.out 0 (by omega)]; omega)
  rw [HN.out 0 (by omega)] at ho1 hcap1 ⊢
  obtain ⟨N, hN⟩ : ∃ N, 19 + 8 * nDat f = N := ⟨_, rfl⟩
  have hN1 : 19 ≤ N := by omega
  have hN2 : N ≤ 103 := by omega
  rw [hN] at HN HAO HNH ho1 hcap1 ⊢
  have HO1 := Lib.hid ho1
  clear hb1 ho1 F1 hsz hN hnd
  go_wp2_with fail
  refine (levels04 A n cap zs _ (HR.out.below HB1.out) (by omega)).mono ?_
  rintro e w' ⟨rfl, rfl⟩
  rw [HC.out]
  go_wp2
  go_loopw [10] (fun i wr => ∃ k : Nat, k ≤ 4 ∧ i = .int .i64 k ∧ Own wr (w.heap.size + 1) (.slice (some ⟨g, 0, none⟩) N cap1) (tld f t k) ∧ Fb wr w.heap.size f ∧ Below w.heap.size w wr) (fun i _ => 4 - (intOf i).toNat)
  case atStart => exact ⟨0, Nat.zero_le _, rfl, HO1.out, HF1.out, HB1.out⟩
  case round =>
    obtain ⟨k, hk, rfl, ho, hf, hbel⟩ := hrel
    have HO := Lib.hid ho; have HF := Lib.hid hf
    clear c0 c1 c2 c3 c4 c5 c6 c7 c8 c9 c10 c11
    have fz := fun j => ho.frozen j
    by_cases hlt : k < 4
    · have hcl := ho.cell (j := 15 + k) (by rw [HN.out k (by omega)]; omega)
      generalize (tld f t k).getD (15 + k) 0 = y at hcl
      have HS := Lib.hid (HST.out k hlt)
      have i1 : (k : Int) ≤ 3 := by omega
      clear ho hf
      rcases (show k = 0 ∨ k = 1 ∨ k = 2 ∨ k = 3 by omega) with rfl | rfl | rfl | rfl
      · go_wp2
        go_roundw
        case rel => exact ⟨1, by omega, by go_num, by rw [← HS.out]; exact HO.out.put _ _, HF.out.away (by omega), hbel.setCell (by simp; omega) _⟩
        case measure => simp [intOf]
      · go_wp2
        go_roundw
        case rel => exact ⟨2, by omega, by go_num, by rw [← HS.out]; exact HO.out.put _ _, HF.out.away (by omega), hbel.setCell (by simp; omega) _⟩
        case measure => simp [intOf]
      · go_wp2
        go_roundw
        case rel => exact ⟨3, by omega, by go_num, by rw [← HS.out]; exact HO.out.put _ _, HF.out.away (by omega), hbel.setCell (by simp; omega) _⟩
        case measure => simp [intOf]
      · go_wp2
        go_roundw
        case rel => exact ⟨4, by omega, by go_num, by rw [← HS.out, show bit t (3 - 3) = (t : Int) % 2 by unfold bit; simp]; exact HO.out.put _ _, HF.out.away (by omega), hbel.setCell (by simp; omega) _⟩
        case measure => simp [intOf]
    · have e : k = 4 := by omega
      subst e
      clear hlt hk
      rw [tld_four] at HO
      have HI := Lib.hid (show Il wr (some ⟨g, 0, none⟩) N (hdr f t []) from HO.out.il_at)
      have HB := Lib.hid hbel
      clear ho hf fz hbel
      go_wp2_with fail
      refine (ahead_any _ _ _ _ _ HI.out (by omega) hcap1 (hdr_all f t (by intro z hz; cases hz))).mono ?_
      rintro e w2 ⟨rfl, hb2⟩
      rw [HAO.out]
      have HI2 := Lib.hid (HI.out.below hb2)
      have HF2 := Lib.hid (HF.out.below hb2 HF.out.lt)
      have HB2 := Lib.hid (nxt HB.out hb2)
      clear hb2 HI HF HB HO
      go_wp2_with fail
      refine (frame_any _ _ _ _ _ HI2.out (by omega) hcap1 (hdr_all f t (by intro z hz; cases hz))).mono ?_
      rintro e w3 ⟨rfl, hb3⟩
      rw [HFO.out]
      have HI3 := Lib.hid ((HI2.out.below hb3).below (alloc2 _ (.cells f.cells 24) (.cells #[] 3)))
      have HZ3 := Lib.hid ((HR.out.below (nxt HB2.out hb3)).below (alloc2 _ (.cells f.cells 24) (.cells #[] 3)))
      have HF3 := Lib.hid ((HF2.out.below hb3 HF2.out.lt).below (alloc2 _ (.cells f.cells 24) (.cells #[] 3)) (by have := HF2.out.lt; have := hb3.size; omega))
      have HG3 := Lib.hid ((fb_new w3 f).below ((Below.refl _ _).alloc (Nat.le_refl _) (.cells #[] 3)) (by simp))
      have HB3 := Lib.hid (nxt (nxt HB2.out hb3) (alloc2 _ (.cells f.cells 24) (.cells #[] 3)))
      have HO3 := Lib.hid (show Own ((w3.alloc (.cells f.cells 24)).alloc (.cells #[] 3)) (w3.heap.size + 1) (.slice (some ⟨w3.heap.size + 1, 0, none⟩) 0 0) [] from by
        have := Own.lit (w3.alloc (.cells f.cells 24)) (w3.heap.size + 1) [] (by simp) (by simp)
        rwa [show (w3.alloc (.cells f.cells 24)).heap.size = w3.heap.size + 1 by simp] at this)
      have hlw : w.heap.size < w3.heap.size := by have := HF2.out.lt; have := hb3.size; omega
      clear hb3 HI2 HF2 HB2
      go_wp2_with (first
        | (at_builtin; (refine append_ints2 _ rfl (.tmp 89) (.tmp 90) rfl (w3.heap.size + 1) _ [] rfl HO3.out _ N _ (hdr f t []) rfl HI3.out (by simp; omega) (by simp) ?_); intro v4 w4 ho4 hg4 _; have hb4 := ((Below.refl (w3.heap.size + 1) _).grown hg4 (by simp) HO3.out.row); have HO4 := Lib.hid ho4; clear ho4 hg4)
        | (at_builtin; (refine append_ints2 _ rfl (.tmp 91) (.tmp 92) rfl (w3.heap.size + 1) _ _ rfl HO4.out A n cap zs rfl (HR.out.below (HB3.out.trans (hb4.mono (by omega)))) (by rw [List.nil_append, HNH.out]; omega) (by have := hb4.size; simp at this; omega) ?_); intro v5 w5 ho5 hg5 _; have hb5 := (hb4.grown hg5 (by have := hb4.size; simp at this; omega) HO4.out.row); have HO5 := Lib.hid ho5; clear ho5 hg5)
        | fail)
      obtain ⟨A5, cap5, rfl, hi5, hc5⟩ := HO5.out.il2
      have HL5 := Lib.hid (show ([] ++ hdr f t [] ++ zs).length = N + n by rw [List.nil_append, List.length_append, HNH.out, HZ.out])
      rw [HL5.out, List.nil_append, hdr_more] at hi5
      rw [HL5.out] at hc5 ⊢
      refine (frame_any _ _ _ _ _ hi5 (by omega) hc5 (hdr_all f t HL.out)).mono ?_
      rintro e w6 ⟨rfl, hb6⟩
      rw [HFO.out]
      have HF5 := Lib.hid (HF3.out.below hb5 (by omega))
      have HG5 := Lib.hid (HG3.out.below hb5 (by omega))
      have HF6 := HF5.out.below hb6 HF5.out.lt
      have HG6 := HG5.out.below hb6 HG5.out.lt
      have HB6 := Lib.hid (nxt (nxt (HB3.out.trans (hb5.mono (by omega))) hb6) ((Below.refl _ _).alloc (Nat.le_refl _) (.cells f.cells 24)))
      have l1 := HF6.lt
      have l2 := HG6.lt
      obtain ⟨c0, c1, c2, c3, c4, c5, c6, c7, c8, c9, c10, c11⟩ := HF6.bx
      obtain ⟨b0, b1, b2, b3, b4, b5, b6, b7, b8, b9, b10, b11⟩ := HG6.bx
      clear hb4 hb5 hb6 HF5 HG5 HF6 HG6 hi5 HO3 HO4 HO5 HB3 HI3 HZ3 HF3 HG3
      go_wp2_with fail
      refine (awake04 _).mono ?_
      rintro e wa ⟨rfl, hba⟩
      go_wp2
      go_ret
      exact ⟨rfl, nxt HB6.out hba⟩

set_option maxHeartbeats 6400000 in
theorem long_true (f : Fr) (t : Nat) (A : Option Addr) (n cap : Nat) (zs : List Int) (w : World) (hm : f.may = true) (hwf : f.wf) (hx : f.ext = true) (h1 : 9 ≤ t) (h2 : t ≤ 15) (h8 : f.len = 8) (h20 : n ≤ 20) (hr : Il w A n zs) (hl : ∀ z ∈ zs, lvl z = true) :
    Calls Try.prog 8 #[f.val, .int .i64 (t : Int), .slice A n cap] w fun e w' => e = .returned (.bool true) ∧ Below w.heap.size w w' := by
  have HM := Lib.hid hm; have HWF := Lib.hid hwf; have HR := Lib.hid hr; have HL := Lib.hid hl; have HX := Lib.hid hx; have H8 := Lib.hid h8
  have HC := Lib.hid (show decide (chk zs < 0) = true from by rw [chk, fst_of_all lvl zs hl]; rfl)
  have HZ := Lib.hid hr.1
  have hnd := nDat_le hm
  have HN := Lib.hid (show ∀ k, k ≤ 4 → (tld f t k).length = 39 + 8 * nDat f from fun k hk => by rw [tld_len f t k hk, hx]; rfl)
  have HFO := Lib.hid (fun r => hdr_fout (f := f) (t := t) r hm hwf (by omega) (by rw [h8]; omega))
  have HAO := Lib.hid (show aout (hdr f t []) = .tuple #[.int .i64 ((39 + 8 * nDat f : Nat) : Int), .int .i64 0] from by rw [hdr_aout [] hm (by omega) (by rw [h8]; omega), hx]; rfl)
  have HT0 := Lib.hid (tld_zero t h8)
  have HNH := Lib.hid (show (hdr f t []).length = 39 + 8 * nDat f by rw [hdr_len, hx]; rfl)
  have HST := Lib.hid (show ∀ k, k < 4 → (tld f t k).set (35 + k) (bit t (3 - k)) = tld f t (k + 1) from fun k hk => by have := tld_step f t k hk; rw [hx] at this; exact this)
  have d1 : decide ((t : Int) < 9) = false := by simp; omega
  have d2 : decide ((15 : Int) < (t : Int)) = false := by simp; omega
  have d4 : decide ((20 : Int) < (n : Int)) = false := by simp; omega
  have h22 := eq22
  clear hm hwf hr hl hx h8
  go_enter Try.func8, Try.ntmps8
  go_wp2_with fail
  refine (fbits_ok f _ HM.out HWF.out).mono ?_
  rintro e w1 ⟨v1, rfl, ho1, hb1⟩
  have HB1 := Lib.hid (nxt (boxed f w) hb1)
  have F1 : Fb w1 w.heap.size f := (fb_new w f).below hb1 (by simp)
  have HF1 := Lib.hid F1
  obtain ⟨c0, c1, c2, c3, c4, c5, c6, c7, c8, c9, c10, c11⟩ := F1.bx
  rw [H8.out] at c3
  rw [HX.out] at c1
  rw [HT0.out] at ho1
  have hsz : (w.alloc (.cells f.cells 24)).heap.size = w.heap.size + 1 := by simp
  rw [hsz] at ho1
  obtain ⟨g, cap1, rfl, hg, hcap1⟩ := ho1.shape (by rw [HN.out 0 (by omega)]; omega)
  rw [HN.out 0 (by omega)] at ho1 hcap1 ⊢
  obtain ⟨N, hN⟩ : ∃ N, 39 + 8 * nDat f = N := ⟨_, rfl⟩
  have hN1 : 39 ≤ N := by omega
  have hN2 : N ≤ 103 := by omega
  rw [hN] at HN HAO HNH ho1 hcap1 ⊢
  have HO1 := Lib.hid ho1
  clear hb1 ho1 F1 hsz hN hnd
  go_wp2_with fail
  refine (levels04 A n cap zs _ (HR.out.below HB1.out) (by omega)).mono ?_
  rintro e w' ⟨rfl, rfl⟩
  rw [HC.out]
  go_wp2
  go_loopw [10] (fun i wr => ∃ k : Nat, k ≤ 4 ∧ i = .int .i64 k ∧ Own wr (w.heap.size + 1) (.slice (some ⟨g, 0, none⟩) N cap1) (tld f t k) ∧ Fb wr w.heap.size f ∧ Below w.heap.size w wr) (fun i _ => 4 - (intOf i).toNat)
  case atStart => exact ⟨0, Nat.zero_le _, rfl, HO1.out, HF1.out, HB1.out⟩
  case round =>
    obtain ⟨k, hk, rfl, ho, hf, hbel⟩ := hrel
    have HO := Lib.hid ho; have HF := Lib.hid hf
    clear c0 c1 c2 c3 c4 c5 c6 c7 c8 c9 c10 c11
    have fz := fun j => ho.frozen j
    by_cases hlt : k < 4
    · have hcl := ho.cell (j := 35 + k) (by rw [HN.out k (by omega)]; omega)
      generalize (tld f t k).getD (35 + k) 0 = y at hcl
      have HS := Lib.hid (HST.out k hlt)
      have i1 : (k : Int) ≤ 3 := by omega
      clear ho hf
      rcases (show k = 0 ∨ k = 1 ∨ k = 2 ∨ k = 3 by omega) with rfl | rfl | rfl | rfl
      · go_wp2
        go_roundw
        case rel => exact ⟨1, by omega, by go_num, by rw [← HS.out]; exact HO.out.put _ _, HF.out.away (by omega), hbel.setCell (by simp; omega) _⟩
        case measure => simp [intOf]
      · go_wp2
        go_roundw
        case rel => exact ⟨2, by omega, by go_num, by rw [← HS.out]; exact HO.out.put _ _, HF.out.away (by omega), hbel.setCell (by simp; omega) _⟩
        case measure => simp [intOf]
      · go_wp2
        go_roundw
        case rel => exact ⟨3, by omega, by go_num, by rw [← HS.out]; exact HO.out.put _ _, HF.out.away (by omega), hbel.setCell (by simp; omega) _⟩
        case measure => simp [intOf]
      · go_wp2
        go_roundw
        case rel => exact ⟨4, by omega, by go_num, by rw [← HS.out, show bit t (3 - 3) = (t : Int) % 2 by unfold bit; simp]; exact HO.out.put _ _, HF.out.away (by omega), hbel.setCell (by simp; omega) _⟩
        case measure => simp [intOf]
    · have e : k = 4 := by omega
      subst e
      clear hlt hk
      rw [tld_four] at HO
      have HI := Lib.hid (show Il wr (some ⟨g, 0, none⟩) N (hdr f t []) from HO.out.il_at)
      have HB := Lib.hid hbel
      clear ho hf fz hbel
      go_wp2_with fail
      refine (ahead_any _ _ _ _ _ HI.out (by omega) hcap1 (hdr_all f t (by intro z hz; cases hz))).mono ?_
      rintro e w2 ⟨rfl, hb2⟩
      rw [HAO.out]
      have HI2 := Lib.hid (HI.out.below hb2)
      have HF2 := Lib.hid (HF.out.below hb2 HF.out.lt)
      have HB2 := Lib.hid (nxt HB.out hb2)
      clear hb2 HI HF HB HO
      go_wp2_with fail
      refine (frame_any _ _ _ _ _ HI2.out (by omega) hcap1 (hdr_all f t (by intro z hz; cases hz))).mono ?_
      rintro e w3 ⟨rfl, hb3⟩
      rw [HFO.out]
      have HI3 := Lib.hid ((HI2.out.below hb3).below (alloc2 _ (.cells f.cells 24) (.cells #[] 3)))
      have HZ3 := Lib.hid ((HR.out.below (nxt HB2.out hb3)).below (alloc2 _ (.cells f.cells 24) (.cells #[] 3)))
      have HF3 := Lib.hid ((HF2.out.below hb3 HF2.out.lt).below (alloc2 _ (.cells f.cells 24) (.cells #[] 3)) (by have := HF2.out.lt; have := hb3.size; omega))
      have HG3 := Lib.hid ((fb_new w3 f).below ((Below.refl _ _).alloc (Nat.le_refl _) (.cells #[] 3)) (by simp))
      have HB3 := Lib.hid (nxt (nxt HB2.out hb3) (alloc2 _ (.cells f.cells 24) (.cells #[] 3)))
      have HO3 := Lib.hid (show Own ((w3.alloc (.cells f.cells 24)).alloc (.cells #[] 3)) (w3.heap.size + 1) (.slice (some ⟨w3.heap.size + 1, 0, none⟩) 0 0) [] from by
        have := Own.lit (w3.alloc (.cells f.cells 24)) (w3.heap.size + 1) [] (by simp) (by simp)
        rwa [show (w3.alloc (.cells f.cells 24)).heap.size = w3.heap.size + 1 by simp] at this)
      have hlw : w.heap.size < w3.heap.size := by have := HF2.out.lt; have := hb3.size; omega
      clear hb3 HI2 HF2 HB2
      go_wp2_with (first
        | (at_builtin; (refine append_ints2 _ rfl (.tmp 89) (.tmp 90) rfl (w3.heap.size + 1) _ [] rfl HO3.out _ N _ (hdr f t []) rfl HI3.out (by simp; omega) (by simp) ?_); intro v4 w4 ho4 hg4 _; have hb4 := ((Below.refl (w3.heap.size + 1) _).grown hg4 (by simp) HO3.out.row); have HO4 := Lib.hid ho4; clear ho4 hg4)
        | (at_builtin; (refine append_ints2 _ rfl (.tmp 91) (.tmp 92) rfl (w3.heap.size + 1) _ _ rfl HO4.out A n cap zs rfl (HR.out.below (HB3.out.trans (hb4.mono (by omega)))) (by rw [List.nil_append, HNH.out]; omega) (by have := hb4.size; simp at this; omega) ?_); intro v5 w5 ho5 hg5 _; have hb5 := (hb4.grown hg5 (by have := hb4.size; simp at this; omega) HO4.out.row); have HO5 := Lib.hid ho5; clear ho5 hg5)
        | fail)
      obtain ⟨A5, cap5, rfl, hi5, hc5⟩ := HO5.out.il2
      have HL5 := Lib.hid (show ([] ++ hdr f t [] ++ zs).length = N + n by rw [List.nil_append, List.length_append, HNH.out, HZ.out])
      rw [HL5.out, List.nil_append, hdr_more] at hi5
      rw [HL5.out] at hc5 ⊢
      refine (frame_any _ _ _ _ _ hi5 (by omega) hc5 (hdr_all f t HL.out)).mono ?_
      rintro e w6 ⟨rfl, hb6⟩
      rw [HFO.out]
      have HF5 := Lib.hid (HF3.out.below hb5 (by omega))
      have HG5 := Lib.hid (HG3.out.below hb5 (by omega))
      have HF6 := HF5.out.below hb6 HF5.out.lt
      have HG6 := HG5.out.below hb6 HG5.out.lt
      have HB6 := Lib.hid (nxt (nxt (HB3.out.trans (hb5.mono (by omega))) hb6) ((Below.refl _ _).alloc (Nat.le_refl _) (.cells f.cells 24)))
      have l1 := HF6.lt
      have l2 := HG6.lt
      obtain ⟨c0, c1, c2, c3, c4, c5, c6, c7, c8, c9, c10, c11⟩ := HF6.bx
      obtain ⟨b0, b1, b2, b3, b4, b5, b6, b7, b8, b9, b10, b11⟩ := HG6.bx
      clear hb4 hb5 hb6 HF5 HG5 HF6 HG6 hi5 HO3 HO4 HO5 HB3 HI3 HZ3 HF3 HG3
      go_wp2_with fail
      refine (awake04 _).mono ?_
      rintro e wa ⟨rfl, hba⟩
      go_wp2
      go_ret
      exact ⟨rfl, nxt HB6.out hba⟩

theorem law_long (f : Fr) (T : Int) (A : Option Addr) (n cap : Nat) (zs : List Int) (w : World) (hwf : f.wf) (hr : Il w A n zs) :
    Calls Try.prog 8 #[f.val, .int .i64 T, .slice A n cap] w fun e w' => e = .returned (.bool true) ∧ Below w.heap.size w w' := by
  cases hm : f.may
  · exact long_bad f T A n cap w hm
  by_cases h1 : T < 9
  · exact long_t9 f T A n cap w hm hwf h1
  by_cases h2 : 15 < T
  · exact long_t15 f T A n cap w hm hwf h2
  by_cases h8 : f.len = 8
  · by_cases h20 : 20 < n
    · exact long_n20 f T A n cap w hm hwf (by omega) (by omega) h8 h20
    · by_cases hc : chk zs < 0
      · obtain ⟨t, rfl⟩ := Int.eq_ofNat_of_zero_le (show 0 ≤ T by omega)
        cases hx : f.ext
        · exact long_false f t A n cap zs w hm hwf hx (by omega) (by omega) h8 (by omega) hr (all_chk hc)
        · exact long_true f t A n cap zs w hm hwf hx (by omega) (by omega) h8 (by omega) hr (all_chk hc)
      · exact long_lev f T A n cap zs w hm hwf (by omega) (by omega) h8 (by omega) hr hc
  · exact long_len f T A n cap w hm hwf (by omega) (by omega) h8
end Go.Proofs.Ytclinogamfpooaa
