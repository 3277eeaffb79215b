/- The walk of the law CodecParts. -/
import Derived.Test.YtffhhegpkejdgaaX610
import Derived.Test.YtffhhegpkejdgaaZL6s
import Derived.Test.YtffhhegpkejdgaaX614
namespace Go.Proofs.Ytffhhegpkejdgaa
open Go.RowKit

theorem ten_at (s : Int) {k : Nat} (hk : k < 10) (h1 : k ≠ 1) : (ten s).getD k 0 = 1 := by
  have : k = 0 ∨ k = 2 ∨ k = 3 ∨ k = 4 ∨ k = 5 ∨ k = 6 ∨ k = 7 ∨ k = 8 ∨ k = 9 := by omega
  rcases this with rfl | rfl | rfl | rfl | rfl | rfl | rfl | rfl | rfl <;> rfl
theorem enc_low (f : Fr) (b : Bool) {k : Nat} (hk : k < (stf (raw f)).length) : (enc f b).getD k 0 = (stf (raw f)).getD k 0 := by
  unfold enc
  rw [List.getD_eq_getElem?_getD, List.getElem?_append_left hk, ← List.getD_eq_getElem?_getD]
theorem alk_one {t : List Int} (h : 0 < t.length) : alk (t.take 1) = 1 := by
  cases t with
  | nil => simp at h
  | cons a t =>
    show alk ([] ++ [a]) = 1
    by_cases e : a = lst []
    · rw [alk_same e, alk_nil]
    · rw [alk_other e]
theorem alk_next {t : List Int} {p : Nat} (h : p + 1 < t.length) : alk (t.take (p + 1 + 1)) = if t.getD (p + 1) 0 = t.getD p 0 then alk (t.take (p + 1)) + 1 else 1 := by
  rw [take_snoc t (p + 1) _ (getD_some t (p + 1) h)]
  by_cases e : t.getD (p + 1) 0 = t.getD p 0
  · rw [if_pos e, alk_same (by rw [lst_take (by omega)]; exact e)]
  · rw [if_neg e, alk_other (by rw [lst_take (by omega)]; exact e)]
theorem own6_raw {f : Fr} : (raw f).length = own6 (nDat f) f.ext := by
  rw [raw_len, bts_len]; unfold own6 hEnd; split <;> omega
theorem enc_longest {f : Fr} (b : Bool) : (enc f b).length ≤ lgst (nDat f) f.ext := by
  have := stf_most (raw f)
  have := (stf_len (raw f)).1
  rw [enc_len]; unfold lgst; rw [← own6_raw]; omega
theorem raw_34 (f : Fr) : 34 ≤ (raw f).length := by
  rw [own6_raw]; unfold own6; split <;> omega

set_option maxRecDepth 100000 in
set_option maxHeartbeats 3200000 in
theorem cparts_bad (f : Fr) (b : Bool) (w : World) (hm : f.may = false) :
    Calls Try.prog 6 #[f.val, .bool b] w fun e w' => e = .returned (.bool true) ∧ Below w.heap.size w w' := by
  have HM := Lib.hid hm
  clear hm
  go_enter Try.func6, Try.ntmps6
  go_wp2_with fail
  refine (encode_bad f _ _ HM.out).mono ?_
  rintro e w1 ⟨rfl, hb1⟩
  have HB1 := Lib.hid (nxt (boxed f w) hb1)
  obtain ⟨c0, c1, c2, c3, c4, c5, c6, c7, c8, c9, c10, c11⟩ := ((fb_new w f).below hb1 (by simp)).bx
  clear hb1
  go_wp2_with fail
  refine (fall_bad f _ HM.out).mono ?_
  rintro e w2 ⟨rfl, hb2⟩
  have HB2 := Lib.hid (nxt HB1.out hb2)
  clear hb2 c0 c1 c2 c3 c4 c5 c6 c7 c8 c9 c10 c11
  go_wp2_with fail
  refine (awake6 _).mono ?_
  rintro e w3 ⟨rfl, hb3⟩
  go_wp2
  go_ret
  exact ⟨rfl, nxt HB2.out hb3⟩

set_option maxRecDepth 100000 in
set_option maxHeartbeats 6400000 in
theorem cparts_ok (f : Fr) (b : Bool) (w : World) (hm : f.may = true) (hwf : f.wf) :
    Calls Try.prog 6 #[f.val, .bool b] w fun e w' => e = .returned (.bool true) ∧ Below w.heap.size w w' := by
  have HM := Lib.hid hm; have HWF := Lib.hid hwf
  obtain ⟨L, hL⟩ : ∃ L, (stf (raw f)).length = L := ⟨_, rfl⟩
  obtain ⟨M, hM⟩ : ∃ M, (raw f).length = M := ⟨_, rfl⟩
  have hL2 : L ≤ 300 := by rw [← hL]; exact stf_raw_le hm
  have hML : M ≤ L := by rw [← hL, ← hM]; exact (stf_len (raw f)).1
  have hM1 : 34 ≤ M := by rw [← hM]; exact raw_34 f
  have HEL := Lib.hid (show (enc f b).length = L + 10 by rw [enc_len, hL])
  have HAL := Lib.hid (show (alls f).length = M + 10 by rw [alls_raw, List.length_append, hM]; rfl)
  have HAT := Lib.hid (show (alls f).take M = raw f by rw [alls_raw, ← hM, List.take_left])
  have HET := Lib.hid (show (enc f b).take L = stf (raw f) by unfold enc; rw [← hL, List.take_left])
  have HTK := Lib.hid (tk_stf (raw_all f))
  have HLO := Lib.hid (show ∀ k, k < L → (enc f b).getD k 0 = (stf (raw f)).getD k 0 from fun k hk => enc_low f b (by rw [hL]; exact hk))
  have HHI := Lib.hid (show ∀ k, (enc f b).getD (L + k) 0 = (ten (if b then 0 else 1)).getD k 0 from fun k => by rw [← hL]; exact enc_at f b k)
  have HOK := Lib.hid (stf_back (raw f)).1
  have HLG := Lib.hid (show L + 10 ≤ lgst (nDat f) f.ext by have := enc_longest (f := f) b; rw [enc_len, hL] at this; exact this)
  have HRL := Lib.hid hM
  have HSL := Lib.hid hL
  have HN8 := Lib.hid (show nDat f ≤ 8 by obtain ⟨n, hn, h8⟩ := len_nat hm; unfold nDat; rw [hn]; split <;> simp <;> omega)
  obtain ⟨ln, hln, hl8⟩ := len_nat hm
  have HLN := Lib.hid hln
  clear hm hwf hL hM hln
  go_enter Try.func6, Try.ntmps6
  go_wp2_with fail
  refine (encode_ok f b _ HM.out HWF.out).mono ?_
  rintro e w1 ⟨v, rfl, ho1, hb1⟩
  obtain ⟨q, cap1, rfl, hq, hcap1⟩ := ho1.shape (by rw [HEL.out]; omega)
  rw [HEL.out] at ho1 hcap1 ⊢
  have HB1 := Lib.hid (nxt (boxed f w) hb1)
  have HF1 := Lib.hid (show Fb w1 w.heap.size f from (fb_new w f).below hb1 (by simp))
  have HO1 := Lib.hid ho1
  obtain ⟨c0, c1, c2, c3, c4, c5, c6, c7, c8, c9, c10, c11⟩ := HF1.out.bx
  clear hb1 ho1 hq
  go_wp2_with fail
  refine (fall_ok f _ HM.out HWF.out).mono ?_
  rintro e w2 ⟨v, rfl, ho2, hb2⟩
  obtain ⟨A2, cap2, rfl, hi2, hcap2⟩ := ho2.il2
  rw [HAL.out] at hi2 hcap2 ⊢
  have HB2 := Lib.hid (nxt HB1.out hb2)
  have HF2 := Lib.hid (HF1.out.below hb2 HF1.out.lt)
  have HO2 := Lib.hid (HO1.out.below hb2)
  have HI2 := Lib.hid hi2
  have i1 : (L : Int) ≤ (cap1 : Int) := by omega
  have i2 : L ≤ cap1 := by omega
  have i3 : (M : Int) ≤ (cap2 : Int) := by omega
  have i4 : M ≤ cap2 := by omega
  have i5 : (0 : Int) ≤ (L : Int) := by omega
  have i6 : (0 : Int) ≤ (M : Int) := by omega
  have i7 : (34 : Int) ≤ (M : Int) := by omega
  have i8 : (34 : Int) ≤ (L : Int) := by omega
  have HIL := Lib.hid (show Il w2 (some ⟨q, 0, none⟩) L (stf (raw f)) from by have := HO2.out.il_at.take L (by omega); rwa [HET.out] at this)
  clear hb2 ho2 hi2 c0 c1 c2 c3 c4 c5 c6 c7 c8 c9 c10 c11
  go_wp2_with fail
  refine (take_any _ L cap1 _ _ HIL.out (by omega)).mono ?_
  rintro e w3 ⟨A3, cap3, rfl, hi3, hc3, hb3⟩
  rw [HTK.out.1, HTK.out.2.1]
  rw [HTK.out.2.2, HRL.out] at hi3 ⊢
  have HI3 := Lib.hid hi3
  have HB3 := Lib.hid (nxt HB2.out hb3)
  have HF3 := Lib.hid (HF2.out.below hb3 HF2.out.lt)
  have HO3 := Lib.hid (HO2.out.below hb3)
  have HA3 := Lib.hid (HI2.out.below hb3)
  have HM3 := Lib.hid (show Il w3 A2 M (raw f) from by have := HA3.out.take M (by omega); rwa [HAT.out] at this)
  clear hb3 hi3 hc3
  go_wp2_with fail
  refine (ints_b _ _ M M _ _ _ _ _ HI3.out HM3.out (by omega)).mono ?_
  rintro e w4 ⟨rfl, hb4⟩
  rw [show (raw f == raw f) = true from by simp]
  have HB4 := Lib.hid (nxt HB3.out hb4)
  have HF4 := Lib.hid (HF3.out.below hb4 HF3.out.lt)
  have HO4 := Lib.hid (HO3.out.below hb4)
  have HM4 := Lib.hid (HM3.out.below hb4)
  clear hb4 HI3 HO3 HA3 HM3 HF3 HIL HO2 HF2 HI2 HO1 HF1
  obtain ⟨t, ht⟩ : ∃ t, stf (raw f) = t := ⟨_, rfl⟩
  rw [ht] at HLO HOK HSL
  have HTT := Lib.hid ht
  clear ht
  go_wp2
  go_loopw [13, 14] (fun r i wr => ∃ k : Nat, k ≤ L ∧ i = .int .i64 k ∧ r = .int .i64 (alk (t.take k) : Nat) ∧ Below w4.heap.size w4 wr) (fun _ i _ => L - (intOf i).toNat)
  case atStart => exact ⟨0, Nat.zero_le _, rfl, rfl, Below.refl _ _⟩
  case round =>
    obtain ⟨k, hk, rfl, rfl, hbel⟩ := hrel
    have HBL := Lib.hid hbel
    have HO5 := Lib.hid (HO4.out.below hbel)
    clear hbel
    by_cases hlt : k < L
    · rcases k with _ | p
      · have ha := alk_one (t := t) (by rw [HSL.out]; omega)
        have HA := Lib.hid ha
        clear ha
        go_wp2
        go_quiet (fail)
        go_wp2
        go_roundw
        case rel => exact ⟨1, by omega, rfl, by rw [HA.out]; rfl, belowN HBL.out _⟩
        case measure => simp [intOf]; omega
      · have hx := HO5.out.cell (j := p + 1) (by rw [HEL.out]; omega)
        have hy := HO5.out.cell (j := p) (by rw [HEL.out]; omega)
        rw [HLO.out _ hlt] at hx
        rw [HLO.out _ (by omega)] at hy
        have HA := Lib.hid (alk_next (t := t) (p := p) (by rw [HSL.out]; exact hlt))
        have ha5 := HOK.out (p + 1) (by rw [HSL.out]; omega)
        have hb5 := HOK.out (p + 1 + 1) (by rw [HSL.out]; omega)
        generalize t.getD (p + 1) 0 = x at *
        generalize t.getD p 0 = y at *
        obtain ⟨r, hr⟩ : ∃ r, alk (t.take (p + 1)) = r := ⟨_, rfl⟩
        rw [hr] at HA ha5 ⊢
        clear hr
        by_cases hxy : x = y
        · have hr5 : r + 1 ≤ 5 := by have := HA.out; rw [if_pos hxy] at this; omega
          have hr6 : (r : Int) + 1 ≤ 5 := by omega
          have HA2 := Lib.hid (show alk (t.take (p + 1 + 1)) = r + 1 by have := HA.out; rwa [if_pos hxy] at this)
          have hq : (x == y) = true := by simpa using hxy
          clear hxy hb5 HA
          go_wp2
          go_quiet (fail)
          go_wp2
          go_roundw
          case rel => exact ⟨p + 1 + 1, by omega, by go_num, by rw [HA2.out]; go_num, belowN HBL.out _⟩
          case measure => simp [intOf]; omega
        · have HA2 := Lib.hid (show alk (t.take (p + 1 + 1)) = 1 by have := HA.out; rwa [if_neg hxy] at this)
          have hq : (x == y) = false := by simpa using hxy
          clear hxy hb5 HA
          go_wp2
          go_quiet (fail)
          go_wp2
          go_roundw
          case rel => exact ⟨p + 1 + 1, by omega, by go_num, by rw [HA2.out]; rfl, belowN HBL.out _⟩
          case measure => simp [intOf]; omega
    · have hkl : k = L := by omega
      subst hkl
      have HF5 := Lib.hid (HF4.out.below HBL.out HF4.out.lt)
      have HM5 := Lib.hid (HM4.out.below HBL.out)
      have HB5 := Lib.hid (nxt HB4.out HBL.out)
      generalize alk (t.take k) = r0 at *
      obtain ⟨s, hs⟩ : ∃ s : Int, (if b then 0 else 1) = s := ⟨_, rfl⟩
      have hsq : (s == 0) = b := by rw [← hs]; cases b <;> rfl
      rw [hs] at HHI
      clear hs
      go_wp2
      go_loopw [15] (fun i wr2 => ∃ j : Nat, j ≤ 10 ∧ i = .int .i64 j ∧ Below wr.heap.size wr wr2) (fun i _ => 10 - (intOf i).toNat)
      case atStart => exact ⟨0, Nat.zero_le _, rfl, Below.refl _ _⟩
      case round =>
        obtain ⟨j, hj, rfl, hb2⟩ := hrel
        have HB6 := Lib.hid hb2
        by_cases hj10 : j < 10
        · have hx := (HO5.out.below hb2).cell (j := k + j) (by rw [HEL.out]; omega)
          rw [HHI.out] at hx
          clear hb2
          by_cases hj1 : j = 1
          · subst hj1
            rw [show (ten s).getD 1 0 = s from rfl] at hx
            go_wp2
            go_roundw
            case rel => exact ⟨2, by omega, rfl, HB6.out⟩
            case measure => simp [intOf]
          · rw [ten_at s hj10 hj1] at hx
            have hq1 : ((j : Int) == 1) = false := by simp; omega
            clear hj1
            go_wp2
            go_roundw
            case rel => exact ⟨j + 1, by omega, by go_num, HB6.out⟩
            case measure => simp [intOf]; omega
        · have hj' : j = 10 := by omega
          subst hj'
          have HF6 := Lib.hid (HF5.out.below hb2 HF5.out.lt)
          have HM6 := Lib.hid (HM5.out.below hb2)
          have HBB := Lib.hid (nxt HB5.out hb2)
          have HSR := Lib.hid (show (stf (raw f)).length = k by rw [HTT.out, HSL.out])
          obtain ⟨c0, c1, c2, c3, c4, c5, c6, c7, c8, c9, c10, c11⟩ := HF6.out.bx
          obtain ⟨d, hd⟩ : ∃ d : Nat, (k : Int) - (M : Int) = (d : Int) := ⟨k - M, by omega⟩
          have hd2 : (M : Int) + 10 + (d : Int) = (k : Int) + 10 := by omega
          have HD := Lib.hid hd
          clear hb2 hd HF5 HM5 HB5 hj hj10
          cases hrt : f.rtr
          · have HND := Lib.hid (show nDat f = ln by unfold nDat; rw [hrt, HLN.out]; simp)
            rw [HND.out] at HLG
            go_wp2_with fail
            rw [HLN.out]
            refine (longest_ok6 ln f.ext _ hl8).mono ?_
            rintro e w' ⟨rfl, rfl⟩
            have hg := HLG.out
            generalize lgst ln f.ext = g at *
            have hg2 : (k : Int) + 10 ≤ (g : Int) := by omega
            go_wp2_with fail
            refine (count_ok _ M _ (raw f) _ HM6.out (by omega) (raw_all f)).mono ?_
            rintro e w7 ⟨rfl, hb7⟩
            rw [HSR.out, HD.out]
            have HB7 := Lib.hid (nxt HBB.out hb7)
            clear hb7
            go_wp2_with fail
            refine (awake6 _).mono ?_
            rintro e w8 ⟨rfl, hb8⟩
            go_wp2
            go_ret
            exact ⟨rfl, nxt HB7.out hb8⟩
          · have HND := Lib.hid (show nDat f = 0 by unfold nDat; rw [hrt]; simp)
            rw [HND.out] at HLG
            go_wp2_with fail
            refine (longest_ok6 0 f.ext _ (by omega)).mono ?_
            rintro e w' ⟨rfl, rfl⟩
            have hg := HLG.out
            generalize lgst 0 f.ext = g at *
            have hg2 : (k : Int) + 10 ≤ (g : Int) := by omega
            go_wp2_with fail
            refine (count_ok _ M _ (raw f) _ HM6.out (by omega) (raw_all f)).mono ?_
            rintro e w7 ⟨rfl, hb7⟩
            rw [HSR.out, HD.out]
            have HB7 := Lib.hid (nxt HBB.out hb7)
            clear hb7
            go_wp2_with fail
            refine (awake6 _).mono ?_
            rintro e w8 ⟨rfl, hb8⟩
            go_wp2
            go_ret
            exact ⟨rfl, nxt HB7.out hb8⟩

theorem cparts_any (f : Fr) (b : Bool) (w : World) (hwf : f.wf) :
    Calls Try.prog 6 #[f.val, .bool b] w fun e w' => e = .returned (.bool true) ∧ Below w.heap.size w w' := by
  cases hm : f.may with
  | false => exact cparts_bad f b w hm
  | true => exact cparts_ok f b w hm hwf
end Go.Proofs.Ytffhhegpkejdgaa
