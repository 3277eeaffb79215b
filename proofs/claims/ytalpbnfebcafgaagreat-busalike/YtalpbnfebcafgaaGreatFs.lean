/- The contract of field's Bits, of a frame that may be. -/
import Derived.Test.YtalpbnfebcafgaaGreatFq
namespace Go.Proofs.YtalpbnfebcafgaaGreat
set_option maxRecDepth 20000
open Go.RowKit

theorem of_row (n width : Nat) (w : World) (hn : n < 18446744073709551616) (hw : width ≤ 64) :
    Calls Tryz.prog 69 #[.int .u64 n, .int .i64 width] w fun e w' => ∃ A cap, e = .returned (.tuple #[.slice A width cap, .int .i64 0]) ∧ Il w' A width (ofB n width) ∧ Below w.heap.size w w' := by
  refine (of_ok n width w hn hw).mono ?_
  rintro e w' ⟨A, cap, he, hi, hb⟩
  rw [ofB_len] at he hi
  exact ⟨A, cap, he, hi, hb⟩
theorem arb_row (f : Fr) (w : World) (h : f.may = true) :
    Calls Tryz.prog 70 #[f.val] w fun e w' => ∃ A cap, e = .returned (.tuple #[.slice A f.wid cap, .int .i64 0]) ∧ Il w' A f.wid (ofB f.num f.wid) ∧ Below w.heap.size w w' := by
  refine (arb_ok f w h).mono ?_
  rintro e w' ⟨A, cap, he, hi, hb⟩
  rw [ofB_len] at he hi
  exact ⟨A, cap, he, hi, hb⟩

set_option maxHeartbeats 3200000 in
theorem fbits_ok (f : Fr) (w : World) (h : f.may = true) (hwf : f.wf) : Calls Tryz.prog 54 #[f.val] w (OwnTo (bts f) w) := by
  obtain ⟨_, _, h2, h3, _⟩ := may_parts h
  obtain ⟨n, hn⟩ := Int.eq_ofNat_of_zero_le h2
  have hn8 : n ≤ 8 := by omega
  have HM := Lib.hid h; have HN := Lib.hid hn; have HWF := Lib.hid hwf
  have HW : f.wid ≤ 32 := by unfold Fr.wid; split <;> omega
  have HDW := Lib.hid (dW_div f)
  rw [hn, Int.toNat_natCast] at HDW
  have hdw : dW f.rtr n ≤ 64 := by unfold dW; split <;> omega
  have hcw : cW f.ext ≤ 6 := by cases f.ext <;> decide
  have hnd := nDat_le h
  have HBT := Lib.hid (show bts f = [0] ++ ofB f.num f.wid ++ ofB n (cW f.ext) ++ datB f.d (nDat f) by unfold bts ctlB; rw [hn, Int.toNat_natCast])
  clear h h2 h3 hn hwf
  go_enter Tryz.func54, Tryz.ntmps54
  go_wp2_with fail
  refine (fcheck_any f _).mono ?_
  rintro e w1 ⟨rfl, hb1⟩
  rw [err_ok HM.out]
  have F1 : Fb w1 w.heap.size f := (fb_new w f).below hb1 (by simp)
  have hlt1 : w.heap.size < w1.heap.size := by have := hb1.size; simp at this; omega
  have P0 := Lib.hid (put_start f w w1 (hb1.mono (by simp)) F1 hlt1)
  have hF0 := Lib.hid P0.out.fb
  clear hb1 F1
  go_wp2_with fail
  refine (putter_any _ _).mono ?_
  rintro e w' ⟨rfl, rfl⟩
  rw [show (w1.alloc (.cells #[.slice none 0 0] 23)).heap.size = w1.heap.size + 1 by simp]
  obtain ⟨c0, c1, c2, c3, c4, c5, c6, c7, c8, c9, c10, c11⟩ := hF0.out.bx
  go_wp2_with fail
  refine (widths_any f n (by omega) HN.out _).mono ?_
  rintro e w2 ⟨rfl, hb2⟩
  have P1 := P0.out.below hb2
  clear c0 c1 c2 c3 c4 c5 c6 c7 c8 c9 c10 c11 hF0 hb2 P0
  have Q0 := Lib.hid (show Wb (w2.alloc (.cells (W9c (aW f.ext) (cW f.ext) (dW f.rtr n)) 119)) w2.heap.size _ _ _ from heap_alloc_new _ _)
  have P2 := Lib.hid (P1.below ((Below.refl _ _).alloc (Nat.le_refl _) (.cells (W9c (aW f.ext) (cW f.ext) (dW f.rtr n)) 119)))
  have S2 : Safe (w2.alloc (.cells (W9c (aW f.ext) (cW f.ext) (dW f.rtr n)) 119)) w1.heap.size (.slice none 0 0) w2.heap.size := ⟨by simp, by have := P1.st.lt; omega, by simp [Value.ownBlock]⟩
  have HS2 := Lib.hid S2
  obtain ⟨gl, hgl⟩ : ∃ gl, w1.heap.size = gl := ⟨_, rfl⟩
  rw [hgl] at P2 HS2 ⊢
  obtain ⟨gw, hgw⟩ : ∃ gw, w2.heap.size = gw := ⟨_, rfl⟩
  rw [hgw] at Q0 HS2
  have HGW := Lib.hid hgw
  clear P1 S2 hgl hgw
  go_wp2_with fail
  refine (of_row 0 1 _ (by omega) (by omega)).mono ?_
  rintro e w3 ⟨A3, cap3, rfl, hi3, hb3⟩
  have P3 := Lib.hid (P2.out.below hb3)
  have HS3 := Lib.hid (HS2.out.below hb3)
  have Q3 := Lib.hid (show Wb w3 gw _ _ _ from (hb3.block gw (by rw [← HGW.out]; simp)).trans Q0.out)
  have HI3 := Lib.hid hi3
  clear P2 HS2 hb3 Q0 hi3
  rw [HGW.out]
  go_wp2_with fail
  refine (put_any w.heap.size gl _ _ _ A3 1 cap3 _ _ _ P3.out.st HI3.out (by simp)).mono ?_
  rintro e w4 ⟨rfl, hp4⟩
  obtain ⟨v4, P4, hs4⟩ := P3.out.put hp4
  obtain ⟨S4, q4⟩ := hs4 gw HS3.out
  have Q4 := q4.trans Q3.out
  have HP4 := Lib.hid P4; have HS4 := Lib.hid S4; have HQ4 := Lib.hid (show Wb w4 gw _ _ _ from Q4)
  obtain ⟨c0, c1, c2, c3, c4, c5, c6, c7, c8, c9, c10, c11⟩ := P4.fb.bx
  clear P4 S4 Q4 hs4 hp4 q4 P3 HS3 Q3 HI3
  go_wp2_with fail
  refine (arb_row f _ HM.out).mono ?_
  rintro e w5 ⟨A5, cap5, rfl, hi5, hb5⟩
  have HP5 := Lib.hid (HP4.out.below hb5)
  have HS5 := Lib.hid (HS4.out.below hb5)
  have HQ5 := Lib.hid (show Wb w5 gw _ _ _ from (hb5.block gw HQ4.out.lt).trans HQ4.out)
  have HI5 := Lib.hid hi5
  clear c0 c1 c2 c3 c4 c5 c6 c7 c8 c9 c10 c11 hi5 hb5 HP4 HS4 HQ4
  go_wp2_with fail
  refine (put_any w.heap.size gl _ _ _ A5 f.wid cap5 _ _ _ HP5.out.st HI5.out (by rw [List.length_append, ofB_len]; simp; omega)).mono ?_
  rintro e w6 ⟨rfl, hp6⟩
  obtain ⟨v6, P6, hs6⟩ := HP5.out.put hp6
  obtain ⟨S6, q6⟩ := hs6 gw HS5.out
  have HP6 := Lib.hid P6; have HS6 := Lib.hid S6; have HQ6 := Lib.hid (show Wb w6 gw _ _ _ from q6.trans HQ5.out)
  obtain ⟨c0, c1, c2, c3, c4, c5, c6, c7, c8, c9, c10, c11⟩ := P6.fb.bx
  obtain ⟨d0, d1, d2, d3, d4, d5, d6, d7, d8⟩ := HQ6.out.wx
  rw [HN.out] at c3
  clear P6 S6 hs6 hp6 q6 HP5 HS5 HQ5 HI5
  go_wp2_with fail
  refine (of_row n (cW f.ext) _ (by omega) (by omega)).mono ?_
  rintro e w7 ⟨A7, cap7, rfl, hi7, hb7⟩
  have HP7 := Lib.hid (HP6.out.below hb7)
  have HS7 := Lib.hid (HS6.out.below hb7)
  have HQ7 := Lib.hid (show Wb w7 gw _ _ _ from (hb7.block gw HQ6.out.lt).trans HQ6.out)
  have HI7 := Lib.hid hi7
  clear c0 c1 c2 c3 c4 c5 c6 c7 c8 c9 c10 c11 hi7 hb7 HP6 HS6 HQ6 d0 d1 d2 d3 d4 d5 d6 d7 d8
  go_wp2_with fail
  refine (put_any w.heap.size gl _ _ _ A7 (cW f.ext) cap7 _ _ _ HP7.out.st HI7.out (by rw [List.length_append, List.length_append, ofB_len, ofB_len]; simp; omega)).mono ?_
  rintro e w8 ⟨rfl, hp8⟩
  obtain ⟨v8, P8, hs8⟩ := HP7.out.put hp8
  obtain ⟨_, q8⟩ := hs8 gw HS7.out
  have HP8 := Lib.hid P8
  have Q8 : Wb w8 gw _ _ _ := q8.trans HQ7.out
  obtain ⟨d0, d1, d2, d3, d4, d5, d6, d7, d8⟩ := Q8.wx
  clear P8 hs8 hp8 q8 Q8 HP7 HS7 HQ7 HI7
  obtain ⟨l0, hl0⟩ : ∃ l0, [] ++ ofB 0 1 ++ ofB f.num f.wid ++ ofB n (cW f.ext) = l0 := ⟨_, rfl⟩
  have HL0 := Lib.hid (show l0.length ≤ 100 by rw [← hl0]; rw [List.length_append, List.length_append, List.length_append, ofB_len, ofB_len, ofB_len]; simp; omega)
  rw [hl0] at HP8
  have HLL := Lib.hid (show bts f = l0 ++ datB f.d (nDat f) by rw [HBT.out, ← hl0]; rfl)
  clear hl0
  obtain ⟨dd, hdd⟩ : ∃ dd, dW f.rtr n = dd := ⟨_, rfl⟩
  rw [hdd] at HDW hdw d3
  obtain ⟨m, hm⟩ : ∃ m, nDat f = m := ⟨_, rfl⟩
  rw [hm] at HDW hnd HLL
  have hdm : (dd : Int) / 8 = (m : Int) := by have := HDW.out; omega
  clear hdd hm HDW
  go_wp2
  go_loopw [43] (fun i wr => ∃ (k : Nat) (v : Value), k ≤ m ∧ i = .int .i64 k ∧ Puts f w wr gl (gl + 1) v (l0 ++ datB f.d k)) (fun i _ => m - (intOf i).toNat)
  case atStart => exact ⟨0, v8, Nat.zero_le _, rfl, by simpa [datB] using HP8.out⟩
  case round =>
    obtain ⟨k, v, hk, rfl, hP⟩ := hrel
    have HP := Lib.hid hP
    clear hdm d0 d1 d2 d3 d4 d5 d6 d7 d8
    by_cases hlt : k < m
    · have dcell := hP.fb.bx.data k (by omega)
      obtain ⟨y0, y1⟩ := HWF.out k (by omega)
      obtain ⟨y, hy⟩ := Int.eq_ofNat_of_zero_le y0
      rw [hy] at dcell y1
      have HST := Lib.hid (show datB f.d (k + 1) = datB f.d k ++ ofB y 8 by rw [datB, hy, Int.toNat_natCast])
      have hlen : (l0 ++ datB f.d k).length ≤ 164 := by have := HL0.out; rw [List.length_append, datB_len]; omega
      have i3 : (k : Int) < 8 := by omega
      have HLen := Lib.hid hlen
      clear hP y0 hy hlen
      go_wp2_with fail
      refine (of_row y 8 _ (by omega) (by omega)).mono ?_
      rintro e w9 ⟨A9, cap9, rfl, hi9, hb9⟩
      have HP9 := Lib.hid (HP.out.below hb9)
      have HI9 := Lib.hid hi9
      clear hi9 hb9
      go_wp2_with fail
      refine (put_any w.heap.size gl _ _ _ A9 8 cap9 _ _ _ HP9.out.st HI9.out (by have := HLen.out; omega)).mono ?_
      rintro e w10 ⟨rfl, hp10⟩
      obtain ⟨v10, P10, _⟩ := HP9.out.put hp10
      have HP10 := Lib.hid P10
      clear P10 hp10
      go_wp2
      go_roundw
      case rel => exact ⟨k + 1, v10, by omega, by go_num, by rw [HST.out, ← List.append_assoc]; exact HP10.out⟩
      case measure => simp [intOf]; omega
    · have e : k = m := by omega
      have HE := Lib.hid e
      have hcl := hP.st.cl
      clear hP e
      go_wp2
      go_ret2
      exact ⟨v, rfl, by rw [HLL.out, ← HE.out]; exact HP.out.st.own, HP.out.bl⟩
end Go.Proofs.YtalpbnfebcafgaaGreat
