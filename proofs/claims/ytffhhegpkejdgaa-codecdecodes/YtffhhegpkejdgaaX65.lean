/- The contract of field's Bits, of a frame that may be. -/
import Derived.Test.YtffhhegpkejdgaaX64
import Derived.Laws.CopyOwn
namespace Go.Proofs.Ytffhhegpkejdgaa
open Go.RowKit

theorem of_row (n width : Nat) (w : World) (hn : n < 18446744073709551616) (hw : width ≤ 64) :
    Calls Try.prog 58 #[.int .u64 n, .int .i64 width] w fun e w' => ∃ A cap, e = .returned (.tuple #[.slice A width cap, .int .i64 0]) ∧ Il w' A width (ofB n width) ∧ Below w.heap.size w w' := by
  refine (of_ok n width w hn hw).mono ?_
  rintro e w' ⟨A, cap, he, hi, hb⟩
  rw [ofB_len] at he hi
  exact ⟨A, cap, he, hi, hb⟩
theorem arb_row (f : Fr) (w : World) (h : f.may = true) :
    Calls Try.prog 59 #[f.val] w fun e w' => ∃ A cap, e = .returned (.tuple #[.slice A f.wid cap, .int .i64 0]) ∧ Il w' A f.wid (ofB f.num f.wid) ∧ Below w.heap.size w w' := by
  refine (arb_ok f w h).mono ?_
  rintro e w' ⟨A, cap, he, hi, hb⟩
  rw [ofB_len] at he hi
  exact ⟨A, cap, he, hi, hb⟩

set_option maxHeartbeats 3200000 in
theorem fbits_ok (f : Fr) (w : World) (h : f.may = true) (hwf : f.wf) : Calls Try.prog 35 #[f.val] w (OwnTo (bts f) w) := by
  obtain ⟨_, _, h2, h3, _⟩ := may_parts h
  obtain ⟨n, hn⟩ := Int.eq_ofNat_of_zero_le h2
  have hn8 : n ≤ 8 := by omega
  have HM := Lib.hid h; have HN := Lib.hid hn; have HWF := Lib.hid hwf
  have HW : f.wid ≤ 32 := by unfold Fr.wid; split <;> omega
  have HDW := Lib.hid (dW_div f)
  rw [hn, Int.toNat_natCast] at HDW
  have hdw : dW f.rtr n ≤ 64 := by unfold dW; split <;> omega
  have hcw : cW f.ext ≤ 6 := by cases f.ext <;> decide
  have hnd := nDat_le h
  have HBT := Lib.hid (show bts f = [0] ++ ofB f.num f.wid ++ ofB n (cW f.ext) ++ datB f.d (nDat f) by unfold bts ctlB; rw [hn, Int.toNat_natCast])
  clear h h2 h3 hn hwf
  go_enter Try.func35, Try.ntmps35
  go_wp2_with fail
  refine (fcheck_any f _).mono ?_
  rintro e w1 ⟨rfl, hb1⟩
  rw [err_ok HM.out]
  have F1 : Fb w1 w.heap.size f := (fb_new w f).below hb1 (by simp)
  have hlt1 : w.heap.size < w1.heap.size := by have := hb1.size; simp at this; omega
  have P0 := Lib.hid (put_start f w w1 (hb1.mono (by simp)) F1 hlt1)
  have hF0 := Lib.hid P0.out.fb
  clear hb1 F1
  go_wp2_with fail
  refine (putter_any _ _).mono ?_
  rintro e w' ⟨rfl, rfl⟩
  rw [show (w1.alloc (.cells #[.slice none 0 0] 25)).heap.size = w1.heap.size + 1 by simp]
  obtain ⟨c0, c1, c2, c3, c4, c5, c6, c7, c8, c9, c10, c11⟩ := hF0.out.bx
  go_wp2_with fail
  refine (widths_any f n (by omega) HN.out _).mono ?_
  rintro e w2 ⟨rfl, hb2⟩
  have P1 := P0.out.below hb2
  clear c0 c1 c2 c3 c4 c5 c6 c7 c8 c9 c10 c11 hF0 hb2 P0
  have Q0 := Lib.hid (show Wb (w2.alloc (.cells (W9c (aW f.ext) (cW f.ext) (dW f.rtr n)) 66)) w2.heap.size _ _ _ from heap_alloc_new _ _)
  have P2 := Lib.hid (P1.below ((Below.refl _ _).alloc (Nat.le_refl _) (.cells (W9c (aW f.ext) (cW f.ext) (dW f.rtr n)) 66)))
  have S2 : Safe (w2.alloc (.cells (W9c (aW f.ext) (cW f.ext) (dW f.rtr n)) 66)) w1.heap.size (.slice none 0 0) w2.heap.size := ⟨by simp, by have := P1.st.lt; omega, by simp [Value.ownBlock]⟩
  have HS2 := Lib.hid S2
  obtain ⟨gl, hgl⟩ : ∃ gl, w1.heap.size = gl := ⟨_, rfl⟩
  rw [hgl] at P2 HS2 ⊢
  obtain ⟨gw, hgw⟩ : ∃ gw, w2.heap.size = gw := ⟨_, rfl⟩
  rw [hgw] at Q0 HS2
  have HGW := Lib.hid hgw
  clear P1 S2 hgl hgw
  go_wp2_with fail
  refine (of_row 0 1 _ (by omega) (by omega)).mono ?_
  rintro e w3 ⟨A3, cap3, rfl, hi3, hb3⟩
  have P3 := Lib.hid (P2.out.below hb3)
  have HS3 := Lib.hid (HS2.out.below hb3)
  have Q3 := Lib.hid (show Wb w3 gw _ _ _ from (hb3.block gw (by rw [← HGW.out]; simp)).trans Q0.out)
  have HI3 := Lib.hid hi3
  clear P2 HS2 hb3 Q0 hi3
  rw [HGW.out]
  go_wp2_with fail
  refine (put_any w.heap.size gl _ _ _ A3 1 cap3 _ _ _ P3.out.st HI3.out (by simp)).mono ?_
  rintro e w4 ⟨rfl, hp4⟩
  obtain ⟨v4, P4, hs4⟩ := P3.out.put hp4
  obtain ⟨S4, q4⟩ := hs4 gw HS3.out
  have Q4 := q4.trans Q3.out
  have HP4 := Lib.hid P4; have HS4 := Lib.hid S4; have HQ4 := Lib.hid (show Wb w4 gw _ _ _ from Q4)
  obtain ⟨c0, c1, c2, c3, c4, c5, c6, c7, c8, c9, c10, c11⟩ := P4.fb.bx
  clear P4 S4 Q4 hs4 hp4 q4 P3 HS3 Q3 HI3
  go_wp2_with fail
  refine (arb_row f _ HM.out).mono ?_
  rintro e w5 ⟨A5, cap5, rfl, hi5, hb5⟩
  have HP5 := Lib.hid (HP4.out.below hb5)
  have HS5 := Lib.hid (HS4.out.below hb5)
  have HQ5 := Lib.hid (show Wb w5 gw _ _ _ from (hb5.block gw HQ4.out.lt).trans HQ4.out)
  have HI5 := Lib.hid hi5
  clear c0 c1 c2 c3 c4 c5 c6 c7 c8 c9 c10 c11 hi5 hb5 HP4 HS4 HQ4
  go_wp2_with fail
  refine (put_any w.heap.size gl _ _ _ A5 f.wid cap5 _ _ _ HP5.out.st HI5.out (by rw [List.length_append, ofB_len]; simp; omega)).mono ?_
  rintro e w6 ⟨rfl, hp6⟩
  obtain ⟨v6, P6, hs6⟩ := HP5.out.put hp6
  obtain ⟨S6, q6⟩ := hs6 gw HS5.out
  have HP6 := Lib.hid P6; have HS6 := Lib.hid S6; have HQ6 := Lib.hid (show Wb w6 gw _ _ _ from q6.trans HQ5.out)
  obtain ⟨c0, c1, c2, c3, c4, c5, c6, c7, c8, c9, c10, c11⟩ := P6.fb.bx
  obtain ⟨d0, d1, d2, d3, d4, d5, d6, d7, d8⟩ := HQ6.out.wx
  rw [HN.out] at c3
  clear P6 S6 hs6 hp6 q6 HP5 HS5 HQ5 HI5
  go_wp2_with fail
  refine (of_row n (cW f.ext) _ (by omega) (by omega)).mono ?_
  rintro e w7 ⟨A7, cap7, rfl, hi7, hb7⟩
  have HP7 := Lib.hid (HP6.out.below hb7)
  have HS7 := Lib.hid (HS6.out.below hb7)
  have HQ7 := Lib.hid (show Wb w7 gw _ _ _ from (hb7.block gw HQ6.out.lt).trans HQ6.out)
  have HI7 := Lib.hid hi7
  clear c0 c1 c2 c3 c4 c5 c6 c7 c8 c9 c10 c11 hi7 hb7 HP6 HS6 HQ6 d0 d1 d2 d3 d4 d5 d6 d7 d8
  go_wp2_with fail
  refine (put_any w.heap.size gl _ _ _ A7 (cW f.ext) cap7 _ _ _ HP7.out.st HI7.out (by rw [List.length_append, List.length_append, ofB_len, ofB_len]; simp; omega)).mono ?_
  rintro e w8 ⟨rfl, hp8⟩
  obtain ⟨v8, P8, hs8⟩ := HP7.out.put hp8
  obtain ⟨_, q8⟩ := hs8 gw HS7.out
  have HP8 := Lib.hid P8
  have Q8 : Wb w8 gw _ _ _ := q8.trans HQ7.out
  obtain ⟨d0, d1, d2, d3, d4, d5, d6, d7, d8⟩ := Q8.wx
  clear P8 hs8 hp8 q8 Q8 HP7 HS7 HQ7 HI7
  obtain ⟨l0, hl0⟩ : ∃ l0, [] ++ ofB 0 1 ++ ofB f.num f.wid ++ ofB n (cW f.ext) = l0 := ⟨_, rfl⟩
  have HL0 := Lib.hid (show l0.length ≤ 100 by rw [← hl0]; rw [List.length_append, List.length_append, List.length_append, ofB_len, ofB_len, ofB_len]; simp; omega)
  rw [hl0] at HP8
  have HLL := Lib.hid (show bts f = l0 ++ datB f.d (nDat f) by rw [HBT.out, ← hl0]; rfl)
  clear hl0
  obtain ⟨dd, hdd⟩ : ∃ dd, dW f.rtr n = dd := ⟨_, rfl⟩
  rw [hdd] at HDW hdw d3
  obtain ⟨m, hm⟩ : ∃ m, nDat f = m := ⟨_, rfl⟩
  rw [hm] at HDW hnd HLL
  have hdm : (dd : Int) / 8 = (m : Int) := by have := HDW.out; omega
  clear hdd hm HDW
  go_wp2
  go_loopw [43] (fun i wr => ∃ (k : Nat) (v : Value), k ≤ m ∧ i = .int .i64 k ∧ Puts f w wr gl (gl + 1) v (l0 ++ datB f.d k)) (fun i _ => m - (intOf i).toNat)
  case atStart => exact ⟨0, v8, Nat.zero_le _, rfl, by simpa [datB] using HP8.out⟩
  case round =>
    obtain ⟨k, v, hk, rfl, hP⟩ := hrel
    have HP := Lib.hid hP
    clear hdm d0 d1 d2 d3 d4 d5 d6 d7 d8
    by_cases hlt : k < m
    · have dcell := hP.fb.bx.data k (by omega)
      obtain ⟨y0, y1⟩ := HWF.out k (by omega)
      obtain ⟨y, hy⟩ := Int.eq_ofNat_of_zero_le y0
      rw [hy] at dcell y1
      have HST := Lib.hid (show datB f.d (k + 1) = datB f.d k ++ ofB y 8 by rw [datB, hy, Int.toNat_natCast])
      have hlen : (l0 ++ datB f.d k).length ≤ 164 := by have := HL0.out; rw [List.length_append, datB_len]; omega
      have i3 : (k : Int) < 8 := by omega
      have HLen := Lib.hid hlen
      clear hP y0 hy hlen
      go_wp2_with fail
      refine (of_row y 8 _ (by omega) (by omega)).mono ?_
      rintro e w9 ⟨A9, cap9, rfl, hi9, hb9⟩
      have HP9 := Lib.hid (HP.out.below hb9)
      have HI9 := Lib.hid hi9
      clear hi9 hb9
      go_wp2_with fail
      refine (put_any w.heap.size gl _ _ _ A9 8 cap9 _ _ _ HP9.out.st HI9.out (by have := HLen.out; omega)).mono ?_
      rintro e w10 ⟨rfl, hp10⟩
      obtain ⟨v10, P10, _⟩ := HP9.out.put hp10
      have HP10 := Lib.hid P10
      clear P10 hp10
      go_wp2
      go_roundw
      case rel => exact ⟨k + 1, v10, by omega, by go_num, by rw [HST.out, ← List.append_assoc]; exact HP10.out⟩
      case measure => simp [intOf]; omega
    · have e : k = m := by omega
      have HE := Lib.hid e
      have hcl := hP.st.cl
      clear hP e
      go_wp2
      go_ret2
      exact ⟨v, rfl, by rw [HLL.out, ← HE.out]; exact HP.out.st.own, HP.out.bl⟩
end Go.Proofs.Ytffhhegpkejdgaa

/- The contracts of math/bits.Mul and slices.Repeat, as field.All asks them. -/
namespace Go.Proofs.Ytffhhegpkejdgaa
open Go.RowKit

set_option maxHeartbeats 800000 in
theorem mul64_ten (w : World) : Calls Try.prog 76 #[.int .u64 1, .int .u64 10] w fun e w' => e = .returned (.tuple #[.int .u64 0, .int .u64 10]) ∧ w = w' := by
  go_enter Try.func76, Try.ntmps76
  go_wp2
  go_ret2
  exact ⟨rfl, rfl⟩
set_option maxHeartbeats 800000 in
theorem mul_ten (w : World) : Calls Try.prog 63 #[.int .u64 1, .int .u64 10] w fun e w' => e = .returned (.tuple #[.int .u64 0, .int .u64 10]) ∧ w = w' := by
  go_enter Try.func63, Try.ntmps63
  go_wp2_with fail
  refine (mul64_ten _).mono ?_
  rintro e w' ⟨rfl, rfl⟩
  go_wp2
  go_ret2
  exact ⟨rfl, rfl⟩

theorem copy_arr (W : World) (g o dLen dCap : Nat) (ad : Addr) (sLen sCap k : Nat) (zs ys : List Int) (ha : Arr .i64 3 W g zs) (hk : k = Nat.min sLen dLen) (hys : ys.length = k) (hsrc : ∀ j, j < k → W.cell? (ad.add j) = some (.int .i64 (ys.getD j 0))) (hfit : o + k ≤ zs.length) :
    ∃ W', (Builtin.copy_ #[25, 25] 3 #[.slice (some ⟨g, o, none⟩) dLen dCap, .slice (some ad) sLen sCap]).run Try.prog W = .ok (.int .i64 (k : Int)) W' ∧ Arr .i64 3 W' g (zs.take o ++ ys ++ zs.drop (o + k)) ∧ Below g W W' := by
  have hs : (Try.prog.info? 3).map (·.size) = some 1 := by kernel_rfl
  have hrun := run_copy_row (P := Try.prog) W 25 25 3 3 g o dLen dCap ad sLen sCap (zs.map (Value.int .i64)).toArray 3 (ys.map (Value.int .i64)) Try.underlying25 hs ha (by rw [List.length_map, hys]; exact hk)
    (fun j v hv => by
      have hj : j < k := by
        rcases Nat.lt_or_ge j k with h | h
        · exact h
        · rw [List.getElem?_eq_none (by rw [List.length_map]; omega)] at hv; cases hv
      rw [hsrc j hj]
      simp [hys ▸ hj] at hv
      simp [hys ▸ hj, hv]) (by simp; omega) (ints_oneCell _ _)
  rw [List.length_map, hys] at hrun
  refine ⟨_, hrun, ?_, below_setRow (Below.refl _ _) (Nat.le_refl _) _⟩
  have h1 := setRow_heap W g _ ((zs.map (Value.int .i64)).toArray.toList.take o ++ (ys.map (Value.int .i64)) ++ (zs.map (Value.int .i64)).toArray.toList.drop (o + k)).toArray _ _ ha
  unfold Arr
  rw [h1]
  simp [List.map_take, List.map_drop]

/-- Ones ahead of noughts. -/
def ons (k : Nat) : List Int := List.replicate k 1 ++ List.replicate (10 - k) 0

theorem copy_ons (W : World) (g k m c c' : Nat) (ha : Arr .i64 3 W g (ons k)) (hk : k = 1 ∧ m = 1 ∨ k = 2 ∧ m = 2 ∨ k = 4 ∧ m = 4 ∨ k = 8 ∧ m = 2) :
    ∃ W', (Builtin.copy_ #[25, 25] 3 #[.slice (some ⟨g, k, none⟩) (10 - k) c, .slice (some ⟨g, 0, none⟩) k c']).run Try.prog W = .ok (.int .i64 (m : Int)) W' ∧ Arr .i64 3 W' g (ons (k + m)) ∧ Below g W W' := by
  have hsrc : ∀ j, j < m → W.cell? ((⟨g, 0, none⟩ : Addr).add j) = some (.int .i64 ((List.replicate m (1 : Int)).getD j 0)) := fun j hj => by
    rw [add_zero_off, ha.cell (by unfold ons; simp; omega)]
    congr 2
    unfold ons
    rw [List.getD_eq_getElem?_getD, List.getD_eq_getElem?_getD, List.getElem?_append_left (by simp; omega)]
    simp [hj, show j < k by omega]
  obtain ⟨W', h1, h2, h3⟩ := copy_arr W g k (10 - k) c ⟨g, 0, none⟩ k c' m (ons k) (List.replicate m 1) ha (by rcases hk with ⟨rfl, rfl⟩ | ⟨rfl, rfl⟩ | ⟨rfl, rfl⟩ | ⟨rfl, rfl⟩ <;> rfl) (by simp) hsrc (by unfold ons; simp; omega)
  refine ⟨W', h1, ?_, h3⟩
  have e : (ons k).take k ++ List.replicate m 1 ++ (ons k).drop (k + m) = ons (k + m) := by
    rcases hk with ⟨rfl, rfl⟩ | ⟨rfl, rfl⟩ | ⟨rfl, rfl⟩ | ⟨rfl, rfl⟩ <;> decide
  rwa [e] at h2

theorem copy_one (W : World) (g c cap : Nat) (ad : Addr) (ha : Arr .i64 3 W g (ons 0)) (hr : Il W (some ad) 1 [1]) :
    ∃ W', (Builtin.copy_ #[25, 25] 3 #[.slice (some ⟨g, 0, none⟩) 10 c, .slice (some ad) 1 cap]).run Try.prog W = .ok (.int .i64 1) W' ∧ Arr .i64 3 W' g (ons 1) ∧ Below g W W' := by
  obtain ⟨ad', e, _, hc⟩ := hr.2 (by omega)
  injection e with e
  subst e
  obtain ⟨W', h1, h2, h3⟩ := copy_arr W g 0 10 c ad 1 cap 1 (ons 0) [1] ha rfl rfl hc (by decide)
  exact ⟨W', h1, h2, h3⟩

set_option linter.unusedSimpArgs false in
set_option maxRecDepth 100000 in
set_option maxHeartbeats 1600000 in
theorem repeat_ten (ad : Addr) (cap : Nat) (w : World) (hr : Il w (some ad) 1 [1]) :
    Calls Try.prog 40 #[.slice (some ad) 1 cap, .int .i64 10] w fun e w' => ∃ A c, e = .returned (.slice A 10 c) ∧ Il w' A 10 (List.replicate 10 1) ∧ Below w.heap.size w w' := by
  have hmk : ∀ w : World, (Instr.makeSlice 25 (.int .i64 10) (.int .i64 10)).run Try.prog w = .ok (.slice (some ⟨w.heap.size, 0, none⟩) 10 10) (w.alloc (.cells ((List.replicate 10 0).map (Value.int .i64)).toArray 3)) := make22 10 (by omega)
  have HB := Lib.hid (show Arr .i64 3 (w.alloc (.cells ((List.replicate 10 0).map (Value.int .i64)).toArray 3)) w.heap.size (ons 0) from Arr.new w .i64 3 (List.replicate 10 0))
  have HC := Lib.hid (copy_one _ w.heap.size 10 cap ad HB.out (hr.below ((Below.refl _ _).alloc (Nat.le_refl _) _)))
  clear hr HB
  generalize ((List.replicate 10 (0 : Int)).map (Value.int .i64)).toArray = cs at hmk HC
  go_enter Try.func40, Try.ntmps40
  go_wp2_with fail
  refine (mul_ten _).mono ?_
  rintro e w' ⟨rfl, rfl⟩
  go_wp2_with fail
  obtain ⟨w1, hrun, ha1, hb1⟩ := HC.out
  rw [hrun]
  have HA1 := Lib.hid ha1
  have HB1 := Lib.hid (((Below.refl w.heap.size w).alloc (Nat.le_refl _) (.cells cs 3)).trans hb1)
  clear HC hrun ha1 hb1
  go_wp2
  go_loopw [8] (fun i wr => ∃ k : Nat, (k = 1 ∨ k = 2 ∨ k = 4 ∨ k = 8 ∨ k = 10) ∧ i = .int .i64 k ∧ Arr .i64 3 wr w.heap.size (ons k) ∧ Below w.heap.size w wr) (fun i _ => 10 - (intOf i).toNat)
  case atStart => exact ⟨1, .inl rfl, rfl, HA1.out, HB1.out⟩
  case round =>
    obtain ⟨k, hk, rfl, ha, hbel⟩ := hrel
    have HA := Lib.hid ha
    clear ha
    rcases hk with rfl | rfl | rfl | rfl | rfl
    · go_wp2_with fail
      refine wp_region_held_drew (S := fun _ => True) (by kernel_rfl) trivial (fun hHeld => ?_)
      refine takeH (i := 0) (v := .int .i64 1) rfl (by kernel_rfl) (by kernel_rfl) (by kernel_rfl) (fun _ _ _ h => h) (Or.inl ⟨by rfl, fun w hSw => ?_⟩) hHeld ?_
      · (clear hSw; go_simp)
      simp only [Act.put, List.setIfInBounds_toArray, List.set_cons_zero, List.set_cons_succ]
      refine takeH (i := 1) (v := .slice (some ⟨w.heap.size, 0, none⟩) 10 10) rfl (by kernel_rfl) (by kernel_rfl) (by kernel_rfl) (fun _ _ _ h => h) (Or.inl ⟨by rfl, fun w hSw => ?_⟩) hHeld ?_
      · (clear hSw; go_simp)
      simp only [Act.put, List.setIfInBounds_toArray, List.set_cons_zero, List.set_cons_succ]
      refine takeH (i := 2) (v := .int .i64 1) rfl (by kernel_rfl) (by kernel_rfl) (by kernel_rfl) (fun _ _ _ h => h) (Or.inl ⟨by rfl, fun w hSw => ?_⟩) hHeld ?_
      · (clear hSw; go_simp)
      simp only [Act.put, List.setIfInBounds_toArray, List.set_cons_zero, List.set_cons_succ]
      refine takeH (i := 3) (v := .slice (some ⟨w.heap.size, 1, none⟩) 9 9) rfl (by kernel_rfl) (by kernel_rfl) (by kernel_rfl) (fun _ _ _ h => h) (Or.inl ⟨by rfl, fun w hSw => ?_⟩) hHeld ?_
      · (clear hSw; go_simp)
      simp only [Act.put, List.setIfInBounds_toArray, List.set_cons_zero, List.set_cons_succ]
      refine takeH (i := 4) (v := .slice (some ⟨w.heap.size, 0, none⟩) 10 10) rfl (by kernel_rfl) (by kernel_rfl) (by kernel_rfl) (fun _ _ _ h => h) (Or.inl ⟨by rfl, fun w hSw => ?_⟩) hHeld ?_
      · (clear hSw; go_simp)
      simp only [Act.put, List.setIfInBounds_toArray, List.set_cons_zero, List.set_cons_succ]
      refine takeH (i := 5) (v := .int .i64 1) rfl (by kernel_rfl) (by kernel_rfl) (by kernel_rfl) (fun _ _ _ h => h) (Or.inl ⟨by rfl, fun w hSw => ?_⟩) hHeld ?_
      · (clear hSw; go_simp)
      simp only [Act.put, List.setIfInBounds_toArray, List.set_cons_zero, List.set_cons_succ]
      refine takeH (i := 6) (v := .slice (some ⟨w.heap.size, 0, none⟩) 1 10) rfl (by kernel_rfl) (by kernel_rfl) (by kernel_rfl) (fun _ _ _ h => h) (Or.inl ⟨by rfl, fun w hSw => ?_⟩) hHeld ?_
      · (clear hSw; go_simp)
      simp only [Act.put, List.setIfInBounds_toArray, List.set_cons_zero, List.set_cons_succ]
      refine wpAnyH_ready (rs := [7]) (by kernel_rfl) (by simp) ?_
      refine AllReadyH.cons rfl (fun K hK => ?_) AllReadyH.nil
      obtain ⟨w2, hrun, ha2, hb2⟩ := copy_ons wr.drew w.heap.size 1 1 9 10 HA.out (by omega)
      have hrun2 : ∀ r, r = wr.drew → (Builtin.copy_ #[25, 25] 3 #[.slice (some ⟨w.heap.size, 1, none⟩) 9 9, .slice (some ⟨w.heap.size, 0, none⟩) 1 10]).run Try.prog r = .ok (.int .i64 1) w2 := fun r e => by rw [e]; exact hrun
      have hrun3 := hrun2 _ rfl
      clear hrun2 hrun
      go_simp
      clear hHeld hrun3
      refine hK.out _ _ trivial (fun hHeld => ?_)
      clear hK K
      try simp only [Act.put, List.setIfInBounds_toArray, List.set_cons_zero, List.set_cons_succ]
      refine takeH (i := 8) (v := .int .i64 2) rfl (by kernel_rfl) (by kernel_rfl) (by kernel_rfl) (fun _ _ _ h => h) (Or.inl ⟨by rfl, fun w hSw => ?_⟩) hHeld ?_
      · (clear hSw; go_simp; rfl)
      simp only [Act.put, List.setIfInBounds_toArray, List.set_cons_zero, List.set_cons_succ]
      refine takeH (i := 9) (v := .int .i64 2) rfl (by kernel_rfl) (by kernel_rfl) (by kernel_rfl) (fun _ _ _ h => h) (Or.inl ⟨by rfl, fun w hSw => ?_⟩) hHeld ?_
      · (clear hSw; go_simp)
      simp only [Act.put, List.setIfInBounds_toArray, List.set_cons_zero, List.set_cons_succ]
      refine wpAnyH_done (by kernel_rfl) ?_ _
      clear hHeld
      go_wp2
      go_roundw
      case rel => exact ⟨2, by omega, by go_num, ha2, (below_drew hbel).trans hb2⟩
      case measure => simp [intOf]
    · go_wp2_with fail
      refine wp_region_held_drew (S := fun _ => True) (by kernel_rfl) trivial (fun hHeld => ?_)
      refine takeH (i := 0) (v := .int .i64 2) rfl (by kernel_rfl) (by kernel_rfl) (by kernel_rfl) (fun _ _ _ h => h) (Or.inl ⟨by rfl, fun w hSw => ?_⟩) hHeld ?_
      · (clear hSw; go_simp)
      simp only [Act.put, List.setIfInBounds_toArray, List.set_cons_zero, List.set_cons_succ]
      refine takeH (i := 1) (v := .slice (some ⟨w.heap.size, 0, none⟩) 10 10) rfl (by kernel_rfl) (by kernel_rfl) (by kernel_rfl) (fun _ _ _ h => h) (Or.inl ⟨by rfl, fun w hSw => ?_⟩) hHeld ?_
      · (clear hSw; go_simp)
      simp only [Act.put, List.setIfInBounds_toArray, List.set_cons_zero, List.set_cons_succ]
      refine takeH (i := 2) (v := .int .i64 2) rfl (by kernel_rfl) (by kernel_rfl) (by kernel_rfl) (fun _ _ _ h => h) (Or.inl ⟨by rfl, fun w hSw => ?_⟩) hHeld ?_
      · (clear hSw; go_simp)
      simp only [Act.put, List.setIfInBounds_toArray, List.set_cons_zero, List.set_cons_succ]
      refine takeH (i := 3) (v := .slice (some ⟨w.heap.size, 2, none⟩) 8 8) rfl (by kernel_rfl) (by kernel_rfl) (by kernel_rfl) (fun _ _ _ h => h) (Or.inl ⟨by rfl, fun w hSw => ?_⟩) hHeld ?_
      · (clear hSw; go_simp)
      simp only [Act.put, List.setIfInBounds_toArray, List.set_cons_zero, List.set_cons_succ]
      refine takeH (i := 4) (v := .slice (some ⟨w.heap.size, 0, none⟩) 10 10) rfl (by kernel_rfl) (by kernel_rfl) (by kernel_rfl) (fun _ _ _ h => h) (Or.inl ⟨by rfl, fun w hSw => ?_⟩) hHeld ?_
      · (clear hSw; go_simp)
      simp only [Act.put, List.setIfInBounds_toArray, List.set_cons_zero, List.set_cons_succ]
      refine takeH (i := 5) (v := .int .i64 2) rfl (by kernel_rfl) (by kernel_rfl) (by kernel_rfl) (fun _ _ _ h => h) (Or.inl ⟨by rfl, fun w hSw => ?_⟩) hHeld ?_
      · (clear hSw; go_simp)
      simp only [Act.put, List.setIfInBounds_toArray, List.set_cons_zero, List.set_cons_succ]
      refine takeH (i := 6) (v := .slice (some ⟨w.heap.size, 0, none⟩) 2 10) rfl (by kernel_rfl) (by kernel_rfl) (by kernel_rfl) (fun _ _ _ h => h) (Or.inl ⟨by rfl, fun w hSw => ?_⟩) hHeld ?_
      · (clear hSw; go_simp)
      simp only [Act.put, List.setIfInBounds_toArray, List.set_cons_zero, List.set_cons_succ]
      refine wpAnyH_ready (rs := [7]) (by kernel_rfl) (by simp) ?_
      refine AllReadyH.cons rfl (fun K hK => ?_) AllReadyH.nil
      obtain ⟨w2, hrun, ha2, hb2⟩ := copy_ons wr.drew w.heap.size 2 2 8 10 HA.out (by omega)
      have hrun2 : ∀ r, r = wr.drew → (Builtin.copy_ #[25, 25] 3 #[.slice (some ⟨w.heap.size, 2, none⟩) 8 8, .slice (some ⟨w.heap.size, 0, none⟩) 2 10]).run Try.prog r = .ok (.int .i64 2) w2 := fun r e => by rw [e]; exact hrun
      have hrun3 := hrun2 _ rfl
      clear hrun2 hrun
      go_simp
      clear hHeld hrun3
      refine hK.out _ _ trivial (fun hHeld => ?_)
      clear hK K
      try simp only [Act.put, List.setIfInBounds_toArray, List.set_cons_zero, List.set_cons_succ]
      refine takeH (i := 8) (v := .int .i64 4) rfl (by kernel_rfl) (by kernel_rfl) (by kernel_rfl) (fun _ _ _ h => h) (Or.inl ⟨by rfl, fun w hSw => ?_⟩) hHeld ?_
      · (clear hSw; go_simp; rfl)
      simp only [Act.put, List.setIfInBounds_toArray, List.set_cons_zero, List.set_cons_succ]
      refine takeH (i := 9) (v := .int .i64 4) rfl (by kernel_rfl) (by kernel_rfl) (by kernel_rfl) (fun _ _ _ h => h) (Or.inl ⟨by rfl, fun w hSw => ?_⟩) hHeld ?_
      · (clear hSw; go_simp)
      simp only [Act.put, List.setIfInBounds_toArray, List.set_cons_zero, List.set_cons_succ]
      refine wpAnyH_done (by kernel_rfl) ?_ _
      clear hHeld
      go_wp2
      go_roundw
      case rel => exact ⟨4, by omega, by go_num, ha2, (below_drew hbel).trans hb2⟩
      case measure => simp [intOf]
    · go_wp2_with fail
      refine wp_region_held_drew (S := fun _ => True) (by kernel_rfl) trivial (fun hHeld => ?_)
      refine takeH (i := 0) (v := .int .i64 4) rfl (by kernel_rfl) (by kernel_rfl) (by kernel_rfl) (fun _ _ _ h => h) (Or.inl ⟨by rfl, fun w hSw => ?_⟩) hHeld ?_
      · (clear hSw; go_simp)
      simp only [Act.put, List.setIfInBounds_toArray, List.set_cons_zero, List.set_cons_succ]
      refine takeH (i := 1) (v := .slice (some ⟨w.heap.size, 0, none⟩) 10 10) rfl (by kernel_rfl) (by kernel_rfl) (by kernel_rfl) (fun _ _ _ h => h) (Or.inl ⟨by rfl, fun w hSw => ?_⟩) hHeld ?_
      · (clear hSw; go_simp)
      simp only [Act.put, List.setIfInBounds_toArray, List.set_cons_zero, List.set_cons_succ]
      refine takeH (i := 2) (v := .int .i64 4) rfl (by kernel_rfl) (by kernel_rfl) (by kernel_rfl) (fun _ _ _ h => h) (Or.inl ⟨by rfl, fun w hSw => ?_⟩) hHeld ?_
      · (clear hSw; go_simp)
      simp only [Act.put, List.setIfInBounds_toArray, List.set_cons_zero, List.set_cons_succ]
      refine takeH (i := 3) (v := .slice (some ⟨w.heap.size, 4, none⟩) 6 6) rfl (by kernel_rfl) (by kernel_rfl) (by kernel_rfl) (fun _ _ _ h => h) (Or.inl ⟨by rfl, fun w hSw => ?_⟩) hHeld ?_
      · (clear hSw; go_simp)
      simp only [Act.put, List.setIfInBounds_toArray, List.set_cons_zero, List.set_cons_succ]
      refine takeH (i := 4) (v := .slice (some ⟨w.heap.size, 0, none⟩) 10 10) rfl (by kernel_rfl) (by kernel_rfl) (by kernel_rfl) (fun _ _ _ h => h) (Or.inl ⟨by rfl, fun w hSw => ?_⟩) hHeld ?_
      · (clear hSw; go_simp)
      simp only [Act.put, List.setIfInBounds_toArray, List.set_cons_zero, List.set_cons_succ]
      refine takeH (i := 5) (v := .int .i64 4) rfl (by kernel_rfl) (by kernel_rfl) (by kernel_rfl) (fun _ _ _ h => h) (Or.inl ⟨by rfl, fun w hSw => ?_⟩) hHeld ?_
      · (clear hSw; go_simp)
      simp only [Act.put, List.setIfInBounds_toArray, List.set_cons_zero, List.set_cons_succ]
      refine takeH (i := 6) (v := .slice (some ⟨w.heap.size, 0, none⟩) 4 10) rfl (by kernel_rfl) (by kernel_rfl) (by kernel_rfl) (fun _ _ _ h => h) (Or.inl ⟨by rfl, fun w hSw => ?_⟩) hHeld ?_
      · (clear hSw; go_simp)
      simp only [Act.put, List.setIfInBounds_toArray, List.set_cons_zero, List.set_cons_succ]
      refine wpAnyH_ready (rs := [7]) (by kernel_rfl) (by simp) ?_
      refine AllReadyH.cons rfl (fun K hK => ?_) AllReadyH.nil
      obtain ⟨w2, hrun, ha2, hb2⟩ := copy_ons wr.drew w.heap.size 4 4 6 10 HA.out (by omega)
      have hrun2 : ∀ r, r = wr.drew → (Builtin.copy_ #[25, 25] 3 #[.slice (some ⟨w.heap.size, 4, none⟩) 6 6, .slice (some ⟨w.heap.size, 0, none⟩) 4 10]).run Try.prog r = .ok (.int .i64 4) w2 := fun r e => by rw [e]; exact hrun
      have hrun3 := hrun2 _ rfl
      clear hrun2 hrun
      go_simp
      clear hHeld hrun3
      refine hK.out _ _ trivial (fun hHeld => ?_)
      clear hK K
      try simp only [Act.put, List.setIfInBounds_toArray, List.set_cons_zero, List.set_cons_succ]
      refine takeH (i := 8) (v := .int .i64 8) rfl (by kernel_rfl) (by kernel_rfl) (by kernel_rfl) (fun _ _ _ h => h) (Or.inl ⟨by rfl, fun w hSw => ?_⟩) hHeld ?_
      · (clear hSw; go_simp; rfl)
      simp only [Act.put, List.setIfInBounds_toArray, List.set_cons_zero, List.set_cons_succ]
      refine takeH (i := 9) (v := .int .i64 8) rfl (by kernel_rfl) (by kernel_rfl) (by kernel_rfl) (fun _ _ _ h => h) (Or.inl ⟨by rfl, fun w hSw => ?_⟩) hHeld ?_
      · (clear hSw; go_simp)
      simp only [Act.put, List.setIfInBounds_toArray, List.set_cons_zero, List.set_cons_succ]
      refine wpAnyH_done (by kernel_rfl) ?_ _
      clear hHeld
      go_wp2
      go_roundw
      case rel => exact ⟨8, by omega, by go_num, ha2, (below_drew hbel).trans hb2⟩
      case measure => simp [intOf]
    · go_wp2_with fail
      refine wp_region_held_drew (S := fun _ => True) (by kernel_rfl) trivial (fun hHeld => ?_)
      refine takeH (i := 0) (v := .int .i64 8) rfl (by kernel_rfl) (by kernel_rfl) (by kernel_rfl) (fun _ _ _ h => h) (Or.inl ⟨by rfl, fun w hSw => ?_⟩) hHeld ?_
      · (clear hSw; go_simp)
      simp only [Act.put, List.setIfInBounds_toArray, List.set_cons_zero, List.set_cons_succ]
      refine takeH (i := 1) (v := .slice (some ⟨w.heap.size, 0, none⟩) 10 10) rfl (by kernel_rfl) (by kernel_rfl) (by kernel_rfl) (fun _ _ _ h => h) (Or.inl ⟨by rfl, fun w hSw => ?_⟩) hHeld ?_
      · (clear hSw; go_simp)
      simp only [Act.put, List.setIfInBounds_toArray, List.set_cons_zero, List.set_cons_succ]
      refine takeH (i := 2) (v := .int .i64 8) rfl (by kernel_rfl) (by kernel_rfl) (by kernel_rfl) (fun _ _ _ h => h) (Or.inl ⟨by rfl, fun w hSw => ?_⟩) hHeld ?_
      · (clear hSw; go_simp)
      simp only [Act.put, List.setIfInBounds_toArray, List.set_cons_zero, List.set_cons_succ]
      refine takeH (i := 3) (v := .slice (some ⟨w.heap.size, 8, none⟩) 2 2) rfl (by kernel_rfl) (by kernel_rfl) (by kernel_rfl) (fun _ _ _ h => h) (Or.inl ⟨by rfl, fun w hSw => ?_⟩) hHeld ?_
      · (clear hSw; go_simp)
      simp only [Act.put, List.setIfInBounds_toArray, List.set_cons_zero, List.set_cons_succ]
      refine takeH (i := 4) (v := .slice (some ⟨w.heap.size, 0, none⟩) 10 10) rfl (by kernel_rfl) (by kernel_rfl) (by kernel_rfl) (fun _ _ _ h => h) (Or.inl ⟨by rfl, fun w hSw => ?_⟩) hHeld ?_
      · (clear hSw; go_simp)
      simp only [Act.put, List.setIfInBounds_toArray, List.set_cons_zero, List.set_cons_succ]
      refine takeH (i := 5) (v := .int .i64 8) rfl (by kernel_rfl) (by kernel_rfl) (by kernel_rfl) (fun _ _ _ h => h) (Or.inl ⟨by rfl, fun w hSw => ?_⟩) hHeld ?_
      · (clear hSw; go_simp)
      simp only [Act.put, List.setIfInBounds_toArray, List.set_cons_zero, List.set_cons_succ]
      refine takeH (i := 6) (v := .slice (some ⟨w.heap.size, 0, none⟩) 8 10) rfl (by kernel_rfl) (by kernel_rfl) (by kernel_rfl) (fun _ _ _ h => h) (Or.inl ⟨by rfl, fun w hSw => ?_⟩) hHeld ?_
      · (clear hSw; go_simp)
      simp only [Act.put, List.setIfInBounds_toArray, List.set_cons_zero, List.set_cons_succ]
      refine wpAnyH_ready (rs := [7]) (by kernel_rfl) (by simp) ?_
      refine AllReadyH.cons rfl (fun K hK => ?_) AllReadyH.nil
      obtain ⟨w2, hrun, ha2, hb2⟩ := copy_ons wr.drew w.heap.size 8 2 2 10 HA.out (by omega)
      have hrun2 : ∀ r, r = wr.drew → (Builtin.copy_ #[25, 25] 3 #[.slice (some ⟨w.heap.size, 8, none⟩) 2 2, .slice (some ⟨w.heap.size, 0, none⟩) 8 10]).run Try.prog r = .ok (.int .i64 2) w2 := fun r e => by rw [e]; exact hrun
      have hrun3 := hrun2 _ rfl
      clear hrun2 hrun
      go_simp
      clear hHeld hrun3
      refine hK.out _ _ trivial (fun hHeld => ?_)
      clear hK K
      try simp only [Act.put, List.setIfInBounds_toArray, List.set_cons_zero, List.set_cons_succ]
      refine takeH (i := 8) (v := .int .i64 10) rfl (by kernel_rfl) (by kernel_rfl) (by kernel_rfl) (fun _ _ _ h => h) (Or.inl ⟨by rfl, fun w hSw => ?_⟩) hHeld ?_
      · (clear hSw; go_simp; rfl)
      simp only [Act.put, List.setIfInBounds_toArray, List.set_cons_zero, List.set_cons_succ]
      refine takeH (i := 9) (v := .int .i64 10) rfl (by kernel_rfl) (by kernel_rfl) (by kernel_rfl) (fun _ _ _ h => h) (Or.inl ⟨by rfl, fun w hSw => ?_⟩) hHeld ?_
      · (clear hSw; go_simp)
      simp only [Act.put, List.setIfInBounds_toArray, List.set_cons_zero, List.set_cons_succ]
      refine wpAnyH_done (by kernel_rfl) ?_ _
      clear hHeld
      go_wp2
      go_roundw
      case rel => exact ⟨10, by omega, by go_num, ha2, (below_drew hbel).trans hb2⟩
      case measure => simp [intOf]
    · go_wp2
      go_ret
      exact ⟨some ⟨w.heap.size, 0, none⟩, 10, rfl, HA.out.il, hbel⟩
end Go.Proofs.Ytffhhegpkejdgaa

/- The contract of field's All. -/
namespace Go.Proofs.Ytffhhegpkejdgaa
open Go.RowKit

/-- All of a frame's levels. -/
def alls (f : Fr) : List Int := bts f ++ ofB (csum (bts f)) 15 ++ List.replicate 10 1
theorem datB_all (d : Nat → Int) : ∀ k, ∀ z ∈ datB d k, lvl z = true := by
  intro k
  induction k with
  | zero => intro z hz; cases hz
  | succ k ih => exact all_append ih (ofB_all _ _)
theorem bts_all (f : Fr) : ∀ z ∈ bts f, lvl z = true := by
  unfold bts ctlB
  exact all_append (all_append (all_append (by intro z hz; simp at hz; subst hz; rfl) (ofB_all _ _)) (ofB_all _ _)) (datB_all _ _)
theorem bts_le {f : Fr} (h : f.may = true) : (bts f).length ≤ 103 := by
  rw [bts_len]
  have := nDat_le h
  have : hEnd f.ext ≤ 39 := hEnd_le _
  omega

set_option maxHeartbeats 400000 in
theorem fall_bad (f : Fr) (w : World) (h : f.may = false) :
    Calls Try.prog 20 #[f.val] w fun e w' => e = .returned (.tuple #[.slice none 0 0, .int .i64 14]) ∧ Below w.heap.size w w' := by
  go_enter Try.func20, Try.ntmps20
  go_wp2_with fail
  refine (fbits_bad f _ h).mono ?_
  rintro e w1 ⟨rfl, hb1⟩
  go_wp2
  go_ret2
  exact ⟨rfl, (nxt (boxed f w) hb1).alloc (by have := hb1.size; simp at this; omega) _⟩

theorem all_start (f : Fr) (w w2 : World) (gl : Nat) (v : Value) (l : List Int) (ho : Own w2 (w.heap.size + 1) v l) (hne : v.ownBlock ≠ some gl) (X : w2.heap[gl]? = some (.cells #[v] 25)) (hf : Fb w2 w.heap.size f) (hgl : w.heap.size < gl) (hb : Below w.heap.size w w2) :
    Puts f w (w2.alloc (.cells #[.pointer (some ⟨gl, 0, none⟩)] 64)) gl w2.heap.size v l := by
  have hlt := hf.lt
  have hltg : gl < w2.heap.size := (Array.getElem?_eq_some_iff.1 X).1
  have e1 : (w2.alloc (.cells #[.pointer (some ⟨gl, 0, none⟩)] 64)).heap[gl]? = some (.cells #[v] 25) := by
    rw [Below.heap_alloc _ _ _ hltg]; exact X
  have e2 : (w2.alloc (.cells #[.pointer (some ⟨gl, 0, none⟩)] 64)).heap[w2.heap.size]? = some (.cells #[.pointer (some ⟨gl, 0, none⟩)] 64) := heap_alloc_new _ _
  have far : ∀ b, w2.heap.size ≤ b ∨ b ≤ w.heap.size → v.ownBlock ≠ some b := fun b hbb e => by
    have := World.ownsRow.lt ho b e
    omega
  have one : Below w2.heap.size w2 (w2.alloc (.cells #[.pointer (some ⟨gl, 0, none⟩)] 64)) := (Below.refl _ _).alloc (Nat.le_refl _) _
  refine ⟨⟨?_, ?_, ?_, (ho.mono (Nat.le_succ _)).below one, hne, far _ (by omega), by omega, Nat.le_of_lt hgl, by simp; omega, by simp⟩, ?_, ⟨by simp; omega, by omega, far _ (by omega)⟩, ?_⟩
  · simp only [World.cell?, e1]; rfl
  · simp only [World.frozen?, e1]; rfl
  · simp only [World.cell?, e2]; rfl
  · exact hf.below (B := w2.heap.size) one hlt
  · exact nxt hb one

theorem bits_row (n : Nat) (w : World) (h : n < 32768) :
    Calls Try.prog 38 #[.int .i64 n] w fun e w' => ∃ A cap, e = .returned (.tuple #[.slice A 15 cap, .int .i64 0]) ∧ Il w' A 15 (ofB n 15) ∧ Below w.heap.size w w' := by
  refine (bits_ok n w h).mono ?_
  rintro e w' ⟨A, cap, he, hi, hb⟩
  rw [ofB_len] at he hi
  exact ⟨A, cap, he, hi, hb⟩

set_option maxHeartbeats 3200000 in
theorem fall_ok (f : Fr) (w : World) (h : f.may = true) (hwf : f.wf) : Calls Try.prog 20 #[f.val] w (OwnTo (alls f) w) := by
  obtain ⟨_, _, h2, h3, _⟩ := may_parts h
  obtain ⟨n, hn⟩ := Int.eq_ofNat_of_zero_le h2
  have hn8 : n ≤ 8 := by omega
  have HM := Lib.hid h; have HN := Lib.hid hn; have HWF := Lib.hid hwf
  have HLE := Lib.hid (bts_le h)
  have HALL := Lib.hid (bts_all f)
  have HBT := Lib.hid (show alls f = bts f ++ ofB (csum (bts f)) 15 ++ List.replicate 10 1 from rfl)
  have hcs := csum_lt (bts f)
  clear h h2 h3 hn hwf
  go_enter Try.func20, Try.ntmps20
  go_wp2_with fail
  refine (fbits_ok f _ HM.out HWF.out).mono ?_
  rintro e w1 ⟨v, rfl, ho1, hb1⟩
  obtain ⟨L, hL⟩ : ∃ L, bts f = L := ⟨_, rfl⟩
  obtain ⟨cs, hcs0⟩ : ∃ cs, csum L = cs := ⟨_, rfl⟩
  rw [hL] at HLE HALL HBT hcs ho1
  rw [hcs0] at hcs HBT
  have HCS := Lib.hid hcs0
  clear hL hcs0
  have F1 : Fb w1 w.heap.size f := (fb_new w f).below hb1 (by simp)
  have hsz : (w.alloc (.cells f.cells 24)).heap.size = w.heap.size + 1 := by simp
  have O1 : Own w1 (w.heap.size + 1) v L := by rw [← hsz]; exact ho1
  have hlt1 := F1.lt
  have hne1 : v.ownBlock ≠ some w1.heap.size := fun e => by have := World.ownsRow.lt O1 _ e; omega
  have HBW := Lib.hid (nxt (boxed f w) hb1)
  have HF1 := Lib.hid F1; have HO1 := Lib.hid O1; have HNE := Lib.hid hne1
  obtain ⟨A1, cap1, rfl, hi1, _⟩ := O1.il2
  have HI1 := Lib.hid hi1
  clear hb1 F1 hsz O1 ho1 hi1 hne1
  go_wp2_with fail
  refine (sum_ok A1 L.length cap1 L _ (HI1.out.below ((Below.refl _ _).alloc (Nat.le_refl _) _)) (by have := HLE.out; omega) HALL.out).mono ?_
  rintro e w2 ⟨rfl, hb2⟩
  rw [HCS.out]
  have X2 : w2.heap[w1.heap.size]? = some (.cells #[.slice A1 L.length cap1] 25) := (hb2.block _ (by simp)).trans (heap_alloc_new _ _)
  have hb2' : Below w1.heap.size w1 w2 := nxt ((Below.refl _ _).alloc (Nat.le_refl _) _) hb2
  have P0 := Lib.hid (all_start f w w2 w1.heap.size _ L (HO1.out.below hb2') HNE.out X2 (HF1.out.below hb2' hlt1) hlt1 (nxt HBW.out hb2'))
  clear X2 hb2 hb2' HNE HO1 HF1 HBW HI1
  obtain ⟨gl, hgl⟩ : ∃ gl, w1.heap.size = gl := ⟨_, rfl⟩
  rw [hgl] at P0 hlt1 ⊢
  clear hgl
  go_wp2_with fail
  refine (putter_any _ _).mono ?_
  rintro e w' ⟨rfl, rfl⟩
  obtain ⟨g1, hg1⟩ : ∃ g1, w2.heap.size = g1 := ⟨_, rfl⟩
  rw [hg1] at P0 ⊢
  clear hg1
  go_wp2_with fail
  refine (bits_row cs _ hcs).mono ?_
  rintro e w3 ⟨A3, cap3, rfl, hi3, hb3⟩
  have HP3 := Lib.hid (P0.out.below hb3)
  have HI3 := Lib.hid hi3
  clear hi3 hb3 P0
  go_wp2_with fail
  refine (put_any w.heap.size gl g1 _ _ A3 15 cap3 _ _ _ HP3.out.st HI3.out (by have := HLE.out; omega)).mono ?_
  rintro e w4 ⟨rfl, hp4⟩
  obtain ⟨v4, P4, _⟩ := HP3.out.put hp4
  have HP4 := Lib.hid P4
  obtain ⟨c0, c1, c2, c3, c4, c5, c6, c7, c8, c9, c10, c11⟩ := P4.fb.bx
  clear P4 hp4 HP3 HI3
  go_wp2_with fail
  refine (widths_any f n (by omega) HN.out _).mono ?_
  rintro e w5 ⟨rfl, hb5⟩
  have HP5 := Lib.hid (HP4.out.below hb5)
  clear c0 c1 c2 c3 c4 c5 c6 c7 c8 c9 c10 c11 hb5 HP4
  have HP6 := Lib.hid (HP5.out.below (alloc2 _ (.cells (W9c (aW f.ext) (cW f.ext) (dW f.rtr n)) 66) (.cells #[.int .i64 1] 3)))
  have HL6 := Lib.hid (show Il ((w5.alloc (.cells (W9c (aW f.ext) (cW f.ext) (dW f.rtr n)) 66)).alloc (.cells #[.int .i64 1] 3)) (some ⟨w5.heap.size + 1, 0, none⟩) 1 [1] from (arr_next w5 (.cells (W9c (aW f.ext) (cW f.ext) (dW f.rtr n)) 66) [1]).il)
  go_wp2_with fail
  refine (repeat_ten _ _ _ HL6.out).mono ?_
  rintro e w7 ⟨A7, cap7, rfl, hi7, hb7⟩
  have HP7 := Lib.hid (HP6.out.below hb7)
  have HI7 := Lib.hid hi7
  clear hi7 hb7 HP6 HL6 HP5
  go_wp2_with fail
  refine (put_any w.heap.size gl g1 _ _ A7 10 cap7 _ _ _ HP7.out.st HI7.out (by have := HLE.out; rw [List.length_append, ofB_len]; omega)).mono ?_
  rintro e w8 ⟨rfl, hp8⟩
  obtain ⟨v8, P8, _⟩ := HP7.out.put hp8
  have HP8 := Lib.hid P8
  have hcl := P8.st.cl
  clear P8 hp8 HP7 HI7
  go_wp2
  go_ret2
  exact ⟨v8, rfl, by rw [HBT.out]; exact HP8.out.st.own, HP8.out.bl⟩
end Go.Proofs.Ytffhhegpkejdgaa

