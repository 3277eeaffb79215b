/- The reference of layer 4: Bits and All. -/
import Derived.Test.YtclinogamfpooaaR4
namespace Go.Proofs.Ytclinogamfpooaa
open Go.RowKit

theorem rarb_row (f : Fr) (w : World) (h : f.may = true) :
    Calls Try.prog 34 #[f.val] w fun e w' => ∃ A cap, e = .returned (.slice A f.wid cap) ∧ Il w' A f.wid (ofB f.num f.wid) ∧ Below w.heap.size w w' := by
  refine (rarb_ok f w h).mono ?_
  rintro e w' ⟨A, cap, he, hi, hb⟩
  rw [ofB_len] at he hi
  exact ⟨A, cap, he, hi, hb⟩
theorem rdig_row (k n : Nat) (w : World) (hk : k ≤ 32) (hn : n ≤ 536870911) :
    Calls Try.prog 35 #[.int .i64 n, .int .i64 k] w fun e w' => ∃ A cap, e = .returned (.slice A k cap) ∧ Il w' A k (ofB n k) ∧ Below w.heap.size w w' := by
  refine (rdig_ok k n w hk hn).mono ?_
  rintro e w' ⟨v, he, ho, hb⟩
  obtain ⟨A, cap, rfl, hi, _⟩ := ho.il2
  rw [ofB_len] at he hi
  exact ⟨A, cap, he, hi, hb⟩
/-- A row of the call's own. -/
def OwnRow (zs : List Int) (w : World) (e : Ending) (w' : World) : Prop := ∃ v, e = .returned v ∧ Own w' w.heap.size v zs ∧ Below w.heap.size w w'
/-- A row is grown; the frame's box stays. -/
theorem grow_fb {f : Fr} {w wa wb : World} {v : Value} {l : List Int} (hb : Below (w.heap.size + 1) (w.alloc (.cells f.cells 24)) wa) (ho : Own wa (w.heap.size + 1) v l) (hg : wa.grownBy wb v.ownBlock) : Below (w.heap.size + 1) (w.alloc (.cells f.cells 24)) wb :=
  hb.grown hg (by have := hb.size; simp at this; omega) ho.row
theorem fb_kept {f : Fr} {w wa : World} (hb : Below (w.heap.size + 1) (w.alloc (.cells f.cells 24)) wa) : Fb wa w.heap.size f := (fb_new w f).below hb (by omega)
theorem nxt1 {B : Nat} {a b c : World} (h : Below B a b) (hB : B ≤ a.heap.size) (h2 : Below b.heap.size b c) : Below B a c := h.trans (h2.mono (Nat.le_trans hB h.size))

set_option maxHeartbeats 3200000 in
theorem rb_false_false (f : Fr) (w : World) (hm : f.may = true) (hwf : f.wf) (hx : f.ext = false) (hrt : f.rtr = false) : Calls Try.prog 14 #[f.val] w (OwnRow (bts f) w) := by
  obtain ⟨n, hn, hn8⟩ := len_nat hm
  have hnd : nDat f = n := by unfold nDat; rw [hrt, hn]; rfl
  have HBT := Lib.hid (show bts f = [0] ++ ofB f.num f.wid ++ [0] ++ ofB n 4 ++ datB f.d (n) by
    unfold bts
    rw [ctlB_split hn (by omega), hnd]
    unfold ctlP
    rw [hx]
    simp [ofB, bit, cW, List.range_succ])
  have hwid : f.wid ≤ 32 := by unfold Fr.wid; split <;> omega
  have HM := Lib.hid hm; have HWF := Lib.hid hwf; have HN := Lib.hid hn; have HRT := Lib.hid hrt; have HX := Lib.hid hx
  clear hm hwf hx hrt hn hnd
  have h0s : (w.alloc (.cells f.cells 24)).heap.size = w.heap.size + 1 := by simp
  have HO0 := Lib.hid (show Own ((w.alloc (.cells f.cells 24)).alloc (.cells #[.int .i64 0] 3)) (w.heap.size + 1) (.slice (some ⟨w.heap.size + 1, 0, none⟩) 1 1) [0] from by
    have := Own.lit (w.alloc (.cells f.cells 24)) (w.heap.size + 1) [0] (by simp) (by simp)
    rwa [h0s] at this)
  have HB0 := Lib.hid (show Below (w.heap.size + 1) (w.alloc (.cells f.cells 24)) ((w.alloc (.cells f.cells 24)).alloc (.cells #[.int .i64 0] 3)) from (Below.refl _ _).alloc (by simp) _)
  clear h0s
  go_enter Try.func14, Try.ntmps14
  go_wp2_with fail
  refine (rarb_row f _ HM.out).mono ?_
  rintro e w1 ⟨A1, cap1, rfl, hi1, hb1⟩
  have HB1 := Lib.hid (nxt1 HB0.out (by simp) hb1)
  have HO1 := Lib.hid (HO0.out.below hb1)
  have HI1 := Lib.hid hi1
  have hs1 : w.heap.size + 1 ≤ w1.heap.size := by have := HB1.out.size; simp at this; omega
  clear hi1 hb1 HO0 HB0
  go_wp2_with (first
      | (at_builtin; (refine append_ints2 _ rfl (.tmp 5) (.tmp 7) rfl (w.heap.size + 1) _ [0] rfl HO1.out A1 f.wid cap1 (ofB f.num f.wid) rfl HI1.out (by simp <;> omega) hs1 ?_); intro v2 w2 ho2 hg2 _; have HB2 := Lib.hid (grow_fb HB1.out HO1.out hg2); have HO2 := Lib.hid ho2; have hs2 : w.heap.size + 1 ≤ w2.heap.size := Nat.le_trans hs1 hg2.size; have HN2 := Lib.hid (Arr.new w2 .i64 3 [0]).il; have hl2 : ([0] ++ ofB f.num f.wid).length ≤ 40 := (by (rw [List.length_append, ofB_len]; simp <;> omega)); obtain ⟨c0, c1, c2, c3, c4, c5, c6, c7, c8, c9, c10, c11⟩ := (fb_kept HB2.out).bx; have lf := (fb_kept HB2.out).lt; rw [HX.out] at c1; rw [HRT.out] at c2; rw [HN.out] at c3; clear ho2 hg2)
      | (at_builtin; (refine append_ints2 _ rfl (.tmp 9) (.tmp 10) rfl (w.heap.size + 1) _ _ rfl (HO2.out.alloc _) _ 1 1 [0] rfl HN2.out (by rw [List.length_append, ofB_len]; simp <;> omega) (by simp <;> omega) ?_); intro v3 w3 ho3 hg3 _; have HB3 := Lib.hid (grow_fb (HB2.out.alloc hs2 _) (HO2.out.alloc _) hg3); have HO3 := Lib.hid ho3; have hs3 : w.heap.size + 1 ≤ w3.heap.size := (by have := hg3.size; simp at this; omega); have HN3 := Lib.hid (Arr.new w3 .i64 3 [0]).il; clear c0 c1 c2 c3 c4 c5 c6 c7 c8 c9 c10 c11 lf; obtain ⟨c0, c1, c2, c3, c4, c5, c6, c7, c8, c9, c10, c11⟩ := (fb_kept HB3.out).bx; have lf := (fb_kept HB3.out).lt; rw [HX.out] at c1; rw [HRT.out] at c2; rw [HN.out] at c3; clear ho3 hg3)
      | fail)
  refine (rdig_row 4 n _ (by omega) (by omega)).mono ?_
  rintro e w5 ⟨A5, cap5, rfl, hi5, hb5⟩
  have HB5 := Lib.hid (nxt1 HB3.out (by simp) hb5)
  have HO5 := Lib.hid (HO3.out.below hb5)
  have HI5 := Lib.hid hi5
  have hs5 : w.heap.size + 1 ≤ w5.heap.size := Nat.le_trans hs3 hb5.size
  clear c0 c1 c2 c3 c4 c5 c6 c7 c8 c9 c10 c11 lf hi5 hb5
  obtain ⟨l0, hl0⟩ : ∃ l0, [0] ++ ofB f.num f.wid ++ [0]  ++ ofB n 4 = l0 := ⟨_, rfl⟩
  have HL0 := Lib.hid (show l0.length ≤ 60 by rw [← hl0]; simp [ofB_len] <;> omega)
  have HLL := Lib.hid (show bts f = l0 ++ datB f.d (n) by rw [HBT.out, ← hl0])
  go_wp2_with (first
      | (at_builtin; (refine append_ints2 _ rfl (.tmp 17) (.tmp 20) rfl (w.heap.size + 1) _ _ rfl HO5.out A5 4 cap5 (ofB n 4) rfl HI5.out (by simp [ofB_len] <;> omega) hs5 ?_); intro v6 w6 ho6 hg6 _; have HB6 := Lib.hid (grow_fb HB5.out HO5.out hg6); have HO6 := Lib.hid ho6; rw [hl0] at HO6; have hs6 : w.heap.size + 1 ≤ w6.heap.size := Nat.le_trans hs5 hg6.size; clear ho6 hg6)
      | fail)
  clear hl0
  go_loopw [3, 4] (fun v i wr => ∃ k : Nat, k ≤ n ∧ i = .int .i64 k ∧ Own wr (w.heap.size + 1) v (l0 ++ datB f.d k) ∧ Below (w.heap.size + 1) (w.alloc (.cells f.cells 24)) wr) (fun _ i _ => n - (intOf i).toNat)
  case atStart => exact ⟨0, Nat.zero_le _, rfl, by simpa [datB] using HO6.out, HB6.out⟩
  case round =>
    obtain ⟨k, hk, rfl, ho, hbel⟩ := hrel
    have HO := Lib.hid ho; have HBL := Lib.hid hbel
    have F := fb_kept hbel
    have hsr : w.heap.size + 1 ≤ wr.heap.size := by have := hbel.size; simp at this; omega
    obtain ⟨c0, c1, c2, c3, c4, c5, c6, c7, c8, c9, c10, c11⟩ := F.bx
    rw [HRT.out] at c2; rw [HN.out] at c3
    clear ho hbel
    by_cases hlt : k < n
    · have dcell := F.bx.data k (by omega)
      obtain ⟨y0, y1⟩ := HWF.out k (by omega)
      obtain ⟨y, hy⟩ := Int.eq_ofNat_of_zero_le y0
      rw [hy] at dcell y1
      have HST := Lib.hid (show datB f.d (k + 1) = datB f.d k ++ ofB y 8 by rw [datB, hy, Int.toNat_natCast])
      have HLen := Lib.hid (show (l0 ++ datB f.d k).length ≤ 124 by have := HL0.out; rw [List.length_append, datB_len]; omega)
      have i3 : (k : Int) < 8 := by omega
      clear y0 hy F
      go_wp2_with fail
      refine (rdig_row 8 y _ (by omega) (by omega)).mono ?_
      rintro e w7 ⟨A7, cap7, rfl, hi7, hb7⟩
      have HB7 := Lib.hid (nxt1 HBL.out (by simp) hb7)
      have HO7 := Lib.hid (HO.out.below hb7)
      have HI7 := Lib.hid hi7
      have hs7 : w.heap.size + 1 ≤ w7.heap.size := Nat.le_trans hsr hb7.size
      clear hi7 hb7
      go_wp2_with (first
        | (at_builtin; (refine append_ints2 _ rfl (.tmp 33) (.tmp 39) rfl (w.heap.size + 1) _ _ rfl HO7.out A7 8 cap7 (ofB y 8) rfl HI7.out (by have := HLen.out; omega) hs7 ?_); intro v8 w8 ho8 hg8 _; have HB8 := Lib.hid (grow_fb HB7.out HO7.out hg8); have HO8 := Lib.hid ho8; clear ho8 hg8)
        | fail)
      go_roundw
      case rel => exact ⟨k + 1, by omega, by go_num, by rw [HST.out, ← List.append_assoc]; exact HO8.out, HB8.out⟩
      case measure => simp [intOf]; omega
    · have HE := Lib.hid (show k = n by omega)
      clear F
      go_wp2
      go_ret
      exact ⟨_, rfl, by rw [HLL.out, ← HE.out]; exact HO.out.mono (Nat.le_succ _), (boxed f w).trans (HBL.out.mono (Nat.le_succ _))⟩

set_option maxHeartbeats 3200000 in
theorem rb_false_true (f : Fr) (w : World) (hm : f.may = true) (hwf : f.wf) (hx : f.ext = false) (hrt : f.rtr = true) : Calls Try.prog 14 #[f.val] w (OwnRow (bts f) w) := by
  obtain ⟨n, hn, hn8⟩ := len_nat hm
  have hnd : nDat f = 0 := by unfold nDat; rw [hrt, hn]; rfl
  have HBT := Lib.hid (show bts f = [0] ++ ofB f.num f.wid ++ [0] ++ ofB n 4 ++ datB f.d (0) by
    unfold bts
    rw [ctlB_split hn (by omega), hnd]
    unfold ctlP
    rw [hx]
    simp [ofB, bit, cW, List.range_succ])
  have hwid : f.wid ≤ 32 := by unfold Fr.wid; split <;> omega
  have HM := Lib.hid hm; have HWF := Lib.hid hwf; have HN := Lib.hid hn; have HRT := Lib.hid hrt; have HX := Lib.hid hx
  clear hm hwf hx hrt hn hnd
  have h0s : (w.alloc (.cells f.cells 24)).heap.size = w.heap.size + 1 := by simp
  have HO0 := Lib.hid (show Own ((w.alloc (.cells f.cells 24)).alloc (.cells #[.int .i64 0] 3)) (w.heap.size + 1) (.slice (some ⟨w.heap.size + 1, 0, none⟩) 1 1) [0] from by
    have := Own.lit (w.alloc (.cells f.cells 24)) (w.heap.size + 1) [0] (by simp) (by simp)
    rwa [h0s] at this)
  have HB0 := Lib.hid (show Below (w.heap.size + 1) (w.alloc (.cells f.cells 24)) ((w.alloc (.cells f.cells 24)).alloc (.cells #[.int .i64 0] 3)) from (Below.refl _ _).alloc (by simp) _)
  clear h0s
  go_enter Try.func14, Try.ntmps14
  go_wp2_with fail
  refine (rarb_row f _ HM.out).mono ?_
  rintro e w1 ⟨A1, cap1, rfl, hi1, hb1⟩
  have HB1 := Lib.hid (nxt1 HB0.out (by simp) hb1)
  have HO1 := Lib.hid (HO0.out.below hb1)
  have HI1 := Lib.hid hi1
  have hs1 : w.heap.size + 1 ≤ w1.heap.size := by have := HB1.out.size; simp at this; omega
  clear hi1 hb1 HO0 HB0
  go_wp2_with (first
      | (at_builtin; (refine append_ints2 _ rfl (.tmp 5) (.tmp 7) rfl (w.heap.size + 1) _ [0] rfl HO1.out A1 f.wid cap1 (ofB f.num f.wid) rfl HI1.out (by simp <;> omega) hs1 ?_); intro v2 w2 ho2 hg2 _; have HB2 := Lib.hid (grow_fb HB1.out HO1.out hg2); have HO2 := Lib.hid ho2; have hs2 : w.heap.size + 1 ≤ w2.heap.size := Nat.le_trans hs1 hg2.size; have HN2 := Lib.hid (Arr.new w2 .i64 3 [0]).il; have hl2 : ([0] ++ ofB f.num f.wid).length ≤ 40 := (by (rw [List.length_append, ofB_len]; simp <;> omega)); obtain ⟨c0, c1, c2, c3, c4, c5, c6, c7, c8, c9, c10, c11⟩ := (fb_kept HB2.out).bx; have lf := (fb_kept HB2.out).lt; rw [HX.out] at c1; rw [HRT.out] at c2; rw [HN.out] at c3; clear ho2 hg2)
      | (at_builtin; (refine append_ints2 _ rfl (.tmp 9) (.tmp 10) rfl (w.heap.size + 1) _ _ rfl (HO2.out.alloc _) _ 1 1 [0] rfl HN2.out (by rw [List.length_append, ofB_len]; simp <;> omega) (by simp <;> omega) ?_); intro v3 w3 ho3 hg3 _; have HB3 := Lib.hid (grow_fb (HB2.out.alloc hs2 _) (HO2.out.alloc _) hg3); have HO3 := Lib.hid ho3; have hs3 : w.heap.size + 1 ≤ w3.heap.size := (by have := hg3.size; simp at this; omega); have HN3 := Lib.hid (Arr.new w3 .i64 3 [0]).il; clear c0 c1 c2 c3 c4 c5 c6 c7 c8 c9 c10 c11 lf; obtain ⟨c0, c1, c2, c3, c4, c5, c6, c7, c8, c9, c10, c11⟩ := (fb_kept HB3.out).bx; have lf := (fb_kept HB3.out).lt; rw [HX.out] at c1; rw [HRT.out] at c2; rw [HN.out] at c3; clear ho3 hg3)
      | fail)
  refine (rdig_row 4 n _ (by omega) (by omega)).mono ?_
  rintro e w5 ⟨A5, cap5, rfl, hi5, hb5⟩
  have HB5 := Lib.hid (nxt1 HB3.out (by simp) hb5)
  have HO5 := Lib.hid (HO3.out.below hb5)
  have HI5 := Lib.hid hi5
  have hs5 : w.heap.size + 1 ≤ w5.heap.size := Nat.le_trans hs3 hb5.size
  clear c0 c1 c2 c3 c4 c5 c6 c7 c8 c9 c10 c11 lf hi5 hb5
  obtain ⟨l0, hl0⟩ : ∃ l0, [0] ++ ofB f.num f.wid ++ [0]  ++ ofB n 4 = l0 := ⟨_, rfl⟩
  have HL0 := Lib.hid (show l0.length ≤ 60 by rw [← hl0]; simp [ofB_len] <;> omega)
  have HLL := Lib.hid (show bts f = l0 ++ datB f.d (0) by rw [HBT.out, ← hl0])
  go_wp2_with (first
      | (at_builtin; (refine append_ints2 _ rfl (.tmp 17) (.tmp 20) rfl (w.heap.size + 1) _ _ rfl HO5.out A5 4 cap5 (ofB n 4) rfl HI5.out (by simp [ofB_len] <;> omega) hs5 ?_); intro v6 w6 ho6 hg6 _; have HB6 := Lib.hid (grow_fb HB5.out HO5.out hg6); have HO6 := Lib.hid ho6; rw [hl0] at HO6; have hs6 : w.heap.size + 1 ≤ w6.heap.size := Nat.le_trans hs5 hg6.size; clear ho6 hg6)
      | fail)
  clear hl0
  go_loopw [3, 4] (fun v i wr => ∃ k : Nat, k ≤ 0 ∧ i = .int .i64 k ∧ Own wr (w.heap.size + 1) v (l0 ++ datB f.d k) ∧ Below (w.heap.size + 1) (w.alloc (.cells f.cells 24)) wr) (fun _ i _ => 0 - (intOf i).toNat)
  case atStart => exact ⟨0, Nat.zero_le _, rfl, by simpa [datB] using HO6.out, HB6.out⟩
  case round =>
    obtain ⟨k, hk, rfl, ho, hbel⟩ := hrel
    have HO := Lib.hid ho; have HBL := Lib.hid hbel
    have F := fb_kept hbel
    have hsr : w.heap.size + 1 ≤ wr.heap.size := by have := hbel.size; simp at this; omega
    obtain ⟨c0, c1, c2, c3, c4, c5, c6, c7, c8, c9, c10, c11⟩ := F.bx
    rw [HRT.out] at c2; rw [HN.out] at c3
    clear ho hbel
    have HE := Lib.hid (show k = 0 by omega)
    obtain rfl : k = 0 := by omega
    clear F hk HE
    by_cases hlt : (0 : Int) < (n : Int)
    · go_wp2
      go_ret
      exact ⟨_, rfl, by rw [HLL.out]; exact HO.out.mono (Nat.le_succ _), (boxed f w).trans (HBL.out.mono (Nat.le_succ _))⟩
    · go_wp2
      go_ret
      exact ⟨_, rfl, by rw [HLL.out]; exact HO.out.mono (Nat.le_succ _), (boxed f w).trans (HBL.out.mono (Nat.le_succ _))⟩

set_option maxHeartbeats 3200000 in
theorem rb_true_false (f : Fr) (w : World) (hm : f.may = true) (hwf : f.wf) (hx : f.ext = true) (hrt : f.rtr = false) : Calls Try.prog 14 #[f.val] w (OwnRow (bts f) w) := by
  obtain ⟨n, hn, hn8⟩ := len_nat hm
  have hnd : nDat f = n := by unfold nDat; rw [hrt, hn]; rfl
  have HBT := Lib.hid (show bts f = [0] ++ ofB f.num f.wid ++ [0] ++ [0] ++ ofB n 4 ++ datB f.d (n) by
    unfold bts
    rw [ctlB_split hn (by omega), hnd]
    unfold ctlP
    rw [hx]
    simp [ofB, bit, cW, List.range_succ])
  have hwid : f.wid ≤ 32 := by unfold Fr.wid; split <;> omega
  have HM := Lib.hid hm; have HWF := Lib.hid hwf; have HN := Lib.hid hn; have HRT := Lib.hid hrt; have HX := Lib.hid hx
  clear hm hwf hx hrt hn hnd
  have h0s : (w.alloc (.cells f.cells 24)).heap.size = w.heap.size + 1 := by simp
  have HO0 := Lib.hid (show Own ((w.alloc (.cells f.cells 24)).alloc (.cells #[.int .i64 0] 3)) (w.heap.size + 1) (.slice (some ⟨w.heap.size + 1, 0, none⟩) 1 1) [0] from by
    have := Own.lit (w.alloc (.cells f.cells 24)) (w.heap.size + 1) [0] (by simp) (by simp)
    rwa [h0s] at this)
  have HB0 := Lib.hid (show Below (w.heap.size + 1) (w.alloc (.cells f.cells 24)) ((w.alloc (.cells f.cells 24)).alloc (.cells #[.int .i64 0] 3)) from (Below.refl _ _).alloc (by simp) _)
  clear h0s
  go_enter Try.func14, Try.ntmps14
  go_wp2_with fail
  refine (rarb_row f _ HM.out).mono ?_
  rintro e w1 ⟨A1, cap1, rfl, hi1, hb1⟩
  have HB1 := Lib.hid (nxt1 HB0.out (by simp) hb1)
  have HO1 := Lib.hid (HO0.out.below hb1)
  have HI1 := Lib.hid hi1
  have hs1 : w.heap.size + 1 ≤ w1.heap.size := by have := HB1.out.size; simp at this; omega
  clear hi1 hb1 HO0 HB0
  go_wp2_with (first
      | (at_builtin; (refine append_ints2 _ rfl (.tmp 5) (.tmp 7) rfl (w.heap.size + 1) _ [0] rfl HO1.out A1 f.wid cap1 (ofB f.num f.wid) rfl HI1.out (by simp <;> omega) hs1 ?_); intro v2 w2 ho2 hg2 _; have HB2 := Lib.hid (grow_fb HB1.out HO1.out hg2); have HO2 := Lib.hid ho2; have hs2 : w.heap.size + 1 ≤ w2.heap.size := Nat.le_trans hs1 hg2.size; have HN2 := Lib.hid (Arr.new w2 .i64 3 [0]).il; have hl2 : ([0] ++ ofB f.num f.wid).length ≤ 40 := (by (rw [List.length_append, ofB_len]; simp <;> omega)); obtain ⟨c0, c1, c2, c3, c4, c5, c6, c7, c8, c9, c10, c11⟩ := (fb_kept HB2.out).bx; have lf := (fb_kept HB2.out).lt; rw [HX.out] at c1; rw [HRT.out] at c2; rw [HN.out] at c3; clear ho2 hg2)
      | (at_builtin; (refine append_ints2 _ rfl (.tmp 9) (.tmp 10) rfl (w.heap.size + 1) _ _ rfl (HO2.out.alloc _) _ 1 1 [0] rfl HN2.out (by rw [List.length_append, ofB_len]; simp <;> omega) (by simp <;> omega) ?_); intro v3 w3 ho3 hg3 _; have HB3 := Lib.hid (grow_fb (HB2.out.alloc hs2 _) (HO2.out.alloc _) hg3); have HO3 := Lib.hid ho3; have hs3 : w.heap.size + 1 ≤ w3.heap.size := (by have := hg3.size; simp at this; omega); have HN3 := Lib.hid (Arr.new w3 .i64 3 [0]).il; clear c0 c1 c2 c3 c4 c5 c6 c7 c8 c9 c10 c11 lf; obtain ⟨c0, c1, c2, c3, c4, c5, c6, c7, c8, c9, c10, c11⟩ := (fb_kept HB3.out).bx; have lf := (fb_kept HB3.out).lt; rw [HX.out] at c1; rw [HRT.out] at c2; rw [HN.out] at c3; clear ho3 hg3)
      | (at_builtin; (refine append_ints2 _ rfl (.tmp 14) (.tmp 15) rfl (w.heap.size + 1) _ _ rfl (HO3.out.alloc _) _ 1 1 [0] rfl HN3.out (by rw [List.length_append, List.length_append, ofB_len]; simp <;> omega) (by simp <;> omega) ?_); intro v4 w4 ho4 hg4 _; have HB4 := Lib.hid (grow_fb (HB3.out.alloc hs3 _) (HO3.out.alloc _) hg4); have HO4 := Lib.hid ho4; have hs4 : w.heap.size + 1 ≤ w4.heap.size := (by have := hg4.size; simp at this; omega); clear c0 c1 c2 c3 c4 c5 c6 c7 c8 c9 c10 c11 lf; obtain ⟨c0, c1, c2, c3, c4, c5, c6, c7, c8, c9, c10, c11⟩ := (fb_kept HB4.out).bx; have lf := (fb_kept HB4.out).lt; rw [HX.out] at c1; rw [HRT.out] at c2; rw [HN.out] at c3; clear ho4 hg4)
      | fail)
  refine (rdig_row 4 n _ (by omega) (by omega)).mono ?_
  rintro e w5 ⟨A5, cap5, rfl, hi5, hb5⟩
  have HB5 := Lib.hid (nxt1 HB4.out (by simp) hb5)
  have HO5 := Lib.hid (HO4.out.below hb5)
  have HI5 := Lib.hid hi5
  have hs5 : w.heap.size + 1 ≤ w5.heap.size := Nat.le_trans hs4 hb5.size
  clear c0 c1 c2 c3 c4 c5 c6 c7 c8 c9 c10 c11 lf hi5 hb5
  obtain ⟨l0, hl0⟩ : ∃ l0, [0] ++ ofB f.num f.wid ++ [0] ++ [0] ++ ofB n 4 = l0 := ⟨_, rfl⟩
  have HL0 := Lib.hid (show l0.length ≤ 60 by rw [← hl0]; simp [ofB_len] <;> omega)
  have HLL := Lib.hid (show bts f = l0 ++ datB f.d (n) by rw [HBT.out, ← hl0])
  go_wp2_with (first
      | (at_builtin; (refine append_ints2 _ rfl (.tmp 17) (.tmp 20) rfl (w.heap.size + 1) _ _ rfl HO5.out A5 4 cap5 (ofB n 4) rfl HI5.out (by simp [ofB_len] <;> omega) hs5 ?_); intro v6 w6 ho6 hg6 _; have HB6 := Lib.hid (grow_fb HB5.out HO5.out hg6); have HO6 := Lib.hid ho6; rw [hl0] at HO6; have hs6 : w.heap.size + 1 ≤ w6.heap.size := Nat.le_trans hs5 hg6.size; clear ho6 hg6)
      | fail)
  clear hl0
  go_loopw [3, 4] (fun v i wr => ∃ k : Nat, k ≤ n ∧ i = .int .i64 k ∧ Own wr (w.heap.size + 1) v (l0 ++ datB f.d k) ∧ Below (w.heap.size + 1) (w.alloc (.cells f.cells 24)) wr) (fun _ i _ => n - (intOf i).toNat)
  case atStart => exact ⟨0, Nat.zero_le _, rfl, by simpa [datB] using HO6.out, HB6.out⟩
  case round =>
    obtain ⟨k, hk, rfl, ho, hbel⟩ := hrel
    have HO := Lib.hid ho; have HBL := Lib.hid hbel
    have F := fb_kept hbel
    have hsr : w.heap.size + 1 ≤ wr.heap.size := by have := hbel.size; simp at this; omega
    obtain ⟨c0, c1, c2, c3, c4, c5, c6, c7, c8, c9, c10, c11⟩ := F.bx
    rw [HRT.out] at c2; rw [HN.out] at c3
    clear ho hbel
    by_cases hlt : k < n
    · have dcell := F.bx.data k (by omega)
      obtain ⟨y0, y1⟩ := HWF.out k (by omega)
      obtain ⟨y, hy⟩ := Int.eq_ofNat_of_zero_le y0
      rw [hy] at dcell y1
      have HST := Lib.hid (show datB f.d (k + 1) = datB f.d k ++ ofB y 8 by rw [datB, hy, Int.toNat_natCast])
      have HLen := Lib.hid (show (l0 ++ datB f.d k).length ≤ 124 by have := HL0.out; rw [List.length_append, datB_len]; omega)
      have i3 : (k : Int) < 8 := by omega
      clear y0 hy F
      go_wp2_with fail
      refine (rdig_row 8 y _ (by omega) (by omega)).mono ?_
      rintro e w7 ⟨A7, cap7, rfl, hi7, hb7⟩
      have HB7 := Lib.hid (nxt1 HBL.out (by simp) hb7)
      have HO7 := Lib.hid (HO.out.below hb7)
      have HI7 := Lib.hid hi7
      have hs7 : w.heap.size + 1 ≤ w7.heap.size := Nat.le_trans hsr hb7.size
      clear hi7 hb7
      go_wp2_with (first
        | (at_builtin; (refine append_ints2 _ rfl (.tmp 33) (.tmp 39) rfl (w.heap.size + 1) _ _ rfl HO7.out A7 8 cap7 (ofB y 8) rfl HI7.out (by have := HLen.out; omega) hs7 ?_); intro v8 w8 ho8 hg8 _; have HB8 := Lib.hid (grow_fb HB7.out HO7.out hg8); have HO8 := Lib.hid ho8; clear ho8 hg8)
        | fail)
      go_roundw
      case rel => exact ⟨k + 1, by omega, by go_num, by rw [HST.out, ← List.append_assoc]; exact HO8.out, HB8.out⟩
      case measure => simp [intOf]; omega
    · have HE := Lib.hid (show k = n by omega)
      clear F
      go_wp2
      go_ret
      exact ⟨_, rfl, by rw [HLL.out, ← HE.out]; exact HO.out.mono (Nat.le_succ _), (boxed f w).trans (HBL.out.mono (Nat.le_succ _))⟩

set_option maxHeartbeats 3200000 in
theorem rb_true_true (f : Fr) (w : World) (hm : f.may = true) (hwf : f.wf) (hx : f.ext = true) (hrt : f.rtr = true) : Calls Try.prog 14 #[f.val] w (OwnRow (bts f) w) := by
  obtain ⟨n, hn, hn8⟩ := len_nat hm
  have hnd : nDat f = 0 := by unfold nDat; rw [hrt, hn]; rfl
  have HBT := Lib.hid (show bts f = [0] ++ ofB f.num f.wid ++ [0] ++ [0] ++ ofB n 4 ++ datB f.d (0) by
    unfold bts
    rw [ctlB_split hn (by omega), hnd]
    unfold ctlP
    rw [hx]
    simp [ofB, bit, cW, List.range_succ])
  have hwid : f.wid ≤ 32 := by unfold Fr.wid; split <;> omega
  have HM := Lib.hid hm; have HWF := Lib.hid hwf; have HN := Lib.hid hn; have HRT := Lib.hid hrt; have HX := Lib.hid hx
  clear hm hwf hx hrt hn hnd
  have h0s : (w.alloc (.cells f.cells 24)).heap.size = w.heap.size + 1 := by simp
  have HO0 := Lib.hid (show Own ((w.alloc (.cells f.cells 24)).alloc (.cells #[.int .i64 0] 3)) (w.heap.size + 1) (.slice (some ⟨w.heap.size + 1, 0, none⟩) 1 1) [0] from by
    have := Own.lit (w.alloc (.cells f.cells 24)) (w.heap.size + 1) [0] (by simp) (by simp)
    rwa [h0s] at this)
  have HB0 := Lib.hid (show Below (w.heap.size + 1) (w.alloc (.cells f.cells 24)) ((w.alloc (.cells f.cells 24)).alloc (.cells #[.int .i64 0] 3)) from (Below.refl _ _).alloc (by simp) _)
  clear h0s
  go_enter Try.func14, Try.ntmps14
  go_wp2_with fail
  refine (rarb_row f _ HM.out).mono ?_
  rintro e w1 ⟨A1, cap1, rfl, hi1, hb1⟩
  have HB1 := Lib.hid (nxt1 HB0.out (by simp) hb1)
  have HO1 := Lib.hid (HO0.out.below hb1)
  have HI1 := Lib.hid hi1
  have hs1 : w.heap.size + 1 ≤ w1.heap.size := by have := HB1.out.size; simp at this; omega
  clear hi1 hb1 HO0 HB0
  go_wp2_with (first
      | (at_builtin; (refine append_ints2 _ rfl (.tmp 5) (.tmp 7) rfl (w.heap.size + 1) _ [0] rfl HO1.out A1 f.wid cap1 (ofB f.num f.wid) rfl HI1.out (by simp <;> omega) hs1 ?_); intro v2 w2 ho2 hg2 _; have HB2 := Lib.hid (grow_fb HB1.out HO1.out hg2); have HO2 := Lib.hid ho2; have hs2 : w.heap.size + 1 ≤ w2.heap.size := Nat.le_trans hs1 hg2.size; have HN2 := Lib.hid (Arr.new w2 .i64 3 [0]).il; have hl2 : ([0] ++ ofB f.num f.wid).length ≤ 40 := (by (rw [List.length_append, ofB_len]; simp <;> omega)); obtain ⟨c0, c1, c2, c3, c4, c5, c6, c7, c8, c9, c10, c11⟩ := (fb_kept HB2.out).bx; have lf := (fb_kept HB2.out).lt; rw [HX.out] at c1; rw [HRT.out] at c2; rw [HN.out] at c3; clear ho2 hg2)
      | (at_builtin; (refine append_ints2 _ rfl (.tmp 9) (.tmp 10) rfl (w.heap.size + 1) _ _ rfl (HO2.out.alloc _) _ 1 1 [0] rfl HN2.out (by rw [List.length_append, ofB_len]; simp <;> omega) (by simp <;> omega) ?_); intro v3 w3 ho3 hg3 _; have HB3 := Lib.hid (grow_fb (HB2.out.alloc hs2 _) (HO2.out.alloc _) hg3); have HO3 := Lib.hid ho3; have hs3 : w.heap.size + 1 ≤ w3.heap.size := (by have := hg3.size; simp at this; omega); have HN3 := Lib.hid (Arr.new w3 .i64 3 [0]).il; clear c0 c1 c2 c3 c4 c5 c6 c7 c8 c9 c10 c11 lf; obtain ⟨c0, c1, c2, c3, c4, c5, c6, c7, c8, c9, c10, c11⟩ := (fb_kept HB3.out).bx; have lf := (fb_kept HB3.out).lt; rw [HX.out] at c1; rw [HRT.out] at c2; rw [HN.out] at c3; clear ho3 hg3)
      | (at_builtin; (refine append_ints2 _ rfl (.tmp 14) (.tmp 15) rfl (w.heap.size + 1) _ _ rfl (HO3.out.alloc _) _ 1 1 [0] rfl HN3.out (by rw [List.length_append, List.length_append, ofB_len]; simp <;> omega) (by simp <;> omega) ?_); intro v4 w4 ho4 hg4 _; have HB4 := Lib.hid (grow_fb (HB3.out.alloc hs3 _) (HO3.out.alloc _) hg4); have HO4 := Lib.hid ho4; have hs4 : w.heap.size + 1 ≤ w4.heap.size := (by have := hg4.size; simp at this; omega); clear c0 c1 c2 c3 c4 c5 c6 c7 c8 c9 c10 c11 lf; obtain ⟨c0, c1, c2, c3, c4, c5, c6, c7, c8, c9, c10, c11⟩ := (fb_kept HB4.out).bx; have lf := (fb_kept HB4.out).lt; rw [HX.out] at c1; rw [HRT.out] at c2; rw [HN.out] at c3; clear ho4 hg4)
      | fail)
  refine (rdig_row 4 n _ (by omega) (by omega)).mono ?_
  rintro e w5 ⟨A5, cap5, rfl, hi5, hb5⟩
  have HB5 := Lib.hid (nxt1 HB4.out (by simp) hb5)
  have HO5 := Lib.hid (HO4.out.below hb5)
  have HI5 := Lib.hid hi5
  have hs5 : w.heap.size + 1 ≤ w5.heap.size := Nat.le_trans hs4 hb5.size
  clear c0 c1 c2 c3 c4 c5 c6 c7 c8 c9 c10 c11 lf hi5 hb5
  obtain ⟨l0, hl0⟩ : ∃ l0, [0] ++ ofB f.num f.wid ++ [0] ++ [0] ++ ofB n 4 = l0 := ⟨_, rfl⟩
  have HL0 := Lib.hid (show l0.length ≤ 60 by rw [← hl0]; simp [ofB_len] <;> omega)
  have HLL := Lib.hid (show bts f = l0 ++ datB f.d (0) by rw [HBT.out, ← hl0])
  go_wp2_with (first
      | (at_builtin; (refine append_ints2 _ rfl (.tmp 17) (.tmp 20) rfl (w.heap.size + 1) _ _ rfl HO5.out A5 4 cap5 (ofB n 4) rfl HI5.out (by simp [ofB_len] <;> omega) hs5 ?_); intro v6 w6 ho6 hg6 _; have HB6 := Lib.hid (grow_fb HB5.out HO5.out hg6); have HO6 := Lib.hid ho6; rw [hl0] at HO6; have hs6 : w.heap.size + 1 ≤ w6.heap.size := Nat.le_trans hs5 hg6.size; clear ho6 hg6)
      | fail)
  clear hl0
  go_loopw [3, 4] (fun v i wr => ∃ k : Nat, k ≤ 0 ∧ i = .int .i64 k ∧ Own wr (w.heap.size + 1) v (l0 ++ datB f.d k) ∧ Below (w.heap.size + 1) (w.alloc (.cells f.cells 24)) wr) (fun _ i _ => 0 - (intOf i).toNat)
  case atStart => exact ⟨0, Nat.zero_le _, rfl, by simpa [datB] using HO6.out, HB6.out⟩
  case round =>
    obtain ⟨k, hk, rfl, ho, hbel⟩ := hrel
    have HO := Lib.hid ho; have HBL := Lib.hid hbel
    have F := fb_kept hbel
    have hsr : w.heap.size + 1 ≤ wr.heap.size := by have := hbel.size; simp at this; omega
    obtain ⟨c0, c1, c2, c3, c4, c5, c6, c7, c8, c9, c10, c11⟩ := F.bx
    rw [HRT.out] at c2; rw [HN.out] at c3
    clear ho hbel
    have HE := Lib.hid (show k = 0 by omega)
    obtain rfl : k = 0 := by omega
    clear F hk HE
    by_cases hlt : (0 : Int) < (n : Int)
    · go_wp2
      go_ret
      exact ⟨_, rfl, by rw [HLL.out]; exact HO.out.mono (Nat.le_succ _), (boxed f w).trans (HBL.out.mono (Nat.le_succ _))⟩
    · go_wp2
      go_ret
      exact ⟨_, rfl, by rw [HLL.out]; exact HO.out.mono (Nat.le_succ _), (boxed f w).trans (HBL.out.mono (Nat.le_succ _))⟩

theorem rb_ok (f : Fr) (w : World) (hm : f.may = true) (hwf : f.wf) : Calls Try.prog 14 #[f.val] w (OwnRow (bts f) w) := by
  cases hx : f.ext <;> cases hr : f.rtr
  · exact rb_false_false f w hm hwf hx hr
  · exact rb_false_true f w hm hwf hx hr
  · exact rb_true_false f w hm hwf hx hr
  · exact rb_true_true f w hm hwf hx hr

set_option maxHeartbeats 1600000 in
theorem ra_ok (f : Fr) (w : World) (hm : f.may = true) (hwf : f.wf) : Calls Try.prog 15 #[f.val] w (OwnRow (alls f) w) := by
  have HM := Lib.hid hm; have HWF := Lib.hid hwf
  have HLE := Lib.hid (bts_le hm)
  have HALL := Lib.hid (bts_all f)
  have HBT := Lib.hid (show alls f = bts f ++ ofB (csum (bts f)) 15 ++ [1, 1, 1, 1, 1, 1, 1, 1, 1, 1] from rfl)
  clear hm hwf
  go_enter Try.func15, Try.ntmps15
  go_wp2_with fail
  refine (rb_ok f _ HM.out HWF.out).mono ?_
  rintro e w1 ⟨v1, rfl, ho1, hb1⟩
  rw [show (w.alloc (.cells f.cells 24)).heap.size = w.heap.size + 1 by simp] at ho1
  have HB1 := Lib.hid (nxt (boxed f w) hb1)
  have HO1 := Lib.hid (ho1.mono (Nat.le_succ w.heap.size))
  obtain ⟨A1, cap1, rfl, hi1, _⟩ := ho1.il2
  have HI1 := Lib.hid hi1
  clear hb1 ho1 hi1
  go_wp2_with fail
  refine (rs4_ok A1 _ cap1 (bts f) _ HI1.out (by have := HLE.out; omega) HALL.out).mono ?_
  rintro e w2 ⟨A2, cap2, rfl, hi2, hb2⟩
  have HB2 := Lib.hid (nxt HB1.out hb2)
  have HO2 := Lib.hid (HO1.out.below hb2)
  have HI2 := Lib.hid hi2
  have hs2 := HB2.out.size
  clear hi2 hb2
  go_wp2_with (first
    | (at_builtin; (refine append_ints2 _ rfl (.tmp 6) (.tmp 8) rfl w.heap.size _ (bts f) rfl HO2.out A2 15 cap2 _ rfl HI2.out (by have := HLE.out; omega) hs2 ?_); intro v3 w3 ho3 hg3 _; have HB3 := Lib.hid (HB2.out.grown hg3 hs2 HO2.out.row); have HO3 := Lib.hid ho3; have hs3 := HB3.out.size; have HN3 := Lib.hid (Arr.new w3 .i64 3 [1, 1, 1, 1, 1, 1, 1, 1, 1, 1]).il; clear ho3 hg3)
    | (at_builtin; (refine append_ints2 _ rfl (.tmp 10) (.tmp 11) rfl w.heap.size _ _ rfl (HO3.out.alloc _) _ 10 10 [1, 1, 1, 1, 1, 1, 1, 1, 1, 1] rfl HN3.out (by have := HLE.out; rw [List.length_append, ofB_len]; omega) (by simp <;> omega) ?_); intro v4 w4 ho4 hg4 _; have HB4 := Lib.hid (push_lit HB3.out hs3 HO3.out hg4); have HO4 := Lib.hid ho4; clear ho4 hg4)
    | fail)
  go_ret
  exact ⟨_, rfl, by rw [HBT.out]; exact HO4.out, HB4.out⟩
end Go.Proofs.Ytclinogamfpooaa
