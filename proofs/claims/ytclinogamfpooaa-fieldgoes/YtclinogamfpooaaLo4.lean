/- The walk of the law FieldGoes. -/
import Derived.Test.YtclinogamfpooaaLb4
namespace Go.Proofs.Ytclinogamfpooaa
open Go.RowKit

def ints (l : List Nat) : List Int := l.map fun n : Nat => (n : Int)
theorem ints_set (l : List Nat) (i v : Nat) : (ints l).set i (v : Int) = ints (l.set i v) := by unfold ints; rw [List.map_set]
theorem ints_at {l : List Nat} {i v : Nat} (h : l[i]? = some v) : (ints l).getD i 0 = (v : Int) := by
  unfold ints; rw [List.getD_eq_getElem?_getD, List.getElem?_map, h]; rfl
theorem Arr.away {k : IntKind} {t : TypeId} {w : World} {g g' i : Nat} {zs : List Int} {v : Value} (h : Arr k t w g zs) (hne : g' ≠ g) : Arr k t (w.setCell ⟨g', i, none⟩ v) g zs := by
  unfold Arr at h ⊢
  simp [World.setCell, Array.getElem?_modify, h, hne]
theorem sum_wds (a c d : Nat) : sumW (wds a c d) = 1 + a + c + d + 25 := by simp only [wds, sumW]; omega

set_option maxHeartbeats 800000 in
theorem goes_bad (f : Fr) (w : World) (hm : f.may = false) :
    Calls Try.prog 7 #[f.val] w fun e w' => e = .returned (.bool true) ∧ Below w.heap.size w w' := by
  have HM := Lib.hid hm
  clear hm
  go_enter Try.func7, Try.ntmps7
  go_wp2_with fail
  refine (fall_bad f _ HM.out).mono ?_
  rintro e w1 ⟨rfl, hb1⟩
  have HB1 := Lib.hid (nxt (boxed f w) hb1)
  clear hb1
  go_wp2_with fail
  refine (awake04 _).mono ?_
  rintro e wa ⟨rfl, hba⟩
  go_wp2
  go_ret
  exact ⟨rfl, nxt HB1.out hba⟩

/-- What the law's rounds lean on. -/
theorem goes_next {f : Fr} (hm : f.may = true) {k : Nat} (h : k ≤ (alls f).length) : nout (hW ((alls f).take k)) k 0 = .tuple #[.int .i64 ((nx (wds (aW f.ext) (cW f.ext) (8 * nDat f)) k 0).1 : Int), .int .i64 ((nx (wds (aW f.ext) (cW f.ext) (8 * nDat f)) k 0).2 : Int), .int .i64 0] := by
  obtain ⟨n, hn, h8⟩ := len_nat hm
  obtain ⟨i, hi⟩ := id_nat hm
  rw [nout_take h, alls_hdr hn (by omega), hdr_W hi (by omega) hn (by omega)]
  apply nout_nx
  rw [sum_wds]
  have := alls_len f; have := bts_len f; have := hEnd_eq f.ext
  omega
theorem goes_long {f : Fr} (hm : f.may = true) : nout (hW (alls f ++ [1])) ((alls f).length + 1) 0 = .tuple #[.int .i64 0, .int .i64 0, .int .i64 12] := by
  obtain ⟨n, hn, h8⟩ := len_nat hm
  obtain ⟨i, hi⟩ := id_nat hm
  rw [show alls f ++ [1] = hdr f n (ofB (csum (bts f)) 15 ++ List.replicate 10 1 ++ [1]) by rw [alls_hdr hn (by omega)]; unfold hdr; simp, hdr_W hi (by omega) hn (by omega)]
  apply nout_long
  rw [sum_wds]
  have := alls_len f; have := bts_len f; have := hEnd_eq f.ext
  omega

set_option maxRecDepth 100000 in
set_option maxHeartbeats 6400000 in
theorem goes_false_false (f : Fr) (w : World) (hm : f.may = true) (hwf : f.wf) (hx : f.ext = false) (hrt : f.rtr = false) :
    Calls Try.prog 7 #[f.val] w fun e w' => e = .returned (.bool true) ∧ Below w.heap.size w w' := by
  obtain ⟨n, hn, hn8⟩ := len_nat hm
  have hnd : 8 * nDat f = 8 * n := by unfold nDat; rw [hrt, hn]; rfl
  have hal : (alls f).length = 44 + 8 * n := by
    have := alls_len f; have := bts_len f
    rw [hx, show hEnd false = 19 from rfl] at this
    omega
  have HNX := Lib.hid (fun k h => goes_next hm (k := k) h)
  have HLG := Lib.hid (goes_long hm)
  rw [hx, hnd, show aW false = 13 from rfl, show cW false = 5 from rfl] at HNX
  rw [hal] at HNX HLG
  obtain ⟨ws, hws⟩ : ∃ ws, wds 13 5 (8 * n) = ws := ⟨_, rfl⟩
  have HSUM := Lib.hid (show sumW ws = 44 + 8 * n by rw [← hws, sum_wds]; omega)
  have HWL := Lib.hid (show ws.length = 9 by rw [← hws]; rfl)
  have HWI := Lib.hid (show ([1, 13, 5, 8 * (n : Int), 15, 1, 1, 1, 7] : List Int) = ints ws by rw [← hws]; simp [wds, ints])
  rw [hws] at HNX
  have HM := Lib.hid hm; have HWF := Lib.hid hwf; have HN := Lib.hid hn; have HRT := Lib.hid hrt; have HX := Lib.hid hx; have HAL := Lib.hid hal
  have HALL := Lib.hid (alls_all f)
  have hmk : ∀ w : World, (Instr.makeSlice 25 (.int .i64 9) (.int .i64 9)).run Try.prog w = .ok (.slice (some ⟨w.heap.size, 0, none⟩) 9 9) (w.alloc (.cells ((List.replicate 9 0).map (Value.int .i64)).toArray 3)) := make22 9 (by omega)
  clear hm hwf hx hrt hn hnd hal hws
  go_enter Try.func7, Try.ntmps7
  go_wp2_with fail
  refine (fall_ok f _ HM.out HWF.out).mono ?_
  rintro e w1 ⟨v1, rfl, ho1, hb1⟩
  have HB1 := Lib.hid (nxt (boxed f w) hb1)
  have F1 : Fb w1 w.heap.size f := (fb_new w f).below hb1 (by simp)
  obtain ⟨A1, cap1, rfl, hi1, hcap1⟩ := ho1.il2
  rw [HAL.out] at hi1 hcap1 ⊢
  have HI1 := Lib.hid hi1
  obtain ⟨c0, c1, c2, c3, c4, c5, c6, c7, c8, c9, c10, c11⟩ := F1.bx
  have l0 := F1.lt
  rw [HX.out] at c1
  rw [HRT.out] at c2
  rw [HN.out] at c3
  clear hb1 ho1 F1 hi1
  have X1 := Lib.hid (Arr.new w1 .i64 3 [1, 13, 5, 8 * (n : Int), 15, 1, 1, 1, 7])
  have X2 := Lib.hid (arr_next w1 (.cells (([1, 13, 5, 8 * (n : Int), 15, 1, 1, 1, 7] : List Int).map (Value.int .i64)).toArray 3) (List.replicate 9 0))
  have X3 := Lib.hid (X1.out.below (B := w1.heap.size + 1) ((Below.refl _ _).alloc (by simp) (.cells ((List.replicate 9 (0 : Int)).map (Value.int .i64)).toArray 3)) (by omega))
  have X4 := Lib.hid (alloc2 w1 (.cells (([1, 13, 5, 8 * (n : Int), 15, 1, 1, 1, 7] : List Int).map (Value.int .i64)).toArray 3) (.cells ((List.replicate 9 (0 : Int)).map (Value.int .i64)).toArray 3))
  generalize ((List.replicate 9 (0 : Int)).map (Value.int .i64)).toArray = cs at hmk X2 X3 X4
  go_wp2
  go_loopw [7, 8] (fun la i wr => ∃ k m : Nat, k ≤ 44 + 8 * n ∧ i = .int .i64 k ∧ la = .int .i64 m ∧ m ≤ (nx ws k 0).1 ∧ Arr .i64 3 wr w1.heap.size [1, 13, 5, 8 * (n : Int), 15, 1, 1, 1, 7] ∧ Arr .i64 3 wr (w1.heap.size + 1) (ints (cnt ws k)) ∧ Below w1.heap.size w1 wr) (fun _ i _ => 44 + 8 * n - (intOf i).toNat)
  case atStart => exact ⟨0, 0, Nat.zero_le _, rfl, rfl, Nat.zero_le _, X3.out, by rw [cnt_zero, HWL.out]; exact X2.out, X4.out⟩
  case round =>
    obtain ⟨k, m, hk, rfl, rfl, hmx, hw, hcn, hbel⟩ := hrel
    clear c0 c1 c2 c3 c4 c5 c6 c7 c8 c9 c10 c11 l0
    have HW := Lib.hid hw; have HCN := Lib.hid hcn; have HBL := Lib.hid hbel; have HI := Lib.hid (HI1.out.below hbel)
    have hl1 := hcn.lt
    clear hw hcn hbel
    by_cases hlt : k < 44 + 8 * n
    · have hnl := nx_lt ws k 0 (by rw [HSUM.out]; exact hlt)
      obtain ⟨q1, q2⟩ := nx_cnt ws k 0 (by rw [HSUM.out]; exact hlt)
      have q3 := nx_mono ws k 0
      have HNK := Lib.hid (HNX.out k (by omega))
      rw [HWL.out] at hnl
      obtain ⟨kk, hkk⟩ : ∃ kk, (nx ws k 0).1 = kk := ⟨_, rfl⟩
      obtain ⟨pp, hpp⟩ : ∃ pp, (nx ws k 0).2 = pp := ⟨_, rfl⟩
      rw [hkk, hpp] at q1 q2 HNK
      rw [hkk] at hnl q3 hmx
      rw [Nat.sub_zero] at q1 q2
      have Q2 := Lib.hid q2; have Q3 := Lib.hid q3
      have hk9 : kk < 9 := by omega
      have hcl := HCN.out.cell (i := kk) (by unfold ints; rw [List.length_map, cnt_len, HWL.out]; exact hk9)
      rw [ints_at q1] at hcl
      have HCL := Lib.hid hcl
      have hp9 : pp ≤ 1000 := by
        rcases Nat.lt_or_ge 1000 pp with h | h
        · exfalso
          have hle : ∀ (ws : List Nat) (n j p : Nat), (cnt ws n)[j]? = some p → p ≤ n := by
            intro ws
            induction ws with
            | nil => intro n j p h; simp [cnt] at h
            | cons w ws ih =>
              intro n j p h
              cases j with
              | zero => simp [cnt] at h; omega
              | succ j => simp [cnt] at h; have := ih _ _ _ h; omega
          have := hle ws k kk pp q1
          omega
        · exact h
      clear q1 q2 q3 hkk hpp hnl
      go_wp2_with fail
      refine (next_any_row _ k _ ((alls f).take k) _ (HI.out.take k (by omega)) (by omega) (by omega) (all_take HALL.out k)).mono ?_
      rintro e w2 ⟨rfl, hb2⟩
      rw [HNK.out]
      have HB2 := Lib.hid hb2
      clear hb2 hcl
      go_wp2_with fail
      refine (kind_ok kk _ (by omega)).mono ?_
      rintro e w3 ⟨rfl, hb3⟩
      have hb23 := nxt HB2.out hb3
      have HB3 := Lib.hid (HBL.out.trans (hb23.mono (by have := hl1; omega)))
      have HC3 := Lib.hid (HCN.out.below hb23 hl1)
      have HW3 := Lib.hid (HW.out.below hb23 (by omega))
      have hcl := (hb23.cell (p := ⟨w1.heap.size + 1, kk, none⟩) hl1).trans HCL.out
      have fz := HC3.out.frozen kk
      have hne : ((pp : Int) != (pp : Int)) = false := by simp
      clear hb3 hb23 HB2 HCN HW HBL HI
      go_wp2
      go_roundw
      case rel => exact ⟨k + 1, kk, by omega, by go_num, rfl, Q3.out, HW3.out.away (by omega), by rw [Q2.out, ← ints_set]; exact HC3.out.put _ _, HB3.out.setCell (by simp) _⟩
      case measure => simp [intOf]; omega
    · have HKE := Lib.hid (show k = 44 + 8 * n by omega)
      have hnl := nx_end ws (44 + 8 * n) 0 (by rw [HSUM.out]; exact Nat.le_refl _)
      have HNK := Lib.hid (HNX.out (44 + 8 * n) (Nat.le_refl _))
      rw [hnl, HWL.out, show (alls f).take (44 + 8 * n) = alls f from List.take_of_length_le (by rw [HAL.out]; exact Nat.le_refl _)] at HNK
      rw [cnt_full ws k (by rw [HSUM.out, HKE.out]; exact Nat.le_refl _), ← HWI.out] at HCN
      clear hnl hmx
      go_wp2_with fail
      refine (next_any_row _ _ _ (alls f) _ HI.out (by omega) hcap1 HALL.out).mono ?_
      rintro e w2 ⟨rfl, hb2⟩
      rw [HNK.out]
      have HB2 := Lib.hid (nxt HBL.out hb2)
      have HI2 := Lib.hid ((HI.out.below hb2).alloc (.cells #[] 3))
      have HC2 := Lib.hid (HCN.out.below hb2 hl1)
      have HW2 := Lib.hid (HW.out.below hb2 (by omega))
      have hl2 : w1.heap.size + 1 < w2.heap.size := by have := hb2.size; omega
      have HO2 := Lib.hid (show Own (w2.alloc (.cells #[] 3)) w2.heap.size (.slice (some ⟨w2.heap.size, 0, none⟩) 0 0) [] from Own.lit w2 w2.heap.size [] (Nat.le_refl _) (by simp))
      clear hb2 HBL HI HCN HW hk hlt
      go_wp2_with (first
        | (at_builtin; (refine append_ints2 _ rfl (.tmp 96) (.tmp 97) rfl w2.heap.size _ [] rfl HO2.out A1 _ cap1 (alls f) rfl HI2.out (by simp; omega) (by simp) ?_); intro v3 w3 ho3 hg3 _; have hb3 := below_lit hg3; have HO3 := Lib.hid ho3; have hs3 := hb3.size; have HN3 := Lib.hid (Arr.new w3 .i64 3 [1]).il; clear ho3 hg3)
        | (at_builtin; (refine append_ints2 _ rfl (.tmp 98) (.tmp 99) rfl w2.heap.size _ _ rfl (HO3.out.alloc _) _ 1 1 [1] rfl HN3.out (by rw [List.nil_append, HAL.out]; omega) (by simp; omega) ?_); intro v4 w4 ho4 hg4 _; have hb4 := push_lit hb3 hs3 HO3.out hg4; have HO4 := Lib.hid ho4; clear ho4 hg4)
        | fail)
      obtain ⟨A4, cap4, rfl, hi4, hc4⟩ := HO4.out.il2
      have HL4 := Lib.hid (show ([] ++ alls f ++ [1]).length = 44 + 8 * n + 1 by rw [List.nil_append, List.length_append, HAL.out]; rfl)
      rw [HL4.out, List.nil_append] at hi4
      rw [HL4.out] at hc4 ⊢
      refine (next_any_row _ _ _ (alls f ++ [1]) _ hi4 (by omega) hc4 (all_append HALL.out (by intro z hz; simp at hz; subst hz; rfl))).mono ?_
      rintro e w5 ⟨rfl, hb5⟩
      rw [HLG.out]
      have hb25 := nxt hb4 hb5
      have HB5 := Lib.hid (nxt HB2.out hb25)
      have HC5 := Lib.hid (HC2.out.below hb25 hl2)
      have HW5 := Lib.hid (HW2.out.below hb25 (by omega))
      clear hb3 hb4 hb5 hb25 hi4 HO2 HO3 HO4 HN3 HI2 HC2 HW2 HB2
      go_wp2_with fail
      refine (ints_b _ _ 9 9 _ _ [1, 13, 5, 8 * (n : Int), 15, 1, 1, 1, 7] [1, 13, 5, 8 * (n : Int), 15, 1, 1, 1, 7] _ HC5.out.il HW5.out.il (by omega)).mono ?_
      rintro e w6 ⟨rfl, hb6⟩
      rw [show (([1, 13, 5, 8 * (n : Int), 15, 1, 1, 1, 7] : List Int) == [1, 13, 5, 8 * (n : Int), 15, 1, 1, 1, 7]) = true by simp]
      go_wp2_with fail
      refine (kind_ok 9 _ (by omega)).mono ?_
      rintro e w7 ⟨rfl, hb7⟩
      go_wp2_with fail
      refine (awake04 _).mono ?_
      rintro e wa ⟨rfl, hba⟩
      go_wp2
      go_ret
      exact ⟨rfl, nxt HB1.out (nxt (nxt (nxt HB5.out hb6) hb7) hba)⟩
end Go.Proofs.Ytclinogamfpooaa
