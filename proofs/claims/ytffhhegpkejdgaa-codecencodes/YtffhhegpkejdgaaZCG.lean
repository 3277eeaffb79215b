/- The contract of the reference's Encode of layer 6. -/
import Derived.Test.YtffhhegpkejdgaaX610
import Derived.Test.YtffhhegpkejdgaaX611
import Derived.Test.YtffhhegpkejdgaaX614
namespace Go.Proofs.Ytffhhegpkejdgaa
open Go.RowKit

set_option maxRecDepth 100000 in
set_option maxHeartbeats 3200000 in
theorem renc_ok (f : Fr) (b : Bool) (w : World) (hm : f.may = true) (hwf : f.wf) : Calls Try.prog 16 #[f.val, .bool b] w (OwnRow (enc f b) w) := by
  have HM := Lib.hid hm; have HWF := Lib.hid hwf
  have HLE := Lib.hid (bts_le hm)
  have HALL := Lib.hid (bts_all f)
  have HRA := Lib.hid (raw_all f)
  have HRW := Lib.hid (show bts f ++ ofB (csum (bts f)) 15 = raw f from rfl)
  have HRL := Lib.hid (show (raw f).length ≤ 118 by rw [raw_len]; have := bts_le hm; omega)
  have HSL := Lib.hid (stf_raw_le hm)
  clear hm hwf
  go_enter Try.func16, Try.ntmps16
  go_wp2_with fail
  refine (rb_ok f _ HM.out HWF.out).mono ?_
  rintro e w1 ⟨v1, rfl, ho1, hb1⟩
  rw [show (w.alloc (.cells f.cells 24)).heap.size = w.heap.size + 1 by simp] at ho1
  have HB1 := Lib.hid (nxt (boxed f w) hb1)
  have HO1 := Lib.hid (ho1.mono (Nat.le_succ w.heap.size))
  obtain ⟨A1, cap1, rfl, hi1, _⟩ := ho1.il2
  have HI1 := Lib.hid hi1
  clear hb1 ho1 hi1
  go_wp2_with fail
  refine (rs4_ok A1 _ cap1 (bts f) _ HI1.out (by have := HLE.out; omega) HALL.out).mono ?_
  rintro e w2 ⟨A2, cap2, rfl, hi2, hb2⟩
  have HB2 := Lib.hid (nxt HB1.out hb2)
  have HO2 := Lib.hid (HO1.out.below hb2)
  have HI2 := Lib.hid hi2
  have hs2 := HB2.out.size
  clear hi2 hb2
  go_wp2_with (first
    | (at_builtin; (refine append_ints2 _ rfl (.tmp 9) (.tmp 11) rfl w.heap.size _ (bts f) rfl HO2.out A2 15 cap2 _ rfl HI2.out (by have := HLE.out; omega) hs2 ?_); intro v3 w3 ho3 hg3 _; have HB3 := Lib.hid (HB2.out.grown hg3 hs2 HO2.out.row); have HO3 := Lib.hid ho3; have hs3 := HB3.out.size; clear ho3 hg3)
    | fail)
  rw [HRW.out] at HO3
  obtain ⟨A3, cap3, rfl, hi3, _⟩ := HO3.out.il2
  have HI3 := Lib.hid hi3
  clear hi3
  refine (radd_own A3 _ cap3 (raw f) _ HI3.out (by have := HRL.out; omega) HRA.out).mono ?_
  rintro e w4 ⟨v4, rfl, ho4, hb4⟩
  have HB4 := Lib.hid (nxt HB3.out hb4)
  have HO4 := Lib.hid (ho4.mono hs3)
  have hs4 := HB4.out.size
  have HN4 := Lib.hid (Arr.new w4 .i64 3 [1, 1]).il
  clear hb4 ho4 HI3 HO3 HI2 HO2 HI1 HO1
  obtain ⟨t, ht⟩ : ∃ t, stf (raw f) = t := ⟨_, rfl⟩
  have HTT := Lib.hid ht
  rw [ht] at HO4 HSL
  clear ht
  obtain ⟨L, hL⟩ : ∃ L, t.length = L := ⟨_, rfl⟩
  have hL2 : L ≤ 300 := by rw [← hL]; exact HSL.out
  have HTL := Lib.hid hL
  clear hL
  have HLN := Lib.hid (show (t ++ [1, 1]).length = L + 2 by simp [HTL.out])
  have HL8 := Lib.hid (fun w : World => (Arr.new w .i64 3 [1, 1, 1, 1, 1, 1, 1, 1]).il)
  cases b with
  | false =>
    have HEQ := Lib.hid (show enc f false = t ++ [1, 1] ++ [1, 1, 1, 1, 1, 1, 1, 1] by unfold enc; rw [HTT.out, List.append_assoc]; rfl)
    go_wp2_with (first
      | (at_builtin; (refine append_ints2 _ rfl (.tmp 14) (.tmp 15) rfl w.heap.size v4 t rfl (HO4.out.alloc _) _ 2 2 [1, 1] rfl HN4.out (by rw [HTL.out]; omega) (by simp <;> omega) ?_); intro v5 w5 ho5 hg5 _; have HB5 := Lib.hid (push_lit HB4.out hs4 HO4.out hg5); have HO5 := Lib.hid ho5; have hs5 := HB5.out.size; clear ho5 hg5)
      | (at_builtin; (refine append_ints2 _ rfl (.tmp 23) (.tmp 24) rfl w.heap.size _ (t ++ [1, 1]) rfl (HO5.out.alloc _) _ 8 8 [1, 1, 1, 1, 1, 1, 1, 1] rfl (HL8.out _) (by rw [HLN.out]; omega) (by simp <;> omega) ?_); intro v6 w6 ho6 hg6 _; have HB6 := Lib.hid (push_lit HB5.out hs5 HO5.out hg6); have HO6 := Lib.hid ho6; clear ho6 hg6)
      | fail)
    go_ret
    exact ⟨_, rfl, by rw [HEQ.out]; exact HO6.out, HB6.out⟩
  | true =>
    have HEQ := Lib.hid (show enc f true = t ++ [1, 0] ++ [1, 1, 1, 1, 1, 1, 1, 1] by unfold enc; rw [HTT.out, List.append_assoc]; rfl)
    have HST := Lib.hid (show (t ++ [1, 1]).set (L + 1) 0 = t ++ [1, 0] by rw [← HTL.out, List.set_append_right _ _ (by omega), Nat.add_sub_cancel_left]; rfl)
    have HL2 := Lib.hid (show (t ++ [1, 0]).length = L + 2 by simp [HTL.out])
    have l1 : (L : Int) + 2 - 1 = (L : Int) + 1 := by omega
    have l2 : (0 : Int) ≤ (L : Int) + 1 := by omega
    have l3 : (L : Int) + 1 < (L : Int) + 2 := by omega
    have l4 : (L : Int) ≤ 300 := by omega
    go_wp2_with (first
      | (at_builtin; (refine append_ints2 _ rfl (.tmp 14) (.tmp 15) rfl w.heap.size v4 t rfl (HO4.out.alloc _) _ 2 2 [1, 1] rfl HN4.out (by rw [HTL.out]; omega) (by simp <;> omega) ?_); intro v5 w5 ho5 hg5 _; have HB5 := Lib.hid (push_lit HB4.out hs4 HO4.out hg5); obtain ⟨q, cap5, rfl, hq, hcap5⟩ := ho5.shape (by rw [HLN.out]; omega); rw [HLN.out] at ho5 hcap5 ⊢; have HO5 := Lib.hid ho5; have fq := ho5.frozen (L + 1); have cq := ho5.cell (j := L + 1) (by rw [HLN.out]; omega); have HP := Lib.hid (ho5.put (L + 1) 0); rw [HST.out] at HP; have HBP := Lib.hid (HB5.out.setCell (p := ⟨q, L + 1, none⟩) hq (.int .i64 0)); have hsp := HBP.out.size; clear ho5 hg5 hq)
      | (at_builtin; (refine append_ints2 _ rfl (.tmp 23) (.tmp 24) rfl w.heap.size _ (t ++ [1, 0]) rfl (HP.out.alloc _) _ 8 8 [1, 1, 1, 1, 1, 1, 1, 1] rfl (by have h := HL8.out (w5.setCell ⟨q, L + 1, none⟩ (.int .i64 0)); rw [World.size_setCell] at h; exact h) (by rw [HL2.out]; omega) (by simp at hsp ⊢; omega) ?_); intro v6 w6 ho6 hg6 _; have HB6 := Lib.hid (push_lit HBP.out hsp HP.out hg6); have HO6 := Lib.hid ho6; clear ho6 hg6)
      | fail)
    go_ret
    exact ⟨_, rfl, by rw [HEQ.out]; exact HO6.out, HB6.out⟩
end Go.Proofs.Ytffhhegpkejdgaa
