/- The walk of the law CodecStops. -/
import Derived.Test.YtffhhegpkejdgaaX610
namespace Go.Proofs.Ytffhhegpkejdgaa
open Go.RowKit

theorem enc_at (f : Fr) (b : Bool) (k : Nat) : (enc f b).getD ((stf (raw f)).length + k) 0 = (ten (if b then 0 else 1)).getD k 0 := by
  unfold enc
  rw [List.getD_eq_getElem?_getD, List.getElem?_append_right (by omega), Nat.add_sub_cancel_left, ← List.getD_eq_getElem?_getD]
theorem enc_put (f : Fr) (b : Bool) (k : Nat) (z : Int) : (enc f b).set ((stf (raw f)).length + k) z = stf (raw f) ++ (ten (if b then 0 else 1)).set k z := by
  unfold enc
  rw [List.set_append_right _ _ (by omega), Nat.add_sub_cancel_left]
theorem enc_trn1 (f : Fr) (b : Bool) : (enc f b).set ((stf (raw f)).length + 1) (1 - (enc f b).getD ((stf (raw f)).length + 1) 0) = enc f (!b) := by
  rw [enc_put, enc_at]; cases b <;> rfl
theorem enc_trnk (f : Fr) (b : Bool) {k : Nat} (hk : k < 10) (h1 : k ≠ 1) : (enc f b).set ((stf (raw f)).length + k) (1 - (enc f b).getD ((stf (raw f)).length + k) 0) = stf (raw f) ++ (ten (if b then 0 else 1)).take k ++ 0 :: (ten (if b then 0 else 1)).drop (k + 1) := by
  rw [enc_put, enc_at, List.append_assoc]
  congr 1
  have : k = 0 ∨ k = 2 ∨ k = 3 ∨ k = 4 ∨ k = 5 ∨ k = 6 ∨ k = 7 ∨ k = 8 ∨ k = 9 := by omega
  rcases this with rfl | rfl | rfl | rfl | rfl | rfl | rfl | rfl | rfl <;> cases b <;> rfl
theorem trn_dV {f : Fr} (hm : f.may = true) (b : Bool) {k : Nat} (hk : k < 10) (h1 : k ≠ 1) : dV ((enc f b).set ((stf (raw f)).length + k) (1 - (enc f b).getD ((stf (raw f)).length + k) 0)) = .tuple #[Fr.zero.val, .int .i64 ((stf (raw f)).length + k : Nat), .int .i64 11] := by
  rw [enc_trnk f b hk h1]
  have h := stop_dcd hm b (j := k) (by omega) h1 ((ten (if b then 0 else 1)).drop (k + 1))
  unfold dV dF dE dN
  rw [h]
  rfl

set_option maxRecDepth 100000 in
set_option maxHeartbeats 3200000 in
theorem stops_bad (f : Fr) (b : Bool) (x : Int) (w : World) (hm : f.may = false) :
    Calls Try.prog 8 #[f.val, .bool b, .int .i64 x] w fun e w' => e = .returned (.bool true) ∧ Below w.heap.size w w' := by
  have HM := Lib.hid hm
  clear hm
  go_enter Try.func8, Try.ntmps8
  go_wp2_with fail
  refine (encode_bad f b _ HM.out).mono ?_
  rintro e w1 ⟨rfl, hb1⟩
  have HB1 := Lib.hid (nxt (boxed f w) hb1)
  clear hb1
  go_wp2_with fail
  refine (awake6 _).mono ?_
  rintro e w2 ⟨rfl, hb2⟩
  go_wp2
  go_ret
  exact ⟨rfl, nxt HB1.out hb2⟩

set_option maxRecDepth 100000 in
set_option maxHeartbeats 3200000 in
theorem stops_ok (f : Fr) (b : Bool) (x : Int) (w : World) (hm : f.may = true) (hwf : f.wf) :
    Calls Try.prog 8 #[f.val, .bool b, .int .i64 x] w fun e w' => e = .returned (.bool true) ∧ Below w.heap.size w w' := by
  have HM := Lib.hid hm; have HWF := Lib.hid hwf
  have h22 := eq22
  obtain ⟨k, hk, hm1, hm2, t1, t2⟩ : ∃ k : Nat, k < 10 ∧ (x.tmod 10 + 10).tmod 10 = (k : Int) ∧ (x.tmod 10 + 10) % 10 = (k : Int) ∧ -10 < x.tmod 10 ∧ x.tmod 10 < 10 := mod_in x 10 (by omega)
  obtain ⟨L, hL⟩ : ∃ L, (stf (raw f)).length = L := ⟨_, rfl⟩
  have HEL := Lib.hid (show (enc f b).length = L + 10 by rw [enc_len, hL])
  have hL1 : 34 ≤ L := by
    have h1 := (stf_len (raw f)).1
    rw [raw_len, bts_len, hL] at h1
    have : 19 ≤ hEnd f.ext := by cases f.ext <;> decide
    omega
  have hL2 : L ≤ 300 := by rw [← hL]; exact stf_raw_le hm
  have HT1 := Lib.hid (enc_trn1 f b)
  have HTK := Lib.hid (fun h1 => trn_dV hm b hk h1)
  have HD1 := Lib.hid (enc_dV hm hwf (!b) [])
  have HEN := Lib.hid (show (enc f (!b)).length = L + 10 by rw [enc_len, hL])
  rw [hL] at HT1 HTK
  rw [List.append_nil, HEN.out] at HD1
  have HLV := Lib.hid (show (enc f b).getD (L + k) 0 = 0 ∨ (enc f b).getD (L + k) 0 = 1 by
    rw [← hL, enc_at]
    have : k = 0 ∨ k = 1 ∨ k = 2 ∨ k = 3 ∨ k = 4 ∨ k = 5 ∨ k = 6 ∨ k = 7 ∨ k = 8 ∨ k = 9 := by omega
    rcases this with rfl | rfl | rfl | rfl | rfl | rfl | rfl | rfl | rfl | rfl <;> cases b <;> decide)
  clear hm hwf hL
  go_enter Try.func8, Try.ntmps8
  go_wp2_with fail
  refine (encode_ok f b _ HM.out HWF.out).mono ?_
  rintro e w1 ⟨v, rfl, ho1, hb1⟩
  obtain ⟨q, cap, rfl, hq, hcap⟩ := ho1.shape (by rw [HEL.out]; omega)
  rw [HEL.out] at ho1 hcap ⊢
  have HB1 := Lib.hid (nxt (boxed f w) hb1)
  have HF1 := Lib.hid (show Fb w1 w.heap.size f from (fb_new w f).below hb1 (by simp))
  have cq := ho1.cell (j := L + k) (by rw [HEL.out]; omega)
  have fq := ho1.frozen (L + k)
  have hqw : w.heap.size < q := by simp at hq; omega
  have HO1 := Lib.hid ho1
  obtain ⟨z, hz⟩ : ∃ z, (enc f b).getD (L + k) 0 = z := ⟨_, rfl⟩
  rw [hz] at cq HLV HTK
  have HP := Lib.hid (ho1.put (L + k) (1 - z))
  have HZ := Lib.hid hz
  have hz1 : 0 ≤ z ∧ z ≤ 1 := by have := HLV.out; omega
  obtain ⟨hz2, hz3⟩ := hz1
  have HBP := Lib.hid (HB1.out.setCell (p := ⟨q, L + k, none⟩) (Nat.le_of_lt hqw) (.int .i64 (1 - z)))
  have HFP := Lib.hid (HF1.out.away (i := L + k) (v := .int .i64 (1 - z)) (g' := q) (by omega))
  clear hb1 ho1 hz hq
  go_wp2_with fail
  refine (decode_any _ (L + 10) cap _ _ HP.out.il3 (by omega)).mono ?_
  rintro e w2 ⟨rfl, hb2⟩
  have HB2 := Lib.hid (nxt HBP.out hb2)
  have F2 := HFP.out.below hb2 HFP.out.lt
  have hl2 := F2.lt
  obtain ⟨c0, c1, c2, c3, c4, c5, c6, c7, c8, c9, c10, c11⟩ := F2.bx
  have hne : w2.heap.size ≠ w.heap.size := by omega
  clear F2 hb2 cq fq
  by_cases h1 : k = 1
  · subst h1
    rw [HZ.out] at HT1
    rw [HT1.out, HD1.out]
    have s1 := beq_self_eq_true [f.d 0, f.d 1, f.d 2, f.d 3, f.d 4, f.d 5, f.d 6, f.d 7]
    go_wp2_with fail
    refine (awake6 _).mono ?_
    rintro e w3 ⟨rfl, hb3⟩
    go_wp2
    go_ret
    exact ⟨rfl, nxt (HB2.out.alloc HB2.out.size _) hb3⟩
  · rw [HTK.out h1]
    have hq1 : ((k : Int) == 1) = false := by simp; omega
    clear h1
    go_wp2_with fail
    refine (awake6 _).mono ?_
    rintro e w3 ⟨rfl, hb3⟩
    go_wp2
    go_ret
    exact ⟨rfl, nxt (HB2.out.alloc HB2.out.size _) hb3⟩

theorem stops_any (f : Fr) (b : Bool) (x : Int) (w : World) (hwf : f.wf) :
    Calls Try.prog 8 #[f.val, .bool b, .int .i64 x] w fun e w' => e = .returned (.bool true) ∧ Below w.heap.size w w' := by
  cases hm : f.may with
  | false => exact stops_bad f b x w hm
  | true => exact stops_ok f b x w hm hwf
end Go.Proofs.Ytffhhegpkejdgaa
