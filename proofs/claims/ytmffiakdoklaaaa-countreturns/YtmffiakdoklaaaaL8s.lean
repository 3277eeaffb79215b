/- The walk of the law CountReturns, of one that is Passive. -/
import Derived.Test.YtmffiakdoklaaaaL8r
namespace Go.Proofs.Ytmffiakdoklaaaa
open Go.RowKit

theorem snt_big {x r : Int} (h : 127 < x) (h1 : x ≤ 255) (h2 : 0 ≤ r) (h3 : r ≤ 255) : Ct.snt ⟨x, r, false⟩ = ⟨x - 1, r, false⟩ := by
  have hr : Ct.run ⟨x, r, false⟩ = true := run_iff.2 ⟨rfl, by simp; omega, h1, h2, h3⟩
  unfold Ct.snt
  rw [if_pos hr]
  exact ct_ext (by simp; omega) rfl rfl

set_option maxRecDepth 100000 in
set_option maxHeartbeats 3200000 in
theorem returns_ok (c : Ct) (w : World) (hr : c.right = true) (hs : c.st = 1) :
    Calls Try.prog 8 #[c.val] w fun e w' => e = .returned (.bool true) ∧ Below w.heap.size w w' := by
  have HB := Lib.hid (below1 w (.cells c.cells 23))
  have HC := Lib.hid (cb_new w c)
  have HCE := Lib.hid (show c.err = 0 by unfold Ct.err; rw [hr]; rfl)
  have HST := Lib.hid hs
  obtain ⟨ho, hor⟩ := st_one.1 hs
  obtain ⟨hb, r0, r1⟩ := right_iff.1 hr
  obtain ⟨t, r, o⟩ := c
  simp only at ho hor hb r0 r1
  subst ho
  have t0 : 0 ≤ t := by simpa using (show _ from by rcases hb with ⟨h, _⟩ | ⟨_, h, _⟩; cases h; exact h)
  have t1 : t ≤ 255 := by rcases hb with ⟨h, _⟩ | ⟨_, _, h⟩; cases h; exact h
  have hrun : Ct.run ⟨t, r, false⟩ = true := run_iff.2 ⟨rfl, t0, t1, r0, r1⟩
  have hrv : Ct.rcv ⟨t, r, false⟩ = ⟨t, if 127 < r then 119 else max (r - 1) 0, false⟩ := by unfold Ct.rcv; rw [if_pos hrun]
  have HGL0 := Lib.hid trivial
  clear hb hr hs hrun
  by_cases hr7 : 127 < r
  · rw [if_pos hr7] at hrv
    have HRV := Lib.hid hrv
    have q7 : decide (r ≤ 127) = false := by simp; omega
    clear hrv hor
    by_cases ht7 : 127 < t
    · have HSD := Lib.hid (show Ct.st ⟨t, 119, false⟩ = 1 from st_one.2 ⟨rfl, .inl ht7⟩)
      have p7 : decide (t ≤ 127) = false := by simp; omega
      go_enter Try.func8, Try.ntmps8
      go_wp2_with fail
      refine (check_any ⟨t, r, false⟩ _).mono ?_
      rintro e w1 ⟨rfl, hb1⟩
      have HB1 := Lib.hid (nxt HB.out hb1)
      have HC1 := Lib.hid (HC.out.next hb1)
      obtain ⟨a0, a1, a2⟩ := HC1.out.cx
      simp only at a0 a1 a2
      clear hb1 HB HC
      rw [HCE.out]
      go_wp2_with fail
      refine (state_any ⟨t, r, false⟩ _).mono ?_
      rintro e w2 ⟨rfl, hb2⟩
      rw [HST.out]
      have HB2 := Lib.hid (nxt HB1.out hb2)
      have HC2 := Lib.hid (HC1.out.next hb2)
      clear HB1 HC1 hb2 a0 a1 a2
      obtain ⟨a0, a1, a2⟩ := HC2.out.cx
      simp only at a0 a1 a2
      go_wp2_with fail
      refine (received_any ⟨t, r, false⟩ _).mono ?_
      rintro e w3 ⟨rfl, hb3⟩
      rw [HRV.out]
      have HB3 := Lib.hid ((nxt HB2.out hb3).alloc (nxt HB2.out hb3).size (.cells (Ct.cells ⟨t, 119, false⟩) 23))
      have HC3 := Lib.hid ((HC2.out.next hb3).next (below1 w3 (.cells (Ct.cells ⟨t, 119, false⟩) 23)))
      have HD3 := Lib.hid (cb_new w3 ⟨t, 119, false⟩)
      clear HB2 HC2 hb3 a0 a1 a2
      go_wp2_with fail
      refine wp_region_held_drew (S := fun w' => Below w.heap.size w w' ∧ Cb w' w.heap.size ⟨t, r, false⟩ ∧ Cb w' w3.heap.size ⟨t, 119, false⟩) (by kernel_rfl) (⟨HB3.out.drew, HC3.out, HD3.out⟩) (fun hHeld => ?_)
      refine takeH (i := 0) (v := .pointer (some ⟨w.heap.size, 1, none⟩)) rfl (by kernel_rfl) (by kernel_rfl) (by kernel_rfl) (fun _ _ _ h => h) (Or.inl ⟨by rfl, fun w hSw => ?_⟩) hHeld ?_
      · (clear hSw; go_simp)
      simp only [Act.put, List.setIfInBounds_toArray, List.set_cons_zero, List.set_cons_succ]
      refine takeH (i := 1) (v := .int .i64 r) rfl (by kernel_rfl) (by kernel_rfl) (by kernel_rfl) (fun _ _ _ h => h) (Or.inl ⟨by rfl, fun w hSw => ?_⟩) hHeld ?_
      · (obtain ⟨a0, a1, a2⟩ := hSw.2.1.cx; simp only at a0 a1 a2; clear hSw; go_simp)
      simp only [Act.put, List.setIfInBounds_toArray, List.set_cons_zero, List.set_cons_succ]
      refine takeH (i := 2) (v := .bool true) rfl (by kernel_rfl) (by kernel_rfl) (by kernel_rfl) (fun _ _ _ h => h) (Or.inl ⟨by rfl, fun w hSw => ?_⟩) hHeld ?_
      · (clear hSw; go_simp)
      simp only [Act.put, List.setIfInBounds_toArray, List.set_cons_zero, List.set_cons_succ]
      refine takeH (i := 3) (v := .bool true) rfl (by kernel_rfl) (by kernel_rfl) (by kernel_rfl) (fun _ _ _ h => h) (Or.inl ⟨by rfl, fun w hSw => ?_⟩) hHeld ?_
      · (clear hSw; go_simp)
      simp only [Act.put, List.setIfInBounds_toArray, List.set_cons_zero, List.set_cons_succ]
      refine takeH (i := 4) (v := .pointer (some ⟨w3.heap.size, 1, none⟩)) rfl (by kernel_rfl) (by kernel_rfl) (by kernel_rfl) (fun _ _ _ h => h) (Or.inl ⟨by rfl, fun w hSw => ?_⟩) hHeld ?_
      · (clear hSw; go_simp)
      simp only [Act.put, List.setIfInBounds_toArray, List.set_cons_zero, List.set_cons_succ]
      refine takeH (i := 5) (v := .int .i64 119) rfl (by kernel_rfl) (by kernel_rfl) (by kernel_rfl) (fun _ _ _ h => h) (Or.inl ⟨by rfl, fun w hSw => ?_⟩) hHeld ?_
      · (obtain ⟨d0, d1, d2⟩ := hSw.2.2.cx; simp only at d0 d1 d2; clear hSw; go_simp)
      simp only [Act.put, List.setIfInBounds_toArray, List.set_cons_zero, List.set_cons_succ]
      refine takeH (i := 6) (v := .bool false) rfl (by kernel_rfl) (by kernel_rfl) (by kernel_rfl) (fun _ _ _ h => h) (Or.inl ⟨by rfl, fun w hSw => ?_⟩) hHeld ?_
      · (clear hSw; go_simp)
      simp only [Act.put, List.setIfInBounds_toArray, List.set_cons_zero, List.set_cons_succ]
      refine takeH (i := 7) (v := .bool false) rfl (by kernel_rfl) (by kernel_rfl) (by kernel_rfl) (fun _ _ _ h => h) (Or.inl ⟨by rfl, fun w hSw => ?_⟩) hHeld ?_
      · (clear hSw; go_simp)
      simp only [Act.put, List.setIfInBounds_toArray, List.set_cons_zero, List.set_cons_succ]
      refine takeH (i := 8) (v := .bool false) rfl (by kernel_rfl) (by kernel_rfl) (by kernel_rfl) (fun _ _ _ h => h) (Or.inl ⟨by rfl, fun w hSw => ?_⟩) hHeld ?_
      · (clear hSw; go_simp)
      simp only [Act.put, List.setIfInBounds_toArray, List.set_cons_zero, List.set_cons_succ]
      refine takeH (i := 9) (v := .pointer (some ⟨w.heap.size, 1, none⟩)) rfl (by kernel_rfl) (by kernel_rfl) (by kernel_rfl) (fun _ _ _ h => h) (Or.inl ⟨by rfl, fun w hSw => ?_⟩) hHeld ?_
      · (clear hSw; go_simp)
      simp only [Act.put, List.setIfInBounds_toArray, List.set_cons_zero, List.set_cons_succ]
      refine takeH (i := 10) (v := .int .i64 r) rfl (by kernel_rfl) (by kernel_rfl) (by kernel_rfl) (fun _ _ _ h => h) (Or.inl ⟨by rfl, fun w hSw => ?_⟩) hHeld ?_
      · (obtain ⟨a0, a1, a2⟩ := hSw.2.1.cx; simp only at a0 a1 a2; clear hSw; go_simp)
      simp only [Act.put, List.setIfInBounds_toArray, List.set_cons_zero, List.set_cons_succ]
      refine takeH (i := 11) (v := .bool false) rfl (by kernel_rfl) (by kernel_rfl) (by kernel_rfl) (fun _ _ _ h => h) (Or.inl ⟨by rfl, fun w hSw => ?_⟩) hHeld ?_
      · (clear hSw; go_simp)
      simp only [Act.put, List.setIfInBounds_toArray, List.set_cons_zero, List.set_cons_succ]
      refine takeH (i := 12) (v := .bool false) rfl (by kernel_rfl) (by kernel_rfl) (by kernel_rfl) (fun _ _ _ h => h) (Or.inl ⟨by rfl, fun w hSw => ?_⟩) hHeld ?_
      · (clear hSw; go_simp)
      simp only [Act.put, List.setIfInBounds_toArray, List.set_cons_zero, List.set_cons_succ]
      refine takeH (i := 13) (v := undef) rfl (by kernel_rfl) (by kernel_rfl) (by kernel_rfl) (fun _ _ _ h => h) (Or.inr ⟨by rfl, rfl⟩) hHeld ?_
      simp only [Act.put, List.setIfInBounds_toArray, List.set_cons_zero, List.set_cons_succ]
      refine takeH (i := 14) (v := undef) rfl (by kernel_rfl) (by kernel_rfl) (by kernel_rfl) (fun _ _ _ h => h) (Or.inr ⟨by rfl, rfl⟩) hHeld ?_
      simp only [Act.put, List.setIfInBounds_toArray, List.set_cons_zero, List.set_cons_succ]
      refine takeH (i := 15) (v := undef) rfl (by kernel_rfl) (by kernel_rfl) (by kernel_rfl) (fun _ _ _ h => h) (Or.inr ⟨by rfl, rfl⟩) hHeld ?_
      simp only [Act.put, List.setIfInBounds_toArray, List.set_cons_zero, List.set_cons_succ]
      refine takeH (i := 16) (v := undef) rfl (by kernel_rfl) (by kernel_rfl) (by kernel_rfl) (fun _ _ _ h => h) (Or.inr ⟨by rfl, rfl⟩) hHeld ?_
      simp only [Act.put, List.setIfInBounds_toArray, List.set_cons_zero, List.set_cons_succ]
      refine takeH (i := 17) (v := undef) rfl (by kernel_rfl) (by kernel_rfl) (by kernel_rfl) (fun _ _ _ h => h) (Or.inr ⟨by rfl, rfl⟩) hHeld ?_
      simp only [Act.put, List.setIfInBounds_toArray, List.set_cons_zero, List.set_cons_succ]
      refine takeH (i := 18) (v := .bool false) rfl (by kernel_rfl) (by kernel_rfl) (by kernel_rfl) (fun _ _ _ h => h) (Or.inl ⟨by rfl, fun w hSw => ?_⟩) hHeld ?_
      · (clear hSw; go_simp)
      simp only [Act.put, List.setIfInBounds_toArray, List.set_cons_zero, List.set_cons_succ]
      refine takeH (i := 19) (v := .bool false) rfl (by kernel_rfl) (by kernel_rfl) (by kernel_rfl) (fun _ _ _ h => h) (Or.inl ⟨by rfl, fun w hSw => ?_⟩) hHeld ?_
      · (clear hSw; go_simp)
      simp only [Act.put, List.setIfInBounds_toArray, List.set_cons_zero, List.set_cons_succ]
      refine takeH (i := 20) (v := .bool false) rfl (by kernel_rfl) (by kernel_rfl) (by kernel_rfl) (fun _ _ _ h => h) (Or.inl ⟨by rfl, fun w hSw => ?_⟩) hHeld ?_
      · (clear hSw; go_simp)
      simp only [Act.put, List.setIfInBounds_toArray, List.set_cons_zero, List.set_cons_succ]
      refine takeH (i := 21) (v := .agg #[.int .i64 t, .int .i64 119, .bool false]) rfl (by kernel_rfl) (by kernel_rfl) (by kernel_rfl) (fun _ _ _ h => h) (Or.inl ⟨by rfl, fun w hSw => ?_⟩) hHeld ?_
      · (obtain ⟨d0, d1, d2⟩ := hSw.2.2.cx; simp only at d0 d1 d2; clear hSw; go_simp)
      simp only [Act.put, List.setIfInBounds_toArray, List.set_cons_zero, List.set_cons_succ]
      refine takeH (i := 24) (v := .pointer (some ⟨w.heap.size, 0, none⟩)) rfl (by kernel_rfl) (by kernel_rfl) (by kernel_rfl) (fun _ _ _ h => h) (Or.inl ⟨by rfl, fun w hSw => ?_⟩) hHeld ?_
      · (clear hSw; go_simp)
      simp only [Act.put, List.setIfInBounds_toArray, List.set_cons_zero, List.set_cons_succ]
      refine takeH (i := 25) (v := .int .i64 t) rfl (by kernel_rfl) (by kernel_rfl) (by kernel_rfl) (fun _ _ _ h => h) (Or.inl ⟨by rfl, fun w hSw => ?_⟩) hHeld ?_
      · (obtain ⟨a0, a1, a2⟩ := hSw.2.1.cx; simp only at a0 a1 a2; clear hSw; go_simp)
      simp only [Act.put, List.setIfInBounds_toArray, List.set_cons_zero, List.set_cons_succ]
      refine takeH (i := 26) (v := .bool false) rfl (by kernel_rfl) (by kernel_rfl) (by kernel_rfl) (fun _ _ _ h => h) (Or.inl ⟨by rfl, fun w hSw => ?_⟩) hHeld ?_
      · (clear hSw; go_simp)
      simp only [Act.put, List.setIfInBounds_toArray, List.set_cons_zero, List.set_cons_succ]
      refine wpAnyH_ready (rs := [22]) (by kernel_rfl) (by simp) ?_
      refine AllReadyH.cons rfl (fun K hK => ?_) AllReadyH.nil
      go_simp
      refine (state_any ⟨t, 119, false⟩ _).mono ?_
      rintro e wv0 ⟨rfl, hbv0⟩
      have hH := hHeld
      rw [HSD.out]
      have HSK := Lib.hid (And.intro (nxt hH.1 hbv0) (And.intro (hH.2.1.next hbv0) (hH.2.2.next hbv0)))
      clear hbv0 hH
      clear hHeld
      dsimp only
      refine hK.out _ _ (HSK.out) (fun hHeld => ?_)
      clear hK K
      try simp only [Act.put, List.setIfInBounds_toArray, List.set_cons_zero, List.set_cons_succ]
      refine takeH (i := 23) (v := .bool false) rfl (by kernel_rfl) (by kernel_rfl) (by kernel_rfl) (fun _ _ _ h => h) (Or.inl ⟨by rfl, fun w hSw => ?_⟩) hHeld ?_
      · (clear hSw; go_simp)
      simp only [Act.put, List.setIfInBounds_toArray, List.set_cons_zero, List.set_cons_succ]
      refine takeH (i := 27) (v := .bool false) rfl (by kernel_rfl) (by kernel_rfl) (by kernel_rfl) (fun _ _ _ h => h) (Or.inl ⟨by rfl, fun w hSw => ?_⟩) hHeld ?_
      · (clear hSw; go_simp)
      simp only [Act.put, List.setIfInBounds_toArray, List.set_cons_zero, List.set_cons_succ]
      refine takeH (i := 28) (v := .bool false) rfl (by kernel_rfl) (by kernel_rfl) (by kernel_rfl) (fun _ _ _ h => h) (Or.inl ⟨by rfl, fun w hSw => ?_⟩) hHeld ?_
      · (clear hSw; go_simp)
      simp only [Act.put, List.setIfInBounds_toArray, List.set_cons_zero, List.set_cons_succ]
      refine wpAnyH_done (by kernel_rfl) ?_ _
      clear hHeld
      have HB4 := Lib.hid (HSK.out.1.alloc HSK.out.1.size (.cells (Ct.cells ⟨t, r, false⟩) 23))
      have HC4 := Lib.hid (HSK.out.2.1.next (below1 wv0 (.cells (Ct.cells ⟨t, r, false⟩) 23)))
      have HE4 := Lib.hid (cb_new wv0 ⟨t, r, false⟩)
      have HGE := Lib.hid HSK.out.1.size; have HGL := Lib.hid HSK.out.2.1.lt
      obtain ⟨a0, a1, a2⟩ := HSK.out.2.1.cx
      simp only at a0 a1 a2
      clear HB3 HC3 HD3 HSK
      go_wp2
      go_loopw [5] (fun vi wr => ∃ k : Nat, vi = .int .i64 k ∧ (k = 0 ∨ 127 ≤ t - k) ∧ Below w.heap.size w wr ∧ Cb wr w.heap.size ⟨t, r, false⟩ ∧ Cb wr wv0.heap.size ⟨t - k, r, false⟩) (fun vi _ => 256 - (intOf vi).toNat)
      case atStart => exact ⟨0, rfl, .inl rfl, HB4.out, HC4.out, by simpa using HE4.out⟩
      case round =>
        clear HB4 HC4 HE4 a0 a1 a2
        obtain ⟨k, rfl, hk, hb, hcb, heb⟩ := hrel
        obtain ⟨x, hx⟩ : ∃ x, t - (k : Int) = x := ⟨_, rfl⟩
        rw [hx] at hk heb
        have HX := Lib.hid hx
        have x0 : 0 ≤ x := by rcases hk with h | h <;> omega
        have x1 : x ≤ 255 := by omega
        have hk256 : k < 256 := by rcases hk with h | h <;> omega
        have hk256' : (k : Int) < 256 := by omega
        clear hx hk
        obtain ⟨c0, c1, c2⟩ := heb.cx
        simp only at c0 c1 c2
        have HBR := Lib.hid hb; have HCR := Lib.hid hcb; have HER := Lib.hid heb
        clear hb hcb heb
        by_cases hlt : 127 < x
        · have HSE := Lib.hid (show Ct.st ⟨x, r, false⟩ = 1 from st_one.2 ⟨rfl, .inl hlt⟩)
          have HSN := Lib.hid (show Ct.snt ⟨x, r, false⟩ = ⟨x - 1, r, false⟩ from snt_big hlt x1 r0 r1)
          go_wp2_with fail
          refine (state_any ⟨x, r, false⟩ _).mono ?_
          rintro e w5 ⟨rfl, hb5⟩
          rw [HSE.out]
          have HB5 := Lib.hid (nxt HBR.out hb5); have HC5 := Lib.hid (HCR.out.next hb5); have HE5 := Lib.hid (HER.out.next hb5)
          clear hb5 c0 c1 c2 HBR HCR HER
          obtain ⟨c0, c1, c2⟩ := HE5.out.cx
          simp only at c0 c1 c2
          go_wp2_with fail
          refine (sent_any ⟨x, r, false⟩ _).mono ?_
          rintro e w6 ⟨rfl, hb6⟩
          rw [HSN.out]
          have HA6 := Lib.hid (below1 w6 (.cells (Ct.cells ⟨x - 1, r, false⟩) 23))
          have HB6 := Lib.hid (nxt (nxt HB5.out hb6) HA6.out); have HC6 := Lib.hid ((HC5.out.next hb6).next HA6.out); have HE6 := Lib.hid ((HE5.out.next hb6).next HA6.out)
          have HF6 := Lib.hid (cb_new w6 ⟨x - 1, r, false⟩)
          have hne : wv0.heap.size ≠ w6.heap.size := by have := (HE5.out.next hb6).lt; omega
          clear hb6 c0 c1 c2 HB5 HC5 HE5
          obtain ⟨c0, c1, c2⟩ := HE6.out.cx
          obtain ⟨d0, d1, d2⟩ := HF6.out.cx
          simp only at c0 c1 c2 d0 d1 d2
          have f0 := HE6.out.frozen 0
          have f1 := HE6.out.frozen 1
          have f2 := HE6.out.frozen 2
          go_wp2
          go_roundw
          case rel => exact ⟨k + 1, by go_num, by have := HX.out; right; omega, set3 HB6.out HGE.out _ _ _, HC6.out.away (by have := HGL.out; omega) _ _ _, by rw [show t - ((k + 1 : Nat) : Int) = x - 1 by have := HX.out; omega]; exact HE6.out.put ⟨x - 1, r, false⟩⟩
          case measure => simp [intOf]; omega
        · have q1 : decide (127 < x) = false := by simp; omega
          have HSE := Lib.hid (show Ct.st ⟨x, r, false⟩ = 1 from st_one.2 ⟨rfl, .inr hr7⟩)
          go_wp2_with fail
          refine wp_region_held_drew (S := fun w' => Below w.heap.size w w' ∧ Cb w' w.heap.size ⟨t, r, false⟩ ∧ Cb w' wv0.heap.size ⟨x, r, false⟩) (by kernel_rfl) (⟨HBR.out.drew, HCR.out, HER.out⟩) (fun hHeld => ?_)
          refine takeH (i := 0) (v := .pointer (some ⟨wv0.heap.size, 1, none⟩)) rfl (by kernel_rfl) (by kernel_rfl) (by kernel_rfl) (fun _ _ _ h => h) (Or.inl ⟨by rfl, fun w hSw => ?_⟩) hHeld ?_
          · (clear hSw; go_simp)
          simp only [Act.put, List.setIfInBounds_toArray, List.set_cons_zero, List.set_cons_succ]
          refine takeH (i := 1) (v := .int .i64 r) rfl (by kernel_rfl) (by kernel_rfl) (by kernel_rfl) (fun _ _ _ h => h) (Or.inl ⟨by rfl, fun w hSw => ?_⟩) hHeld ?_
          · (obtain ⟨c0, c1, c2⟩ := hSw.2.2.cx; simp only at c0 c1 c2; clear hSw; go_simp)
          simp only [Act.put, List.setIfInBounds_toArray, List.set_cons_zero, List.set_cons_succ]
          refine takeH (i := 2) (v := .pointer (some ⟨w.heap.size, 1, none⟩)) rfl (by kernel_rfl) (by kernel_rfl) (by kernel_rfl) (fun _ _ _ h => h) (Or.inl ⟨by rfl, fun w hSw => ?_⟩) hHeld ?_
          · (clear hSw; go_simp)
          simp only [Act.put, List.setIfInBounds_toArray, List.set_cons_zero, List.set_cons_succ]
          refine takeH (i := 3) (v := .int .i64 r) rfl (by kernel_rfl) (by kernel_rfl) (by kernel_rfl) (fun _ _ _ h => h) (Or.inl ⟨by rfl, fun w hSw => ?_⟩) hHeld ?_
          · (obtain ⟨a0, a1, a2⟩ := hSw.2.1.cx; simp only at a0 a1 a2; clear hSw; go_simp)
          simp only [Act.put, List.setIfInBounds_toArray, List.set_cons_zero, List.set_cons_succ]
          refine takeH (i := 4) (v := .bool true) rfl (by kernel_rfl) (by kernel_rfl) (by kernel_rfl) (fun _ _ _ h => h) (Or.inl ⟨by rfl, fun w hSw => ?_⟩) hHeld ?_
          · (clear hSw; go_simp)
          simp only [Act.put, List.setIfInBounds_toArray, List.set_cons_zero, List.set_cons_succ]
          refine takeH (i := 5) (v := .bool true) rfl (by kernel_rfl) (by kernel_rfl) (by kernel_rfl) (fun _ _ _ h => h) (Or.inl ⟨by rfl, fun w hSw => ?_⟩) hHeld ?_
          · (clear hSw; go_simp)
          simp only [Act.put, List.setIfInBounds_toArray, List.set_cons_zero, List.set_cons_succ]
          refine takeH (i := 6) (v := .agg #[.int .i64 x, .int .i64 r, .bool false]) rfl (by kernel_rfl) (by kernel_rfl) (by kernel_rfl) (fun _ _ _ h => h) (Or.inl ⟨by rfl, fun w hSw => ?_⟩) hHeld ?_
          · (obtain ⟨c0, c1, c2⟩ := hSw.2.2.cx; simp only at c0 c1 c2; clear hSw; go_simp)
          simp only [Act.put, List.setIfInBounds_toArray, List.set_cons_zero, List.set_cons_succ]
          refine takeH (i := 9) (v := .pointer (some ⟨w.heap.size, 1, none⟩)) rfl (by kernel_rfl) (by kernel_rfl) (by kernel_rfl) (fun _ _ _ h => h) (Or.inl ⟨by rfl, fun w hSw => ?_⟩) hHeld ?_
          · (clear hSw; go_simp)
          simp only [Act.put, List.setIfInBounds_toArray, List.set_cons_zero, List.set_cons_succ]
          refine takeH (i := 10) (v := .int .i64 r) rfl (by kernel_rfl) (by kernel_rfl) (by kernel_rfl) (fun _ _ _ h => h) (Or.inl ⟨by rfl, fun w hSw => ?_⟩) hHeld ?_
          · (obtain ⟨a0, a1, a2⟩ := hSw.2.1.cx; simp only at a0 a1 a2; clear hSw; go_simp)
          simp only [Act.put, List.setIfInBounds_toArray, List.set_cons_zero, List.set_cons_succ]
          refine takeH (i := 11) (v := .bool false) rfl (by kernel_rfl) (by kernel_rfl) (by kernel_rfl) (fun _ _ _ h => h) (Or.inl ⟨by rfl, fun w hSw => ?_⟩) hHeld ?_
          · (clear hSw; go_simp)
          simp only [Act.put, List.setIfInBounds_toArray, List.set_cons_zero, List.set_cons_succ]
          refine wpAnyH_ready (rs := [7]) (by kernel_rfl) (by simp) ?_
          refine AllReadyH.cons rfl (fun K hK => ?_) AllReadyH.nil
          go_simp
          refine (state_any ⟨x, r, false⟩ _).mono ?_
          rintro e wz0 ⟨rfl, hbz0⟩
          have hH := hHeld
          rw [HSE.out]
          have HSK := Lib.hid (And.intro (nxt hH.1 hbz0) (And.intro (hH.2.1.next hbz0) (hH.2.2.next hbz0)))
          clear hbz0 hH
          clear hHeld
          dsimp only
          refine hK.out _ _ (HSK.out) (fun hHeld => ?_)
          clear hK K
          try simp only [Act.put, List.setIfInBounds_toArray, List.set_cons_zero, List.set_cons_succ]
          refine takeH (i := 8) (v := .bool false) rfl (by kernel_rfl) (by kernel_rfl) (by kernel_rfl) (fun _ _ _ h => h) (Or.inl ⟨by rfl, fun w hSw => ?_⟩) hHeld ?_
          · (clear hSw; go_simp)
          simp only [Act.put, List.setIfInBounds_toArray, List.set_cons_zero, List.set_cons_succ]
          refine takeH (i := 12) (v := .bool true) rfl (by kernel_rfl) (by kernel_rfl) (by kernel_rfl) (fun _ _ _ h => h) (Or.inl ⟨by rfl, fun w hSw => ?_⟩) hHeld ?_
          · (clear hSw; go_simp)
          simp only [Act.put, List.setIfInBounds_toArray, List.set_cons_zero, List.set_cons_succ]
          refine takeH (i := 13) (v := .bool true) rfl (by kernel_rfl) (by kernel_rfl) (by kernel_rfl) (fun _ _ _ h => h) (Or.inl ⟨by rfl, fun w hSw => ?_⟩) hHeld ?_
          · (clear hSw; go_simp)
          simp only [Act.put, List.setIfInBounds_toArray, List.set_cons_zero, List.set_cons_succ]
          refine takeH (i := 14) (v := .bool true) rfl (by kernel_rfl) (by kernel_rfl) (by kernel_rfl) (fun _ _ _ h => h) (Or.inl ⟨by rfl, fun w hSw => ?_⟩) hHeld ?_
          · (clear hSw; go_simp)
          simp only [Act.put, List.setIfInBounds_toArray, List.set_cons_zero, List.set_cons_succ]
          refine wpAnyH_ready (rs := [15]) (by kernel_rfl) (by simp) ?_
          refine AllReadyH.cons rfl (fun K hK => ?_) AllReadyH.nil
          go_simp
          refine (awake8 _).mono ?_
          rintro e wz1 ⟨rfl, hbz1⟩
          have hH := hHeld
          have HSK := Lib.hid (And.intro (nxt hH.1 hbz1) (And.intro (hH.2.1.next hbz1) (hH.2.2.next hbz1)))
          clear hbz1 hH
          clear hHeld
          dsimp only
          refine hK.out _ _ (HSK.out) (fun hHeld => ?_)
          clear hK K
          try simp only [Act.put, List.setIfInBounds_toArray, List.set_cons_zero, List.set_cons_succ]
          refine takeH (i := 16) (v := .bool true) rfl (by kernel_rfl) (by kernel_rfl) (by kernel_rfl) (fun _ _ _ h => h) (Or.inl ⟨by rfl, fun w hSw => ?_⟩) hHeld ?_
          · (clear hSw; go_simp)
          simp only [Act.put, List.setIfInBounds_toArray, List.set_cons_zero, List.set_cons_succ]
          refine takeH (i := 17) (v := .bool true) rfl (by kernel_rfl) (by kernel_rfl) (by kernel_rfl) (fun _ _ _ h => h) (Or.inl ⟨by rfl, fun w hSw => ?_⟩) hHeld ?_
          · (clear hSw; go_simp)
          simp only [Act.put, List.setIfInBounds_toArray, List.set_cons_zero, List.set_cons_succ]
          refine wpAnyH_done (by kernel_rfl) ?_ _
          clear hHeld
          have HF := Lib.hid HSK.out.1
          clear HSK
          go_wp2
          go_ret
          exact ⟨rfl, HF.out⟩
    · have HSD := Lib.hid (show Ct.st ⟨t, 119, false⟩ = 0 from st_zero.2 ⟨rfl, by simp; omega, by simp⟩)
      have p7 : t ≤ 127 := by omega
      go_enter Try.func8, Try.ntmps8
      go_wp2_with fail
      refine (check_any ⟨t, r, false⟩ _).mono ?_
      rintro e w1 ⟨rfl, hb1⟩
      have HB1 := Lib.hid (nxt HB.out hb1)
      have HC1 := Lib.hid (HC.out.next hb1)
      obtain ⟨a0, a1, a2⟩ := HC1.out.cx
      simp only at a0 a1 a2
      clear hb1 HB HC
      rw [HCE.out]
      go_wp2_with fail
      refine (state_any ⟨t, r, false⟩ _).mono ?_
      rintro e w2 ⟨rfl, hb2⟩
      rw [HST.out]
      have HB2 := Lib.hid (nxt HB1.out hb2)
      have HC2 := Lib.hid (HC1.out.next hb2)
      clear HB1 HC1 hb2 a0 a1 a2
      obtain ⟨a0, a1, a2⟩ := HC2.out.cx
      simp only at a0 a1 a2
      go_wp2_with fail
      refine (received_any ⟨t, r, false⟩ _).mono ?_
      rintro e w3 ⟨rfl, hb3⟩
      rw [HRV.out]
      have HB3 := Lib.hid ((nxt HB2.out hb3).alloc (nxt HB2.out hb3).size (.cells (Ct.cells ⟨t, 119, false⟩) 23))
      have HC3 := Lib.hid ((HC2.out.next hb3).next (below1 w3 (.cells (Ct.cells ⟨t, 119, false⟩) 23)))
      have HD3 := Lib.hid (cb_new w3 ⟨t, 119, false⟩)
      clear HB2 HC2 hb3 a0 a1 a2
      go_wp2_with fail
      refine wp_region_held_drew (S := fun w' => Below w.heap.size w w' ∧ Cb w' w.heap.size ⟨t, r, false⟩ ∧ Cb w' w3.heap.size ⟨t, 119, false⟩) (by kernel_rfl) (⟨HB3.out.drew, HC3.out, HD3.out⟩) (fun hHeld => ?_)
      refine takeH (i := 0) (v := .pointer (some ⟨w.heap.size, 1, none⟩)) rfl (by kernel_rfl) (by kernel_rfl) (by kernel_rfl) (fun _ _ _ h => h) (Or.inl ⟨by rfl, fun w hSw => ?_⟩) hHeld ?_
      · (clear hSw; go_simp)
      simp only [Act.put, List.setIfInBounds_toArray, List.set_cons_zero, List.set_cons_succ]
      refine takeH (i := 1) (v := .int .i64 r) rfl (by kernel_rfl) (by kernel_rfl) (by kernel_rfl) (fun _ _ _ h => h) (Or.inl ⟨by rfl, fun w hSw => ?_⟩) hHeld ?_
      · (obtain ⟨a0, a1, a2⟩ := hSw.2.1.cx; simp only at a0 a1 a2; clear hSw; go_simp)
      simp only [Act.put, List.setIfInBounds_toArray, List.set_cons_zero, List.set_cons_succ]
      refine takeH (i := 2) (v := .bool true) rfl (by kernel_rfl) (by kernel_rfl) (by kernel_rfl) (fun _ _ _ h => h) (Or.inl ⟨by rfl, fun w hSw => ?_⟩) hHeld ?_
      · (clear hSw; go_simp)
      simp only [Act.put, List.setIfInBounds_toArray, List.set_cons_zero, List.set_cons_succ]
      refine takeH (i := 3) (v := .bool true) rfl (by kernel_rfl) (by kernel_rfl) (by kernel_rfl) (fun _ _ _ h => h) (Or.inl ⟨by rfl, fun w hSw => ?_⟩) hHeld ?_
      · (clear hSw; go_simp)
      simp only [Act.put, List.setIfInBounds_toArray, List.set_cons_zero, List.set_cons_succ]
      refine takeH (i := 4) (v := .pointer (some ⟨w3.heap.size, 1, none⟩)) rfl (by kernel_rfl) (by kernel_rfl) (by kernel_rfl) (fun _ _ _ h => h) (Or.inl ⟨by rfl, fun w hSw => ?_⟩) hHeld ?_
      · (clear hSw; go_simp)
      simp only [Act.put, List.setIfInBounds_toArray, List.set_cons_zero, List.set_cons_succ]
      refine takeH (i := 5) (v := .int .i64 119) rfl (by kernel_rfl) (by kernel_rfl) (by kernel_rfl) (fun _ _ _ h => h) (Or.inl ⟨by rfl, fun w hSw => ?_⟩) hHeld ?_
      · (obtain ⟨d0, d1, d2⟩ := hSw.2.2.cx; simp only at d0 d1 d2; clear hSw; go_simp)
      simp only [Act.put, List.setIfInBounds_toArray, List.set_cons_zero, List.set_cons_succ]
      refine takeH (i := 6) (v := .bool false) rfl (by kernel_rfl) (by kernel_rfl) (by kernel_rfl) (fun _ _ _ h => h) (Or.inl ⟨by rfl, fun w hSw => ?_⟩) hHeld ?_
      · (clear hSw; go_simp)
      simp only [Act.put, List.setIfInBounds_toArray, List.set_cons_zero, List.set_cons_succ]
      refine takeH (i := 7) (v := .bool false) rfl (by kernel_rfl) (by kernel_rfl) (by kernel_rfl) (fun _ _ _ h => h) (Or.inl ⟨by rfl, fun w hSw => ?_⟩) hHeld ?_
      · (clear hSw; go_simp)
      simp only [Act.put, List.setIfInBounds_toArray, List.set_cons_zero, List.set_cons_succ]
      refine takeH (i := 8) (v := .bool false) rfl (by kernel_rfl) (by kernel_rfl) (by kernel_rfl) (fun _ _ _ h => h) (Or.inl ⟨by rfl, fun w hSw => ?_⟩) hHeld ?_
      · (clear hSw; go_simp)
      simp only [Act.put, List.setIfInBounds_toArray, List.set_cons_zero, List.set_cons_succ]
      refine takeH (i := 9) (v := .pointer (some ⟨w.heap.size, 1, none⟩)) rfl (by kernel_rfl) (by kernel_rfl) (by kernel_rfl) (fun _ _ _ h => h) (Or.inl ⟨by rfl, fun w hSw => ?_⟩) hHeld ?_
      · (clear hSw; go_simp)
      simp only [Act.put, List.setIfInBounds_toArray, List.set_cons_zero, List.set_cons_succ]
      refine takeH (i := 10) (v := .int .i64 r) rfl (by kernel_rfl) (by kernel_rfl) (by kernel_rfl) (fun _ _ _ h => h) (Or.inl ⟨by rfl, fun w hSw => ?_⟩) hHeld ?_
      · (obtain ⟨a0, a1, a2⟩ := hSw.2.1.cx; simp only at a0 a1 a2; clear hSw; go_simp)
      simp only [Act.put, List.setIfInBounds_toArray, List.set_cons_zero, List.set_cons_succ]
      refine takeH (i := 11) (v := .bool false) rfl (by kernel_rfl) (by kernel_rfl) (by kernel_rfl) (fun _ _ _ h => h) (Or.inl ⟨by rfl, fun w hSw => ?_⟩) hHeld ?_
      · (clear hSw; go_simp)
      simp only [Act.put, List.setIfInBounds_toArray, List.set_cons_zero, List.set_cons_succ]
      refine takeH (i := 12) (v := .bool false) rfl (by kernel_rfl) (by kernel_rfl) (by kernel_rfl) (fun _ _ _ h => h) (Or.inl ⟨by rfl, fun w hSw => ?_⟩) hHeld ?_
      · (clear hSw; go_simp)
      simp only [Act.put, List.setIfInBounds_toArray, List.set_cons_zero, List.set_cons_succ]
      refine takeH (i := 13) (v := undef) rfl (by kernel_rfl) (by kernel_rfl) (by kernel_rfl) (fun _ _ _ h => h) (Or.inr ⟨by rfl, rfl⟩) hHeld ?_
      simp only [Act.put, List.setIfInBounds_toArray, List.set_cons_zero, List.set_cons_succ]
      refine takeH (i := 14) (v := undef) rfl (by kernel_rfl) (by kernel_rfl) (by kernel_rfl) (fun _ _ _ h => h) (Or.inr ⟨by rfl, rfl⟩) hHeld ?_
      simp only [Act.put, List.setIfInBounds_toArray, List.set_cons_zero, List.set_cons_succ]
      refine takeH (i := 15) (v := undef) rfl (by kernel_rfl) (by kernel_rfl) (by kernel_rfl) (fun _ _ _ h => h) (Or.inr ⟨by rfl, rfl⟩) hHeld ?_
      simp only [Act.put, List.setIfInBounds_toArray, List.set_cons_zero, List.set_cons_succ]
      refine takeH (i := 16) (v := undef) rfl (by kernel_rfl) (by kernel_rfl) (by kernel_rfl) (fun _ _ _ h => h) (Or.inr ⟨by rfl, rfl⟩) hHeld ?_
      simp only [Act.put, List.setIfInBounds_toArray, List.set_cons_zero, List.set_cons_succ]
      refine takeH (i := 17) (v := undef) rfl (by kernel_rfl) (by kernel_rfl) (by kernel_rfl) (fun _ _ _ h => h) (Or.inr ⟨by rfl, rfl⟩) hHeld ?_
      simp only [Act.put, List.setIfInBounds_toArray, List.set_cons_zero, List.set_cons_succ]
      refine takeH (i := 18) (v := .bool false) rfl (by kernel_rfl) (by kernel_rfl) (by kernel_rfl) (fun _ _ _ h => h) (Or.inl ⟨by rfl, fun w hSw => ?_⟩) hHeld ?_
      · (clear hSw; go_simp)
      simp only [Act.put, List.setIfInBounds_toArray, List.set_cons_zero, List.set_cons_succ]
      refine takeH (i := 19) (v := .bool false) rfl (by kernel_rfl) (by kernel_rfl) (by kernel_rfl) (fun _ _ _ h => h) (Or.inl ⟨by rfl, fun w hSw => ?_⟩) hHeld ?_
      · (clear hSw; go_simp)
      simp only [Act.put, List.setIfInBounds_toArray, List.set_cons_zero, List.set_cons_succ]
      refine takeH (i := 20) (v := .bool false) rfl (by kernel_rfl) (by kernel_rfl) (by kernel_rfl) (fun _ _ _ h => h) (Or.inl ⟨by rfl, fun w hSw => ?_⟩) hHeld ?_
      · (clear hSw; go_simp)
      simp only [Act.put, List.setIfInBounds_toArray, List.set_cons_zero, List.set_cons_succ]
      refine takeH (i := 21) (v := .agg #[.int .i64 t, .int .i64 119, .bool false]) rfl (by kernel_rfl) (by kernel_rfl) (by kernel_rfl) (fun _ _ _ h => h) (Or.inl ⟨by rfl, fun w hSw => ?_⟩) hHeld ?_
      · (obtain ⟨d0, d1, d2⟩ := hSw.2.2.cx; simp only at d0 d1 d2; clear hSw; go_simp)
      simp only [Act.put, List.setIfInBounds_toArray, List.set_cons_zero, List.set_cons_succ]
      refine takeH (i := 24) (v := .pointer (some ⟨w.heap.size, 0, none⟩)) rfl (by kernel_rfl) (by kernel_rfl) (by kernel_rfl) (fun _ _ _ h => h) (Or.inl ⟨by rfl, fun w hSw => ?_⟩) hHeld ?_
      · (clear hSw; go_simp)
      simp only [Act.put, List.setIfInBounds_toArray, List.set_cons_zero, List.set_cons_succ]
      refine takeH (i := 25) (v := .int .i64 t) rfl (by kernel_rfl) (by kernel_rfl) (by kernel_rfl) (fun _ _ _ h => h) (Or.inl ⟨by rfl, fun w hSw => ?_⟩) hHeld ?_
      · (obtain ⟨a0, a1, a2⟩ := hSw.2.1.cx; simp only at a0 a1 a2; clear hSw; go_simp)
      simp only [Act.put, List.setIfInBounds_toArray, List.set_cons_zero, List.set_cons_succ]
      refine takeH (i := 26) (v := .bool true) rfl (by kernel_rfl) (by kernel_rfl) (by kernel_rfl) (fun _ _ _ h => h) (Or.inl ⟨by rfl, fun w hSw => ?_⟩) hHeld ?_
      · (clear hSw; go_simp)
      simp only [Act.put, List.setIfInBounds_toArray, List.set_cons_zero, List.set_cons_succ]
      refine wpAnyH_ready (rs := [22]) (by kernel_rfl) (by simp) ?_
      refine AllReadyH.cons rfl (fun K hK => ?_) AllReadyH.nil
      go_simp
      refine (state_any ⟨t, 119, false⟩ _).mono ?_
      rintro e wv0 ⟨rfl, hbv0⟩
      have hH := hHeld
      rw [HSD.out]
      have HSK := Lib.hid (And.intro (nxt hH.1 hbv0) (And.intro (hH.2.1.next hbv0) (hH.2.2.next hbv0)))
      clear hbv0 hH
      clear hHeld
      dsimp only
      refine hK.out _ _ (HSK.out) (fun hHeld => ?_)
      clear hK K
      try simp only [Act.put, List.setIfInBounds_toArray, List.set_cons_zero, List.set_cons_succ]
      refine takeH (i := 23) (v := .bool true) rfl (by kernel_rfl) (by kernel_rfl) (by kernel_rfl) (fun _ _ _ h => h) (Or.inl ⟨by rfl, fun w hSw => ?_⟩) hHeld ?_
      · (clear hSw; go_simp)
      simp only [Act.put, List.setIfInBounds_toArray, List.set_cons_zero, List.set_cons_succ]
      refine takeH (i := 27) (v := .bool false) rfl (by kernel_rfl) (by kernel_rfl) (by kernel_rfl) (fun _ _ _ h => h) (Or.inl ⟨by rfl, fun w hSw => ?_⟩) hHeld ?_
      · (clear hSw; go_simp)
      simp only [Act.put, List.setIfInBounds_toArray, List.set_cons_zero, List.set_cons_succ]
      refine takeH (i := 28) (v := .bool false) rfl (by kernel_rfl) (by kernel_rfl) (by kernel_rfl) (fun _ _ _ h => h) (Or.inl ⟨by rfl, fun w hSw => ?_⟩) hHeld ?_
      · (clear hSw; go_simp)
      simp only [Act.put, List.setIfInBounds_toArray, List.set_cons_zero, List.set_cons_succ]
      refine wpAnyH_done (by kernel_rfl) ?_ _
      clear hHeld
      have HB4 := Lib.hid (HSK.out.1.alloc HSK.out.1.size (.cells (Ct.cells ⟨t, r, false⟩) 23))
      have HC4 := Lib.hid (HSK.out.2.1.next (below1 wv0 (.cells (Ct.cells ⟨t, r, false⟩) 23)))
      have HE4 := Lib.hid (cb_new wv0 ⟨t, r, false⟩)
      have HGE := Lib.hid HSK.out.1.size; have HGL := Lib.hid HSK.out.2.1.lt
      obtain ⟨a0, a1, a2⟩ := HSK.out.2.1.cx
      simp only at a0 a1 a2
      clear HB3 HC3 HD3 HSK
      go_wp2
      go_loopw [5] (fun vi wr => ∃ k : Nat, vi = .int .i64 k ∧ (k = 0 ∨ 127 ≤ t - k) ∧ Below w.heap.size w wr ∧ Cb wr w.heap.size ⟨t, r, false⟩ ∧ Cb wr wv0.heap.size ⟨t - k, r, false⟩) (fun vi _ => 256 - (intOf vi).toNat)
      case atStart => exact ⟨0, rfl, .inl rfl, HB4.out, HC4.out, by simpa using HE4.out⟩
      case round =>
        clear HB4 HC4 HE4 a0 a1 a2
        obtain ⟨k, rfl, hk, hb, hcb, heb⟩ := hrel
        obtain ⟨x, hx⟩ : ∃ x, t - (k : Int) = x := ⟨_, rfl⟩
        rw [hx] at hk heb
        have HX := Lib.hid hx
        have x0 : 0 ≤ x := by rcases hk with h | h <;> omega
        have x1 : x ≤ 255 := by omega
        have hk256 : k < 256 := by rcases hk with h | h <;> omega
        have hk256' : (k : Int) < 256 := by omega
        clear hx hk
        obtain ⟨c0, c1, c2⟩ := heb.cx
        simp only at c0 c1 c2
        have HBR := Lib.hid hb; have HCR := Lib.hid hcb; have HER := Lib.hid heb
        clear hb hcb heb
        by_cases hlt : 127 < x
        · have HSE := Lib.hid (show Ct.st ⟨x, r, false⟩ = 1 from st_one.2 ⟨rfl, .inl hlt⟩)
          have HSN := Lib.hid (show Ct.snt ⟨x, r, false⟩ = ⟨x - 1, r, false⟩ from snt_big hlt x1 r0 r1)
          go_wp2_with fail
          refine (state_any ⟨x, r, false⟩ _).mono ?_
          rintro e w5 ⟨rfl, hb5⟩
          rw [HSE.out]
          have HB5 := Lib.hid (nxt HBR.out hb5); have HC5 := Lib.hid (HCR.out.next hb5); have HE5 := Lib.hid (HER.out.next hb5)
          clear hb5 c0 c1 c2 HBR HCR HER
          obtain ⟨c0, c1, c2⟩ := HE5.out.cx
          simp only at c0 c1 c2
          go_wp2_with fail
          refine (sent_any ⟨x, r, false⟩ _).mono ?_
          rintro e w6 ⟨rfl, hb6⟩
          rw [HSN.out]
          have HA6 := Lib.hid (below1 w6 (.cells (Ct.cells ⟨x - 1, r, false⟩) 23))
          have HB6 := Lib.hid (nxt (nxt HB5.out hb6) HA6.out); have HC6 := Lib.hid ((HC5.out.next hb6).next HA6.out); have HE6 := Lib.hid ((HE5.out.next hb6).next HA6.out)
          have HF6 := Lib.hid (cb_new w6 ⟨x - 1, r, false⟩)
          have hne : wv0.heap.size ≠ w6.heap.size := by have := (HE5.out.next hb6).lt; omega
          clear hb6 c0 c1 c2 HB5 HC5 HE5
          obtain ⟨c0, c1, c2⟩ := HE6.out.cx
          obtain ⟨d0, d1, d2⟩ := HF6.out.cx
          simp only at c0 c1 c2 d0 d1 d2
          have f0 := HE6.out.frozen 0
          have f1 := HE6.out.frozen 1
          have f2 := HE6.out.frozen 2
          go_wp2
          go_roundw
          case rel => exact ⟨k + 1, by go_num, by have := HX.out; right; omega, set3 HB6.out HGE.out _ _ _, HC6.out.away (by have := HGL.out; omega) _ _ _, by rw [show t - ((k + 1 : Nat) : Int) = x - 1 by have := HX.out; omega]; exact HE6.out.put ⟨x - 1, r, false⟩⟩
          case measure => simp [intOf]; omega
        · have q1 : decide (127 < x) = false := by simp; omega
          have HSE := Lib.hid (show Ct.st ⟨x, r, false⟩ = 1 from st_one.2 ⟨rfl, .inr hr7⟩)
          go_wp2_with fail
          refine wp_region_held_drew (S := fun w' => Below w.heap.size w w' ∧ Cb w' w.heap.size ⟨t, r, false⟩ ∧ Cb w' wv0.heap.size ⟨x, r, false⟩) (by kernel_rfl) (⟨HBR.out.drew, HCR.out, HER.out⟩) (fun hHeld => ?_)
          refine takeH (i := 0) (v := .pointer (some ⟨wv0.heap.size, 1, none⟩)) rfl (by kernel_rfl) (by kernel_rfl) (by kernel_rfl) (fun _ _ _ h => h) (Or.inl ⟨by rfl, fun w hSw => ?_⟩) hHeld ?_
          · (clear hSw; go_simp)
          simp only [Act.put, List.setIfInBounds_toArray, List.set_cons_zero, List.set_cons_succ]
          refine takeH (i := 1) (v := .int .i64 r) rfl (by kernel_rfl) (by kernel_rfl) (by kernel_rfl) (fun _ _ _ h => h) (Or.inl ⟨by rfl, fun w hSw => ?_⟩) hHeld ?_
          · (obtain ⟨c0, c1, c2⟩ := hSw.2.2.cx; simp only at c0 c1 c2; clear hSw; go_simp)
          simp only [Act.put, List.setIfInBounds_toArray, List.set_cons_zero, List.set_cons_succ]
          refine takeH (i := 2) (v := .pointer (some ⟨w.heap.size, 1, none⟩)) rfl (by kernel_rfl) (by kernel_rfl) (by kernel_rfl) (fun _ _ _ h => h) (Or.inl ⟨by rfl, fun w hSw => ?_⟩) hHeld ?_
          · (clear hSw; go_simp)
          simp only [Act.put, List.setIfInBounds_toArray, List.set_cons_zero, List.set_cons_succ]
          refine takeH (i := 3) (v := .int .i64 r) rfl (by kernel_rfl) (by kernel_rfl) (by kernel_rfl) (fun _ _ _ h => h) (Or.inl ⟨by rfl, fun w hSw => ?_⟩) hHeld ?_
          · (obtain ⟨a0, a1, a2⟩ := hSw.2.1.cx; simp only at a0 a1 a2; clear hSw; go_simp)
          simp only [Act.put, List.setIfInBounds_toArray, List.set_cons_zero, List.set_cons_succ]
          refine takeH (i := 4) (v := .bool true) rfl (by kernel_rfl) (by kernel_rfl) (by kernel_rfl) (fun _ _ _ h => h) (Or.inl ⟨by rfl, fun w hSw => ?_⟩) hHeld ?_
          · (clear hSw; go_simp)
          simp only [Act.put, List.setIfInBounds_toArray, List.set_cons_zero, List.set_cons_succ]
          refine takeH (i := 5) (v := .bool true) rfl (by kernel_rfl) (by kernel_rfl) (by kernel_rfl) (fun _ _ _ h => h) (Or.inl ⟨by rfl, fun w hSw => ?_⟩) hHeld ?_
          · (clear hSw; go_simp)
          simp only [Act.put, List.setIfInBounds_toArray, List.set_cons_zero, List.set_cons_succ]
          refine takeH (i := 6) (v := .agg #[.int .i64 x, .int .i64 r, .bool false]) rfl (by kernel_rfl) (by kernel_rfl) (by kernel_rfl) (fun _ _ _ h => h) (Or.inl ⟨by rfl, fun w hSw => ?_⟩) hHeld ?_
          · (obtain ⟨c0, c1, c2⟩ := hSw.2.2.cx; simp only at c0 c1 c2; clear hSw; go_simp)
          simp only [Act.put, List.setIfInBounds_toArray, List.set_cons_zero, List.set_cons_succ]
          refine takeH (i := 9) (v := .pointer (some ⟨w.heap.size, 1, none⟩)) rfl (by kernel_rfl) (by kernel_rfl) (by kernel_rfl) (fun _ _ _ h => h) (Or.inl ⟨by rfl, fun w hSw => ?_⟩) hHeld ?_
          · (clear hSw; go_simp)
          simp only [Act.put, List.setIfInBounds_toArray, List.set_cons_zero, List.set_cons_succ]
          refine takeH (i := 10) (v := .int .i64 r) rfl (by kernel_rfl) (by kernel_rfl) (by kernel_rfl) (fun _ _ _ h => h) (Or.inl ⟨by rfl, fun w hSw => ?_⟩) hHeld ?_
          · (obtain ⟨a0, a1, a2⟩ := hSw.2.1.cx; simp only at a0 a1 a2; clear hSw; go_simp)
          simp only [Act.put, List.setIfInBounds_toArray, List.set_cons_zero, List.set_cons_succ]
          refine takeH (i := 11) (v := .bool false) rfl (by kernel_rfl) (by kernel_rfl) (by kernel_rfl) (fun _ _ _ h => h) (Or.inl ⟨by rfl, fun w hSw => ?_⟩) hHeld ?_
          · (clear hSw; go_simp)
          simp only [Act.put, List.setIfInBounds_toArray, List.set_cons_zero, List.set_cons_succ]
          refine wpAnyH_ready (rs := [7]) (by kernel_rfl) (by simp) ?_
          refine AllReadyH.cons rfl (fun K hK => ?_) AllReadyH.nil
          go_simp
          refine (state_any ⟨x, r, false⟩ _).mono ?_
          rintro e wz0 ⟨rfl, hbz0⟩
          have hH := hHeld
          rw [HSE.out]
          have HSK := Lib.hid (And.intro (nxt hH.1 hbz0) (And.intro (hH.2.1.next hbz0) (hH.2.2.next hbz0)))
          clear hbz0 hH
          clear hHeld
          dsimp only
          refine hK.out _ _ (HSK.out) (fun hHeld => ?_)
          clear hK K
          try simp only [Act.put, List.setIfInBounds_toArray, List.set_cons_zero, List.set_cons_succ]
          refine takeH (i := 8) (v := .bool false) rfl (by kernel_rfl) (by kernel_rfl) (by kernel_rfl) (fun _ _ _ h => h) (Or.inl ⟨by rfl, fun w hSw => ?_⟩) hHeld ?_
          · (clear hSw; go_simp)
          simp only [Act.put, List.setIfInBounds_toArray, List.set_cons_zero, List.set_cons_succ]
          refine takeH (i := 12) (v := .bool true) rfl (by kernel_rfl) (by kernel_rfl) (by kernel_rfl) (fun _ _ _ h => h) (Or.inl ⟨by rfl, fun w hSw => ?_⟩) hHeld ?_
          · (clear hSw; go_simp)
          simp only [Act.put, List.setIfInBounds_toArray, List.set_cons_zero, List.set_cons_succ]
          refine takeH (i := 13) (v := .bool true) rfl (by kernel_rfl) (by kernel_rfl) (by kernel_rfl) (fun _ _ _ h => h) (Or.inl ⟨by rfl, fun w hSw => ?_⟩) hHeld ?_
          · (clear hSw; go_simp)
          simp only [Act.put, List.setIfInBounds_toArray, List.set_cons_zero, List.set_cons_succ]
          refine takeH (i := 14) (v := .bool true) rfl (by kernel_rfl) (by kernel_rfl) (by kernel_rfl) (fun _ _ _ h => h) (Or.inl ⟨by rfl, fun w hSw => ?_⟩) hHeld ?_
          · (clear hSw; go_simp)
          simp only [Act.put, List.setIfInBounds_toArray, List.set_cons_zero, List.set_cons_succ]
          refine wpAnyH_ready (rs := [15]) (by kernel_rfl) (by simp) ?_
          refine AllReadyH.cons rfl (fun K hK => ?_) AllReadyH.nil
          go_simp
          refine (awake8 _).mono ?_
          rintro e wz1 ⟨rfl, hbz1⟩
          have hH := hHeld
          have HSK := Lib.hid (And.intro (nxt hH.1 hbz1) (And.intro (hH.2.1.next hbz1) (hH.2.2.next hbz1)))
          clear hbz1 hH
          clear hHeld
          dsimp only
          refine hK.out _ _ (HSK.out) (fun hHeld => ?_)
          clear hK K
          try simp only [Act.put, List.setIfInBounds_toArray, List.set_cons_zero, List.set_cons_succ]
          refine takeH (i := 16) (v := .bool true) rfl (by kernel_rfl) (by kernel_rfl) (by kernel_rfl) (fun _ _ _ h => h) (Or.inl ⟨by rfl, fun w hSw => ?_⟩) hHeld ?_
          · (clear hSw; go_simp)
          simp only [Act.put, List.setIfInBounds_toArray, List.set_cons_zero, List.set_cons_succ]
          refine takeH (i := 17) (v := .bool true) rfl (by kernel_rfl) (by kernel_rfl) (by kernel_rfl) (fun _ _ _ h => h) (Or.inl ⟨by rfl, fun w hSw => ?_⟩) hHeld ?_
          · (clear hSw; go_simp)
          simp only [Act.put, List.setIfInBounds_toArray, List.set_cons_zero, List.set_cons_succ]
          refine wpAnyH_done (by kernel_rfl) ?_ _
          clear hHeld
          have HF := Lib.hid HSK.out.1
          clear HSK
          go_wp2
          go_ret
          exact ⟨rfl, HF.out⟩
  · have ht7 : 127 < t := by omega
    rw [if_neg hr7] at hrv
    obtain ⟨s, hsr⟩ : ∃ s, max (r - 1) 0 = s := ⟨_, rfl⟩
    rw [hsr] at hrv
    have HRV := Lib.hid hrv
    have s1 : decide (r < s) = false := by simp; omega
    have s2 : s ≤ 127 := by omega
    have q7 : r ≤ 127 := by omega
    have q8 : decide (127 < r) = false := by simp; omega
    have p7 : decide (t ≤ 127) = false := by simp; omega
    have HSD := Lib.hid (show Ct.st ⟨t, s, false⟩ = 1 from st_one.2 ⟨rfl, .inl ht7⟩)
    clear hrv hor hsr hr7
    go_enter Try.func8, Try.ntmps8
    go_wp2_with fail
    refine (check_any ⟨t, r, false⟩ _).mono ?_
    rintro e w1 ⟨rfl, hb1⟩
    have HB1 := Lib.hid (nxt HB.out hb1)
    have HC1 := Lib.hid (HC.out.next hb1)
    obtain ⟨a0, a1, a2⟩ := HC1.out.cx
    simp only at a0 a1 a2
    clear hb1 HB HC
    rw [HCE.out]
    go_wp2_with fail
    refine (state_any ⟨t, r, false⟩ _).mono ?_
    rintro e w2 ⟨rfl, hb2⟩
    rw [HST.out]
    have HB2 := Lib.hid (nxt HB1.out hb2)
    have HC2 := Lib.hid (HC1.out.next hb2)
    clear HB1 HC1 hb2 a0 a1 a2
    obtain ⟨a0, a1, a2⟩ := HC2.out.cx
    simp only at a0 a1 a2
    go_wp2_with fail
    refine (received_any ⟨t, r, false⟩ _).mono ?_
    rintro e w3 ⟨rfl, hb3⟩
    rw [HRV.out]
    have HB3 := Lib.hid ((nxt HB2.out hb3).alloc (nxt HB2.out hb3).size (.cells (Ct.cells ⟨t, s, false⟩) 23))
    have HC3 := Lib.hid ((HC2.out.next hb3).next (below1 w3 (.cells (Ct.cells ⟨t, s, false⟩) 23)))
    have HD3 := Lib.hid (cb_new w3 ⟨t, s, false⟩)
    clear HB2 HC2 hb3 a0 a1 a2
    go_wp2_with fail
    refine wp_region_held_drew (S := fun w' => Below w.heap.size w w' ∧ Cb w' w.heap.size ⟨t, r, false⟩ ∧ Cb w' w3.heap.size ⟨t, s, false⟩) (by kernel_rfl) (⟨HB3.out.drew, HC3.out, HD3.out⟩) (fun hHeld => ?_)
    refine takeH (i := 0) (v := .pointer (some ⟨w.heap.size, 1, none⟩)) rfl (by kernel_rfl) (by kernel_rfl) (by kernel_rfl) (fun _ _ _ h => h) (Or.inl ⟨by rfl, fun w hSw => ?_⟩) hHeld ?_
    · (clear hSw; go_simp)
    simp only [Act.put, List.setIfInBounds_toArray, List.set_cons_zero, List.set_cons_succ]
    refine takeH (i := 1) (v := .int .i64 r) rfl (by kernel_rfl) (by kernel_rfl) (by kernel_rfl) (fun _ _ _ h => h) (Or.inl ⟨by rfl, fun w hSw => ?_⟩) hHeld ?_
    · (obtain ⟨a0, a1, a2⟩ := hSw.2.1.cx; simp only at a0 a1 a2; clear hSw; go_simp)
    simp only [Act.put, List.setIfInBounds_toArray, List.set_cons_zero, List.set_cons_succ]
    refine takeH (i := 2) (v := .bool false) rfl (by kernel_rfl) (by kernel_rfl) (by kernel_rfl) (fun _ _ _ h => h) (Or.inl ⟨by rfl, fun w hSw => ?_⟩) hHeld ?_
    · (clear hSw; go_simp)
    simp only [Act.put, List.setIfInBounds_toArray, List.set_cons_zero, List.set_cons_succ]
    refine takeH (i := 3) (v := .bool false) rfl (by kernel_rfl) (by kernel_rfl) (by kernel_rfl) (fun _ _ _ h => h) (Or.inl ⟨by rfl, fun w hSw => ?_⟩) hHeld ?_
    · (clear hSw; go_simp)
    simp only [Act.put, List.setIfInBounds_toArray, List.set_cons_zero, List.set_cons_succ]
    refine takeH (i := 4) (v := undef) rfl (by kernel_rfl) (by kernel_rfl) (by kernel_rfl) (fun _ _ _ h => h) (Or.inr ⟨by rfl, rfl⟩) hHeld ?_
    simp only [Act.put, List.setIfInBounds_toArray, List.set_cons_zero, List.set_cons_succ]
    refine takeH (i := 5) (v := undef) rfl (by kernel_rfl) (by kernel_rfl) (by kernel_rfl) (fun _ _ _ h => h) (Or.inr ⟨by rfl, rfl⟩) hHeld ?_
    simp only [Act.put, List.setIfInBounds_toArray, List.set_cons_zero, List.set_cons_succ]
    refine takeH (i := 6) (v := undef) rfl (by kernel_rfl) (by kernel_rfl) (by kernel_rfl) (fun _ _ _ h => h) (Or.inr ⟨by rfl, rfl⟩) hHeld ?_
    simp only [Act.put, List.setIfInBounds_toArray, List.set_cons_zero, List.set_cons_succ]
    refine takeH (i := 7) (v := .bool false) rfl (by kernel_rfl) (by kernel_rfl) (by kernel_rfl) (fun _ _ _ h => h) (Or.inl ⟨by rfl, fun w hSw => ?_⟩) hHeld ?_
    · (clear hSw; go_simp)
    simp only [Act.put, List.setIfInBounds_toArray, List.set_cons_zero, List.set_cons_succ]
    refine takeH (i := 8) (v := .bool false) rfl (by kernel_rfl) (by kernel_rfl) (by kernel_rfl) (fun _ _ _ h => h) (Or.inl ⟨by rfl, fun w hSw => ?_⟩) hHeld ?_
    · (clear hSw; go_simp)
    simp only [Act.put, List.setIfInBounds_toArray, List.set_cons_zero, List.set_cons_succ]
    refine takeH (i := 9) (v := .pointer (some ⟨w.heap.size, 1, none⟩)) rfl (by kernel_rfl) (by kernel_rfl) (by kernel_rfl) (fun _ _ _ h => h) (Or.inl ⟨by rfl, fun w hSw => ?_⟩) hHeld ?_
    · (clear hSw; go_simp)
    simp only [Act.put, List.setIfInBounds_toArray, List.set_cons_zero, List.set_cons_succ]
    refine takeH (i := 10) (v := .int .i64 r) rfl (by kernel_rfl) (by kernel_rfl) (by kernel_rfl) (fun _ _ _ h => h) (Or.inl ⟨by rfl, fun w hSw => ?_⟩) hHeld ?_
    · (obtain ⟨a0, a1, a2⟩ := hSw.2.1.cx; simp only at a0 a1 a2; clear hSw; go_simp)
    simp only [Act.put, List.setIfInBounds_toArray, List.set_cons_zero, List.set_cons_succ]
    refine takeH (i := 11) (v := .bool true) rfl (by kernel_rfl) (by kernel_rfl) (by kernel_rfl) (fun _ _ _ h => h) (Or.inl ⟨by rfl, fun w hSw => ?_⟩) hHeld ?_
    · (clear hSw; go_simp)
    simp only [Act.put, List.setIfInBounds_toArray, List.set_cons_zero, List.set_cons_succ]
    refine takeH (i := 12) (v := .bool true) rfl (by kernel_rfl) (by kernel_rfl) (by kernel_rfl) (fun _ _ _ h => h) (Or.inl ⟨by rfl, fun w hSw => ?_⟩) hHeld ?_
    · (clear hSw; go_simp)
    simp only [Act.put, List.setIfInBounds_toArray, List.set_cons_zero, List.set_cons_succ]
    refine takeH (i := 13) (v := .pointer (some ⟨w3.heap.size, 1, none⟩)) rfl (by kernel_rfl) (by kernel_rfl) (by kernel_rfl) (fun _ _ _ h => h) (Or.inl ⟨by rfl, fun w hSw => ?_⟩) hHeld ?_
    · (clear hSw; go_simp)
    simp only [Act.put, List.setIfInBounds_toArray, List.set_cons_zero, List.set_cons_succ]
    refine takeH (i := 14) (v := .int .i64 s) rfl (by kernel_rfl) (by kernel_rfl) (by kernel_rfl) (fun _ _ _ h => h) (Or.inl ⟨by rfl, fun w hSw => ?_⟩) hHeld ?_
    · (obtain ⟨d0, d1, d2⟩ := hSw.2.2.cx; simp only at d0 d1 d2; clear hSw; go_simp)
    simp only [Act.put, List.setIfInBounds_toArray, List.set_cons_zero, List.set_cons_succ]
    refine takeH (i := 15) (v := .pointer (some ⟨w.heap.size, 1, none⟩)) rfl (by kernel_rfl) (by kernel_rfl) (by kernel_rfl) (fun _ _ _ h => h) (Or.inl ⟨by rfl, fun w hSw => ?_⟩) hHeld ?_
    · (clear hSw; go_simp)
    simp only [Act.put, List.setIfInBounds_toArray, List.set_cons_zero, List.set_cons_succ]
    refine takeH (i := 16) (v := .int .i64 r) rfl (by kernel_rfl) (by kernel_rfl) (by kernel_rfl) (fun _ _ _ h => h) (Or.inl ⟨by rfl, fun w hSw => ?_⟩) hHeld ?_
    · (obtain ⟨a0, a1, a2⟩ := hSw.2.1.cx; simp only at a0 a1 a2; clear hSw; go_simp)
    simp only [Act.put, List.setIfInBounds_toArray, List.set_cons_zero, List.set_cons_succ]
    refine takeH (i := 17) (v := .bool false) rfl (by kernel_rfl) (by kernel_rfl) (by kernel_rfl) (fun _ _ _ h => h) (Or.inl ⟨by rfl, fun w hSw => ?_⟩) hHeld ?_
    · (clear hSw; go_simp)
    simp only [Act.put, List.setIfInBounds_toArray, List.set_cons_zero, List.set_cons_succ]
    refine takeH (i := 18) (v := .bool false) rfl (by kernel_rfl) (by kernel_rfl) (by kernel_rfl) (fun _ _ _ h => h) (Or.inl ⟨by rfl, fun w hSw => ?_⟩) hHeld ?_
    · (clear hSw; go_simp)
    simp only [Act.put, List.setIfInBounds_toArray, List.set_cons_zero, List.set_cons_succ]
    refine takeH (i := 19) (v := .bool false) rfl (by kernel_rfl) (by kernel_rfl) (by kernel_rfl) (fun _ _ _ h => h) (Or.inl ⟨by rfl, fun w hSw => ?_⟩) hHeld ?_
    · (clear hSw; go_simp)
    simp only [Act.put, List.setIfInBounds_toArray, List.set_cons_zero, List.set_cons_succ]
    refine takeH (i := 20) (v := .bool false) rfl (by kernel_rfl) (by kernel_rfl) (by kernel_rfl) (fun _ _ _ h => h) (Or.inl ⟨by rfl, fun w hSw => ?_⟩) hHeld ?_
    · (clear hSw; go_simp)
    simp only [Act.put, List.setIfInBounds_toArray, List.set_cons_zero, List.set_cons_succ]
    refine takeH (i := 21) (v := .agg #[.int .i64 t, .int .i64 s, .bool false]) rfl (by kernel_rfl) (by kernel_rfl) (by kernel_rfl) (fun _ _ _ h => h) (Or.inl ⟨by rfl, fun w hSw => ?_⟩) hHeld ?_
    · (obtain ⟨d0, d1, d2⟩ := hSw.2.2.cx; simp only at d0 d1 d2; clear hSw; go_simp)
    simp only [Act.put, List.setIfInBounds_toArray, List.set_cons_zero, List.set_cons_succ]
    refine takeH (i := 24) (v := .pointer (some ⟨w.heap.size, 0, none⟩)) rfl (by kernel_rfl) (by kernel_rfl) (by kernel_rfl) (fun _ _ _ h => h) (Or.inl ⟨by rfl, fun w hSw => ?_⟩) hHeld ?_
    · (clear hSw; go_simp)
    simp only [Act.put, List.setIfInBounds_toArray, List.set_cons_zero, List.set_cons_succ]
    refine takeH (i := 25) (v := .int .i64 t) rfl (by kernel_rfl) (by kernel_rfl) (by kernel_rfl) (fun _ _ _ h => h) (Or.inl ⟨by rfl, fun w hSw => ?_⟩) hHeld ?_
    · (obtain ⟨a0, a1, a2⟩ := hSw.2.1.cx; simp only at a0 a1 a2; clear hSw; go_simp)
    simp only [Act.put, List.setIfInBounds_toArray, List.set_cons_zero, List.set_cons_succ]
    refine takeH (i := 26) (v := .bool false) rfl (by kernel_rfl) (by kernel_rfl) (by kernel_rfl) (fun _ _ _ h => h) (Or.inl ⟨by rfl, fun w hSw => ?_⟩) hHeld ?_
    · (clear hSw; go_simp)
    simp only [Act.put, List.setIfInBounds_toArray, List.set_cons_zero, List.set_cons_succ]
    refine wpAnyH_ready (rs := [22]) (by kernel_rfl) (by simp) ?_
    refine AllReadyH.cons rfl (fun K hK => ?_) AllReadyH.nil
    go_simp
    refine (state_any ⟨t, s, false⟩ _).mono ?_
    rintro e wv0 ⟨rfl, hbv0⟩
    have hH := hHeld
    rw [HSD.out]
    have HSK := Lib.hid (And.intro (nxt hH.1 hbv0) (And.intro (hH.2.1.next hbv0) (hH.2.2.next hbv0)))
    clear hbv0 hH
    clear hHeld
    dsimp only
    refine hK.out _ _ (HSK.out) (fun hHeld => ?_)
    clear hK K
    try simp only [Act.put, List.setIfInBounds_toArray, List.set_cons_zero, List.set_cons_succ]
    refine takeH (i := 23) (v := .bool false) rfl (by kernel_rfl) (by kernel_rfl) (by kernel_rfl) (fun _ _ _ h => h) (Or.inl ⟨by rfl, fun w hSw => ?_⟩) hHeld ?_
    · (clear hSw; go_simp)
    simp only [Act.put, List.setIfInBounds_toArray, List.set_cons_zero, List.set_cons_succ]
    refine takeH (i := 27) (v := .bool false) rfl (by kernel_rfl) (by kernel_rfl) (by kernel_rfl) (fun _ _ _ h => h) (Or.inl ⟨by rfl, fun w hSw => ?_⟩) hHeld ?_
    · (clear hSw; go_simp)
    simp only [Act.put, List.setIfInBounds_toArray, List.set_cons_zero, List.set_cons_succ]
    refine takeH (i := 28) (v := .bool false) rfl (by kernel_rfl) (by kernel_rfl) (by kernel_rfl) (fun _ _ _ h => h) (Or.inl ⟨by rfl, fun w hSw => ?_⟩) hHeld ?_
    · (clear hSw; go_simp)
    simp only [Act.put, List.setIfInBounds_toArray, List.set_cons_zero, List.set_cons_succ]
    refine wpAnyH_done (by kernel_rfl) ?_ _
    clear hHeld
    have HB4 := Lib.hid (HSK.out.1.alloc HSK.out.1.size (.cells (Ct.cells ⟨t, r, false⟩) 23))
    have HC4 := Lib.hid (HSK.out.2.1.next (below1 wv0 (.cells (Ct.cells ⟨t, r, false⟩) 23)))
    have HE4 := Lib.hid (cb_new wv0 ⟨t, r, false⟩)
    have HGE := Lib.hid HSK.out.1.size; have HGL := Lib.hid HSK.out.2.1.lt
    obtain ⟨a0, a1, a2⟩ := HSK.out.2.1.cx
    simp only at a0 a1 a2
    clear HB3 HC3 HD3 HSK
    go_wp2
    go_loopw [5] (fun vi wr => ∃ k : Nat, vi = .int .i64 k ∧ (k = 0 ∨ 127 ≤ t - k) ∧ Below w.heap.size w wr ∧ Cb wr w.heap.size ⟨t, r, false⟩ ∧ Cb wr wv0.heap.size ⟨t - k, r, false⟩) (fun vi _ => 256 - (intOf vi).toNat)
    case atStart => exact ⟨0, rfl, .inl rfl, HB4.out, HC4.out, by simpa using HE4.out⟩
    case round =>
      clear HB4 HC4 HE4 a0 a1 a2
      obtain ⟨k, rfl, hk, hb, hcb, heb⟩ := hrel
      obtain ⟨x, hx⟩ : ∃ x, t - (k : Int) = x := ⟨_, rfl⟩
      rw [hx] at hk heb
      have HX := Lib.hid hx
      have x0 : 0 ≤ x := by rcases hk with h | h <;> omega
      have x1 : x ≤ 255 := by omega
      have hk256 : k < 256 := by rcases hk with h | h <;> omega
      have hk256' : (k : Int) < 256 := by omega
      clear hx hk
      obtain ⟨c0, c1, c2⟩ := heb.cx
      simp only at c0 c1 c2
      have HBR := Lib.hid hb; have HCR := Lib.hid hcb; have HER := Lib.hid heb
      clear hb hcb heb
      by_cases hlt : 127 < x
      · have HSE := Lib.hid (show Ct.st ⟨x, r, false⟩ = 1 from st_one.2 ⟨rfl, .inl hlt⟩)
        have HSN := Lib.hid (show Ct.snt ⟨x, r, false⟩ = ⟨x - 1, r, false⟩ from snt_big hlt x1 r0 r1)
        go_wp2_with fail
        refine (state_any ⟨x, r, false⟩ _).mono ?_
        rintro e w5 ⟨rfl, hb5⟩
        rw [HSE.out]
        have HB5 := Lib.hid (nxt HBR.out hb5); have HC5 := Lib.hid (HCR.out.next hb5); have HE5 := Lib.hid (HER.out.next hb5)
        clear hb5 c0 c1 c2 HBR HCR HER
        obtain ⟨c0, c1, c2⟩ := HE5.out.cx
        simp only at c0 c1 c2
        go_wp2_with fail
        refine (sent_any ⟨x, r, false⟩ _).mono ?_
        rintro e w6 ⟨rfl, hb6⟩
        rw [HSN.out]
        have HA6 := Lib.hid (below1 w6 (.cells (Ct.cells ⟨x - 1, r, false⟩) 23))
        have HB6 := Lib.hid (nxt (nxt HB5.out hb6) HA6.out); have HC6 := Lib.hid ((HC5.out.next hb6).next HA6.out); have HE6 := Lib.hid ((HE5.out.next hb6).next HA6.out)
        have HF6 := Lib.hid (cb_new w6 ⟨x - 1, r, false⟩)
        have hne : wv0.heap.size ≠ w6.heap.size := by have := (HE5.out.next hb6).lt; omega
        clear hb6 c0 c1 c2 HB5 HC5 HE5
        obtain ⟨c0, c1, c2⟩ := HE6.out.cx
        obtain ⟨d0, d1, d2⟩ := HF6.out.cx
        simp only at c0 c1 c2 d0 d1 d2
        have f0 := HE6.out.frozen 0
        have f1 := HE6.out.frozen 1
        have f2 := HE6.out.frozen 2
        go_wp2
        go_roundw
        case rel => exact ⟨k + 1, by go_num, by have := HX.out; right; omega, set3 HB6.out HGE.out _ _ _, HC6.out.away (by have := HGL.out; omega) _ _ _, by rw [show t - ((k + 1 : Nat) : Int) = x - 1 by have := HX.out; omega]; exact HE6.out.put ⟨x - 1, r, false⟩⟩
        case measure => simp [intOf]; omega
      · have q1 : decide (127 < x) = false := by simp; omega
        have HSE := Lib.hid (show Ct.st ⟨x, r, false⟩ = 0 from st_zero.2 ⟨rfl, by simp; omega, by simp; omega⟩)
        go_wp2_with fail
        refine wp_region_held_drew (S := fun w' => Below w.heap.size w w' ∧ Cb w' w.heap.size ⟨t, r, false⟩ ∧ Cb w' wv0.heap.size ⟨x, r, false⟩) (by kernel_rfl) (⟨HBR.out.drew, HCR.out, HER.out⟩) (fun hHeld => ?_)
        refine takeH (i := 0) (v := .pointer (some ⟨wv0.heap.size, 1, none⟩)) rfl (by kernel_rfl) (by kernel_rfl) (by kernel_rfl) (fun _ _ _ h => h) (Or.inl ⟨by rfl, fun w hSw => ?_⟩) hHeld ?_
        · (clear hSw; go_simp)
        simp only [Act.put, List.setIfInBounds_toArray, List.set_cons_zero, List.set_cons_succ]
        refine takeH (i := 1) (v := .int .i64 r) rfl (by kernel_rfl) (by kernel_rfl) (by kernel_rfl) (fun _ _ _ h => h) (Or.inl ⟨by rfl, fun w hSw => ?_⟩) hHeld ?_
        · (obtain ⟨c0, c1, c2⟩ := hSw.2.2.cx; simp only at c0 c1 c2; clear hSw; go_simp)
        simp only [Act.put, List.setIfInBounds_toArray, List.set_cons_zero, List.set_cons_succ]
        refine takeH (i := 2) (v := .pointer (some ⟨w.heap.size, 1, none⟩)) rfl (by kernel_rfl) (by kernel_rfl) (by kernel_rfl) (fun _ _ _ h => h) (Or.inl ⟨by rfl, fun w hSw => ?_⟩) hHeld ?_
        · (clear hSw; go_simp)
        simp only [Act.put, List.setIfInBounds_toArray, List.set_cons_zero, List.set_cons_succ]
        refine takeH (i := 3) (v := .int .i64 r) rfl (by kernel_rfl) (by kernel_rfl) (by kernel_rfl) (fun _ _ _ h => h) (Or.inl ⟨by rfl, fun w hSw => ?_⟩) hHeld ?_
        · (obtain ⟨a0, a1, a2⟩ := hSw.2.1.cx; simp only at a0 a1 a2; clear hSw; go_simp)
        simp only [Act.put, List.setIfInBounds_toArray, List.set_cons_zero, List.set_cons_succ]
        refine takeH (i := 4) (v := .bool true) rfl (by kernel_rfl) (by kernel_rfl) (by kernel_rfl) (fun _ _ _ h => h) (Or.inl ⟨by rfl, fun w hSw => ?_⟩) hHeld ?_
        · (clear hSw; go_simp)
        simp only [Act.put, List.setIfInBounds_toArray, List.set_cons_zero, List.set_cons_succ]
        refine takeH (i := 5) (v := .bool true) rfl (by kernel_rfl) (by kernel_rfl) (by kernel_rfl) (fun _ _ _ h => h) (Or.inl ⟨by rfl, fun w hSw => ?_⟩) hHeld ?_
        · (clear hSw; go_simp)
        simp only [Act.put, List.setIfInBounds_toArray, List.set_cons_zero, List.set_cons_succ]
        refine takeH (i := 6) (v := .agg #[.int .i64 x, .int .i64 r, .bool false]) rfl (by kernel_rfl) (by kernel_rfl) (by kernel_rfl) (fun _ _ _ h => h) (Or.inl ⟨by rfl, fun w hSw => ?_⟩) hHeld ?_
        · (obtain ⟨c0, c1, c2⟩ := hSw.2.2.cx; simp only at c0 c1 c2; clear hSw; go_simp)
        simp only [Act.put, List.setIfInBounds_toArray, List.set_cons_zero, List.set_cons_succ]
        refine takeH (i := 9) (v := .pointer (some ⟨w.heap.size, 1, none⟩)) rfl (by kernel_rfl) (by kernel_rfl) (by kernel_rfl) (fun _ _ _ h => h) (Or.inl ⟨by rfl, fun w hSw => ?_⟩) hHeld ?_
        · (clear hSw; go_simp)
        simp only [Act.put, List.setIfInBounds_toArray, List.set_cons_zero, List.set_cons_succ]
        refine takeH (i := 10) (v := .int .i64 r) rfl (by kernel_rfl) (by kernel_rfl) (by kernel_rfl) (fun _ _ _ h => h) (Or.inl ⟨by rfl, fun w hSw => ?_⟩) hHeld ?_
        · (obtain ⟨a0, a1, a2⟩ := hSw.2.1.cx; simp only at a0 a1 a2; clear hSw; go_simp)
        simp only [Act.put, List.setIfInBounds_toArray, List.set_cons_zero, List.set_cons_succ]
        refine takeH (i := 11) (v := .bool true) rfl (by kernel_rfl) (by kernel_rfl) (by kernel_rfl) (fun _ _ _ h => h) (Or.inl ⟨by rfl, fun w hSw => ?_⟩) hHeld ?_
        · (clear hSw; go_simp)
        simp only [Act.put, List.setIfInBounds_toArray, List.set_cons_zero, List.set_cons_succ]
        refine wpAnyH_ready (rs := [7]) (by kernel_rfl) (by simp) ?_
        refine AllReadyH.cons rfl (fun K hK => ?_) AllReadyH.nil
        go_simp
        refine (state_any ⟨x, r, false⟩ _).mono ?_
        rintro e wz0 ⟨rfl, hbz0⟩
        have hH := hHeld
        rw [HSE.out]
        have HSK := Lib.hid (And.intro (nxt hH.1 hbz0) (And.intro (hH.2.1.next hbz0) (hH.2.2.next hbz0)))
        clear hbz0 hH
        clear hHeld
        dsimp only
        refine hK.out _ _ (HSK.out) (fun hHeld => ?_)
        clear hK K
        try simp only [Act.put, List.setIfInBounds_toArray, List.set_cons_zero, List.set_cons_succ]
        refine takeH (i := 8) (v := .bool true) rfl (by kernel_rfl) (by kernel_rfl) (by kernel_rfl) (fun _ _ _ h => h) (Or.inl ⟨by rfl, fun w hSw => ?_⟩) hHeld ?_
        · (clear hSw; go_simp)
        simp only [Act.put, List.setIfInBounds_toArray, List.set_cons_zero, List.set_cons_succ]
        refine takeH (i := 12) (v := .bool true) rfl (by kernel_rfl) (by kernel_rfl) (by kernel_rfl) (fun _ _ _ h => h) (Or.inl ⟨by rfl, fun w hSw => ?_⟩) hHeld ?_
        · (clear hSw; go_simp)
        simp only [Act.put, List.setIfInBounds_toArray, List.set_cons_zero, List.set_cons_succ]
        refine takeH (i := 13) (v := .bool true) rfl (by kernel_rfl) (by kernel_rfl) (by kernel_rfl) (fun _ _ _ h => h) (Or.inl ⟨by rfl, fun w hSw => ?_⟩) hHeld ?_
        · (clear hSw; go_simp)
        simp only [Act.put, List.setIfInBounds_toArray, List.set_cons_zero, List.set_cons_succ]
        refine takeH (i := 14) (v := .bool true) rfl (by kernel_rfl) (by kernel_rfl) (by kernel_rfl) (fun _ _ _ h => h) (Or.inl ⟨by rfl, fun w hSw => ?_⟩) hHeld ?_
        · (clear hSw; go_simp)
        simp only [Act.put, List.setIfInBounds_toArray, List.set_cons_zero, List.set_cons_succ]
        refine wpAnyH_ready (rs := [15]) (by kernel_rfl) (by simp) ?_
        refine AllReadyH.cons rfl (fun K hK => ?_) AllReadyH.nil
        go_simp
        refine (awake8 _).mono ?_
        rintro e wz1 ⟨rfl, hbz1⟩
        have hH := hHeld
        have HSK := Lib.hid (And.intro (nxt hH.1 hbz1) (And.intro (hH.2.1.next hbz1) (hH.2.2.next hbz1)))
        clear hbz1 hH
        clear hHeld
        dsimp only
        refine hK.out _ _ (HSK.out) (fun hHeld => ?_)
        clear hK K
        try simp only [Act.put, List.setIfInBounds_toArray, List.set_cons_zero, List.set_cons_succ]
        refine takeH (i := 16) (v := .bool true) rfl (by kernel_rfl) (by kernel_rfl) (by kernel_rfl) (fun _ _ _ h => h) (Or.inl ⟨by rfl, fun w hSw => ?_⟩) hHeld ?_
        · (clear hSw; go_simp)
        simp only [Act.put, List.setIfInBounds_toArray, List.set_cons_zero, List.set_cons_succ]
        refine takeH (i := 17) (v := .bool true) rfl (by kernel_rfl) (by kernel_rfl) (by kernel_rfl) (fun _ _ _ h => h) (Or.inl ⟨by rfl, fun w hSw => ?_⟩) hHeld ?_
        · (clear hSw; go_simp)
        simp only [Act.put, List.setIfInBounds_toArray, List.set_cons_zero, List.set_cons_succ]
        refine wpAnyH_done (by kernel_rfl) ?_ _
        clear hHeld
        have HF := Lib.hid HSK.out.1
        clear HSK
        go_wp2
        go_ret
        exact ⟨rfl, HF.out⟩
theorem returns_any (c : Ct) (w : World) :
    Calls Try.prog 8 #[c.val] w fun e w' => e = .returned (.bool true) ∧ Below w.heap.size w w' := by
  cases hr : c.right
  · exact returns_not c w (.inl hr)
  · by_cases hs : c.st = 1
    · exact returns_ok c w hr hs
    · exact returns_not c w (.inr hs)
end Go.Proofs.Ytmffiakdoklaaaa
