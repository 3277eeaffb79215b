/- The walk of the law FrameOrders. -/
import Derived.Test.YtjjfkakjkkpgaaaAh
import Derived.Test.YtjjfkakjkkpgaaaAw
namespace Go.Proofs.Ytjjfkakjkkpgaaa
open Go.RowKit

/-- Two frames lie where they lay. -/
def Pair (w0 : World) (f g : Fr) (w : World) : Prop := (Bx w w0.heap.size f ∧ Bx w (w0.heap.size + 1) g) ∧ w0.heap.size + 1 < w.heap.size
theorem Pair.below {w0 w w' : World} {f g : Fr} (h : Pair w0 f g w) (hb : Below w.heap.size w w') : Pair w0 f g w' :=
  ⟨⟨h.1.1.below hb h.1.1.lt, h.1.2.below hb h.1.2.lt⟩, Nat.lt_of_lt_of_le h.2 hb.size⟩
theorem pair_new (w : World) (f g : Fr) : Pair w f g ((w.alloc (.cells f.cells 24)).alloc (.cells g.cells 24)) := ⟨⟨bx_two1 w f g, bx_two2 w f g⟩, by simp⟩

set_option maxRecDepth 100000 in
set_option maxHeartbeats 3200000 in
theorem law_orders_yes (f g : Fr) (w : World) (hf : f.may = true) (hg : g.may = true) (bl br : Bool) (nn : Int) (h1 : decide (f.plc < g.plc) = bl) (h2 : (f.plc == g.plc) = br) (h3 : sgn f.plc g.plc = nn) (h4 : (bl == decide (nn < 0)) = true) (h5 : (br == (nn == 0)) = true) :
    Calls Try.prog 4 #[f.val, g.val] w fun e w' => e = .returned (.bool true) ∧ Below w.heap.size w w' := by
  have HB := Lib.hid (boxed2 f g w)
  have HP := Lib.hid (pair_new w f g)
  have HF := Lib.hid hf; have HG := Lib.hid hg
  have HLS := Lib.hid (less_yes f g · hf hg)
  have HRV := Lib.hid (rival_yes f g · hf hg)
  have HAH := Lib.hid (ahd_plc hf hg)
  have HRF := Lib.hid (rarb_ok f · hf)
  have HRG := Lib.hid (rarb_ok g · hg)
  have lf : (ofB f.num f.wid).length ≤ 64 := by rw [ofB_len]; exact wid_le f
  have lg : (ofB g.num g.wid).length ≤ 64 := by rw [ofB_len]; exact wid_le g
  rw [h1] at HLS
  rw [h2] at HRV
  rw [h3] at HAH
  generalize ofB f.num f.wid = xs at *
  generalize ofB g.num g.wid = ys at *
  clear hf hg h1 h2 h3
  go_enter Try.func4, Try.ntmps4
  go_wp2_with fail
  refine (HLS.out _).mono ?_
  rintro e w1 ⟨rfl, hb1⟩
  have HP1 := Lib.hid (HP.out.below hb1)
  have HB1 := Lib.hid (nxt HB.out hb1)
  clear HB HP hb1 HLS
  obtain ⟨c0, c1, c2, c3, c4, c5, c6, c7, c8, c9, c10, c11⟩ := HP1.out.1.1
  obtain ⟨b0, b1, b2, b3, b4, b5, b6, b7, b8, b9, b10, b11⟩ := HP1.out.1.2
  go_wp2_with fail
  refine (HRV.out _).mono ?_
  rintro e w2 ⟨rfl, hb2⟩
  have HP2 := Lib.hid (HP1.out.below hb2)
  have HB2 := Lib.hid (nxt HB1.out hb2)
  clear c0 c1 c2 c3 c4 c5 c6 c7 c8 c9 c10 c11 b0 b1 b2 b3 b4 b5 b6 b7 b8 b9 b10 b11
  clear HB1 HP1 hb2 HRV
  obtain ⟨c0, c1, c2, c3, c4, c5, c6, c7, c8, c9, c10, c11⟩ := HP2.out.1.1
  go_wp2_with fail
  refine (rcheck_any f _).mono ?_
  rintro e w3 ⟨rfl, hb3⟩
  rw [err_ok HF.out]
  have HP3 := Lib.hid (HP2.out.below hb3)
  have HB3 := Lib.hid (nxt HB2.out hb3)
  clear c0 c1 c2 c3 c4 c5 c6 c7 c8 c9 c10 c11
  clear HB2 HP2 hb3
  obtain ⟨b0, b1, b2, b3, b4, b5, b6, b7, b8, b9, b10, b11⟩ := HP3.out.1.2
  go_wp2_with fail
  refine (rcheck_any g _).mono ?_
  rintro e w4 ⟨rfl, hb4⟩
  rw [err_ok HG.out]
  have HP4 := Lib.hid (HP3.out.below hb4)
  have HB4 := Lib.hid (nxt HB3.out hb4)
  clear b0 b1 b2 b3 b4 b5 b6 b7 b8 b9 b10 b11
  clear HB3 HP3 hb4
  go_wp2_with fail
  refine wp_region_held_drew (S := fun w' => Bx w' w.heap.size f ∧ Bx w' (w.heap.size + 1) g) (by kernel_rfl) HP4.out.1 (fun hHeld => ?_)
  refine takeH (i := 0) (v := f.val) rfl (by kernel_rfl) (by kernel_rfl) (by kernel_rfl) (fun _ _ _ h => h) (Or.inl ⟨by rfl, fun w hSw => ?_⟩) hHeld ?_
  · (obtain ⟨c0, c1, c2, c3, c4, c5, c6, c7, c8, c9, c10, c11⟩ := hSw.1; clear hSw; go_simp)
  simp only [Act.put, List.setIfInBounds_toArray, List.set_cons_zero, List.set_cons_succ]
  refine takeH (i := 2) (v := g.val) rfl (by kernel_rfl) (by kernel_rfl) (by kernel_rfl) (fun _ _ _ h => h) (Or.inl ⟨by rfl, fun w hSw => ?_⟩) hHeld ?_
  · (obtain ⟨c0, c1, c2, c3, c4, c5, c6, c7, c8, c9, c10, c11⟩ := hSw.2; clear hSw; go_simp)
  simp only [Act.put, List.setIfInBounds_toArray, List.set_cons_zero, List.set_cons_succ]
  refine wpAnyH_ready (rs := [1]) (by kernel_rfl) (by simp) ?_
  refine AllReadyH.cons rfl (fun K hK => ?_) AllReadyH.nil
  go_simp
  refine (HRF.out _).mono ?_
  rintro e w5 ⟨A5, cap5, rfl, hi5, hb5⟩
  have HP5 := Lib.hid (Pair.below (w := w4.drew) HP4.out hb5)
  have HI5 := Lib.hid hi5
  clear hi5
  clear hHeld
  dsimp only
  refine hK.out _ _ (HP5.out.1) (fun hHeld => ?_)
  clear hK K
  try simp only [Act.put, List.setIfInBounds_toArray, List.set_cons_zero, List.set_cons_succ]
  refine wpAnyH_ready (rs := [3]) (by kernel_rfl) (by simp) ?_
  refine AllReadyH.cons rfl (fun K hK => ?_) AllReadyH.nil
  go_simp
  refine (HRG.out _).mono ?_
  rintro e w6 ⟨A6, cap6, rfl, hi6, hb6⟩
  have HP6 := Lib.hid (HP5.out.below hb6)
  have HI6 := Lib.hid hi6
  have HI56 := Lib.hid (HI5.out.below hb6)
  clear hi6
  clear hHeld
  dsimp only
  refine hK.out _ _ (HP6.out.1) (fun hHeld => ?_)
  clear hK K
  try simp only [Act.put, List.setIfInBounds_toArray, List.set_cons_zero, List.set_cons_succ]
  refine wpAnyH_ready (rs := [4]) (by kernel_rfl) (by simp) ?_
  refine AllReadyH.cons rfl (fun K hK => ?_) AllReadyH.nil
  go_simp
  refine (rahead_any _ _ _ _ _ _ _ _ _ HI56.out HI6.out (by omega)).mono ?_
  rintro e w7 ⟨rfl, q7, rfl⟩
  rw [HAH.out]
  clear hHeld
  dsimp only
  refine hK.out _ _ (HP6.out.1) (fun hHeld => ?_)
  clear hK K
  try simp only [Act.put, List.setIfInBounds_toArray, List.set_cons_zero, List.set_cons_succ]
  refine takeH (i := 5) (v := .int .i64 nn) rfl (by kernel_rfl) (by kernel_rfl) (by kernel_rfl) (fun _ _ _ h => h) (Or.inl ⟨by rfl, fun w hSw => ?_⟩) hHeld ?_
  · (clear hSw; go_simp)
  simp only [Act.put, List.setIfInBounds_toArray, List.set_cons_zero, List.set_cons_succ]
  refine wpAnyH_done (by kernel_rfl) ?_ _
  clear hHeld
  have HB7 := Lib.hid (belowN (nxt (nxt (nxt HB4.out (belowN (Below.refl _ _) 1)) hb5) hb6) q7)
  go_wp2_with fail
  refine (awake_ok _).mono ?_
  rintro e w8 ⟨rfl, hb8⟩
  go_wp2
  go_ret
  exact ⟨rfl, nxt HB7.out hb8⟩

set_option maxHeartbeats 3200000 in
theorem law_orders_no (f g : Fr) (w : World) (h : (f.may && g.may) = false) :
    Calls Try.prog 4 #[f.val, g.val] w fun e w' => e = .returned (.bool true) ∧ Below w.heap.size w w' := by
  have HB := Lib.hid (boxed2 f g w)
  have HP := Lib.hid (pair_new w f g)
  have HLS := Lib.hid (less_no f g · h)
  have HRV := Lib.hid (rival_no f g · h)
  have HC := Lib.hid (show f.err = 14 ∨ (f.err = 0 ∧ g.err = 14) by
    cases hf : f.may
    · exact .inl (err_no hf)
    · rw [hf, Bool.true_and] at h; exact .inr ⟨err_ok hf, err_no h⟩)
  clear h
  go_enter Try.func4, Try.ntmps4
  go_wp2_with fail
  refine (HLS.out _).mono ?_
  rintro e w1 ⟨rfl, hb1⟩
  have HP1 := Lib.hid (HP.out.below hb1)
  have HB1 := Lib.hid (nxt HB.out hb1)
  clear HB HP hb1 HLS
  obtain ⟨c0, c1, c2, c3, c4, c5, c6, c7, c8, c9, c10, c11⟩ := HP1.out.1.1
  obtain ⟨b0, b1, b2, b3, b4, b5, b6, b7, b8, b9, b10, b11⟩ := HP1.out.1.2
  go_wp2_with fail
  refine (HRV.out _).mono ?_
  rintro e w2 ⟨rfl, hb2⟩
  have HP2 := Lib.hid (HP1.out.below hb2)
  have HB2 := Lib.hid (nxt HB1.out hb2)
  clear c0 c1 c2 c3 c4 c5 c6 c7 c8 c9 c10 c11 b0 b1 b2 b3 b4 b5 b6 b7 b8 b9 b10 b11
  clear HB1 HP1 hb2 HRV
  obtain ⟨c0, c1, c2, c3, c4, c5, c6, c7, c8, c9, c10, c11⟩ := HP2.out.1.1
  go_wp2_with fail
  refine (rcheck_any f _).mono ?_
  rintro e w3 ⟨rfl, hb3⟩
  have HP3 := Lib.hid (HP2.out.below hb3)
  have HB3 := Lib.hid (nxt HB2.out hb3)
  clear c0 c1 c2 c3 c4 c5 c6 c7 c8 c9 c10 c11
  clear HB2 HP2 hb3
  rcases HC.out with h1 | ⟨h1, h2⟩
  · rw [h1]
    clear h1
    go_wp2_with fail
    refine (awake_ok _).mono ?_
    rintro e w8 ⟨rfl, hb8⟩
    go_wp2
    go_ret
    exact ⟨rfl, nxt HB3.out hb8⟩
  · rw [h1]
    have H2 := Lib.hid h2
    clear h1 h2
    obtain ⟨b0, b1, b2, b3, b4, b5, b6, b7, b8, b9, b10, b11⟩ := HP3.out.1.2
    go_wp2_with fail
    refine (rcheck_any g _).mono ?_
    rintro e w4 ⟨rfl, hb4⟩
    rw [H2.out]
    go_wp2_with fail
    refine (awake_ok _).mono ?_
    rintro e w8 ⟨rfl, hb8⟩
    go_wp2
    go_ret
    exact ⟨rfl, nxt (nxt HB3.out hb4) hb8⟩

theorem law_orders (f g : Fr) (w : World) :
    Calls Try.prog 4 #[f.val, g.val] w fun e w' => e = .returned (.bool true) ∧ Below w.heap.size w w' := by
  cases h : (f.may && g.may)
  · exact law_orders_no f g w h
  · rw [Bool.and_eq_true] at h
    rcases Nat.lt_trichotomy f.plc g.plc with h1 | h1 | h1
    · exact law_orders_yes f g w h.1 h.2 true false (-1) (by simpa using h1) (by simp; omega) (by unfold sgn; rw [if_pos h1]) rfl rfl
    · exact law_orders_yes f g w h.1 h.2 false true 0 (by simp; omega) (by simpa using h1) (by unfold sgn; rw [if_neg (by omega), if_neg (by omega)]) rfl rfl
    · exact law_orders_yes f g w h.1 h.2 false false 1 (by simp; omega) (by simp; omega) (by unfold sgn; rw [if_neg (by omega), if_pos h1]) rfl rfl
end Go.Proofs.Ytjjfkakjkkpgaaa
