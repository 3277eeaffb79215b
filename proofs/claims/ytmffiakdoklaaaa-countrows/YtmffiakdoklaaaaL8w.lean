/- The walk of the law CountRows. -/
import Derived.Test.YtmffiakdoklaaaaKT
import Derived.Test.YtmffiakdoklaaaaKO
import Derived.StillTailTactics
namespace Go.Proofs.Ytmffiakdoklaaaa
open Go.RowKit

set_option maxRecDepth 100000 in
set_option maxHeartbeats 3200000 in
theorem crows_any (f : Nat → Int × Int) (A : Option Addr) (n cap : Nat) (w : World) (h : Cl w A n f) :
    Calls Try.prog 4 #[.slice A n cap] w fun e w' => e = .returned (.bool true) ∧ Below w.heap.size w w' := by
  have HL := Lib.hid h
  clear h
  by_cases h300 : 300 < n
  · have g0 : (300 : Int) < (n : Int) := by omega
    go_enter Try.func4, Try.ntmps4
    go_wp2_with fail
    refine (awake8 _).mono ?_
    rintro e w1 ⟨rfl, hb1⟩
    have HB := Lib.hid hb1
    clear hb1
    go_wp2
    go_ret
    exact ⟨rfl, HB.out⟩
  · have g0 : decide ((300 : Int) < (n : Int)) = false := by simp; omega
    have HB0 := Lib.hid (below2 w (.cells Ct.zero.cells 23) (.cells Ct.zero.cells 26))
    have HC0 := Lib.hid (cb_first w Ct.zero (.cells Ct.zero.cells 26))
    have HR0 := Lib.hid (rb_next w (.cells Ct.zero.cells 23) Ct.zero)
    go_enter Try.func4, Try.ntmps4
    go_wp2
    go_loopw [5] (fun vi wr => ∃ (k : Nat) (c : Ct), k ≤ n ∧ vi = .int .i64 k ∧ Below w.heap.size w wr ∧ Cb wr w.heap.size c ∧ Rb wr (w.heap.size + 1) c) (fun vi _ => n - (intOf vi).toNat)
    case atStart => exact ⟨0, Ct.zero, Nat.zero_le _, rfl, HB0.out, HC0.out, HR0.out⟩
    case round =>
      clear HB0 HC0 HR0
      obtain ⟨k, c, hk, rfl, hb, hc, hr⟩ := hrel
      have HB1 := Lib.hid hb; have HC1 := Lib.hid hc; have HR1 := Lib.hid hr
      clear hb hc hr
      by_cases hlt : k < n
      · have hlt' : (k : Int) < (n : Int) := by omega
        obtain ⟨ad, rfl, hl, x0, x1⟩ := (HL.out.below HB1.out).at_ hlt
        obtain ⟨wh, hwh⟩ : ∃ wh, (f k).1 = wh := ⟨_, rfl⟩
        obtain ⟨wg, hwg⟩ : ∃ wg, (f k).2 = wg := ⟨_, rfl⟩
        rw [hwh] at x0; rw [hwg] at x1
        have HLB := Lib.hid hl; have HWH := Lib.hid hwh; have HWG := Lib.hid hwg
        clear hl hwh hwg
        obtain ⟨d, hd⟩ : ∃ d, c.come wh wg = d := ⟨_, rfl⟩
        have HD := Lib.hid hd
        clear hd
        obtain ⟨t, r, o⟩ := c
        obtain ⟨t1, r1, o1⟩ := d
        obtain ⟨a0, a1, a2⟩ := HC1.out.cx
        simp only at a0 a1 a2
        go_wp2_with fail
        go_still_tail 5, (by kernel_rfl)
        go_wp2_with fail
        refine (behind_any ⟨t, r, o⟩ wh wg _).mono ?_
        rintro e w2 ⟨rfl, hb2⟩
        rw [HD.out]
        have HB2 := Lib.hid (nxt HB1.out.drew hb2); have HC2 := Lib.hid (Cb.next (w := wr.drew) HC1.out hb2); have HR2 := Lib.hid (Rb.next (w := wr.drew) HR1.out hb2); have HL2 := Lib.hid (HL.out.below (nxt HB1.out.drew hb2))
        have f0 := HC2.out.frozen 0
        have f1 := HC2.out.frozen 1
        have f2 := HC2.out.frozen 2
        clear hb2 a0 a1 a2 x0 x1 HB1 HC1 HR1
        obtain ⟨wx, hwx⟩ : ∃ wx, ((w2.setCell ⟨w.heap.size, 0, none⟩ (.int .i64 t1)).setCell ⟨w.heap.size, 1, none⟩ (.int .i64 r1)).setCell ⟨w.heap.size, 2, none⟩ (.bool o1) = wx := ⟨_, rfl⟩
        have HB3 := Lib.hid (show Below w.heap.size w wx by rw [← hwx]; exact set3 HB2.out (Nat.le_refl _) _ _ _)
        have HC3 := Lib.hid (show Cb wx w.heap.size ⟨t1, r1, o1⟩ by rw [← hwx]; exact HC2.out.put ⟨t1, r1, o1⟩)
        have HR3 := Lib.hid (show Rb wx (w.heap.size + 1) ⟨t, r, o⟩ by rw [← hwx]; exact HR2.out.away (by omega) _ _ _)
        have HL3 := Lib.hid (HL.out.below HB3.out)
        obtain ⟨a0, a1, a2⟩ := HC2.out.cx
        simp only at a0 a1 a2
        clear HB2 HC2 HR2 HL2
        go_wp2_with fail
        clear hwx f0 f1 f2 a0 a1 a2 HLB
        obtain ⟨b0, b1, b2⟩ := HR3.out.cx
        simp only at b0 b1 b2
        obtain ⟨ad', hA', hl', x0, x1⟩ := HL3.out.at_ hlt
        injection hA' with hA'
        subst hA'
        rw [HWH.out] at x0; rw [HWG.out] at x1
        clear hl'
        go_still_tail 11, (by kernel_rfl)
        go_wp2_with fail
        refine (rcome_any ⟨t, r, o⟩ wh wg _).mono ?_
        rintro e w3 ⟨rfl, hb3⟩
        rw [HD.out]
        have HB4 := Lib.hid (nxt HB3.out.drew hb3); have HC4 := Lib.hid (Cb.next (w := wx.drew) HC3.out hb3); have HR4 := Lib.hid (Rb.next (w := wx.drew) HR3.out hb3)
        have f0 := HR4.out.frozen 0
        have f1 := HR4.out.frozen 1
        have f2 := HR4.out.frozen 2
        clear hb3 b0 b1 b2 x0 x1 HB3 HC3 HR3 HL3
        obtain ⟨wy, hwy⟩ : ∃ wy, ((w3.setCell ⟨w.heap.size + 1, 0, none⟩ (.int .i64 t1)).setCell ⟨w.heap.size + 1, 1, none⟩ (.int .i64 r1)).setCell ⟨w.heap.size + 1, 2, none⟩ (.bool o1) = wy := ⟨_, rfl⟩
        have HB5 := Lib.hid (show Below w.heap.size w wy by rw [← hwy]; exact set3 HB4.out (Nat.le_succ _) _ _ _)
        have HC5 := Lib.hid (show Cb wy w.heap.size ⟨t1, r1, o1⟩ by rw [← hwy]; exact HC4.out.away (by omega) _ _ _)
        have HR5 := Lib.hid (show Rb wy (w.heap.size + 1) ⟨t1, r1, o1⟩ by rw [← hwy]; exact HR4.out.put ⟨t1, r1, o1⟩)
        obtain ⟨b0, b1, b2⟩ := HR4.out.cx
        simp only at b0 b1 b2
        clear HB4 HC4 HR4
        obtain ⟨s, hs⟩ : ∃ s, Ct.st ⟨t1, r1, o1⟩ = s := ⟨_, rfl⟩
        have HS := Lib.hid hs
        clear hs
        go_wp2_with fail
        clear hwy f0 f1 f2 b0 b1 b2
        refine wp_region_held_drew (S := fun w' => Below w.heap.size w w' ∧ Cb w' w.heap.size ⟨t1, r1, o1⟩ ∧ Rb w' (w.heap.size + 1) ⟨t1, r1, o1⟩) (by kernel_rfl) (⟨HB5.out.drew, HC5.out, HR5.out⟩) (fun hHeld => ?_)
        refine takeH (i := 0) (v := .pointer (some ⟨w.heap.size, 0, none⟩)) rfl (by kernel_rfl) (by kernel_rfl) (by kernel_rfl) (fun _ _ _ h => h) (Or.inl ⟨by rfl, fun w hSw => ?_⟩) hHeld ?_
        · (clear hSw; go_simp)
        simp only [Act.put, List.setIfInBounds_toArray, List.set_cons_zero, List.set_cons_succ]
        refine takeH (i := 1) (v := .int .i64 t1) rfl (by kernel_rfl) (by kernel_rfl) (by kernel_rfl) (fun _ _ _ h => h) (Or.inl ⟨by rfl, fun w hSw => ?_⟩) hHeld ?_
        · (obtain ⟨a0, a1, a2⟩ := hSw.2.1.cx; simp only at a0 a1 a2; clear hSw; go_simp)
        simp only [Act.put, List.setIfInBounds_toArray, List.set_cons_zero, List.set_cons_succ]
        refine takeH (i := 2) (v := .pointer (some ⟨w.heap.size + 1, 0, none⟩)) rfl (by kernel_rfl) (by kernel_rfl) (by kernel_rfl) (fun _ _ _ h => h) (Or.inl ⟨by rfl, fun w hSw => ?_⟩) hHeld ?_
        · (clear hSw; go_simp)
        simp only [Act.put, List.setIfInBounds_toArray, List.set_cons_zero, List.set_cons_succ]
        refine takeH (i := 3) (v := .int .i64 t1) rfl (by kernel_rfl) (by kernel_rfl) (by kernel_rfl) (fun _ _ _ h => h) (Or.inl ⟨by rfl, fun w hSw => ?_⟩) hHeld ?_
        · (obtain ⟨b0, b1, b2⟩ := hSw.2.2.cx; simp only at b0 b1 b2; clear hSw; go_simp)
        simp only [Act.put, List.setIfInBounds_toArray, List.set_cons_zero, List.set_cons_succ]
        refine takeH (i := 4) (v := .bool false) rfl (by kernel_rfl) (by kernel_rfl) (by kernel_rfl) (fun _ _ _ h => h) (Or.inl ⟨by rfl, fun w hSw => ?_⟩) hHeld ?_
        · (clear hSw; go_simp)
        simp only [Act.put, List.setIfInBounds_toArray, List.set_cons_zero, List.set_cons_succ]
        refine takeH (i := 5) (v := .bool false) rfl (by kernel_rfl) (by kernel_rfl) (by kernel_rfl) (fun _ _ _ h => h) (Or.inl ⟨by rfl, fun w hSw => ?_⟩) hHeld ?_
        · (clear hSw; go_simp)
        simp only [Act.put, List.setIfInBounds_toArray, List.set_cons_zero, List.set_cons_succ]
        refine takeH (i := 6) (v := .pointer (some ⟨w.heap.size, 1, none⟩)) rfl (by kernel_rfl) (by kernel_rfl) (by kernel_rfl) (fun _ _ _ h => h) (Or.inl ⟨by rfl, fun w hSw => ?_⟩) hHeld ?_
        · (clear hSw; go_simp)
        simp only [Act.put, List.setIfInBounds_toArray, List.set_cons_zero, List.set_cons_succ]
        refine takeH (i := 7) (v := .int .i64 r1) rfl (by kernel_rfl) (by kernel_rfl) (by kernel_rfl) (fun _ _ _ h => h) (Or.inl ⟨by rfl, fun w hSw => ?_⟩) hHeld ?_
        · (obtain ⟨a0, a1, a2⟩ := hSw.2.1.cx; simp only at a0 a1 a2; clear hSw; go_simp)
        simp only [Act.put, List.setIfInBounds_toArray, List.set_cons_zero, List.set_cons_succ]
        refine takeH (i := 8) (v := .pointer (some ⟨w.heap.size + 1, 1, none⟩)) rfl (by kernel_rfl) (by kernel_rfl) (by kernel_rfl) (fun _ _ _ h => h) (Or.inl ⟨by rfl, fun w hSw => ?_⟩) hHeld ?_
        · (clear hSw; go_simp)
        simp only [Act.put, List.setIfInBounds_toArray, List.set_cons_zero, List.set_cons_succ]
        refine takeH (i := 9) (v := .int .i64 r1) rfl (by kernel_rfl) (by kernel_rfl) (by kernel_rfl) (fun _ _ _ h => h) (Or.inl ⟨by rfl, fun w hSw => ?_⟩) hHeld ?_
        · (obtain ⟨b0, b1, b2⟩ := hSw.2.2.cx; simp only at b0 b1 b2; clear hSw; go_simp)
        simp only [Act.put, List.setIfInBounds_toArray, List.set_cons_zero, List.set_cons_succ]
        refine takeH (i := 10) (v := .bool false) rfl (by kernel_rfl) (by kernel_rfl) (by kernel_rfl) (fun _ _ _ h => h) (Or.inl ⟨by rfl, fun w hSw => ?_⟩) hHeld ?_
        · (clear hSw; go_simp)
        simp only [Act.put, List.setIfInBounds_toArray, List.set_cons_zero, List.set_cons_succ]
        refine takeH (i := 11) (v := .bool false) rfl (by kernel_rfl) (by kernel_rfl) (by kernel_rfl) (fun _ _ _ h => h) (Or.inl ⟨by rfl, fun w hSw => ?_⟩) hHeld ?_
        · (clear hSw; go_simp)
        simp only [Act.put, List.setIfInBounds_toArray, List.set_cons_zero, List.set_cons_succ]
        refine takeH (i := 12) (v := .bool false) rfl (by kernel_rfl) (by kernel_rfl) (by kernel_rfl) (fun _ _ _ h => h) (Or.inl ⟨by rfl, fun w hSw => ?_⟩) hHeld ?_
        · (clear hSw; go_simp)
        simp only [Act.put, List.setIfInBounds_toArray, List.set_cons_zero, List.set_cons_succ]
        refine takeH (i := 13) (v := .pointer (some ⟨w.heap.size, 2, none⟩)) rfl (by kernel_rfl) (by kernel_rfl) (by kernel_rfl) (fun _ _ _ h => h) (Or.inl ⟨by rfl, fun w hSw => ?_⟩) hHeld ?_
        · (clear hSw; go_simp)
        simp only [Act.put, List.setIfInBounds_toArray, List.set_cons_zero, List.set_cons_succ]
        refine takeH (i := 14) (v := .bool o1) rfl (by kernel_rfl) (by kernel_rfl) (by kernel_rfl) (fun _ _ _ h => h) (Or.inl ⟨by rfl, fun w hSw => ?_⟩) hHeld ?_
        · (obtain ⟨a0, a1, a2⟩ := hSw.2.1.cx; simp only at a0 a1 a2; clear hSw; go_simp)
        simp only [Act.put, List.setIfInBounds_toArray, List.set_cons_zero, List.set_cons_succ]
        refine takeH (i := 15) (v := .pointer (some ⟨w.heap.size + 1, 2, none⟩)) rfl (by kernel_rfl) (by kernel_rfl) (by kernel_rfl) (fun _ _ _ h => h) (Or.inl ⟨by rfl, fun w hSw => ?_⟩) hHeld ?_
        · (clear hSw; go_simp)
        simp only [Act.put, List.setIfInBounds_toArray, List.set_cons_zero, List.set_cons_succ]
        refine takeH (i := 16) (v := .bool o1) rfl (by kernel_rfl) (by kernel_rfl) (by kernel_rfl) (fun _ _ _ h => h) (Or.inl ⟨by rfl, fun w hSw => ?_⟩) hHeld ?_
        · (obtain ⟨b0, b1, b2⟩ := hSw.2.2.cx; simp only at b0 b1 b2; clear hSw; go_simp)
        simp only [Act.put, List.setIfInBounds_toArray, List.set_cons_zero, List.set_cons_succ]
        refine takeH (i := 17) (v := .bool false) rfl (by kernel_rfl) (by kernel_rfl) (by kernel_rfl) (fun _ _ _ h => h) (Or.inl ⟨by rfl, fun w hSw => ?_⟩) hHeld ?_
        · (clear hSw; go_simp)
        simp only [Act.put, List.setIfInBounds_toArray, List.set_cons_zero, List.set_cons_succ]
        refine takeH (i := 18) (v := .bool false) rfl (by kernel_rfl) (by kernel_rfl) (by kernel_rfl) (fun _ _ _ h => h) (Or.inl ⟨by rfl, fun w hSw => ?_⟩) hHeld ?_
        · (clear hSw; go_simp)
        simp only [Act.put, List.setIfInBounds_toArray, List.set_cons_zero, List.set_cons_succ]
        refine takeH (i := 19) (v := .bool false) rfl (by kernel_rfl) (by kernel_rfl) (by kernel_rfl) (fun _ _ _ h => h) (Or.inl ⟨by rfl, fun w hSw => ?_⟩) hHeld ?_
        · (clear hSw; go_simp)
        simp only [Act.put, List.setIfInBounds_toArray, List.set_cons_zero, List.set_cons_succ]
        refine takeH (i := 20) (v := .agg #[.int .i64 t1, .int .i64 r1, .bool o1]) rfl (by kernel_rfl) (by kernel_rfl) (by kernel_rfl) (fun _ _ _ h => h) (Or.inl ⟨by rfl, fun w hSw => ?_⟩) hHeld ?_
        · (obtain ⟨a0, a1, a2⟩ := hSw.2.1.cx; simp only at a0 a1 a2; clear hSw; go_simp)
        simp only [Act.put, List.setIfInBounds_toArray, List.set_cons_zero, List.set_cons_succ]
        refine takeH (i := 22) (v := .agg #[.int .i64 t1, .int .i64 r1, .bool o1]) rfl (by kernel_rfl) (by kernel_rfl) (by kernel_rfl) (fun _ _ _ h => h) (Or.inl ⟨by rfl, fun w hSw => ?_⟩) hHeld ?_
        · (obtain ⟨b0, b1, b2⟩ := hSw.2.2.cx; simp only at b0 b1 b2; clear hSw; go_simp)
        simp only [Act.put, List.setIfInBounds_toArray, List.set_cons_zero, List.set_cons_succ]
        refine wpAnyH_ready (rs := [21]) (by kernel_rfl) (by simp) ?_
        refine AllReadyH.cons rfl (fun K hK => ?_) AllReadyH.nil
        go_simp
        refine (state_any ⟨t1, r1, o1⟩ _).mono ?_
        rintro e wz0 ⟨rfl, hbz0⟩
        have hH := hHeld
        rw [HS.out]
        have HSK := Lib.hid (And.intro (nxt hH.1 hbz0) (And.intro (hH.2.1.next hbz0) (hH.2.2.next hbz0)))
        clear hbz0 hH
        clear hHeld
        dsimp only
        refine hK.out _ _ (HSK.out) (fun hHeld => ?_)
        clear hK K
        try simp only [Act.put, List.setIfInBounds_toArray, List.set_cons_zero, List.set_cons_succ]
        refine wpAnyH_ready (rs := [23]) (by kernel_rfl) (by simp) ?_
        refine AllReadyH.cons rfl (fun K hK => ?_) AllReadyH.nil
        go_simp
        refine (rstate_any ⟨t1, r1, o1⟩ _).mono ?_
        rintro e wz1 ⟨rfl, hbz1⟩
        have hH := hHeld
        rw [HS.out]
        have HSK := Lib.hid (And.intro (nxt hH.1 hbz1) (And.intro (hH.2.1.next hbz1) (hH.2.2.next hbz1)))
        clear hbz1 hH
        clear hHeld
        dsimp only
        refine hK.out _ _ (HSK.out) (fun hHeld => ?_)
        clear hK K
        try simp only [Act.put, List.setIfInBounds_toArray, List.set_cons_zero, List.set_cons_succ]
        refine takeH (i := 24) (v := .bool false) rfl (by kernel_rfl) (by kernel_rfl) (by kernel_rfl) (fun _ _ _ h => h) (Or.inl ⟨by rfl, fun w hSw => ?_⟩) hHeld ?_
        · (clear hSw; go_simp)
        simp only [Act.put, List.setIfInBounds_toArray, List.set_cons_zero, List.set_cons_succ]
        refine takeH (i := 25) (v := .bool false) rfl (by kernel_rfl) (by kernel_rfl) (by kernel_rfl) (fun _ _ _ h => h) (Or.inl ⟨by rfl, fun w hSw => ?_⟩) hHeld ?_
        · (clear hSw; go_simp)
        simp only [Act.put, List.setIfInBounds_toArray, List.set_cons_zero, List.set_cons_succ]
        refine wpAnyH_done (by kernel_rfl) ?_ _
        clear hHeld
        have HB6 := Lib.hid HSK.out.1; have HC6 := Lib.hid HSK.out.2.1; have HR6 := Lib.hid HSK.out.2.2
        clear HSK HB5 HC5 HR5
        go_wp2
        go_roundw
        case rel => exact ⟨k + 1, ⟨t1, r1, o1⟩, by omega, by go_num, HB6.out, HC6.out, HR6.out⟩
        case measure => simp [intOf]; omega
      · go_wp2_with fail
        refine (awake8 _).mono ?_
        rintro e w4 ⟨rfl, hb4⟩
        have HF := Lib.hid (nxt HB1.out hb4)
        clear hb4
        go_wp2
        go_ret
        exact ⟨rfl, HF.out⟩
end Go.Proofs.Ytmffiakdoklaaaa
