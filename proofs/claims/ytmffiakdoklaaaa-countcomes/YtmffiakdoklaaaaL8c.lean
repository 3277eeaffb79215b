/- The walk of the law CountComes. -/
import Derived.Test.YtmffiakdoklaaaaKT
import Derived.Test.YtmffiakdoklaaaaKO
namespace Go.Proofs.Ytmffiakdoklaaaa
open Go.RowKit

/-- What comes lies in block g. -/
def Xb (w : World) (g : Nat) (k x : Int) : Prop := w.cell? ⟨g, 0, none⟩ = some (.int .i64 k) ∧ w.cell? ⟨g, 1, none⟩ = some (.int .i64 x)
theorem Xb.below {w w' : World} {g : Nat} {k x : Int} (h : Xb w g k x) (hb : Below w.heap.size w w') : Xb w' g k x :=
  ⟨(hb.cell (p := ⟨g, 0, none⟩) (World.block_lt_of_cell? w _ h.1)).trans h.1, (hb.cell (p := ⟨g, 1, none⟩) (World.block_lt_of_cell? w ⟨g, 0, none⟩ h.1)).trans h.2⟩
def Threes (w : World) (g : Nat) : Prop := w.cell? ⟨g, 0, none⟩ = some (.int .i64 0) ∧ w.cell? ⟨g, 1, none⟩ = some (.int .i64 1) ∧ w.cell? ⟨g, 2, none⟩ = some (.int .i64 2)
theorem three_cells (w : World) : Threes (w.alloc (.cells #[.int .i64 0, .int .i64 1, .int .i64 2] 3)) w.heap.size :=
  ⟨cell_of_row _ _ 0 _ _ (0, 0) (heap_alloc_new w _), cell_of_row _ _ 1 _ _ (0, 0) (heap_alloc_new w _), cell_of_row _ _ 2 _ _ (0, 0) (heap_alloc_new w _)⟩
theorem three_next {w w' : World} {g : Nat} (h : Threes w g) (hb : Below w.heap.size w w') : Threes w' g :=
  ⟨(hb.cell (p := ⟨g, 0, none⟩) (World.block_lt_of_cell? w _ h.1)).trans h.1, (hb.cell (p := ⟨g, 1, none⟩) (World.block_lt_of_cell? w ⟨g, 0, none⟩ h.1)).trans h.2.1, (hb.cell (p := ⟨g, 2, none⟩) (World.block_lt_of_cell? w ⟨g, 0, none⟩ h.1)).trans h.2.2⟩
theorem size_alloc1 (w : World) (o : Obj) : (w.alloc o).heap.size = w.heap.size + 1 := by simp
theorem xb_new (w : World) (o : Obj) (k x : Int) (p : Obj) : Xb (((w.alloc o).alloc (.cells #[.int .i64 k, .int .i64 x] 25)).alloc p) (w.heap.size + 1) k x := by
  have h : Xb ((w.alloc o).alloc (.cells #[.int .i64 k, .int .i64 x] 25)) (w.alloc o).heap.size k x :=
    ⟨cell_of_row _ _ 0 _ _ (0, 0) (heap_alloc_new _ _), cell_of_row _ _ 1 _ _ (0, 0) (heap_alloc_new _ _)⟩
  rw [size_alloc1] at h
  exact h.below (below1 _ p)
theorem cb_first3 (w : World) (c : Ct) (o p : Obj) : Cb (((w.alloc (.cells c.cells 23)).alloc o).alloc p) w.heap.size c :=
  ((cb_new w c).next (below1 _ o)).next (below1 _ p)
theorem rb_third (w : World) (o p : Obj) (c : Ct) : Rb (((w.alloc o).alloc p).alloc (.cells c.cells 26)) (w.heap.size + 1 + 1) c := by
  have h := rb_new ((w.alloc o).alloc p) c
  rw [size_alloc1, size_alloc1] at h
  exact h

set_option maxRecDepth 100000 in
set_option maxHeartbeats 6400000 in
theorem ccomes_any (c : Ct) (k x : Int) (w : World) :
    Calls Try.prog 3 #[c.val, .agg #[.int .i64 k, .int .i64 x]] w fun e w' => e = .returned (.bool true) ∧ Below w.heap.size w w' := by
  have HB := Lib.hid (below3 w (.cells c.cells 23) (.cells #[.int .i64 k, .int .i64 x] 25) (.cells c.cells 26))
  have HC := Lib.hid (cb_first3 w c (.cells #[.int .i64 k, .int .i64 x] 25) (.cells c.cells 26))
  have HX := Lib.hid (xb_new w (.cells c.cells 23) k x (.cells c.cells 26))
  have HR := Lib.hid (rb_third w (.cells c.cells 23) (.cells #[.int .i64 k, .int .i64 x] 25) c)
  obtain ⟨d, hd⟩ : ∃ d, c.come k x = d := ⟨_, rfl⟩
  have HD := Lib.hid hd
  clear hd
  rcases st_cases c with hs | hs | hs
  · have HST := Lib.hid hs
    clear hs
    cases hr : c.right
    · have HRT := Lib.hid hr
      have HE := Lib.hid (show c.err = 10 by unfold Ct.err; rw [hr]; rfl)
      clear hr
      obtain ⟨t, r, o⟩ := c
      obtain ⟨t1, r1, o1⟩ := d
      go_enter Try.func3, Try.ntmps3
      go_wp2_with fail
      refine (rcome_any ⟨t, r, o⟩ k x _).mono ?_
      rintro e w1 ⟨rfl, hb1⟩
      rw [HD.out]
      have HA1 := Lib.hid (below1 w1 (.cells (Ct.cells ⟨t1, r1, o1⟩) 26))
      have HB1 := Lib.hid (nxt (nxt HB.out hb1) HA1.out)
      have HC1 := Lib.hid ((HC.out.below hb1 (by simp; omega)).next HA1.out)
      have HX1 := Lib.hid (HX.out.below (nxt hb1 HA1.out))
      have HR1 := Lib.hid ((HR.out.below hb1 (by simp)).next HA1.out)
      have HT1 := Lib.hid (rb_new w1 ⟨t1, r1, o1⟩)
      clear hb1 HB HC HX HR HA1
      obtain ⟨a0, a1, a2⟩ := HC1.out.cx
      obtain ⟨x0, x1⟩ := HX1.out
      simp only at a0 a1 a2
      go_wp2_with fail
      refine (behind_any ⟨t, r, o⟩ k x _).mono ?_
      rintro e w2 ⟨rfl, hb2⟩
      rw [HD.out]
      have HA2 := Lib.hid (below2 w2 (.cells (Ct.cells ⟨t1, r1, o1⟩) 23) (.cells #[.int .i64 0, .int .i64 1, .int .i64 2] 3))
      have HB2 := Lib.hid (nxt (nxt HB1.out hb2) HA2.out)
      have HC2 := Lib.hid ((HC1.out.next hb2).next HA2.out)
      have HR2 := Lib.hid ((HR1.out.next hb2).next HA2.out)
      have HT2 := Lib.hid ((HT1.out.next hb2).next HA2.out)
      have HU2 := Lib.hid (cb_first w2 ⟨t1, r1, o1⟩ (.cells #[.int .i64 0, .int .i64 1, .int .i64 2] 3))
      have HS2 := Lib.hid (three_cells (w2.alloc (.cells (Ct.cells ⟨t1, r1, o1⟩) 23)))
      rw [size_alloc1] at HS2
      clear hb2 HB1 HC1 HX1 HR1 HT1 HA2 a0 a1 a2 x0 x1
      obtain ⟨r0, r1', r2⟩ := HR2.out.cx
      simp only at r0 r1' r2
      go_wp2_with fail
      refine (rstate_any ⟨t, r, o⟩ _).mono ?_
      rintro e w3 ⟨rfl, hb3⟩
      rw [HST.out]
      have HB3 := Lib.hid (nxt HB2.out hb3)
      have HC3 := Lib.hid (HC2.out.next hb3)
      have HR3 := Lib.hid (HR2.out.next hb3)
      have HT3 := Lib.hid (HT2.out.next hb3)
      have HU3 := Lib.hid (HU2.out.next hb3)
      have HS3 := Lib.hid (three_next HS2.out hb3)
      clear hb3 HB2 HC2 HR2 HT2 HU2 HS2 r0 r1' r2
      obtain ⟨s0, s1, s2⟩ := HS3.out
      go_wp2_with fail
      clear s0 s1 s2
      refine wp_region_held_drew (S := fun w' => Below w.heap.size w w' ∧ Cb w' (w.heap.size) ⟨t, r, o⟩ ∧ Rb w' (w.heap.size + 1 + 1) ⟨t, r, o⟩ ∧ Rb w' (w1.heap.size) ⟨t1, r1, o1⟩ ∧ Cb w' (w2.heap.size) ⟨t1, r1, o1⟩) (by kernel_rfl) (⟨HB3.out.drew, HC3.out, HR3.out, HT3.out, HU3.out⟩) (fun hHeld => ?_)
      refine takeH (i := 0) (v := .pointer (some ⟨w2.heap.size, 0, none⟩)) rfl (by kernel_rfl) (by kernel_rfl) (by kernel_rfl) (fun _ _ _ h => h) (Or.inl ⟨by rfl, fun w hSw => ?_⟩) hHeld ?_
      · (clear hSw; go_simp)
      simp only [Act.put, List.setIfInBounds_toArray, List.set_cons_zero, List.set_cons_succ]
      refine takeH (i := 1) (v := .int .i64 t1) rfl (by kernel_rfl) (by kernel_rfl) (by kernel_rfl) (fun _ _ _ h => h) (Or.inl ⟨by rfl, fun w hSw => ?_⟩) hHeld ?_
      · (obtain ⟨d0, d1, d2⟩ := hSw.2.2.2.2.cx; simp only at d0 d1 d2; clear hSw; go_simp)
      simp only [Act.put, List.setIfInBounds_toArray, List.set_cons_zero, List.set_cons_succ]
      refine takeH (i := 2) (v := .pointer (some ⟨w1.heap.size, 0, none⟩)) rfl (by kernel_rfl) (by kernel_rfl) (by kernel_rfl) (fun _ _ _ h => h) (Or.inl ⟨by rfl, fun w hSw => ?_⟩) hHeld ?_
      · (clear hSw; go_simp)
      simp only [Act.put, List.setIfInBounds_toArray, List.set_cons_zero, List.set_cons_succ]
      refine takeH (i := 3) (v := .int .i64 t1) rfl (by kernel_rfl) (by kernel_rfl) (by kernel_rfl) (fun _ _ _ h => h) (Or.inl ⟨by rfl, fun w hSw => ?_⟩) hHeld ?_
      · (obtain ⟨c0, c1, c2⟩ := hSw.2.2.2.1.cx; simp only at c0 c1 c2; clear hSw; go_simp)
      simp only [Act.put, List.setIfInBounds_toArray, List.set_cons_zero, List.set_cons_succ]
      refine takeH (i := 4) (v := .bool true) rfl (by kernel_rfl) (by kernel_rfl) (by kernel_rfl) (fun _ _ _ h => h) (Or.inl ⟨by rfl, fun w hSw => ?_⟩) hHeld ?_
      · (clear hSw; go_simp)
      simp only [Act.put, List.setIfInBounds_toArray, List.set_cons_zero, List.set_cons_succ]
      refine takeH (i := 5) (v := .bool true) rfl (by kernel_rfl) (by kernel_rfl) (by kernel_rfl) (fun _ _ _ h => h) (Or.inl ⟨by rfl, fun w hSw => ?_⟩) hHeld ?_
      · (clear hSw; go_simp)
      simp only [Act.put, List.setIfInBounds_toArray, List.set_cons_zero, List.set_cons_succ]
      refine takeH (i := 6) (v := .pointer (some ⟨w2.heap.size, 1, none⟩)) rfl (by kernel_rfl) (by kernel_rfl) (by kernel_rfl) (fun _ _ _ h => h) (Or.inl ⟨by rfl, fun w hSw => ?_⟩) hHeld ?_
      · (clear hSw; go_simp)
      simp only [Act.put, List.setIfInBounds_toArray, List.set_cons_zero, List.set_cons_succ]
      refine takeH (i := 7) (v := .int .i64 r1) rfl (by kernel_rfl) (by kernel_rfl) (by kernel_rfl) (fun _ _ _ h => h) (Or.inl ⟨by rfl, fun w hSw => ?_⟩) hHeld ?_
      · (obtain ⟨d0, d1, d2⟩ := hSw.2.2.2.2.cx; simp only at d0 d1 d2; clear hSw; go_simp)
      simp only [Act.put, List.setIfInBounds_toArray, List.set_cons_zero, List.set_cons_succ]
      refine takeH (i := 8) (v := .pointer (some ⟨w1.heap.size, 1, none⟩)) rfl (by kernel_rfl) (by kernel_rfl) (by kernel_rfl) (fun _ _ _ h => h) (Or.inl ⟨by rfl, fun w hSw => ?_⟩) hHeld ?_
      · (clear hSw; go_simp)
      simp only [Act.put, List.setIfInBounds_toArray, List.set_cons_zero, List.set_cons_succ]
      refine takeH (i := 9) (v := .int .i64 r1) rfl (by kernel_rfl) (by kernel_rfl) (by kernel_rfl) (fun _ _ _ h => h) (Or.inl ⟨by rfl, fun w hSw => ?_⟩) hHeld ?_
      · (obtain ⟨c0, c1, c2⟩ := hSw.2.2.2.1.cx; simp only at c0 c1 c2; clear hSw; go_simp)
      simp only [Act.put, List.setIfInBounds_toArray, List.set_cons_zero, List.set_cons_succ]
      refine takeH (i := 10) (v := .bool true) rfl (by kernel_rfl) (by kernel_rfl) (by kernel_rfl) (fun _ _ _ h => h) (Or.inl ⟨by rfl, fun w hSw => ?_⟩) hHeld ?_
      · (clear hSw; go_simp)
      simp only [Act.put, List.setIfInBounds_toArray, List.set_cons_zero, List.set_cons_succ]
      refine takeH (i := 11) (v := .bool true) rfl (by kernel_rfl) (by kernel_rfl) (by kernel_rfl) (fun _ _ _ h => h) (Or.inl ⟨by rfl, fun w hSw => ?_⟩) hHeld ?_
      · (clear hSw; go_simp)
      simp only [Act.put, List.setIfInBounds_toArray, List.set_cons_zero, List.set_cons_succ]
      refine takeH (i := 12) (v := .bool true) rfl (by kernel_rfl) (by kernel_rfl) (by kernel_rfl) (fun _ _ _ h => h) (Or.inl ⟨by rfl, fun w hSw => ?_⟩) hHeld ?_
      · (clear hSw; go_simp)
      simp only [Act.put, List.setIfInBounds_toArray, List.set_cons_zero, List.set_cons_succ]
      refine takeH (i := 13) (v := .pointer (some ⟨w2.heap.size, 2, none⟩)) rfl (by kernel_rfl) (by kernel_rfl) (by kernel_rfl) (fun _ _ _ h => h) (Or.inl ⟨by rfl, fun w hSw => ?_⟩) hHeld ?_
      · (clear hSw; go_simp)
      simp only [Act.put, List.setIfInBounds_toArray, List.set_cons_zero, List.set_cons_succ]
      refine takeH (i := 14) (v := .bool o1) rfl (by kernel_rfl) (by kernel_rfl) (by kernel_rfl) (fun _ _ _ h => h) (Or.inl ⟨by rfl, fun w hSw => ?_⟩) hHeld ?_
      · (obtain ⟨d0, d1, d2⟩ := hSw.2.2.2.2.cx; simp only at d0 d1 d2; clear hSw; go_simp)
      simp only [Act.put, List.setIfInBounds_toArray, List.set_cons_zero, List.set_cons_succ]
      refine takeH (i := 15) (v := .pointer (some ⟨w1.heap.size, 2, none⟩)) rfl (by kernel_rfl) (by kernel_rfl) (by kernel_rfl) (fun _ _ _ h => h) (Or.inl ⟨by rfl, fun w hSw => ?_⟩) hHeld ?_
      · (clear hSw; go_simp)
      simp only [Act.put, List.setIfInBounds_toArray, List.set_cons_zero, List.set_cons_succ]
      refine takeH (i := 16) (v := .bool o1) rfl (by kernel_rfl) (by kernel_rfl) (by kernel_rfl) (fun _ _ _ h => h) (Or.inl ⟨by rfl, fun w hSw => ?_⟩) hHeld ?_
      · (obtain ⟨c0, c1, c2⟩ := hSw.2.2.2.1.cx; simp only at c0 c1 c2; clear hSw; go_simp)
      simp only [Act.put, List.setIfInBounds_toArray, List.set_cons_zero, List.set_cons_succ]
      refine takeH (i := 17) (v := .bool true) rfl (by kernel_rfl) (by kernel_rfl) (by kernel_rfl) (fun _ _ _ h => h) (Or.inl ⟨by rfl, fun w hSw => ?_⟩) hHeld ?_
      · (clear hSw; go_simp)
      simp only [Act.put, List.setIfInBounds_toArray, List.set_cons_zero, List.set_cons_succ]
      refine takeH (i := 18) (v := .bool true) rfl (by kernel_rfl) (by kernel_rfl) (by kernel_rfl) (fun _ _ _ h => h) (Or.inl ⟨by rfl, fun w hSw => ?_⟩) hHeld ?_
      · (clear hSw; go_simp)
      simp only [Act.put, List.setIfInBounds_toArray, List.set_cons_zero, List.set_cons_succ]
      refine takeH (i := 19) (v := .bool true) rfl (by kernel_rfl) (by kernel_rfl) (by kernel_rfl) (fun _ _ _ h => h) (Or.inl ⟨by rfl, fun w hSw => ?_⟩) hHeld ?_
      · (clear hSw; go_simp)
      simp only [Act.put, List.setIfInBounds_toArray, List.set_cons_zero, List.set_cons_succ]
      refine takeH (i := 20) (v := .agg #[.int .i64 t, .int .i64 r, .bool o]) rfl (by kernel_rfl) (by kernel_rfl) (by kernel_rfl) (fun _ _ _ h => h) (Or.inl ⟨by rfl, fun w hSw => ?_⟩) hHeld ?_
      · (obtain ⟨a0, a1, a2⟩ := hSw.2.1.cx; simp only at a0 a1 a2; clear hSw; go_simp)
      simp only [Act.put, List.setIfInBounds_toArray, List.set_cons_zero, List.set_cons_succ]
      refine takeH (i := 22) (v := .int .i64 0) rfl (by kernel_rfl) (by kernel_rfl) (by kernel_rfl) (fun _ _ _ h => h) (Or.inl ⟨by rfl, fun w hSw => ?_⟩) hHeld ?_
      · (clear hSw; go_simp)
      simp only [Act.put, List.setIfInBounds_toArray, List.set_cons_zero, List.set_cons_succ]
      refine wpAnyH_ready (rs := [21]) (by kernel_rfl) (by simp) ?_
      refine AllReadyH.cons rfl (fun K hK => ?_) AllReadyH.nil
      go_simp
      refine (state_any ⟨t, r, o⟩ _).mono ?_
      rintro e wz0 ⟨rfl, hbz0⟩
      have hH := hHeld
      rw [HST.out]
      have HSK := Lib.hid (And.intro (nxt hH.1 hbz0) (And.intro (hH.2.1.next hbz0) (And.intro (hH.2.2.1.next hbz0) (And.intro (hH.2.2.2.1.next hbz0) (hH.2.2.2.2.next hbz0)))))
      clear hbz0 hH
      clear hHeld
      dsimp only
      refine hK.out _ _ (HSK.out) (fun hHeld => ?_)
      clear hK K
      try simp only [Act.put, List.setIfInBounds_toArray, List.set_cons_zero, List.set_cons_succ]
      refine takeH (i := 23) (v := .bool true) rfl (by kernel_rfl) (by kernel_rfl) (by kernel_rfl) (fun _ _ _ h => h) (Or.inl ⟨by rfl, fun w hSw => ?_⟩) hHeld ?_
      · (clear hSw; go_simp)
      simp only [Act.put, List.setIfInBounds_toArray, List.set_cons_zero, List.set_cons_succ]
      refine takeH (i := 24) (v := .bool true) rfl (by kernel_rfl) (by kernel_rfl) (by kernel_rfl) (fun _ _ _ h => h) (Or.inl ⟨by rfl, fun w hSw => ?_⟩) hHeld ?_
      · (clear hSw; go_simp)
      simp only [Act.put, List.setIfInBounds_toArray, List.set_cons_zero, List.set_cons_succ]
      refine takeH (i := 25) (v := .bool true) rfl (by kernel_rfl) (by kernel_rfl) (by kernel_rfl) (fun _ _ _ h => h) (Or.inl ⟨by rfl, fun w hSw => ?_⟩) hHeld ?_
      · (clear hSw; go_simp)
      simp only [Act.put, List.setIfInBounds_toArray, List.set_cons_zero, List.set_cons_succ]
      refine takeH (i := 26) (v := .agg #[.int .i64 t, .int .i64 r, .bool o]) rfl (by kernel_rfl) (by kernel_rfl) (by kernel_rfl) (fun _ _ _ h => h) (Or.inl ⟨by rfl, fun w hSw => ?_⟩) hHeld ?_
      · (obtain ⟨a0, a1, a2⟩ := hSw.2.1.cx; simp only at a0 a1 a2; clear hSw; go_simp)
      simp only [Act.put, List.setIfInBounds_toArray, List.set_cons_zero, List.set_cons_succ]
      refine takeH (i := 29) (v := .agg #[.int .i64 t, .int .i64 r, .bool o]) rfl (by kernel_rfl) (by kernel_rfl) (by kernel_rfl) (fun _ _ _ h => h) (Or.inl ⟨by rfl, fun w hSw => ?_⟩) hHeld ?_
      · (obtain ⟨b0, b1, b2⟩ := hSw.2.2.1.cx; simp only at b0 b1 b2; clear hSw; go_simp)
      simp only [Act.put, List.setIfInBounds_toArray, List.set_cons_zero, List.set_cons_succ]
      refine wpAnyH_ready (rs := [27]) (by kernel_rfl) (by simp) ?_
      refine AllReadyH.cons rfl (fun K hK => ?_) AllReadyH.nil
      go_simp
      refine (check_any ⟨t, r, o⟩ _).mono ?_
      rintro e wz1 ⟨rfl, hbz1⟩
      have hH := hHeld
      rw [HE.out]
      have HSK := Lib.hid (And.intro (nxt hH.1 hbz1) (And.intro (hH.2.1.next hbz1) (And.intro (hH.2.2.1.next hbz1) (And.intro (hH.2.2.2.1.next hbz1) (hH.2.2.2.2.next hbz1)))))
      clear hbz1 hH
      clear hHeld
      dsimp only
      refine hK.out _ _ (HSK.out) (fun hHeld => ?_)
      clear hK K
      try simp only [Act.put, List.setIfInBounds_toArray, List.set_cons_zero, List.set_cons_succ]
      refine takeH (i := 28) (v := .bool false) rfl (by kernel_rfl) (by kernel_rfl) (by kernel_rfl) (fun _ _ _ h => h) (Or.inl ⟨by rfl, fun w hSw => ?_⟩) hHeld ?_
      · (clear hSw; go_simp)
      simp only [Act.put, List.setIfInBounds_toArray, List.set_cons_zero, List.set_cons_succ]
      refine wpAnyH_ready (rs := [30]) (by kernel_rfl) (by simp) ?_
      refine AllReadyH.cons rfl (fun K hK => ?_) AllReadyH.nil
      go_simp
      refine (rright_any ⟨t, r, o⟩ _).mono ?_
      rintro e wz2 ⟨rfl, hbz2⟩
      have hH := hHeld
      rw [HRT.out]
      have HSK := Lib.hid (And.intro (nxt hH.1 hbz2) (And.intro (hH.2.1.next hbz2) (And.intro (hH.2.2.1.next hbz2) (And.intro (hH.2.2.2.1.next hbz2) (hH.2.2.2.2.next hbz2)))))
      clear hbz2 hH
      clear hHeld
      dsimp only
      refine hK.out _ _ (HSK.out) (fun hHeld => ?_)
      clear hK K
      try simp only [Act.put, List.setIfInBounds_toArray, List.set_cons_zero, List.set_cons_succ]
      refine takeH (i := 31) (v := .bool true) rfl (by kernel_rfl) (by kernel_rfl) (by kernel_rfl) (fun _ _ _ h => h) (Or.inl ⟨by rfl, fun w hSw => ?_⟩) hHeld ?_
      · (clear hSw; go_simp)
      simp only [Act.put, List.setIfInBounds_toArray, List.set_cons_zero, List.set_cons_succ]
      refine takeH (i := 32) (v := .bool true) rfl (by kernel_rfl) (by kernel_rfl) (by kernel_rfl) (fun _ _ _ h => h) (Or.inl ⟨by rfl, fun w hSw => ?_⟩) hHeld ?_
      · (clear hSw; go_simp)
      simp only [Act.put, List.setIfInBounds_toArray, List.set_cons_zero, List.set_cons_succ]
      refine takeH (i := 33) (v := .bool true) rfl (by kernel_rfl) (by kernel_rfl) (by kernel_rfl) (fun _ _ _ h => h) (Or.inl ⟨by rfl, fun w hSw => ?_⟩) hHeld ?_
      · (clear hSw; go_simp)
      simp only [Act.put, List.setIfInBounds_toArray, List.set_cons_zero, List.set_cons_succ]
      refine takeH (i := 34) (v := .agg #[.int .i64 t, .int .i64 r, .bool o]) rfl (by kernel_rfl) (by kernel_rfl) (by kernel_rfl) (fun _ _ _ h => h) (Or.inl ⟨by rfl, fun w hSw => ?_⟩) hHeld ?_
      · (obtain ⟨a0, a1, a2⟩ := hSw.2.1.cx; simp only at a0 a1 a2; clear hSw; go_simp)
      simp only [Act.put, List.setIfInBounds_toArray, List.set_cons_zero, List.set_cons_succ]
      refine wpAnyH_ready (rs := [35]) (by kernel_rfl) (by simp) ?_
      refine AllReadyH.cons rfl (fun K hK => ?_) AllReadyH.nil
      go_simp
      refine (check_any ⟨t, r, o⟩ _).mono ?_
      rintro e wz3 ⟨rfl, hbz3⟩
      have hH := hHeld
      rw [HE.out]
      have HSK := Lib.hid (And.intro (nxt hH.1 hbz3) (And.intro (hH.2.1.next hbz3) (And.intro (hH.2.2.1.next hbz3) (And.intro (hH.2.2.2.1.next hbz3) (hH.2.2.2.2.next hbz3)))))
      clear hbz3 hH
      clear hHeld
      dsimp only
      refine hK.out _ _ (HSK.out) (fun hHeld => ?_)
      clear hK K
      try simp only [Act.put, List.setIfInBounds_toArray, List.set_cons_zero, List.set_cons_succ]
      refine takeH (i := 36) (v := .bool false) rfl (by kernel_rfl) (by kernel_rfl) (by kernel_rfl) (fun _ _ _ h => h) (Or.inl ⟨by rfl, fun w hSw => ?_⟩) hHeld ?_
      · (clear hSw; go_simp)
      simp only [Act.put, List.setIfInBounds_toArray, List.set_cons_zero, List.set_cons_succ]
      refine takeH (i := 37) (v := .bool false) rfl (by kernel_rfl) (by kernel_rfl) (by kernel_rfl) (fun _ _ _ h => h) (Or.inl ⟨by rfl, fun w hSw => ?_⟩) hHeld ?_
      · (clear hSw; go_simp)
      simp only [Act.put, List.setIfInBounds_toArray, List.set_cons_zero, List.set_cons_succ]
      refine takeH (i := 38) (v := .agg #[.int .i64 t, .int .i64 r, .bool o]) rfl (by kernel_rfl) (by kernel_rfl) (by kernel_rfl) (fun _ _ _ h => h) (Or.inl ⟨by rfl, fun w hSw => ?_⟩) hHeld ?_
      · (obtain ⟨a0, a1, a2⟩ := hSw.2.1.cx; simp only at a0 a1 a2; clear hSw; go_simp)
      simp only [Act.put, List.setIfInBounds_toArray, List.set_cons_zero, List.set_cons_succ]
      refine wpAnyH_ready (rs := [39]) (by kernel_rfl) (by simp) ?_
      refine AllReadyH.cons rfl (fun K hK => ?_) AllReadyH.nil
      go_simp
      refine (check_any ⟨t, r, o⟩ _).mono ?_
      rintro e wz4 ⟨rfl, hbz4⟩
      have hH := hHeld
      rw [HE.out]
      have HSK := Lib.hid (And.intro (nxt hH.1 hbz4) (And.intro (hH.2.1.next hbz4) (And.intro (hH.2.2.1.next hbz4) (And.intro (hH.2.2.2.1.next hbz4) (hH.2.2.2.2.next hbz4)))))
      clear hbz4 hH
      clear hHeld
      dsimp only
      refine hK.out _ _ (HSK.out) (fun hHeld => ?_)
      clear hK K
      try simp only [Act.put, List.setIfInBounds_toArray, List.set_cons_zero, List.set_cons_succ]
      refine takeH (i := 40) (v := .bool true) rfl (by kernel_rfl) (by kernel_rfl) (by kernel_rfl) (fun _ _ _ h => h) (Or.inl ⟨by rfl, fun w hSw => ?_⟩) hHeld ?_
      · (clear hSw; go_simp)
      simp only [Act.put, List.setIfInBounds_toArray, List.set_cons_zero, List.set_cons_succ]
      refine takeH (i := 41) (v := .bool true) rfl (by kernel_rfl) (by kernel_rfl) (by kernel_rfl) (fun _ _ _ h => h) (Or.inl ⟨by rfl, fun w hSw => ?_⟩) hHeld ?_
      · (clear hSw; go_simp)
      simp only [Act.put, List.setIfInBounds_toArray, List.set_cons_zero, List.set_cons_succ]
      refine takeH (i := 42) (v := .bool true) rfl (by kernel_rfl) (by kernel_rfl) (by kernel_rfl) (fun _ _ _ h => h) (Or.inl ⟨by rfl, fun w hSw => ?_⟩) hHeld ?_
      · (clear hSw; go_simp)
      simp only [Act.put, List.setIfInBounds_toArray, List.set_cons_zero, List.set_cons_succ]
      refine takeH (i := 43) (v := .bool true) rfl (by kernel_rfl) (by kernel_rfl) (by kernel_rfl) (fun _ _ _ h => h) (Or.inl ⟨by rfl, fun w hSw => ?_⟩) hHeld ?_
      · (clear hSw; go_simp)
      simp only [Act.put, List.setIfInBounds_toArray, List.set_cons_zero, List.set_cons_succ]
      refine wpAnyH_ready (rs := [44]) (by kernel_rfl) (by simp) ?_
      refine AllReadyH.cons rfl (fun K hK => ?_) AllReadyH.nil
      go_simp
      refine (awake8 _).mono ?_
      rintro e wz5 ⟨rfl, hbz5⟩
      have hH := hHeld
      have HSK := Lib.hid (And.intro (nxt hH.1 hbz5) (And.intro (hH.2.1.next hbz5) (And.intro (hH.2.2.1.next hbz5) (And.intro (hH.2.2.2.1.next hbz5) (hH.2.2.2.2.next hbz5)))))
      clear hbz5 hH
      clear hHeld
      dsimp only
      refine hK.out _ _ (HSK.out) (fun hHeld => ?_)
      clear hK K
      try simp only [Act.put, List.setIfInBounds_toArray, List.set_cons_zero, List.set_cons_succ]
      refine takeH (i := 45) (v := .bool true) rfl (by kernel_rfl) (by kernel_rfl) (by kernel_rfl) (fun _ _ _ h => h) (Or.inl ⟨by rfl, fun w hSw => ?_⟩) hHeld ?_
      · (clear hSw; go_simp)
      simp only [Act.put, List.setIfInBounds_toArray, List.set_cons_zero, List.set_cons_succ]
      refine takeH (i := 46) (v := .bool true) rfl (by kernel_rfl) (by kernel_rfl) (by kernel_rfl) (fun _ _ _ h => h) (Or.inl ⟨by rfl, fun w hSw => ?_⟩) hHeld ?_
      · (clear hSw; go_simp)
      simp only [Act.put, List.setIfInBounds_toArray, List.set_cons_zero, List.set_cons_succ]
      refine wpAnyH_done (by kernel_rfl) ?_ _
      clear hHeld
      have HF := Lib.hid HSK.out.1
      clear HSK
      go_wp2
      go_ret
      exact ⟨rfl, HF.out⟩
    · have HRT := Lib.hid hr
      have HE := Lib.hid (show c.err = 0 by unfold Ct.err; rw [hr]; rfl)
      clear hr
      obtain ⟨t, r, o⟩ := c
      obtain ⟨t1, r1, o1⟩ := d
      go_enter Try.func3, Try.ntmps3
      go_wp2_with fail
      refine (rcome_any ⟨t, r, o⟩ k x _).mono ?_
      rintro e w1 ⟨rfl, hb1⟩
      rw [HD.out]
      have HA1 := Lib.hid (below1 w1 (.cells (Ct.cells ⟨t1, r1, o1⟩) 26))
      have HB1 := Lib.hid (nxt (nxt HB.out hb1) HA1.out)
      have HC1 := Lib.hid ((HC.out.below hb1 (by simp; omega)).next HA1.out)
      have HX1 := Lib.hid (HX.out.below (nxt hb1 HA1.out))
      have HR1 := Lib.hid ((HR.out.below hb1 (by simp)).next HA1.out)
      have HT1 := Lib.hid (rb_new w1 ⟨t1, r1, o1⟩)
      clear hb1 HB HC HX HR HA1
      obtain ⟨a0, a1, a2⟩ := HC1.out.cx
      obtain ⟨x0, x1⟩ := HX1.out
      simp only at a0 a1 a2
      go_wp2_with fail
      refine (behind_any ⟨t, r, o⟩ k x _).mono ?_
      rintro e w2 ⟨rfl, hb2⟩
      rw [HD.out]
      have HA2 := Lib.hid (below2 w2 (.cells (Ct.cells ⟨t1, r1, o1⟩) 23) (.cells #[.int .i64 0, .int .i64 1, .int .i64 2] 3))
      have HB2 := Lib.hid (nxt (nxt HB1.out hb2) HA2.out)
      have HC2 := Lib.hid ((HC1.out.next hb2).next HA2.out)
      have HR2 := Lib.hid ((HR1.out.next hb2).next HA2.out)
      have HT2 := Lib.hid ((HT1.out.next hb2).next HA2.out)
      have HU2 := Lib.hid (cb_first w2 ⟨t1, r1, o1⟩ (.cells #[.int .i64 0, .int .i64 1, .int .i64 2] 3))
      have HS2 := Lib.hid (three_cells (w2.alloc (.cells (Ct.cells ⟨t1, r1, o1⟩) 23)))
      rw [size_alloc1] at HS2
      clear hb2 HB1 HC1 HX1 HR1 HT1 HA2 a0 a1 a2 x0 x1
      obtain ⟨r0, r1', r2⟩ := HR2.out.cx
      simp only at r0 r1' r2
      go_wp2_with fail
      refine (rstate_any ⟨t, r, o⟩ _).mono ?_
      rintro e w3 ⟨rfl, hb3⟩
      rw [HST.out]
      have HB3 := Lib.hid (nxt HB2.out hb3)
      have HC3 := Lib.hid (HC2.out.next hb3)
      have HR3 := Lib.hid (HR2.out.next hb3)
      have HT3 := Lib.hid (HT2.out.next hb3)
      have HU3 := Lib.hid (HU2.out.next hb3)
      have HS3 := Lib.hid (three_next HS2.out hb3)
      clear hb3 HB2 HC2 HR2 HT2 HU2 HS2 r0 r1' r2
      obtain ⟨s0, s1, s2⟩ := HS3.out
      go_wp2_with fail
      clear s0 s1 s2
      refine wp_region_held_drew (S := fun w' => Below w.heap.size w w' ∧ Cb w' (w.heap.size) ⟨t, r, o⟩ ∧ Rb w' (w.heap.size + 1 + 1) ⟨t, r, o⟩ ∧ Rb w' (w1.heap.size) ⟨t1, r1, o1⟩ ∧ Cb w' (w2.heap.size) ⟨t1, r1, o1⟩) (by kernel_rfl) (⟨HB3.out.drew, HC3.out, HR3.out, HT3.out, HU3.out⟩) (fun hHeld => ?_)
      refine takeH (i := 0) (v := .pointer (some ⟨w2.heap.size, 0, none⟩)) rfl (by kernel_rfl) (by kernel_rfl) (by kernel_rfl) (fun _ _ _ h => h) (Or.inl ⟨by rfl, fun w hSw => ?_⟩) hHeld ?_
      · (clear hSw; go_simp)
      simp only [Act.put, List.setIfInBounds_toArray, List.set_cons_zero, List.set_cons_succ]
      refine takeH (i := 1) (v := .int .i64 t1) rfl (by kernel_rfl) (by kernel_rfl) (by kernel_rfl) (fun _ _ _ h => h) (Or.inl ⟨by rfl, fun w hSw => ?_⟩) hHeld ?_
      · (obtain ⟨d0, d1, d2⟩ := hSw.2.2.2.2.cx; simp only at d0 d1 d2; clear hSw; go_simp)
      simp only [Act.put, List.setIfInBounds_toArray, List.set_cons_zero, List.set_cons_succ]
      refine takeH (i := 2) (v := .pointer (some ⟨w1.heap.size, 0, none⟩)) rfl (by kernel_rfl) (by kernel_rfl) (by kernel_rfl) (fun _ _ _ h => h) (Or.inl ⟨by rfl, fun w hSw => ?_⟩) hHeld ?_
      · (clear hSw; go_simp)
      simp only [Act.put, List.setIfInBounds_toArray, List.set_cons_zero, List.set_cons_succ]
      refine takeH (i := 3) (v := .int .i64 t1) rfl (by kernel_rfl) (by kernel_rfl) (by kernel_rfl) (fun _ _ _ h => h) (Or.inl ⟨by rfl, fun w hSw => ?_⟩) hHeld ?_
      · (obtain ⟨c0, c1, c2⟩ := hSw.2.2.2.1.cx; simp only at c0 c1 c2; clear hSw; go_simp)
      simp only [Act.put, List.setIfInBounds_toArray, List.set_cons_zero, List.set_cons_succ]
      refine takeH (i := 4) (v := .bool true) rfl (by kernel_rfl) (by kernel_rfl) (by kernel_rfl) (fun _ _ _ h => h) (Or.inl ⟨by rfl, fun w hSw => ?_⟩) hHeld ?_
      · (clear hSw; go_simp)
      simp only [Act.put, List.setIfInBounds_toArray, List.set_cons_zero, List.set_cons_succ]
      refine takeH (i := 5) (v := .bool true) rfl (by kernel_rfl) (by kernel_rfl) (by kernel_rfl) (fun _ _ _ h => h) (Or.inl ⟨by rfl, fun w hSw => ?_⟩) hHeld ?_
      · (clear hSw; go_simp)
      simp only [Act.put, List.setIfInBounds_toArray, List.set_cons_zero, List.set_cons_succ]
      refine takeH (i := 6) (v := .pointer (some ⟨w2.heap.size, 1, none⟩)) rfl (by kernel_rfl) (by kernel_rfl) (by kernel_rfl) (fun _ _ _ h => h) (Or.inl ⟨by rfl, fun w hSw => ?_⟩) hHeld ?_
      · (clear hSw; go_simp)
      simp only [Act.put, List.setIfInBounds_toArray, List.set_cons_zero, List.set_cons_succ]
      refine takeH (i := 7) (v := .int .i64 r1) rfl (by kernel_rfl) (by kernel_rfl) (by kernel_rfl) (fun _ _ _ h => h) (Or.inl ⟨by rfl, fun w hSw => ?_⟩) hHeld ?_
      · (obtain ⟨d0, d1, d2⟩ := hSw.2.2.2.2.cx; simp only at d0 d1 d2; clear hSw; go_simp)
      simp only [Act.put, List.setIfInBounds_toArray, List.set_cons_zero, List.set_cons_succ]
      refine takeH (i := 8) (v := .pointer (some ⟨w1.heap.size, 1, none⟩)) rfl (by kernel_rfl) (by kernel_rfl) (by kernel_rfl) (fun _ _ _ h => h) (Or.inl ⟨by rfl, fun w hSw => ?_⟩) hHeld ?_
      · (clear hSw; go_simp)
      simp only [Act.put, List.setIfInBounds_toArray, List.set_cons_zero, List.set_cons_succ]
      refine takeH (i := 9) (v := .int .i64 r1) rfl (by kernel_rfl) (by kernel_rfl) (by kernel_rfl) (fun _ _ _ h => h) (Or.inl ⟨by rfl, fun w hSw => ?_⟩) hHeld ?_
      · (obtain ⟨c0, c1, c2⟩ := hSw.2.2.2.1.cx; simp only at c0 c1 c2; clear hSw; go_simp)
      simp only [Act.put, List.setIfInBounds_toArray, List.set_cons_zero, List.set_cons_succ]
      refine takeH (i := 10) (v := .bool true) rfl (by kernel_rfl) (by kernel_rfl) (by kernel_rfl) (fun _ _ _ h => h) (Or.inl ⟨by rfl, fun w hSw => ?_⟩) hHeld ?_
      · (clear hSw; go_simp)
      simp only [Act.put, List.setIfInBounds_toArray, List.set_cons_zero, List.set_cons_succ]
      refine takeH (i := 11) (v := .bool true) rfl (by kernel_rfl) (by kernel_rfl) (by kernel_rfl) (fun _ _ _ h => h) (Or.inl ⟨by rfl, fun w hSw => ?_⟩) hHeld ?_
      · (clear hSw; go_simp)
      simp only [Act.put, List.setIfInBounds_toArray, List.set_cons_zero, List.set_cons_succ]
      refine takeH (i := 12) (v := .bool true) rfl (by kernel_rfl) (by kernel_rfl) (by kernel_rfl) (fun _ _ _ h => h) (Or.inl ⟨by rfl, fun w hSw => ?_⟩) hHeld ?_
      · (clear hSw; go_simp)
      simp only [Act.put, List.setIfInBounds_toArray, List.set_cons_zero, List.set_cons_succ]
      refine takeH (i := 13) (v := .pointer (some ⟨w2.heap.size, 2, none⟩)) rfl (by kernel_rfl) (by kernel_rfl) (by kernel_rfl) (fun _ _ _ h => h) (Or.inl ⟨by rfl, fun w hSw => ?_⟩) hHeld ?_
      · (clear hSw; go_simp)
      simp only [Act.put, List.setIfInBounds_toArray, List.set_cons_zero, List.set_cons_succ]
      refine takeH (i := 14) (v := .bool o1) rfl (by kernel_rfl) (by kernel_rfl) (by kernel_rfl) (fun _ _ _ h => h) (Or.inl ⟨by rfl, fun w hSw => ?_⟩) hHeld ?_
      · (obtain ⟨d0, d1, d2⟩ := hSw.2.2.2.2.cx; simp only at d0 d1 d2; clear hSw; go_simp)
      simp only [Act.put, List.setIfInBounds_toArray, List.set_cons_zero, List.set_cons_succ]
      refine takeH (i := 15) (v := .pointer (some ⟨w1.heap.size, 2, none⟩)) rfl (by kernel_rfl) (by kernel_rfl) (by kernel_rfl) (fun _ _ _ h => h) (Or.inl ⟨by rfl, fun w hSw => ?_⟩) hHeld ?_
      · (clear hSw; go_simp)
      simp only [Act.put, List.setIfInBounds_toArray, List.set_cons_zero, List.set_cons_succ]
      refine takeH (i := 16) (v := .bool o1) rfl (by kernel_rfl) (by kernel_rfl) (by kernel_rfl) (fun _ _ _ h => h) (Or.inl ⟨by rfl, fun w hSw => ?_⟩) hHeld ?_
      · (obtain ⟨c0, c1, c2⟩ := hSw.2.2.2.1.cx; simp only at c0 c1 c2; clear hSw; go_simp)
      simp only [Act.put, List.setIfInBounds_toArray, List.set_cons_zero, List.set_cons_succ]
      refine takeH (i := 17) (v := .bool true) rfl (by kernel_rfl) (by kernel_rfl) (by kernel_rfl) (fun _ _ _ h => h) (Or.inl ⟨by rfl, fun w hSw => ?_⟩) hHeld ?_
      · (clear hSw; go_simp)
      simp only [Act.put, List.setIfInBounds_toArray, List.set_cons_zero, List.set_cons_succ]
      refine takeH (i := 18) (v := .bool true) rfl (by kernel_rfl) (by kernel_rfl) (by kernel_rfl) (fun _ _ _ h => h) (Or.inl ⟨by rfl, fun w hSw => ?_⟩) hHeld ?_
      · (clear hSw; go_simp)
      simp only [Act.put, List.setIfInBounds_toArray, List.set_cons_zero, List.set_cons_succ]
      refine takeH (i := 19) (v := .bool true) rfl (by kernel_rfl) (by kernel_rfl) (by kernel_rfl) (fun _ _ _ h => h) (Or.inl ⟨by rfl, fun w hSw => ?_⟩) hHeld ?_
      · (clear hSw; go_simp)
      simp only [Act.put, List.setIfInBounds_toArray, List.set_cons_zero, List.set_cons_succ]
      refine takeH (i := 20) (v := .agg #[.int .i64 t, .int .i64 r, .bool o]) rfl (by kernel_rfl) (by kernel_rfl) (by kernel_rfl) (fun _ _ _ h => h) (Or.inl ⟨by rfl, fun w hSw => ?_⟩) hHeld ?_
      · (obtain ⟨a0, a1, a2⟩ := hSw.2.1.cx; simp only at a0 a1 a2; clear hSw; go_simp)
      simp only [Act.put, List.setIfInBounds_toArray, List.set_cons_zero, List.set_cons_succ]
      refine takeH (i := 22) (v := .int .i64 0) rfl (by kernel_rfl) (by kernel_rfl) (by kernel_rfl) (fun _ _ _ h => h) (Or.inl ⟨by rfl, fun w hSw => ?_⟩) hHeld ?_
      · (clear hSw; go_simp)
      simp only [Act.put, List.setIfInBounds_toArray, List.set_cons_zero, List.set_cons_succ]
      refine wpAnyH_ready (rs := [21]) (by kernel_rfl) (by simp) ?_
      refine AllReadyH.cons rfl (fun K hK => ?_) AllReadyH.nil
      go_simp
      refine (state_any ⟨t, r, o⟩ _).mono ?_
      rintro e wz0 ⟨rfl, hbz0⟩
      have hH := hHeld
      rw [HST.out]
      have HSK := Lib.hid (And.intro (nxt hH.1 hbz0) (And.intro (hH.2.1.next hbz0) (And.intro (hH.2.2.1.next hbz0) (And.intro (hH.2.2.2.1.next hbz0) (hH.2.2.2.2.next hbz0)))))
      clear hbz0 hH
      clear hHeld
      dsimp only
      refine hK.out _ _ (HSK.out) (fun hHeld => ?_)
      clear hK K
      try simp only [Act.put, List.setIfInBounds_toArray, List.set_cons_zero, List.set_cons_succ]
      refine takeH (i := 23) (v := .bool true) rfl (by kernel_rfl) (by kernel_rfl) (by kernel_rfl) (fun _ _ _ h => h) (Or.inl ⟨by rfl, fun w hSw => ?_⟩) hHeld ?_
      · (clear hSw; go_simp)
      simp only [Act.put, List.setIfInBounds_toArray, List.set_cons_zero, List.set_cons_succ]
      refine takeH (i := 24) (v := .bool true) rfl (by kernel_rfl) (by kernel_rfl) (by kernel_rfl) (fun _ _ _ h => h) (Or.inl ⟨by rfl, fun w hSw => ?_⟩) hHeld ?_
      · (clear hSw; go_simp)
      simp only [Act.put, List.setIfInBounds_toArray, List.set_cons_zero, List.set_cons_succ]
      refine takeH (i := 25) (v := .bool true) rfl (by kernel_rfl) (by kernel_rfl) (by kernel_rfl) (fun _ _ _ h => h) (Or.inl ⟨by rfl, fun w hSw => ?_⟩) hHeld ?_
      · (clear hSw; go_simp)
      simp only [Act.put, List.setIfInBounds_toArray, List.set_cons_zero, List.set_cons_succ]
      refine takeH (i := 26) (v := .agg #[.int .i64 t, .int .i64 r, .bool o]) rfl (by kernel_rfl) (by kernel_rfl) (by kernel_rfl) (fun _ _ _ h => h) (Or.inl ⟨by rfl, fun w hSw => ?_⟩) hHeld ?_
      · (obtain ⟨a0, a1, a2⟩ := hSw.2.1.cx; simp only at a0 a1 a2; clear hSw; go_simp)
      simp only [Act.put, List.setIfInBounds_toArray, List.set_cons_zero, List.set_cons_succ]
      refine takeH (i := 29) (v := .agg #[.int .i64 t, .int .i64 r, .bool o]) rfl (by kernel_rfl) (by kernel_rfl) (by kernel_rfl) (fun _ _ _ h => h) (Or.inl ⟨by rfl, fun w hSw => ?_⟩) hHeld ?_
      · (obtain ⟨b0, b1, b2⟩ := hSw.2.2.1.cx; simp only at b0 b1 b2; clear hSw; go_simp)
      simp only [Act.put, List.setIfInBounds_toArray, List.set_cons_zero, List.set_cons_succ]
      refine wpAnyH_ready (rs := [27]) (by kernel_rfl) (by simp) ?_
      refine AllReadyH.cons rfl (fun K hK => ?_) AllReadyH.nil
      go_simp
      refine (check_any ⟨t, r, o⟩ _).mono ?_
      rintro e wz1 ⟨rfl, hbz1⟩
      have hH := hHeld
      rw [HE.out]
      have HSK := Lib.hid (And.intro (nxt hH.1 hbz1) (And.intro (hH.2.1.next hbz1) (And.intro (hH.2.2.1.next hbz1) (And.intro (hH.2.2.2.1.next hbz1) (hH.2.2.2.2.next hbz1)))))
      clear hbz1 hH
      clear hHeld
      dsimp only
      refine hK.out _ _ (HSK.out) (fun hHeld => ?_)
      clear hK K
      try simp only [Act.put, List.setIfInBounds_toArray, List.set_cons_zero, List.set_cons_succ]
      refine takeH (i := 28) (v := .bool true) rfl (by kernel_rfl) (by kernel_rfl) (by kernel_rfl) (fun _ _ _ h => h) (Or.inl ⟨by rfl, fun w hSw => ?_⟩) hHeld ?_
      · (clear hSw; go_simp)
      simp only [Act.put, List.setIfInBounds_toArray, List.set_cons_zero, List.set_cons_succ]
      refine wpAnyH_ready (rs := [30]) (by kernel_rfl) (by simp) ?_
      refine AllReadyH.cons rfl (fun K hK => ?_) AllReadyH.nil
      go_simp
      refine (rright_any ⟨t, r, o⟩ _).mono ?_
      rintro e wz2 ⟨rfl, hbz2⟩
      have hH := hHeld
      rw [HRT.out]
      have HSK := Lib.hid (And.intro (nxt hH.1 hbz2) (And.intro (hH.2.1.next hbz2) (And.intro (hH.2.2.1.next hbz2) (And.intro (hH.2.2.2.1.next hbz2) (hH.2.2.2.2.next hbz2)))))
      clear hbz2 hH
      clear hHeld
      dsimp only
      refine hK.out _ _ (HSK.out) (fun hHeld => ?_)
      clear hK K
      try simp only [Act.put, List.setIfInBounds_toArray, List.set_cons_zero, List.set_cons_succ]
      refine takeH (i := 31) (v := .bool true) rfl (by kernel_rfl) (by kernel_rfl) (by kernel_rfl) (fun _ _ _ h => h) (Or.inl ⟨by rfl, fun w hSw => ?_⟩) hHeld ?_
      · (clear hSw; go_simp)
      simp only [Act.put, List.setIfInBounds_toArray, List.set_cons_zero, List.set_cons_succ]
      refine takeH (i := 32) (v := .bool true) rfl (by kernel_rfl) (by kernel_rfl) (by kernel_rfl) (fun _ _ _ h => h) (Or.inl ⟨by rfl, fun w hSw => ?_⟩) hHeld ?_
      · (clear hSw; go_simp)
      simp only [Act.put, List.setIfInBounds_toArray, List.set_cons_zero, List.set_cons_succ]
      refine takeH (i := 33) (v := .bool true) rfl (by kernel_rfl) (by kernel_rfl) (by kernel_rfl) (fun _ _ _ h => h) (Or.inl ⟨by rfl, fun w hSw => ?_⟩) hHeld ?_
      · (clear hSw; go_simp)
      simp only [Act.put, List.setIfInBounds_toArray, List.set_cons_zero, List.set_cons_succ]
      refine takeH (i := 34) (v := .agg #[.int .i64 t, .int .i64 r, .bool o]) rfl (by kernel_rfl) (by kernel_rfl) (by kernel_rfl) (fun _ _ _ h => h) (Or.inl ⟨by rfl, fun w hSw => ?_⟩) hHeld ?_
      · (obtain ⟨a0, a1, a2⟩ := hSw.2.1.cx; simp only at a0 a1 a2; clear hSw; go_simp)
      simp only [Act.put, List.setIfInBounds_toArray, List.set_cons_zero, List.set_cons_succ]
      refine wpAnyH_ready (rs := [35]) (by kernel_rfl) (by simp) ?_
      refine AllReadyH.cons rfl (fun K hK => ?_) AllReadyH.nil
      go_simp
      refine (check_any ⟨t, r, o⟩ _).mono ?_
      rintro e wz3 ⟨rfl, hbz3⟩
      have hH := hHeld
      rw [HE.out]
      have HSK := Lib.hid (And.intro (nxt hH.1 hbz3) (And.intro (hH.2.1.next hbz3) (And.intro (hH.2.2.1.next hbz3) (And.intro (hH.2.2.2.1.next hbz3) (hH.2.2.2.2.next hbz3)))))
      clear hbz3 hH
      clear hHeld
      dsimp only
      refine hK.out _ _ (HSK.out) (fun hHeld => ?_)
      clear hK K
      try simp only [Act.put, List.setIfInBounds_toArray, List.set_cons_zero, List.set_cons_succ]
      refine takeH (i := 36) (v := .bool true) rfl (by kernel_rfl) (by kernel_rfl) (by kernel_rfl) (fun _ _ _ h => h) (Or.inl ⟨by rfl, fun w hSw => ?_⟩) hHeld ?_
      · (clear hSw; go_simp)
      simp only [Act.put, List.setIfInBounds_toArray, List.set_cons_zero, List.set_cons_succ]
      refine takeH (i := 37) (v := .bool true) rfl (by kernel_rfl) (by kernel_rfl) (by kernel_rfl) (fun _ _ _ h => h) (Or.inl ⟨by rfl, fun w hSw => ?_⟩) hHeld ?_
      · (clear hSw; go_simp)
      simp only [Act.put, List.setIfInBounds_toArray, List.set_cons_zero, List.set_cons_succ]
      refine takeH (i := 38) (v := undef) rfl (by kernel_rfl) (by kernel_rfl) (by kernel_rfl) (fun _ _ _ h => h) (Or.inr ⟨by rfl, rfl⟩) hHeld ?_
      simp only [Act.put, List.setIfInBounds_toArray, List.set_cons_zero, List.set_cons_succ]
      refine takeH (i := 39) (v := undef) rfl (by kernel_rfl) (by kernel_rfl) (by kernel_rfl) (fun _ _ _ h => h) (Or.inr ⟨by rfl, rfl⟩) hHeld ?_
      simp only [Act.put, List.setIfInBounds_toArray, List.set_cons_zero, List.set_cons_succ]
      refine takeH (i := 40) (v := undef) rfl (by kernel_rfl) (by kernel_rfl) (by kernel_rfl) (fun _ _ _ h => h) (Or.inr ⟨by rfl, rfl⟩) hHeld ?_
      simp only [Act.put, List.setIfInBounds_toArray, List.set_cons_zero, List.set_cons_succ]
      refine takeH (i := 41) (v := .bool true) rfl (by kernel_rfl) (by kernel_rfl) (by kernel_rfl) (fun _ _ _ h => h) (Or.inl ⟨by rfl, fun w hSw => ?_⟩) hHeld ?_
      · (clear hSw; go_simp)
      simp only [Act.put, List.setIfInBounds_toArray, List.set_cons_zero, List.set_cons_succ]
      refine takeH (i := 42) (v := .bool true) rfl (by kernel_rfl) (by kernel_rfl) (by kernel_rfl) (fun _ _ _ h => h) (Or.inl ⟨by rfl, fun w hSw => ?_⟩) hHeld ?_
      · (clear hSw; go_simp)
      simp only [Act.put, List.setIfInBounds_toArray, List.set_cons_zero, List.set_cons_succ]
      refine takeH (i := 43) (v := .bool true) rfl (by kernel_rfl) (by kernel_rfl) (by kernel_rfl) (fun _ _ _ h => h) (Or.inl ⟨by rfl, fun w hSw => ?_⟩) hHeld ?_
      · (clear hSw; go_simp)
      simp only [Act.put, List.setIfInBounds_toArray, List.set_cons_zero, List.set_cons_succ]
      refine wpAnyH_ready (rs := [44]) (by kernel_rfl) (by simp) ?_
      refine AllReadyH.cons rfl (fun K hK => ?_) AllReadyH.nil
      go_simp
      refine (awake8 _).mono ?_
      rintro e wz4 ⟨rfl, hbz4⟩
      have hH := hHeld
      have HSK := Lib.hid (And.intro (nxt hH.1 hbz4) (And.intro (hH.2.1.next hbz4) (And.intro (hH.2.2.1.next hbz4) (And.intro (hH.2.2.2.1.next hbz4) (hH.2.2.2.2.next hbz4)))))
      clear hbz4 hH
      clear hHeld
      dsimp only
      refine hK.out _ _ (HSK.out) (fun hHeld => ?_)
      clear hK K
      try simp only [Act.put, List.setIfInBounds_toArray, List.set_cons_zero, List.set_cons_succ]
      refine takeH (i := 45) (v := .bool true) rfl (by kernel_rfl) (by kernel_rfl) (by kernel_rfl) (fun _ _ _ h => h) (Or.inl ⟨by rfl, fun w hSw => ?_⟩) hHeld ?_
      · (clear hSw; go_simp)
      simp only [Act.put, List.setIfInBounds_toArray, List.set_cons_zero, List.set_cons_succ]
      refine takeH (i := 46) (v := .bool true) rfl (by kernel_rfl) (by kernel_rfl) (by kernel_rfl) (fun _ _ _ h => h) (Or.inl ⟨by rfl, fun w hSw => ?_⟩) hHeld ?_
      · (clear hSw; go_simp)
      simp only [Act.put, List.setIfInBounds_toArray, List.set_cons_zero, List.set_cons_succ]
      refine wpAnyH_done (by kernel_rfl) ?_ _
      clear hHeld
      have HF := Lib.hid HSK.out.1
      clear HSK
      go_wp2
      go_ret
      exact ⟨rfl, HF.out⟩
  · have HST := Lib.hid hs
    clear hs
    cases hr : c.right
    · have HRT := Lib.hid hr
      have HE := Lib.hid (show c.err = 10 by unfold Ct.err; rw [hr]; rfl)
      clear hr
      obtain ⟨t, r, o⟩ := c
      obtain ⟨t1, r1, o1⟩ := d
      go_enter Try.func3, Try.ntmps3
      go_wp2_with fail
      refine (rcome_any ⟨t, r, o⟩ k x _).mono ?_
      rintro e w1 ⟨rfl, hb1⟩
      rw [HD.out]
      have HA1 := Lib.hid (below1 w1 (.cells (Ct.cells ⟨t1, r1, o1⟩) 26))
      have HB1 := Lib.hid (nxt (nxt HB.out hb1) HA1.out)
      have HC1 := Lib.hid ((HC.out.below hb1 (by simp; omega)).next HA1.out)
      have HX1 := Lib.hid (HX.out.below (nxt hb1 HA1.out))
      have HR1 := Lib.hid ((HR.out.below hb1 (by simp)).next HA1.out)
      have HT1 := Lib.hid (rb_new w1 ⟨t1, r1, o1⟩)
      clear hb1 HB HC HX HR HA1
      obtain ⟨a0, a1, a2⟩ := HC1.out.cx
      obtain ⟨x0, x1⟩ := HX1.out
      simp only at a0 a1 a2
      go_wp2_with fail
      refine (behind_any ⟨t, r, o⟩ k x _).mono ?_
      rintro e w2 ⟨rfl, hb2⟩
      rw [HD.out]
      have HA2 := Lib.hid (below2 w2 (.cells (Ct.cells ⟨t1, r1, o1⟩) 23) (.cells #[.int .i64 0, .int .i64 1, .int .i64 2] 3))
      have HB2 := Lib.hid (nxt (nxt HB1.out hb2) HA2.out)
      have HC2 := Lib.hid ((HC1.out.next hb2).next HA2.out)
      have HR2 := Lib.hid ((HR1.out.next hb2).next HA2.out)
      have HT2 := Lib.hid ((HT1.out.next hb2).next HA2.out)
      have HU2 := Lib.hid (cb_first w2 ⟨t1, r1, o1⟩ (.cells #[.int .i64 0, .int .i64 1, .int .i64 2] 3))
      have HS2 := Lib.hid (three_cells (w2.alloc (.cells (Ct.cells ⟨t1, r1, o1⟩) 23)))
      rw [size_alloc1] at HS2
      clear hb2 HB1 HC1 HX1 HR1 HT1 HA2 a0 a1 a2 x0 x1
      obtain ⟨r0, r1', r2⟩ := HR2.out.cx
      simp only at r0 r1' r2
      go_wp2_with fail
      refine (rstate_any ⟨t, r, o⟩ _).mono ?_
      rintro e w3 ⟨rfl, hb3⟩
      rw [HST.out]
      have HB3 := Lib.hid (nxt HB2.out hb3)
      have HC3 := Lib.hid (HC2.out.next hb3)
      have HR3 := Lib.hid (HR2.out.next hb3)
      have HT3 := Lib.hid (HT2.out.next hb3)
      have HU3 := Lib.hid (HU2.out.next hb3)
      have HS3 := Lib.hid (three_next HS2.out hb3)
      clear hb3 HB2 HC2 HR2 HT2 HU2 HS2 r0 r1' r2
      obtain ⟨s0, s1, s2⟩ := HS3.out
      go_wp2_with fail
      clear s0 s1 s2
      refine wp_region_held_drew (S := fun w' => Below w.heap.size w w' ∧ Cb w' (w.heap.size) ⟨t, r, o⟩ ∧ Rb w' (w.heap.size + 1 + 1) ⟨t, r, o⟩ ∧ Rb w' (w1.heap.size) ⟨t1, r1, o1⟩ ∧ Cb w' (w2.heap.size) ⟨t1, r1, o1⟩) (by kernel_rfl) (⟨HB3.out.drew, HC3.out, HR3.out, HT3.out, HU3.out⟩) (fun hHeld => ?_)
      refine takeH (i := 0) (v := .pointer (some ⟨w2.heap.size, 0, none⟩)) rfl (by kernel_rfl) (by kernel_rfl) (by kernel_rfl) (fun _ _ _ h => h) (Or.inl ⟨by rfl, fun w hSw => ?_⟩) hHeld ?_
      · (clear hSw; go_simp)
      simp only [Act.put, List.setIfInBounds_toArray, List.set_cons_zero, List.set_cons_succ]
      refine takeH (i := 1) (v := .int .i64 t1) rfl (by kernel_rfl) (by kernel_rfl) (by kernel_rfl) (fun _ _ _ h => h) (Or.inl ⟨by rfl, fun w hSw => ?_⟩) hHeld ?_
      · (obtain ⟨d0, d1, d2⟩ := hSw.2.2.2.2.cx; simp only at d0 d1 d2; clear hSw; go_simp)
      simp only [Act.put, List.setIfInBounds_toArray, List.set_cons_zero, List.set_cons_succ]
      refine takeH (i := 2) (v := .pointer (some ⟨w1.heap.size, 0, none⟩)) rfl (by kernel_rfl) (by kernel_rfl) (by kernel_rfl) (fun _ _ _ h => h) (Or.inl ⟨by rfl, fun w hSw => ?_⟩) hHeld ?_
      · (clear hSw; go_simp)
      simp only [Act.put, List.setIfInBounds_toArray, List.set_cons_zero, List.set_cons_succ]
      refine takeH (i := 3) (v := .int .i64 t1) rfl (by kernel_rfl) (by kernel_rfl) (by kernel_rfl) (fun _ _ _ h => h) (Or.inl ⟨by rfl, fun w hSw => ?_⟩) hHeld ?_
      · (obtain ⟨c0, c1, c2⟩ := hSw.2.2.2.1.cx; simp only at c0 c1 c2; clear hSw; go_simp)
      simp only [Act.put, List.setIfInBounds_toArray, List.set_cons_zero, List.set_cons_succ]
      refine takeH (i := 4) (v := .bool true) rfl (by kernel_rfl) (by kernel_rfl) (by kernel_rfl) (fun _ _ _ h => h) (Or.inl ⟨by rfl, fun w hSw => ?_⟩) hHeld ?_
      · (clear hSw; go_simp)
      simp only [Act.put, List.setIfInBounds_toArray, List.set_cons_zero, List.set_cons_succ]
      refine takeH (i := 5) (v := .bool true) rfl (by kernel_rfl) (by kernel_rfl) (by kernel_rfl) (fun _ _ _ h => h) (Or.inl ⟨by rfl, fun w hSw => ?_⟩) hHeld ?_
      · (clear hSw; go_simp)
      simp only [Act.put, List.setIfInBounds_toArray, List.set_cons_zero, List.set_cons_succ]
      refine takeH (i := 6) (v := .pointer (some ⟨w2.heap.size, 1, none⟩)) rfl (by kernel_rfl) (by kernel_rfl) (by kernel_rfl) (fun _ _ _ h => h) (Or.inl ⟨by rfl, fun w hSw => ?_⟩) hHeld ?_
      · (clear hSw; go_simp)
      simp only [Act.put, List.setIfInBounds_toArray, List.set_cons_zero, List.set_cons_succ]
      refine takeH (i := 7) (v := .int .i64 r1) rfl (by kernel_rfl) (by kernel_rfl) (by kernel_rfl) (fun _ _ _ h => h) (Or.inl ⟨by rfl, fun w hSw => ?_⟩) hHeld ?_
      · (obtain ⟨d0, d1, d2⟩ := hSw.2.2.2.2.cx; simp only at d0 d1 d2; clear hSw; go_simp)
      simp only [Act.put, List.setIfInBounds_toArray, List.set_cons_zero, List.set_cons_succ]
      refine takeH (i := 8) (v := .pointer (some ⟨w1.heap.size, 1, none⟩)) rfl (by kernel_rfl) (by kernel_rfl) (by kernel_rfl) (fun _ _ _ h => h) (Or.inl ⟨by rfl, fun w hSw => ?_⟩) hHeld ?_
      · (clear hSw; go_simp)
      simp only [Act.put, List.setIfInBounds_toArray, List.set_cons_zero, List.set_cons_succ]
      refine takeH (i := 9) (v := .int .i64 r1) rfl (by kernel_rfl) (by kernel_rfl) (by kernel_rfl) (fun _ _ _ h => h) (Or.inl ⟨by rfl, fun w hSw => ?_⟩) hHeld ?_
      · (obtain ⟨c0, c1, c2⟩ := hSw.2.2.2.1.cx; simp only at c0 c1 c2; clear hSw; go_simp)
      simp only [Act.put, List.setIfInBounds_toArray, List.set_cons_zero, List.set_cons_succ]
      refine takeH (i := 10) (v := .bool true) rfl (by kernel_rfl) (by kernel_rfl) (by kernel_rfl) (fun _ _ _ h => h) (Or.inl ⟨by rfl, fun w hSw => ?_⟩) hHeld ?_
      · (clear hSw; go_simp)
      simp only [Act.put, List.setIfInBounds_toArray, List.set_cons_zero, List.set_cons_succ]
      refine takeH (i := 11) (v := .bool true) rfl (by kernel_rfl) (by kernel_rfl) (by kernel_rfl) (fun _ _ _ h => h) (Or.inl ⟨by rfl, fun w hSw => ?_⟩) hHeld ?_
      · (clear hSw; go_simp)
      simp only [Act.put, List.setIfInBounds_toArray, List.set_cons_zero, List.set_cons_succ]
      refine takeH (i := 12) (v := .bool true) rfl (by kernel_rfl) (by kernel_rfl) (by kernel_rfl) (fun _ _ _ h => h) (Or.inl ⟨by rfl, fun w hSw => ?_⟩) hHeld ?_
      · (clear hSw; go_simp)
      simp only [Act.put, List.setIfInBounds_toArray, List.set_cons_zero, List.set_cons_succ]
      refine takeH (i := 13) (v := .pointer (some ⟨w2.heap.size, 2, none⟩)) rfl (by kernel_rfl) (by kernel_rfl) (by kernel_rfl) (fun _ _ _ h => h) (Or.inl ⟨by rfl, fun w hSw => ?_⟩) hHeld ?_
      · (clear hSw; go_simp)
      simp only [Act.put, List.setIfInBounds_toArray, List.set_cons_zero, List.set_cons_succ]
      refine takeH (i := 14) (v := .bool o1) rfl (by kernel_rfl) (by kernel_rfl) (by kernel_rfl) (fun _ _ _ h => h) (Or.inl ⟨by rfl, fun w hSw => ?_⟩) hHeld ?_
      · (obtain ⟨d0, d1, d2⟩ := hSw.2.2.2.2.cx; simp only at d0 d1 d2; clear hSw; go_simp)
      simp only [Act.put, List.setIfInBounds_toArray, List.set_cons_zero, List.set_cons_succ]
      refine takeH (i := 15) (v := .pointer (some ⟨w1.heap.size, 2, none⟩)) rfl (by kernel_rfl) (by kernel_rfl) (by kernel_rfl) (fun _ _ _ h => h) (Or.inl ⟨by rfl, fun w hSw => ?_⟩) hHeld ?_
      · (clear hSw; go_simp)
      simp only [Act.put, List.setIfInBounds_toArray, List.set_cons_zero, List.set_cons_succ]
      refine takeH (i := 16) (v := .bool o1) rfl (by kernel_rfl) (by kernel_rfl) (by kernel_rfl) (fun _ _ _ h => h) (Or.inl ⟨by rfl, fun w hSw => ?_⟩) hHeld ?_
      · (obtain ⟨c0, c1, c2⟩ := hSw.2.2.2.1.cx; simp only at c0 c1 c2; clear hSw; go_simp)
      simp only [Act.put, List.setIfInBounds_toArray, List.set_cons_zero, List.set_cons_succ]
      refine takeH (i := 17) (v := .bool true) rfl (by kernel_rfl) (by kernel_rfl) (by kernel_rfl) (fun _ _ _ h => h) (Or.inl ⟨by rfl, fun w hSw => ?_⟩) hHeld ?_
      · (clear hSw; go_simp)
      simp only [Act.put, List.setIfInBounds_toArray, List.set_cons_zero, List.set_cons_succ]
      refine takeH (i := 18) (v := .bool true) rfl (by kernel_rfl) (by kernel_rfl) (by kernel_rfl) (fun _ _ _ h => h) (Or.inl ⟨by rfl, fun w hSw => ?_⟩) hHeld ?_
      · (clear hSw; go_simp)
      simp only [Act.put, List.setIfInBounds_toArray, List.set_cons_zero, List.set_cons_succ]
      refine takeH (i := 19) (v := .bool true) rfl (by kernel_rfl) (by kernel_rfl) (by kernel_rfl) (fun _ _ _ h => h) (Or.inl ⟨by rfl, fun w hSw => ?_⟩) hHeld ?_
      · (clear hSw; go_simp)
      simp only [Act.put, List.setIfInBounds_toArray, List.set_cons_zero, List.set_cons_succ]
      refine takeH (i := 20) (v := .agg #[.int .i64 t, .int .i64 r, .bool o]) rfl (by kernel_rfl) (by kernel_rfl) (by kernel_rfl) (fun _ _ _ h => h) (Or.inl ⟨by rfl, fun w hSw => ?_⟩) hHeld ?_
      · (obtain ⟨a0, a1, a2⟩ := hSw.2.1.cx; simp only at a0 a1 a2; clear hSw; go_simp)
      simp only [Act.put, List.setIfInBounds_toArray, List.set_cons_zero, List.set_cons_succ]
      refine takeH (i := 22) (v := .int .i64 1) rfl (by kernel_rfl) (by kernel_rfl) (by kernel_rfl) (fun _ _ _ h => h) (Or.inl ⟨by rfl, fun w hSw => ?_⟩) hHeld ?_
      · (clear hSw; go_simp)
      simp only [Act.put, List.setIfInBounds_toArray, List.set_cons_zero, List.set_cons_succ]
      refine wpAnyH_ready (rs := [21]) (by kernel_rfl) (by simp) ?_
      refine AllReadyH.cons rfl (fun K hK => ?_) AllReadyH.nil
      go_simp
      refine (state_any ⟨t, r, o⟩ _).mono ?_
      rintro e wz0 ⟨rfl, hbz0⟩
      have hH := hHeld
      rw [HST.out]
      have HSK := Lib.hid (And.intro (nxt hH.1 hbz0) (And.intro (hH.2.1.next hbz0) (And.intro (hH.2.2.1.next hbz0) (And.intro (hH.2.2.2.1.next hbz0) (hH.2.2.2.2.next hbz0)))))
      clear hbz0 hH
      clear hHeld
      dsimp only
      refine hK.out _ _ (HSK.out) (fun hHeld => ?_)
      clear hK K
      try simp only [Act.put, List.setIfInBounds_toArray, List.set_cons_zero, List.set_cons_succ]
      refine takeH (i := 23) (v := .bool true) rfl (by kernel_rfl) (by kernel_rfl) (by kernel_rfl) (fun _ _ _ h => h) (Or.inl ⟨by rfl, fun w hSw => ?_⟩) hHeld ?_
      · (clear hSw; go_simp)
      simp only [Act.put, List.setIfInBounds_toArray, List.set_cons_zero, List.set_cons_succ]
      refine takeH (i := 24) (v := .bool true) rfl (by kernel_rfl) (by kernel_rfl) (by kernel_rfl) (fun _ _ _ h => h) (Or.inl ⟨by rfl, fun w hSw => ?_⟩) hHeld ?_
      · (clear hSw; go_simp)
      simp only [Act.put, List.setIfInBounds_toArray, List.set_cons_zero, List.set_cons_succ]
      refine takeH (i := 25) (v := .bool true) rfl (by kernel_rfl) (by kernel_rfl) (by kernel_rfl) (fun _ _ _ h => h) (Or.inl ⟨by rfl, fun w hSw => ?_⟩) hHeld ?_
      · (clear hSw; go_simp)
      simp only [Act.put, List.setIfInBounds_toArray, List.set_cons_zero, List.set_cons_succ]
      refine takeH (i := 26) (v := .agg #[.int .i64 t, .int .i64 r, .bool o]) rfl (by kernel_rfl) (by kernel_rfl) (by kernel_rfl) (fun _ _ _ h => h) (Or.inl ⟨by rfl, fun w hSw => ?_⟩) hHeld ?_
      · (obtain ⟨a0, a1, a2⟩ := hSw.2.1.cx; simp only at a0 a1 a2; clear hSw; go_simp)
      simp only [Act.put, List.setIfInBounds_toArray, List.set_cons_zero, List.set_cons_succ]
      refine takeH (i := 29) (v := .agg #[.int .i64 t, .int .i64 r, .bool o]) rfl (by kernel_rfl) (by kernel_rfl) (by kernel_rfl) (fun _ _ _ h => h) (Or.inl ⟨by rfl, fun w hSw => ?_⟩) hHeld ?_
      · (obtain ⟨b0, b1, b2⟩ := hSw.2.2.1.cx; simp only at b0 b1 b2; clear hSw; go_simp)
      simp only [Act.put, List.setIfInBounds_toArray, List.set_cons_zero, List.set_cons_succ]
      refine wpAnyH_ready (rs := [27]) (by kernel_rfl) (by simp) ?_
      refine AllReadyH.cons rfl (fun K hK => ?_) AllReadyH.nil
      go_simp
      refine (check_any ⟨t, r, o⟩ _).mono ?_
      rintro e wz1 ⟨rfl, hbz1⟩
      have hH := hHeld
      rw [HE.out]
      have HSK := Lib.hid (And.intro (nxt hH.1 hbz1) (And.intro (hH.2.1.next hbz1) (And.intro (hH.2.2.1.next hbz1) (And.intro (hH.2.2.2.1.next hbz1) (hH.2.2.2.2.next hbz1)))))
      clear hbz1 hH
      clear hHeld
      dsimp only
      refine hK.out _ _ (HSK.out) (fun hHeld => ?_)
      clear hK K
      try simp only [Act.put, List.setIfInBounds_toArray, List.set_cons_zero, List.set_cons_succ]
      refine takeH (i := 28) (v := .bool false) rfl (by kernel_rfl) (by kernel_rfl) (by kernel_rfl) (fun _ _ _ h => h) (Or.inl ⟨by rfl, fun w hSw => ?_⟩) hHeld ?_
      · (clear hSw; go_simp)
      simp only [Act.put, List.setIfInBounds_toArray, List.set_cons_zero, List.set_cons_succ]
      refine wpAnyH_ready (rs := [30]) (by kernel_rfl) (by simp) ?_
      refine AllReadyH.cons rfl (fun K hK => ?_) AllReadyH.nil
      go_simp
      refine (rright_any ⟨t, r, o⟩ _).mono ?_
      rintro e wz2 ⟨rfl, hbz2⟩
      have hH := hHeld
      rw [HRT.out]
      have HSK := Lib.hid (And.intro (nxt hH.1 hbz2) (And.intro (hH.2.1.next hbz2) (And.intro (hH.2.2.1.next hbz2) (And.intro (hH.2.2.2.1.next hbz2) (hH.2.2.2.2.next hbz2)))))
      clear hbz2 hH
      clear hHeld
      dsimp only
      refine hK.out _ _ (HSK.out) (fun hHeld => ?_)
      clear hK K
      try simp only [Act.put, List.setIfInBounds_toArray, List.set_cons_zero, List.set_cons_succ]
      refine takeH (i := 31) (v := .bool true) rfl (by kernel_rfl) (by kernel_rfl) (by kernel_rfl) (fun _ _ _ h => h) (Or.inl ⟨by rfl, fun w hSw => ?_⟩) hHeld ?_
      · (clear hSw; go_simp)
      simp only [Act.put, List.setIfInBounds_toArray, List.set_cons_zero, List.set_cons_succ]
      refine takeH (i := 32) (v := .bool true) rfl (by kernel_rfl) (by kernel_rfl) (by kernel_rfl) (fun _ _ _ h => h) (Or.inl ⟨by rfl, fun w hSw => ?_⟩) hHeld ?_
      · (clear hSw; go_simp)
      simp only [Act.put, List.setIfInBounds_toArray, List.set_cons_zero, List.set_cons_succ]
      refine takeH (i := 33) (v := .bool true) rfl (by kernel_rfl) (by kernel_rfl) (by kernel_rfl) (fun _ _ _ h => h) (Or.inl ⟨by rfl, fun w hSw => ?_⟩) hHeld ?_
      · (clear hSw; go_simp)
      simp only [Act.put, List.setIfInBounds_toArray, List.set_cons_zero, List.set_cons_succ]
      refine takeH (i := 34) (v := .agg #[.int .i64 t, .int .i64 r, .bool o]) rfl (by kernel_rfl) (by kernel_rfl) (by kernel_rfl) (fun _ _ _ h => h) (Or.inl ⟨by rfl, fun w hSw => ?_⟩) hHeld ?_
      · (obtain ⟨a0, a1, a2⟩ := hSw.2.1.cx; simp only at a0 a1 a2; clear hSw; go_simp)
      simp only [Act.put, List.setIfInBounds_toArray, List.set_cons_zero, List.set_cons_succ]
      refine wpAnyH_ready (rs := [35]) (by kernel_rfl) (by simp) ?_
      refine AllReadyH.cons rfl (fun K hK => ?_) AllReadyH.nil
      go_simp
      refine (check_any ⟨t, r, o⟩ _).mono ?_
      rintro e wz3 ⟨rfl, hbz3⟩
      have hH := hHeld
      rw [HE.out]
      have HSK := Lib.hid (And.intro (nxt hH.1 hbz3) (And.intro (hH.2.1.next hbz3) (And.intro (hH.2.2.1.next hbz3) (And.intro (hH.2.2.2.1.next hbz3) (hH.2.2.2.2.next hbz3)))))
      clear hbz3 hH
      clear hHeld
      dsimp only
      refine hK.out _ _ (HSK.out) (fun hHeld => ?_)
      clear hK K
      try simp only [Act.put, List.setIfInBounds_toArray, List.set_cons_zero, List.set_cons_succ]
      refine takeH (i := 36) (v := .bool false) rfl (by kernel_rfl) (by kernel_rfl) (by kernel_rfl) (fun _ _ _ h => h) (Or.inl ⟨by rfl, fun w hSw => ?_⟩) hHeld ?_
      · (clear hSw; go_simp)
      simp only [Act.put, List.setIfInBounds_toArray, List.set_cons_zero, List.set_cons_succ]
      refine takeH (i := 37) (v := .bool false) rfl (by kernel_rfl) (by kernel_rfl) (by kernel_rfl) (fun _ _ _ h => h) (Or.inl ⟨by rfl, fun w hSw => ?_⟩) hHeld ?_
      · (clear hSw; go_simp)
      simp only [Act.put, List.setIfInBounds_toArray, List.set_cons_zero, List.set_cons_succ]
      refine takeH (i := 38) (v := .agg #[.int .i64 t, .int .i64 r, .bool o]) rfl (by kernel_rfl) (by kernel_rfl) (by kernel_rfl) (fun _ _ _ h => h) (Or.inl ⟨by rfl, fun w hSw => ?_⟩) hHeld ?_
      · (obtain ⟨a0, a1, a2⟩ := hSw.2.1.cx; simp only at a0 a1 a2; clear hSw; go_simp)
      simp only [Act.put, List.setIfInBounds_toArray, List.set_cons_zero, List.set_cons_succ]
      refine wpAnyH_ready (rs := [39]) (by kernel_rfl) (by simp) ?_
      refine AllReadyH.cons rfl (fun K hK => ?_) AllReadyH.nil
      go_simp
      refine (check_any ⟨t, r, o⟩ _).mono ?_
      rintro e wz4 ⟨rfl, hbz4⟩
      have hH := hHeld
      rw [HE.out]
      have HSK := Lib.hid (And.intro (nxt hH.1 hbz4) (And.intro (hH.2.1.next hbz4) (And.intro (hH.2.2.1.next hbz4) (And.intro (hH.2.2.2.1.next hbz4) (hH.2.2.2.2.next hbz4)))))
      clear hbz4 hH
      clear hHeld
      dsimp only
      refine hK.out _ _ (HSK.out) (fun hHeld => ?_)
      clear hK K
      try simp only [Act.put, List.setIfInBounds_toArray, List.set_cons_zero, List.set_cons_succ]
      refine takeH (i := 40) (v := .bool true) rfl (by kernel_rfl) (by kernel_rfl) (by kernel_rfl) (fun _ _ _ h => h) (Or.inl ⟨by rfl, fun w hSw => ?_⟩) hHeld ?_
      · (clear hSw; go_simp)
      simp only [Act.put, List.setIfInBounds_toArray, List.set_cons_zero, List.set_cons_succ]
      refine takeH (i := 41) (v := .bool true) rfl (by kernel_rfl) (by kernel_rfl) (by kernel_rfl) (fun _ _ _ h => h) (Or.inl ⟨by rfl, fun w hSw => ?_⟩) hHeld ?_
      · (clear hSw; go_simp)
      simp only [Act.put, List.setIfInBounds_toArray, List.set_cons_zero, List.set_cons_succ]
      refine takeH (i := 42) (v := .bool true) rfl (by kernel_rfl) (by kernel_rfl) (by kernel_rfl) (fun _ _ _ h => h) (Or.inl ⟨by rfl, fun w hSw => ?_⟩) hHeld ?_
      · (clear hSw; go_simp)
      simp only [Act.put, List.setIfInBounds_toArray, List.set_cons_zero, List.set_cons_succ]
      refine takeH (i := 43) (v := .bool true) rfl (by kernel_rfl) (by kernel_rfl) (by kernel_rfl) (fun _ _ _ h => h) (Or.inl ⟨by rfl, fun w hSw => ?_⟩) hHeld ?_
      · (clear hSw; go_simp)
      simp only [Act.put, List.setIfInBounds_toArray, List.set_cons_zero, List.set_cons_succ]
      refine wpAnyH_ready (rs := [44]) (by kernel_rfl) (by simp) ?_
      refine AllReadyH.cons rfl (fun K hK => ?_) AllReadyH.nil
      go_simp
      refine (awake8 _).mono ?_
      rintro e wz5 ⟨rfl, hbz5⟩
      have hH := hHeld
      have HSK := Lib.hid (And.intro (nxt hH.1 hbz5) (And.intro (hH.2.1.next hbz5) (And.intro (hH.2.2.1.next hbz5) (And.intro (hH.2.2.2.1.next hbz5) (hH.2.2.2.2.next hbz5)))))
      clear hbz5 hH
      clear hHeld
      dsimp only
      refine hK.out _ _ (HSK.out) (fun hHeld => ?_)
      clear hK K
      try simp only [Act.put, List.setIfInBounds_toArray, List.set_cons_zero, List.set_cons_succ]
      refine takeH (i := 45) (v := .bool true) rfl (by kernel_rfl) (by kernel_rfl) (by kernel_rfl) (fun _ _ _ h => h) (Or.inl ⟨by rfl, fun w hSw => ?_⟩) hHeld ?_
      · (clear hSw; go_simp)
      simp only [Act.put, List.setIfInBounds_toArray, List.set_cons_zero, List.set_cons_succ]
      refine takeH (i := 46) (v := .bool true) rfl (by kernel_rfl) (by kernel_rfl) (by kernel_rfl) (fun _ _ _ h => h) (Or.inl ⟨by rfl, fun w hSw => ?_⟩) hHeld ?_
      · (clear hSw; go_simp)
      simp only [Act.put, List.setIfInBounds_toArray, List.set_cons_zero, List.set_cons_succ]
      refine wpAnyH_done (by kernel_rfl) ?_ _
      clear hHeld
      have HF := Lib.hid HSK.out.1
      clear HSK
      go_wp2
      go_ret
      exact ⟨rfl, HF.out⟩
    · have HRT := Lib.hid hr
      have HE := Lib.hid (show c.err = 0 by unfold Ct.err; rw [hr]; rfl)
      clear hr
      obtain ⟨t, r, o⟩ := c
      obtain ⟨t1, r1, o1⟩ := d
      go_enter Try.func3, Try.ntmps3
      go_wp2_with fail
      refine (rcome_any ⟨t, r, o⟩ k x _).mono ?_
      rintro e w1 ⟨rfl, hb1⟩
      rw [HD.out]
      have HA1 := Lib.hid (below1 w1 (.cells (Ct.cells ⟨t1, r1, o1⟩) 26))
      have HB1 := Lib.hid (nxt (nxt HB.out hb1) HA1.out)
      have HC1 := Lib.hid ((HC.out.below hb1 (by simp; omega)).next HA1.out)
      have HX1 := Lib.hid (HX.out.below (nxt hb1 HA1.out))
      have HR1 := Lib.hid ((HR.out.below hb1 (by simp)).next HA1.out)
      have HT1 := Lib.hid (rb_new w1 ⟨t1, r1, o1⟩)
      clear hb1 HB HC HX HR HA1
      obtain ⟨a0, a1, a2⟩ := HC1.out.cx
      obtain ⟨x0, x1⟩ := HX1.out
      simp only at a0 a1 a2
      go_wp2_with fail
      refine (behind_any ⟨t, r, o⟩ k x _).mono ?_
      rintro e w2 ⟨rfl, hb2⟩
      rw [HD.out]
      have HA2 := Lib.hid (below2 w2 (.cells (Ct.cells ⟨t1, r1, o1⟩) 23) (.cells #[.int .i64 0, .int .i64 1, .int .i64 2] 3))
      have HB2 := Lib.hid (nxt (nxt HB1.out hb2) HA2.out)
      have HC2 := Lib.hid ((HC1.out.next hb2).next HA2.out)
      have HR2 := Lib.hid ((HR1.out.next hb2).next HA2.out)
      have HT2 := Lib.hid ((HT1.out.next hb2).next HA2.out)
      have HU2 := Lib.hid (cb_first w2 ⟨t1, r1, o1⟩ (.cells #[.int .i64 0, .int .i64 1, .int .i64 2] 3))
      have HS2 := Lib.hid (three_cells (w2.alloc (.cells (Ct.cells ⟨t1, r1, o1⟩) 23)))
      rw [size_alloc1] at HS2
      clear hb2 HB1 HC1 HX1 HR1 HT1 HA2 a0 a1 a2 x0 x1
      obtain ⟨r0, r1', r2⟩ := HR2.out.cx
      simp only at r0 r1' r2
      go_wp2_with fail
      refine (rstate_any ⟨t, r, o⟩ _).mono ?_
      rintro e w3 ⟨rfl, hb3⟩
      rw [HST.out]
      have HB3 := Lib.hid (nxt HB2.out hb3)
      have HC3 := Lib.hid (HC2.out.next hb3)
      have HR3 := Lib.hid (HR2.out.next hb3)
      have HT3 := Lib.hid (HT2.out.next hb3)
      have HU3 := Lib.hid (HU2.out.next hb3)
      have HS3 := Lib.hid (three_next HS2.out hb3)
      clear hb3 HB2 HC2 HR2 HT2 HU2 HS2 r0 r1' r2
      obtain ⟨s0, s1, s2⟩ := HS3.out
      go_wp2_with fail
      clear s0 s1 s2
      refine wp_region_held_drew (S := fun w' => Below w.heap.size w w' ∧ Cb w' (w.heap.size) ⟨t, r, o⟩ ∧ Rb w' (w.heap.size + 1 + 1) ⟨t, r, o⟩ ∧ Rb w' (w1.heap.size) ⟨t1, r1, o1⟩ ∧ Cb w' (w2.heap.size) ⟨t1, r1, o1⟩) (by kernel_rfl) (⟨HB3.out.drew, HC3.out, HR3.out, HT3.out, HU3.out⟩) (fun hHeld => ?_)
      refine takeH (i := 0) (v := .pointer (some ⟨w2.heap.size, 0, none⟩)) rfl (by kernel_rfl) (by kernel_rfl) (by kernel_rfl) (fun _ _ _ h => h) (Or.inl ⟨by rfl, fun w hSw => ?_⟩) hHeld ?_
      · (clear hSw; go_simp)
      simp only [Act.put, List.setIfInBounds_toArray, List.set_cons_zero, List.set_cons_succ]
      refine takeH (i := 1) (v := .int .i64 t1) rfl (by kernel_rfl) (by kernel_rfl) (by kernel_rfl) (fun _ _ _ h => h) (Or.inl ⟨by rfl, fun w hSw => ?_⟩) hHeld ?_
      · (obtain ⟨d0, d1, d2⟩ := hSw.2.2.2.2.cx; simp only at d0 d1 d2; clear hSw; go_simp)
      simp only [Act.put, List.setIfInBounds_toArray, List.set_cons_zero, List.set_cons_succ]
      refine takeH (i := 2) (v := .pointer (some ⟨w1.heap.size, 0, none⟩)) rfl (by kernel_rfl) (by kernel_rfl) (by kernel_rfl) (fun _ _ _ h => h) (Or.inl ⟨by rfl, fun w hSw => ?_⟩) hHeld ?_
      · (clear hSw; go_simp)
      simp only [Act.put, List.setIfInBounds_toArray, List.set_cons_zero, List.set_cons_succ]
      refine takeH (i := 3) (v := .int .i64 t1) rfl (by kernel_rfl) (by kernel_rfl) (by kernel_rfl) (fun _ _ _ h => h) (Or.inl ⟨by rfl, fun w hSw => ?_⟩) hHeld ?_
      · (obtain ⟨c0, c1, c2⟩ := hSw.2.2.2.1.cx; simp only at c0 c1 c2; clear hSw; go_simp)
      simp only [Act.put, List.setIfInBounds_toArray, List.set_cons_zero, List.set_cons_succ]
      refine takeH (i := 4) (v := .bool true) rfl (by kernel_rfl) (by kernel_rfl) (by kernel_rfl) (fun _ _ _ h => h) (Or.inl ⟨by rfl, fun w hSw => ?_⟩) hHeld ?_
      · (clear hSw; go_simp)
      simp only [Act.put, List.setIfInBounds_toArray, List.set_cons_zero, List.set_cons_succ]
      refine takeH (i := 5) (v := .bool true) rfl (by kernel_rfl) (by kernel_rfl) (by kernel_rfl) (fun _ _ _ h => h) (Or.inl ⟨by rfl, fun w hSw => ?_⟩) hHeld ?_
      · (clear hSw; go_simp)
      simp only [Act.put, List.setIfInBounds_toArray, List.set_cons_zero, List.set_cons_succ]
      refine takeH (i := 6) (v := .pointer (some ⟨w2.heap.size, 1, none⟩)) rfl (by kernel_rfl) (by kernel_rfl) (by kernel_rfl) (fun _ _ _ h => h) (Or.inl ⟨by rfl, fun w hSw => ?_⟩) hHeld ?_
      · (clear hSw; go_simp)
      simp only [Act.put, List.setIfInBounds_toArray, List.set_cons_zero, List.set_cons_succ]
      refine takeH (i := 7) (v := .int .i64 r1) rfl (by kernel_rfl) (by kernel_rfl) (by kernel_rfl) (fun _ _ _ h => h) (Or.inl ⟨by rfl, fun w hSw => ?_⟩) hHeld ?_
      · (obtain ⟨d0, d1, d2⟩ := hSw.2.2.2.2.cx; simp only at d0 d1 d2; clear hSw; go_simp)
      simp only [Act.put, List.setIfInBounds_toArray, List.set_cons_zero, List.set_cons_succ]
      refine takeH (i := 8) (v := .pointer (some ⟨w1.heap.size, 1, none⟩)) rfl (by kernel_rfl) (by kernel_rfl) (by kernel_rfl) (fun _ _ _ h => h) (Or.inl ⟨by rfl, fun w hSw => ?_⟩) hHeld ?_
      · (clear hSw; go_simp)
      simp only [Act.put, List.setIfInBounds_toArray, List.set_cons_zero, List.set_cons_succ]
      refine takeH (i := 9) (v := .int .i64 r1) rfl (by kernel_rfl) (by kernel_rfl) (by kernel_rfl) (fun _ _ _ h => h) (Or.inl ⟨by rfl, fun w hSw => ?_⟩) hHeld ?_
      · (obtain ⟨c0, c1, c2⟩ := hSw.2.2.2.1.cx; simp only at c0 c1 c2; clear hSw; go_simp)
      simp only [Act.put, List.setIfInBounds_toArray, List.set_cons_zero, List.set_cons_succ]
      refine takeH (i := 10) (v := .bool true) rfl (by kernel_rfl) (by kernel_rfl) (by kernel_rfl) (fun _ _ _ h => h) (Or.inl ⟨by rfl, fun w hSw => ?_⟩) hHeld ?_
      · (clear hSw; go_simp)
      simp only [Act.put, List.setIfInBounds_toArray, List.set_cons_zero, List.set_cons_succ]
      refine takeH (i := 11) (v := .bool true) rfl (by kernel_rfl) (by kernel_rfl) (by kernel_rfl) (fun _ _ _ h => h) (Or.inl ⟨by rfl, fun w hSw => ?_⟩) hHeld ?_
      · (clear hSw; go_simp)
      simp only [Act.put, List.setIfInBounds_toArray, List.set_cons_zero, List.set_cons_succ]
      refine takeH (i := 12) (v := .bool true) rfl (by kernel_rfl) (by kernel_rfl) (by kernel_rfl) (fun _ _ _ h => h) (Or.inl ⟨by rfl, fun w hSw => ?_⟩) hHeld ?_
      · (clear hSw; go_simp)
      simp only [Act.put, List.setIfInBounds_toArray, List.set_cons_zero, List.set_cons_succ]
      refine takeH (i := 13) (v := .pointer (some ⟨w2.heap.size, 2, none⟩)) rfl (by kernel_rfl) (by kernel_rfl) (by kernel_rfl) (fun _ _ _ h => h) (Or.inl ⟨by rfl, fun w hSw => ?_⟩) hHeld ?_
      · (clear hSw; go_simp)
      simp only [Act.put, List.setIfInBounds_toArray, List.set_cons_zero, List.set_cons_succ]
      refine takeH (i := 14) (v := .bool o1) rfl (by kernel_rfl) (by kernel_rfl) (by kernel_rfl) (fun _ _ _ h => h) (Or.inl ⟨by rfl, fun w hSw => ?_⟩) hHeld ?_
      · (obtain ⟨d0, d1, d2⟩ := hSw.2.2.2.2.cx; simp only at d0 d1 d2; clear hSw; go_simp)
      simp only [Act.put, List.setIfInBounds_toArray, List.set_cons_zero, List.set_cons_succ]
      refine takeH (i := 15) (v := .pointer (some ⟨w1.heap.size, 2, none⟩)) rfl (by kernel_rfl) (by kernel_rfl) (by kernel_rfl) (fun _ _ _ h => h) (Or.inl ⟨by rfl, fun w hSw => ?_⟩) hHeld ?_
      · (clear hSw; go_simp)
      simp only [Act.put, List.setIfInBounds_toArray, List.set_cons_zero, List.set_cons_succ]
      refine takeH (i := 16) (v := .bool o1) rfl (by kernel_rfl) (by kernel_rfl) (by kernel_rfl) (fun _ _ _ h => h) (Or.inl ⟨by rfl, fun w hSw => ?_⟩) hHeld ?_
      · (obtain ⟨c0, c1, c2⟩ := hSw.2.2.2.1.cx; simp only at c0 c1 c2; clear hSw; go_simp)
      simp only [Act.put, List.setIfInBounds_toArray, List.set_cons_zero, List.set_cons_succ]
      refine takeH (i := 17) (v := .bool true) rfl (by kernel_rfl) (by kernel_rfl) (by kernel_rfl) (fun _ _ _ h => h) (Or.inl ⟨by rfl, fun w hSw => ?_⟩) hHeld ?_
      · (clear hSw; go_simp)
      simp only [Act.put, List.setIfInBounds_toArray, List.set_cons_zero, List.set_cons_succ]
      refine takeH (i := 18) (v := .bool true) rfl (by kernel_rfl) (by kernel_rfl) (by kernel_rfl) (fun _ _ _ h => h) (Or.inl ⟨by rfl, fun w hSw => ?_⟩) hHeld ?_
      · (clear hSw; go_simp)
      simp only [Act.put, List.setIfInBounds_toArray, List.set_cons_zero, List.set_cons_succ]
      refine takeH (i := 19) (v := .bool true) rfl (by kernel_rfl) (by kernel_rfl) (by kernel_rfl) (fun _ _ _ h => h) (Or.inl ⟨by rfl, fun w hSw => ?_⟩) hHeld ?_
      · (clear hSw; go_simp)
      simp only [Act.put, List.setIfInBounds_toArray, List.set_cons_zero, List.set_cons_succ]
      refine takeH (i := 20) (v := .agg #[.int .i64 t, .int .i64 r, .bool o]) rfl (by kernel_rfl) (by kernel_rfl) (by kernel_rfl) (fun _ _ _ h => h) (Or.inl ⟨by rfl, fun w hSw => ?_⟩) hHeld ?_
      · (obtain ⟨a0, a1, a2⟩ := hSw.2.1.cx; simp only at a0 a1 a2; clear hSw; go_simp)
      simp only [Act.put, List.setIfInBounds_toArray, List.set_cons_zero, List.set_cons_succ]
      refine takeH (i := 22) (v := .int .i64 1) rfl (by kernel_rfl) (by kernel_rfl) (by kernel_rfl) (fun _ _ _ h => h) (Or.inl ⟨by rfl, fun w hSw => ?_⟩) hHeld ?_
      · (clear hSw; go_simp)
      simp only [Act.put, List.setIfInBounds_toArray, List.set_cons_zero, List.set_cons_succ]
      refine wpAnyH_ready (rs := [21]) (by kernel_rfl) (by simp) ?_
      refine AllReadyH.cons rfl (fun K hK => ?_) AllReadyH.nil
      go_simp
      refine (state_any ⟨t, r, o⟩ _).mono ?_
      rintro e wz0 ⟨rfl, hbz0⟩
      have hH := hHeld
      rw [HST.out]
      have HSK := Lib.hid (And.intro (nxt hH.1 hbz0) (And.intro (hH.2.1.next hbz0) (And.intro (hH.2.2.1.next hbz0) (And.intro (hH.2.2.2.1.next hbz0) (hH.2.2.2.2.next hbz0)))))
      clear hbz0 hH
      clear hHeld
      dsimp only
      refine hK.out _ _ (HSK.out) (fun hHeld => ?_)
      clear hK K
      try simp only [Act.put, List.setIfInBounds_toArray, List.set_cons_zero, List.set_cons_succ]
      refine takeH (i := 23) (v := .bool true) rfl (by kernel_rfl) (by kernel_rfl) (by kernel_rfl) (fun _ _ _ h => h) (Or.inl ⟨by rfl, fun w hSw => ?_⟩) hHeld ?_
      · (clear hSw; go_simp)
      simp only [Act.put, List.setIfInBounds_toArray, List.set_cons_zero, List.set_cons_succ]
      refine takeH (i := 24) (v := .bool true) rfl (by kernel_rfl) (by kernel_rfl) (by kernel_rfl) (fun _ _ _ h => h) (Or.inl ⟨by rfl, fun w hSw => ?_⟩) hHeld ?_
      · (clear hSw; go_simp)
      simp only [Act.put, List.setIfInBounds_toArray, List.set_cons_zero, List.set_cons_succ]
      refine takeH (i := 25) (v := .bool true) rfl (by kernel_rfl) (by kernel_rfl) (by kernel_rfl) (fun _ _ _ h => h) (Or.inl ⟨by rfl, fun w hSw => ?_⟩) hHeld ?_
      · (clear hSw; go_simp)
      simp only [Act.put, List.setIfInBounds_toArray, List.set_cons_zero, List.set_cons_succ]
      refine takeH (i := 26) (v := .agg #[.int .i64 t, .int .i64 r, .bool o]) rfl (by kernel_rfl) (by kernel_rfl) (by kernel_rfl) (fun _ _ _ h => h) (Or.inl ⟨by rfl, fun w hSw => ?_⟩) hHeld ?_
      · (obtain ⟨a0, a1, a2⟩ := hSw.2.1.cx; simp only at a0 a1 a2; clear hSw; go_simp)
      simp only [Act.put, List.setIfInBounds_toArray, List.set_cons_zero, List.set_cons_succ]
      refine takeH (i := 29) (v := .agg #[.int .i64 t, .int .i64 r, .bool o]) rfl (by kernel_rfl) (by kernel_rfl) (by kernel_rfl) (fun _ _ _ h => h) (Or.inl ⟨by rfl, fun w hSw => ?_⟩) hHeld ?_
      · (obtain ⟨b0, b1, b2⟩ := hSw.2.2.1.cx; simp only at b0 b1 b2; clear hSw; go_simp)
      simp only [Act.put, List.setIfInBounds_toArray, List.set_cons_zero, List.set_cons_succ]
      refine wpAnyH_ready (rs := [27]) (by kernel_rfl) (by simp) ?_
      refine AllReadyH.cons rfl (fun K hK => ?_) AllReadyH.nil
      go_simp
      refine (check_any ⟨t, r, o⟩ _).mono ?_
      rintro e wz1 ⟨rfl, hbz1⟩
      have hH := hHeld
      rw [HE.out]
      have HSK := Lib.hid (And.intro (nxt hH.1 hbz1) (And.intro (hH.2.1.next hbz1) (And.intro (hH.2.2.1.next hbz1) (And.intro (hH.2.2.2.1.next hbz1) (hH.2.2.2.2.next hbz1)))))
      clear hbz1 hH
      clear hHeld
      dsimp only
      refine hK.out _ _ (HSK.out) (fun hHeld => ?_)
      clear hK K
      try simp only [Act.put, List.setIfInBounds_toArray, List.set_cons_zero, List.set_cons_succ]
      refine takeH (i := 28) (v := .bool true) rfl (by kernel_rfl) (by kernel_rfl) (by kernel_rfl) (fun _ _ _ h => h) (Or.inl ⟨by rfl, fun w hSw => ?_⟩) hHeld ?_
      · (clear hSw; go_simp)
      simp only [Act.put, List.setIfInBounds_toArray, List.set_cons_zero, List.set_cons_succ]
      refine wpAnyH_ready (rs := [30]) (by kernel_rfl) (by simp) ?_
      refine AllReadyH.cons rfl (fun K hK => ?_) AllReadyH.nil
      go_simp
      refine (rright_any ⟨t, r, o⟩ _).mono ?_
      rintro e wz2 ⟨rfl, hbz2⟩
      have hH := hHeld
      rw [HRT.out]
      have HSK := Lib.hid (And.intro (nxt hH.1 hbz2) (And.intro (hH.2.1.next hbz2) (And.intro (hH.2.2.1.next hbz2) (And.intro (hH.2.2.2.1.next hbz2) (hH.2.2.2.2.next hbz2)))))
      clear hbz2 hH
      clear hHeld
      dsimp only
      refine hK.out _ _ (HSK.out) (fun hHeld => ?_)
      clear hK K
      try simp only [Act.put, List.setIfInBounds_toArray, List.set_cons_zero, List.set_cons_succ]
      refine takeH (i := 31) (v := .bool true) rfl (by kernel_rfl) (by kernel_rfl) (by kernel_rfl) (fun _ _ _ h => h) (Or.inl ⟨by rfl, fun w hSw => ?_⟩) hHeld ?_
      · (clear hSw; go_simp)
      simp only [Act.put, List.setIfInBounds_toArray, List.set_cons_zero, List.set_cons_succ]
      refine takeH (i := 32) (v := .bool true) rfl (by kernel_rfl) (by kernel_rfl) (by kernel_rfl) (fun _ _ _ h => h) (Or.inl ⟨by rfl, fun w hSw => ?_⟩) hHeld ?_
      · (clear hSw; go_simp)
      simp only [Act.put, List.setIfInBounds_toArray, List.set_cons_zero, List.set_cons_succ]
      refine takeH (i := 33) (v := .bool true) rfl (by kernel_rfl) (by kernel_rfl) (by kernel_rfl) (fun _ _ _ h => h) (Or.inl ⟨by rfl, fun w hSw => ?_⟩) hHeld ?_
      · (clear hSw; go_simp)
      simp only [Act.put, List.setIfInBounds_toArray, List.set_cons_zero, List.set_cons_succ]
      refine takeH (i := 34) (v := .agg #[.int .i64 t, .int .i64 r, .bool o]) rfl (by kernel_rfl) (by kernel_rfl) (by kernel_rfl) (fun _ _ _ h => h) (Or.inl ⟨by rfl, fun w hSw => ?_⟩) hHeld ?_
      · (obtain ⟨a0, a1, a2⟩ := hSw.2.1.cx; simp only at a0 a1 a2; clear hSw; go_simp)
      simp only [Act.put, List.setIfInBounds_toArray, List.set_cons_zero, List.set_cons_succ]
      refine wpAnyH_ready (rs := [35]) (by kernel_rfl) (by simp) ?_
      refine AllReadyH.cons rfl (fun K hK => ?_) AllReadyH.nil
      go_simp
      refine (check_any ⟨t, r, o⟩ _).mono ?_
      rintro e wz3 ⟨rfl, hbz3⟩
      have hH := hHeld
      rw [HE.out]
      have HSK := Lib.hid (And.intro (nxt hH.1 hbz3) (And.intro (hH.2.1.next hbz3) (And.intro (hH.2.2.1.next hbz3) (And.intro (hH.2.2.2.1.next hbz3) (hH.2.2.2.2.next hbz3)))))
      clear hbz3 hH
      clear hHeld
      dsimp only
      refine hK.out _ _ (HSK.out) (fun hHeld => ?_)
      clear hK K
      try simp only [Act.put, List.setIfInBounds_toArray, List.set_cons_zero, List.set_cons_succ]
      refine takeH (i := 36) (v := .bool true) rfl (by kernel_rfl) (by kernel_rfl) (by kernel_rfl) (fun _ _ _ h => h) (Or.inl ⟨by rfl, fun w hSw => ?_⟩) hHeld ?_
      · (clear hSw; go_simp)
      simp only [Act.put, List.setIfInBounds_toArray, List.set_cons_zero, List.set_cons_succ]
      refine takeH (i := 37) (v := .bool true) rfl (by kernel_rfl) (by kernel_rfl) (by kernel_rfl) (fun _ _ _ h => h) (Or.inl ⟨by rfl, fun w hSw => ?_⟩) hHeld ?_
      · (clear hSw; go_simp)
      simp only [Act.put, List.setIfInBounds_toArray, List.set_cons_zero, List.set_cons_succ]
      refine takeH (i := 38) (v := undef) rfl (by kernel_rfl) (by kernel_rfl) (by kernel_rfl) (fun _ _ _ h => h) (Or.inr ⟨by rfl, rfl⟩) hHeld ?_
      simp only [Act.put, List.setIfInBounds_toArray, List.set_cons_zero, List.set_cons_succ]
      refine takeH (i := 39) (v := undef) rfl (by kernel_rfl) (by kernel_rfl) (by kernel_rfl) (fun _ _ _ h => h) (Or.inr ⟨by rfl, rfl⟩) hHeld ?_
      simp only [Act.put, List.setIfInBounds_toArray, List.set_cons_zero, List.set_cons_succ]
      refine takeH (i := 40) (v := undef) rfl (by kernel_rfl) (by kernel_rfl) (by kernel_rfl) (fun _ _ _ h => h) (Or.inr ⟨by rfl, rfl⟩) hHeld ?_
      simp only [Act.put, List.setIfInBounds_toArray, List.set_cons_zero, List.set_cons_succ]
      refine takeH (i := 41) (v := .bool true) rfl (by kernel_rfl) (by kernel_rfl) (by kernel_rfl) (fun _ _ _ h => h) (Or.inl ⟨by rfl, fun w hSw => ?_⟩) hHeld ?_
      · (clear hSw; go_simp)
      simp only [Act.put, List.setIfInBounds_toArray, List.set_cons_zero, List.set_cons_succ]
      refine takeH (i := 42) (v := .bool true) rfl (by kernel_rfl) (by kernel_rfl) (by kernel_rfl) (fun _ _ _ h => h) (Or.inl ⟨by rfl, fun w hSw => ?_⟩) hHeld ?_
      · (clear hSw; go_simp)
      simp only [Act.put, List.setIfInBounds_toArray, List.set_cons_zero, List.set_cons_succ]
      refine takeH (i := 43) (v := .bool true) rfl (by kernel_rfl) (by kernel_rfl) (by kernel_rfl) (fun _ _ _ h => h) (Or.inl ⟨by rfl, fun w hSw => ?_⟩) hHeld ?_
      · (clear hSw; go_simp)
      simp only [Act.put, List.setIfInBounds_toArray, List.set_cons_zero, List.set_cons_succ]
      refine wpAnyH_ready (rs := [44]) (by kernel_rfl) (by simp) ?_
      refine AllReadyH.cons rfl (fun K hK => ?_) AllReadyH.nil
      go_simp
      refine (awake8 _).mono ?_
      rintro e wz4 ⟨rfl, hbz4⟩
      have hH := hHeld
      have HSK := Lib.hid (And.intro (nxt hH.1 hbz4) (And.intro (hH.2.1.next hbz4) (And.intro (hH.2.2.1.next hbz4) (And.intro (hH.2.2.2.1.next hbz4) (hH.2.2.2.2.next hbz4)))))
      clear hbz4 hH
      clear hHeld
      dsimp only
      refine hK.out _ _ (HSK.out) (fun hHeld => ?_)
      clear hK K
      try simp only [Act.put, List.setIfInBounds_toArray, List.set_cons_zero, List.set_cons_succ]
      refine takeH (i := 45) (v := .bool true) rfl (by kernel_rfl) (by kernel_rfl) (by kernel_rfl) (fun _ _ _ h => h) (Or.inl ⟨by rfl, fun w hSw => ?_⟩) hHeld ?_
      · (clear hSw; go_simp)
      simp only [Act.put, List.setIfInBounds_toArray, List.set_cons_zero, List.set_cons_succ]
      refine takeH (i := 46) (v := .bool true) rfl (by kernel_rfl) (by kernel_rfl) (by kernel_rfl) (fun _ _ _ h => h) (Or.inl ⟨by rfl, fun w hSw => ?_⟩) hHeld ?_
      · (clear hSw; go_simp)
      simp only [Act.put, List.setIfInBounds_toArray, List.set_cons_zero, List.set_cons_succ]
      refine wpAnyH_done (by kernel_rfl) ?_ _
      clear hHeld
      have HF := Lib.hid HSK.out.1
      clear HSK
      go_wp2
      go_ret
      exact ⟨rfl, HF.out⟩
  · have HST := Lib.hid hs
    clear hs
    cases hr : c.right
    · have HRT := Lib.hid hr
      have HE := Lib.hid (show c.err = 10 by unfold Ct.err; rw [hr]; rfl)
      clear hr
      obtain ⟨t, r, o⟩ := c
      obtain ⟨t1, r1, o1⟩ := d
      go_enter Try.func3, Try.ntmps3
      go_wp2_with fail
      refine (rcome_any ⟨t, r, o⟩ k x _).mono ?_
      rintro e w1 ⟨rfl, hb1⟩
      rw [HD.out]
      have HA1 := Lib.hid (below1 w1 (.cells (Ct.cells ⟨t1, r1, o1⟩) 26))
      have HB1 := Lib.hid (nxt (nxt HB.out hb1) HA1.out)
      have HC1 := Lib.hid ((HC.out.below hb1 (by simp; omega)).next HA1.out)
      have HX1 := Lib.hid (HX.out.below (nxt hb1 HA1.out))
      have HR1 := Lib.hid ((HR.out.below hb1 (by simp)).next HA1.out)
      have HT1 := Lib.hid (rb_new w1 ⟨t1, r1, o1⟩)
      clear hb1 HB HC HX HR HA1
      obtain ⟨a0, a1, a2⟩ := HC1.out.cx
      obtain ⟨x0, x1⟩ := HX1.out
      simp only at a0 a1 a2
      go_wp2_with fail
      refine (behind_any ⟨t, r, o⟩ k x _).mono ?_
      rintro e w2 ⟨rfl, hb2⟩
      rw [HD.out]
      have HA2 := Lib.hid (below2 w2 (.cells (Ct.cells ⟨t1, r1, o1⟩) 23) (.cells #[.int .i64 0, .int .i64 1, .int .i64 2] 3))
      have HB2 := Lib.hid (nxt (nxt HB1.out hb2) HA2.out)
      have HC2 := Lib.hid ((HC1.out.next hb2).next HA2.out)
      have HR2 := Lib.hid ((HR1.out.next hb2).next HA2.out)
      have HT2 := Lib.hid ((HT1.out.next hb2).next HA2.out)
      have HU2 := Lib.hid (cb_first w2 ⟨t1, r1, o1⟩ (.cells #[.int .i64 0, .int .i64 1, .int .i64 2] 3))
      have HS2 := Lib.hid (three_cells (w2.alloc (.cells (Ct.cells ⟨t1, r1, o1⟩) 23)))
      rw [size_alloc1] at HS2
      clear hb2 HB1 HC1 HX1 HR1 HT1 HA2 a0 a1 a2 x0 x1
      obtain ⟨r0, r1', r2⟩ := HR2.out.cx
      simp only at r0 r1' r2
      go_wp2_with fail
      refine (rstate_any ⟨t, r, o⟩ _).mono ?_
      rintro e w3 ⟨rfl, hb3⟩
      rw [HST.out]
      have HB3 := Lib.hid (nxt HB2.out hb3)
      have HC3 := Lib.hid (HC2.out.next hb3)
      have HR3 := Lib.hid (HR2.out.next hb3)
      have HT3 := Lib.hid (HT2.out.next hb3)
      have HU3 := Lib.hid (HU2.out.next hb3)
      have HS3 := Lib.hid (three_next HS2.out hb3)
      clear hb3 HB2 HC2 HR2 HT2 HU2 HS2 r0 r1' r2
      obtain ⟨s0, s1, s2⟩ := HS3.out
      go_wp2_with fail
      clear s0 s1 s2
      refine wp_region_held_drew (S := fun w' => Below w.heap.size w w' ∧ Cb w' (w.heap.size) ⟨t, r, o⟩ ∧ Rb w' (w.heap.size + 1 + 1) ⟨t, r, o⟩ ∧ Rb w' (w1.heap.size) ⟨t1, r1, o1⟩ ∧ Cb w' (w2.heap.size) ⟨t1, r1, o1⟩) (by kernel_rfl) (⟨HB3.out.drew, HC3.out, HR3.out, HT3.out, HU3.out⟩) (fun hHeld => ?_)
      refine takeH (i := 0) (v := .pointer (some ⟨w2.heap.size, 0, none⟩)) rfl (by kernel_rfl) (by kernel_rfl) (by kernel_rfl) (fun _ _ _ h => h) (Or.inl ⟨by rfl, fun w hSw => ?_⟩) hHeld ?_
      · (clear hSw; go_simp)
      simp only [Act.put, List.setIfInBounds_toArray, List.set_cons_zero, List.set_cons_succ]
      refine takeH (i := 1) (v := .int .i64 t1) rfl (by kernel_rfl) (by kernel_rfl) (by kernel_rfl) (fun _ _ _ h => h) (Or.inl ⟨by rfl, fun w hSw => ?_⟩) hHeld ?_
      · (obtain ⟨d0, d1, d2⟩ := hSw.2.2.2.2.cx; simp only at d0 d1 d2; clear hSw; go_simp)
      simp only [Act.put, List.setIfInBounds_toArray, List.set_cons_zero, List.set_cons_succ]
      refine takeH (i := 2) (v := .pointer (some ⟨w1.heap.size, 0, none⟩)) rfl (by kernel_rfl) (by kernel_rfl) (by kernel_rfl) (fun _ _ _ h => h) (Or.inl ⟨by rfl, fun w hSw => ?_⟩) hHeld ?_
      · (clear hSw; go_simp)
      simp only [Act.put, List.setIfInBounds_toArray, List.set_cons_zero, List.set_cons_succ]
      refine takeH (i := 3) (v := .int .i64 t1) rfl (by kernel_rfl) (by kernel_rfl) (by kernel_rfl) (fun _ _ _ h => h) (Or.inl ⟨by rfl, fun w hSw => ?_⟩) hHeld ?_
      · (obtain ⟨c0, c1, c2⟩ := hSw.2.2.2.1.cx; simp only at c0 c1 c2; clear hSw; go_simp)
      simp only [Act.put, List.setIfInBounds_toArray, List.set_cons_zero, List.set_cons_succ]
      refine takeH (i := 4) (v := .bool true) rfl (by kernel_rfl) (by kernel_rfl) (by kernel_rfl) (fun _ _ _ h => h) (Or.inl ⟨by rfl, fun w hSw => ?_⟩) hHeld ?_
      · (clear hSw; go_simp)
      simp only [Act.put, List.setIfInBounds_toArray, List.set_cons_zero, List.set_cons_succ]
      refine takeH (i := 5) (v := .bool true) rfl (by kernel_rfl) (by kernel_rfl) (by kernel_rfl) (fun _ _ _ h => h) (Or.inl ⟨by rfl, fun w hSw => ?_⟩) hHeld ?_
      · (clear hSw; go_simp)
      simp only [Act.put, List.setIfInBounds_toArray, List.set_cons_zero, List.set_cons_succ]
      refine takeH (i := 6) (v := .pointer (some ⟨w2.heap.size, 1, none⟩)) rfl (by kernel_rfl) (by kernel_rfl) (by kernel_rfl) (fun _ _ _ h => h) (Or.inl ⟨by rfl, fun w hSw => ?_⟩) hHeld ?_
      · (clear hSw; go_simp)
      simp only [Act.put, List.setIfInBounds_toArray, List.set_cons_zero, List.set_cons_succ]
      refine takeH (i := 7) (v := .int .i64 r1) rfl (by kernel_rfl) (by kernel_rfl) (by kernel_rfl) (fun _ _ _ h => h) (Or.inl ⟨by rfl, fun w hSw => ?_⟩) hHeld ?_
      · (obtain ⟨d0, d1, d2⟩ := hSw.2.2.2.2.cx; simp only at d0 d1 d2; clear hSw; go_simp)
      simp only [Act.put, List.setIfInBounds_toArray, List.set_cons_zero, List.set_cons_succ]
      refine takeH (i := 8) (v := .pointer (some ⟨w1.heap.size, 1, none⟩)) rfl (by kernel_rfl) (by kernel_rfl) (by kernel_rfl) (fun _ _ _ h => h) (Or.inl ⟨by rfl, fun w hSw => ?_⟩) hHeld ?_
      · (clear hSw; go_simp)
      simp only [Act.put, List.setIfInBounds_toArray, List.set_cons_zero, List.set_cons_succ]
      refine takeH (i := 9) (v := .int .i64 r1) rfl (by kernel_rfl) (by kernel_rfl) (by kernel_rfl) (fun _ _ _ h => h) (Or.inl ⟨by rfl, fun w hSw => ?_⟩) hHeld ?_
      · (obtain ⟨c0, c1, c2⟩ := hSw.2.2.2.1.cx; simp only at c0 c1 c2; clear hSw; go_simp)
      simp only [Act.put, List.setIfInBounds_toArray, List.set_cons_zero, List.set_cons_succ]
      refine takeH (i := 10) (v := .bool true) rfl (by kernel_rfl) (by kernel_rfl) (by kernel_rfl) (fun _ _ _ h => h) (Or.inl ⟨by rfl, fun w hSw => ?_⟩) hHeld ?_
      · (clear hSw; go_simp)
      simp only [Act.put, List.setIfInBounds_toArray, List.set_cons_zero, List.set_cons_succ]
      refine takeH (i := 11) (v := .bool true) rfl (by kernel_rfl) (by kernel_rfl) (by kernel_rfl) (fun _ _ _ h => h) (Or.inl ⟨by rfl, fun w hSw => ?_⟩) hHeld ?_
      · (clear hSw; go_simp)
      simp only [Act.put, List.setIfInBounds_toArray, List.set_cons_zero, List.set_cons_succ]
      refine takeH (i := 12) (v := .bool true) rfl (by kernel_rfl) (by kernel_rfl) (by kernel_rfl) (fun _ _ _ h => h) (Or.inl ⟨by rfl, fun w hSw => ?_⟩) hHeld ?_
      · (clear hSw; go_simp)
      simp only [Act.put, List.setIfInBounds_toArray, List.set_cons_zero, List.set_cons_succ]
      refine takeH (i := 13) (v := .pointer (some ⟨w2.heap.size, 2, none⟩)) rfl (by kernel_rfl) (by kernel_rfl) (by kernel_rfl) (fun _ _ _ h => h) (Or.inl ⟨by rfl, fun w hSw => ?_⟩) hHeld ?_
      · (clear hSw; go_simp)
      simp only [Act.put, List.setIfInBounds_toArray, List.set_cons_zero, List.set_cons_succ]
      refine takeH (i := 14) (v := .bool o1) rfl (by kernel_rfl) (by kernel_rfl) (by kernel_rfl) (fun _ _ _ h => h) (Or.inl ⟨by rfl, fun w hSw => ?_⟩) hHeld ?_
      · (obtain ⟨d0, d1, d2⟩ := hSw.2.2.2.2.cx; simp only at d0 d1 d2; clear hSw; go_simp)
      simp only [Act.put, List.setIfInBounds_toArray, List.set_cons_zero, List.set_cons_succ]
      refine takeH (i := 15) (v := .pointer (some ⟨w1.heap.size, 2, none⟩)) rfl (by kernel_rfl) (by kernel_rfl) (by kernel_rfl) (fun _ _ _ h => h) (Or.inl ⟨by rfl, fun w hSw => ?_⟩) hHeld ?_
      · (clear hSw; go_simp)
      simp only [Act.put, List.setIfInBounds_toArray, List.set_cons_zero, List.set_cons_succ]
      refine takeH (i := 16) (v := .bool o1) rfl (by kernel_rfl) (by kernel_rfl) (by kernel_rfl) (fun _ _ _ h => h) (Or.inl ⟨by rfl, fun w hSw => ?_⟩) hHeld ?_
      · (obtain ⟨c0, c1, c2⟩ := hSw.2.2.2.1.cx; simp only at c0 c1 c2; clear hSw; go_simp)
      simp only [Act.put, List.setIfInBounds_toArray, List.set_cons_zero, List.set_cons_succ]
      refine takeH (i := 17) (v := .bool true) rfl (by kernel_rfl) (by kernel_rfl) (by kernel_rfl) (fun _ _ _ h => h) (Or.inl ⟨by rfl, fun w hSw => ?_⟩) hHeld ?_
      · (clear hSw; go_simp)
      simp only [Act.put, List.setIfInBounds_toArray, List.set_cons_zero, List.set_cons_succ]
      refine takeH (i := 18) (v := .bool true) rfl (by kernel_rfl) (by kernel_rfl) (by kernel_rfl) (fun _ _ _ h => h) (Or.inl ⟨by rfl, fun w hSw => ?_⟩) hHeld ?_
      · (clear hSw; go_simp)
      simp only [Act.put, List.setIfInBounds_toArray, List.set_cons_zero, List.set_cons_succ]
      refine takeH (i := 19) (v := .bool true) rfl (by kernel_rfl) (by kernel_rfl) (by kernel_rfl) (fun _ _ _ h => h) (Or.inl ⟨by rfl, fun w hSw => ?_⟩) hHeld ?_
      · (clear hSw; go_simp)
      simp only [Act.put, List.setIfInBounds_toArray, List.set_cons_zero, List.set_cons_succ]
      refine takeH (i := 20) (v := .agg #[.int .i64 t, .int .i64 r, .bool o]) rfl (by kernel_rfl) (by kernel_rfl) (by kernel_rfl) (fun _ _ _ h => h) (Or.inl ⟨by rfl, fun w hSw => ?_⟩) hHeld ?_
      · (obtain ⟨a0, a1, a2⟩ := hSw.2.1.cx; simp only at a0 a1 a2; clear hSw; go_simp)
      simp only [Act.put, List.setIfInBounds_toArray, List.set_cons_zero, List.set_cons_succ]
      refine takeH (i := 22) (v := .int .i64 2) rfl (by kernel_rfl) (by kernel_rfl) (by kernel_rfl) (fun _ _ _ h => h) (Or.inl ⟨by rfl, fun w hSw => ?_⟩) hHeld ?_
      · (clear hSw; go_simp)
      simp only [Act.put, List.setIfInBounds_toArray, List.set_cons_zero, List.set_cons_succ]
      refine wpAnyH_ready (rs := [21]) (by kernel_rfl) (by simp) ?_
      refine AllReadyH.cons rfl (fun K hK => ?_) AllReadyH.nil
      go_simp
      refine (state_any ⟨t, r, o⟩ _).mono ?_
      rintro e wz0 ⟨rfl, hbz0⟩
      have hH := hHeld
      rw [HST.out]
      have HSK := Lib.hid (And.intro (nxt hH.1 hbz0) (And.intro (hH.2.1.next hbz0) (And.intro (hH.2.2.1.next hbz0) (And.intro (hH.2.2.2.1.next hbz0) (hH.2.2.2.2.next hbz0)))))
      clear hbz0 hH
      clear hHeld
      dsimp only
      refine hK.out _ _ (HSK.out) (fun hHeld => ?_)
      clear hK K
      try simp only [Act.put, List.setIfInBounds_toArray, List.set_cons_zero, List.set_cons_succ]
      refine takeH (i := 23) (v := .bool true) rfl (by kernel_rfl) (by kernel_rfl) (by kernel_rfl) (fun _ _ _ h => h) (Or.inl ⟨by rfl, fun w hSw => ?_⟩) hHeld ?_
      · (clear hSw; go_simp)
      simp only [Act.put, List.setIfInBounds_toArray, List.set_cons_zero, List.set_cons_succ]
      refine takeH (i := 24) (v := .bool true) rfl (by kernel_rfl) (by kernel_rfl) (by kernel_rfl) (fun _ _ _ h => h) (Or.inl ⟨by rfl, fun w hSw => ?_⟩) hHeld ?_
      · (clear hSw; go_simp)
      simp only [Act.put, List.setIfInBounds_toArray, List.set_cons_zero, List.set_cons_succ]
      refine takeH (i := 25) (v := .bool true) rfl (by kernel_rfl) (by kernel_rfl) (by kernel_rfl) (fun _ _ _ h => h) (Or.inl ⟨by rfl, fun w hSw => ?_⟩) hHeld ?_
      · (clear hSw; go_simp)
      simp only [Act.put, List.setIfInBounds_toArray, List.set_cons_zero, List.set_cons_succ]
      refine takeH (i := 26) (v := .agg #[.int .i64 t, .int .i64 r, .bool o]) rfl (by kernel_rfl) (by kernel_rfl) (by kernel_rfl) (fun _ _ _ h => h) (Or.inl ⟨by rfl, fun w hSw => ?_⟩) hHeld ?_
      · (obtain ⟨a0, a1, a2⟩ := hSw.2.1.cx; simp only at a0 a1 a2; clear hSw; go_simp)
      simp only [Act.put, List.setIfInBounds_toArray, List.set_cons_zero, List.set_cons_succ]
      refine takeH (i := 29) (v := .agg #[.int .i64 t, .int .i64 r, .bool o]) rfl (by kernel_rfl) (by kernel_rfl) (by kernel_rfl) (fun _ _ _ h => h) (Or.inl ⟨by rfl, fun w hSw => ?_⟩) hHeld ?_
      · (obtain ⟨b0, b1, b2⟩ := hSw.2.2.1.cx; simp only at b0 b1 b2; clear hSw; go_simp)
      simp only [Act.put, List.setIfInBounds_toArray, List.set_cons_zero, List.set_cons_succ]
      refine wpAnyH_ready (rs := [27]) (by kernel_rfl) (by simp) ?_
      refine AllReadyH.cons rfl (fun K hK => ?_) AllReadyH.nil
      go_simp
      refine (check_any ⟨t, r, o⟩ _).mono ?_
      rintro e wz1 ⟨rfl, hbz1⟩
      have hH := hHeld
      rw [HE.out]
      have HSK := Lib.hid (And.intro (nxt hH.1 hbz1) (And.intro (hH.2.1.next hbz1) (And.intro (hH.2.2.1.next hbz1) (And.intro (hH.2.2.2.1.next hbz1) (hH.2.2.2.2.next hbz1)))))
      clear hbz1 hH
      clear hHeld
      dsimp only
      refine hK.out _ _ (HSK.out) (fun hHeld => ?_)
      clear hK K
      try simp only [Act.put, List.setIfInBounds_toArray, List.set_cons_zero, List.set_cons_succ]
      refine takeH (i := 28) (v := .bool false) rfl (by kernel_rfl) (by kernel_rfl) (by kernel_rfl) (fun _ _ _ h => h) (Or.inl ⟨by rfl, fun w hSw => ?_⟩) hHeld ?_
      · (clear hSw; go_simp)
      simp only [Act.put, List.setIfInBounds_toArray, List.set_cons_zero, List.set_cons_succ]
      refine wpAnyH_ready (rs := [30]) (by kernel_rfl) (by simp) ?_
      refine AllReadyH.cons rfl (fun K hK => ?_) AllReadyH.nil
      go_simp
      refine (rright_any ⟨t, r, o⟩ _).mono ?_
      rintro e wz2 ⟨rfl, hbz2⟩
      have hH := hHeld
      rw [HRT.out]
      have HSK := Lib.hid (And.intro (nxt hH.1 hbz2) (And.intro (hH.2.1.next hbz2) (And.intro (hH.2.2.1.next hbz2) (And.intro (hH.2.2.2.1.next hbz2) (hH.2.2.2.2.next hbz2)))))
      clear hbz2 hH
      clear hHeld
      dsimp only
      refine hK.out _ _ (HSK.out) (fun hHeld => ?_)
      clear hK K
      try simp only [Act.put, List.setIfInBounds_toArray, List.set_cons_zero, List.set_cons_succ]
      refine takeH (i := 31) (v := .bool true) rfl (by kernel_rfl) (by kernel_rfl) (by kernel_rfl) (fun _ _ _ h => h) (Or.inl ⟨by rfl, fun w hSw => ?_⟩) hHeld ?_
      · (clear hSw; go_simp)
      simp only [Act.put, List.setIfInBounds_toArray, List.set_cons_zero, List.set_cons_succ]
      refine takeH (i := 32) (v := .bool true) rfl (by kernel_rfl) (by kernel_rfl) (by kernel_rfl) (fun _ _ _ h => h) (Or.inl ⟨by rfl, fun w hSw => ?_⟩) hHeld ?_
      · (clear hSw; go_simp)
      simp only [Act.put, List.setIfInBounds_toArray, List.set_cons_zero, List.set_cons_succ]
      refine takeH (i := 33) (v := .bool true) rfl (by kernel_rfl) (by kernel_rfl) (by kernel_rfl) (fun _ _ _ h => h) (Or.inl ⟨by rfl, fun w hSw => ?_⟩) hHeld ?_
      · (clear hSw; go_simp)
      simp only [Act.put, List.setIfInBounds_toArray, List.set_cons_zero, List.set_cons_succ]
      refine takeH (i := 34) (v := .agg #[.int .i64 t, .int .i64 r, .bool o]) rfl (by kernel_rfl) (by kernel_rfl) (by kernel_rfl) (fun _ _ _ h => h) (Or.inl ⟨by rfl, fun w hSw => ?_⟩) hHeld ?_
      · (obtain ⟨a0, a1, a2⟩ := hSw.2.1.cx; simp only at a0 a1 a2; clear hSw; go_simp)
      simp only [Act.put, List.setIfInBounds_toArray, List.set_cons_zero, List.set_cons_succ]
      refine wpAnyH_ready (rs := [35]) (by kernel_rfl) (by simp) ?_
      refine AllReadyH.cons rfl (fun K hK => ?_) AllReadyH.nil
      go_simp
      refine (check_any ⟨t, r, o⟩ _).mono ?_
      rintro e wz3 ⟨rfl, hbz3⟩
      have hH := hHeld
      rw [HE.out]
      have HSK := Lib.hid (And.intro (nxt hH.1 hbz3) (And.intro (hH.2.1.next hbz3) (And.intro (hH.2.2.1.next hbz3) (And.intro (hH.2.2.2.1.next hbz3) (hH.2.2.2.2.next hbz3)))))
      clear hbz3 hH
      clear hHeld
      dsimp only
      refine hK.out _ _ (HSK.out) (fun hHeld => ?_)
      clear hK K
      try simp only [Act.put, List.setIfInBounds_toArray, List.set_cons_zero, List.set_cons_succ]
      refine takeH (i := 36) (v := .bool false) rfl (by kernel_rfl) (by kernel_rfl) (by kernel_rfl) (fun _ _ _ h => h) (Or.inl ⟨by rfl, fun w hSw => ?_⟩) hHeld ?_
      · (clear hSw; go_simp)
      simp only [Act.put, List.setIfInBounds_toArray, List.set_cons_zero, List.set_cons_succ]
      refine takeH (i := 37) (v := .bool false) rfl (by kernel_rfl) (by kernel_rfl) (by kernel_rfl) (fun _ _ _ h => h) (Or.inl ⟨by rfl, fun w hSw => ?_⟩) hHeld ?_
      · (clear hSw; go_simp)
      simp only [Act.put, List.setIfInBounds_toArray, List.set_cons_zero, List.set_cons_succ]
      refine takeH (i := 38) (v := .agg #[.int .i64 t, .int .i64 r, .bool o]) rfl (by kernel_rfl) (by kernel_rfl) (by kernel_rfl) (fun _ _ _ h => h) (Or.inl ⟨by rfl, fun w hSw => ?_⟩) hHeld ?_
      · (obtain ⟨a0, a1, a2⟩ := hSw.2.1.cx; simp only at a0 a1 a2; clear hSw; go_simp)
      simp only [Act.put, List.setIfInBounds_toArray, List.set_cons_zero, List.set_cons_succ]
      refine wpAnyH_ready (rs := [39]) (by kernel_rfl) (by simp) ?_
      refine AllReadyH.cons rfl (fun K hK => ?_) AllReadyH.nil
      go_simp
      refine (check_any ⟨t, r, o⟩ _).mono ?_
      rintro e wz4 ⟨rfl, hbz4⟩
      have hH := hHeld
      rw [HE.out]
      have HSK := Lib.hid (And.intro (nxt hH.1 hbz4) (And.intro (hH.2.1.next hbz4) (And.intro (hH.2.2.1.next hbz4) (And.intro (hH.2.2.2.1.next hbz4) (hH.2.2.2.2.next hbz4)))))
      clear hbz4 hH
      clear hHeld
      dsimp only
      refine hK.out _ _ (HSK.out) (fun hHeld => ?_)
      clear hK K
      try simp only [Act.put, List.setIfInBounds_toArray, List.set_cons_zero, List.set_cons_succ]
      refine takeH (i := 40) (v := .bool true) rfl (by kernel_rfl) (by kernel_rfl) (by kernel_rfl) (fun _ _ _ h => h) (Or.inl ⟨by rfl, fun w hSw => ?_⟩) hHeld ?_
      · (clear hSw; go_simp)
      simp only [Act.put, List.setIfInBounds_toArray, List.set_cons_zero, List.set_cons_succ]
      refine takeH (i := 41) (v := .bool true) rfl (by kernel_rfl) (by kernel_rfl) (by kernel_rfl) (fun _ _ _ h => h) (Or.inl ⟨by rfl, fun w hSw => ?_⟩) hHeld ?_
      · (clear hSw; go_simp)
      simp only [Act.put, List.setIfInBounds_toArray, List.set_cons_zero, List.set_cons_succ]
      refine takeH (i := 42) (v := .bool true) rfl (by kernel_rfl) (by kernel_rfl) (by kernel_rfl) (fun _ _ _ h => h) (Or.inl ⟨by rfl, fun w hSw => ?_⟩) hHeld ?_
      · (clear hSw; go_simp)
      simp only [Act.put, List.setIfInBounds_toArray, List.set_cons_zero, List.set_cons_succ]
      refine takeH (i := 43) (v := .bool true) rfl (by kernel_rfl) (by kernel_rfl) (by kernel_rfl) (fun _ _ _ h => h) (Or.inl ⟨by rfl, fun w hSw => ?_⟩) hHeld ?_
      · (clear hSw; go_simp)
      simp only [Act.put, List.setIfInBounds_toArray, List.set_cons_zero, List.set_cons_succ]
      refine wpAnyH_ready (rs := [44]) (by kernel_rfl) (by simp) ?_
      refine AllReadyH.cons rfl (fun K hK => ?_) AllReadyH.nil
      go_simp
      refine (awake8 _).mono ?_
      rintro e wz5 ⟨rfl, hbz5⟩
      have hH := hHeld
      have HSK := Lib.hid (And.intro (nxt hH.1 hbz5) (And.intro (hH.2.1.next hbz5) (And.intro (hH.2.2.1.next hbz5) (And.intro (hH.2.2.2.1.next hbz5) (hH.2.2.2.2.next hbz5)))))
      clear hbz5 hH
      clear hHeld
      dsimp only
      refine hK.out _ _ (HSK.out) (fun hHeld => ?_)
      clear hK K
      try simp only [Act.put, List.setIfInBounds_toArray, List.set_cons_zero, List.set_cons_succ]
      refine takeH (i := 45) (v := .bool true) rfl (by kernel_rfl) (by kernel_rfl) (by kernel_rfl) (fun _ _ _ h => h) (Or.inl ⟨by rfl, fun w hSw => ?_⟩) hHeld ?_
      · (clear hSw; go_simp)
      simp only [Act.put, List.setIfInBounds_toArray, List.set_cons_zero, List.set_cons_succ]
      refine takeH (i := 46) (v := .bool true) rfl (by kernel_rfl) (by kernel_rfl) (by kernel_rfl) (fun _ _ _ h => h) (Or.inl ⟨by rfl, fun w hSw => ?_⟩) hHeld ?_
      · (clear hSw; go_simp)
      simp only [Act.put, List.setIfInBounds_toArray, List.set_cons_zero, List.set_cons_succ]
      refine wpAnyH_done (by kernel_rfl) ?_ _
      clear hHeld
      have HF := Lib.hid HSK.out.1
      clear HSK
      go_wp2
      go_ret
      exact ⟨rfl, HF.out⟩
    · have HRT := Lib.hid hr
      have HE := Lib.hid (show c.err = 0 by unfold Ct.err; rw [hr]; rfl)
      clear hr
      obtain ⟨t, r, o⟩ := c
      obtain ⟨t1, r1, o1⟩ := d
      go_enter Try.func3, Try.ntmps3
      go_wp2_with fail
      refine (rcome_any ⟨t, r, o⟩ k x _).mono ?_
      rintro e w1 ⟨rfl, hb1⟩
      rw [HD.out]
      have HA1 := Lib.hid (below1 w1 (.cells (Ct.cells ⟨t1, r1, o1⟩) 26))
      have HB1 := Lib.hid (nxt (nxt HB.out hb1) HA1.out)
      have HC1 := Lib.hid ((HC.out.below hb1 (by simp; omega)).next HA1.out)
      have HX1 := Lib.hid (HX.out.below (nxt hb1 HA1.out))
      have HR1 := Lib.hid ((HR.out.below hb1 (by simp)).next HA1.out)
      have HT1 := Lib.hid (rb_new w1 ⟨t1, r1, o1⟩)
      clear hb1 HB HC HX HR HA1
      obtain ⟨a0, a1, a2⟩ := HC1.out.cx
      obtain ⟨x0, x1⟩ := HX1.out
      simp only at a0 a1 a2
      go_wp2_with fail
      refine (behind_any ⟨t, r, o⟩ k x _).mono ?_
      rintro e w2 ⟨rfl, hb2⟩
      rw [HD.out]
      have HA2 := Lib.hid (below2 w2 (.cells (Ct.cells ⟨t1, r1, o1⟩) 23) (.cells #[.int .i64 0, .int .i64 1, .int .i64 2] 3))
      have HB2 := Lib.hid (nxt (nxt HB1.out hb2) HA2.out)
      have HC2 := Lib.hid ((HC1.out.next hb2).next HA2.out)
      have HR2 := Lib.hid ((HR1.out.next hb2).next HA2.out)
      have HT2 := Lib.hid ((HT1.out.next hb2).next HA2.out)
      have HU2 := Lib.hid (cb_first w2 ⟨t1, r1, o1⟩ (.cells #[.int .i64 0, .int .i64 1, .int .i64 2] 3))
      have HS2 := Lib.hid (three_cells (w2.alloc (.cells (Ct.cells ⟨t1, r1, o1⟩) 23)))
      rw [size_alloc1] at HS2
      clear hb2 HB1 HC1 HX1 HR1 HT1 HA2 a0 a1 a2 x0 x1
      obtain ⟨r0, r1', r2⟩ := HR2.out.cx
      simp only at r0 r1' r2
      go_wp2_with fail
      refine (rstate_any ⟨t, r, o⟩ _).mono ?_
      rintro e w3 ⟨rfl, hb3⟩
      rw [HST.out]
      have HB3 := Lib.hid (nxt HB2.out hb3)
      have HC3 := Lib.hid (HC2.out.next hb3)
      have HR3 := Lib.hid (HR2.out.next hb3)
      have HT3 := Lib.hid (HT2.out.next hb3)
      have HU3 := Lib.hid (HU2.out.next hb3)
      have HS3 := Lib.hid (three_next HS2.out hb3)
      clear hb3 HB2 HC2 HR2 HT2 HU2 HS2 r0 r1' r2
      obtain ⟨s0, s1, s2⟩ := HS3.out
      go_wp2_with fail
      clear s0 s1 s2
      refine wp_region_held_drew (S := fun w' => Below w.heap.size w w' ∧ Cb w' (w.heap.size) ⟨t, r, o⟩ ∧ Rb w' (w.heap.size + 1 + 1) ⟨t, r, o⟩ ∧ Rb w' (w1.heap.size) ⟨t1, r1, o1⟩ ∧ Cb w' (w2.heap.size) ⟨t1, r1, o1⟩) (by kernel_rfl) (⟨HB3.out.drew, HC3.out, HR3.out, HT3.out, HU3.out⟩) (fun hHeld => ?_)
      refine takeH (i := 0) (v := .pointer (some ⟨w2.heap.size, 0, none⟩)) rfl (by kernel_rfl) (by kernel_rfl) (by kernel_rfl) (fun _ _ _ h => h) (Or.inl ⟨by rfl, fun w hSw => ?_⟩) hHeld ?_
      · (clear hSw; go_simp)
      simp only [Act.put, List.setIfInBounds_toArray, List.set_cons_zero, List.set_cons_succ]
      refine takeH (i := 1) (v := .int .i64 t1) rfl (by kernel_rfl) (by kernel_rfl) (by kernel_rfl) (fun _ _ _ h => h) (Or.inl ⟨by rfl, fun w hSw => ?_⟩) hHeld ?_
      · (obtain ⟨d0, d1, d2⟩ := hSw.2.2.2.2.cx; simp only at d0 d1 d2; clear hSw; go_simp)
      simp only [Act.put, List.setIfInBounds_toArray, List.set_cons_zero, List.set_cons_succ]
      refine takeH (i := 2) (v := .pointer (some ⟨w1.heap.size, 0, none⟩)) rfl (by kernel_rfl) (by kernel_rfl) (by kernel_rfl) (fun _ _ _ h => h) (Or.inl ⟨by rfl, fun w hSw => ?_⟩) hHeld ?_
      · (clear hSw; go_simp)
      simp only [Act.put, List.setIfInBounds_toArray, List.set_cons_zero, List.set_cons_succ]
      refine takeH (i := 3) (v := .int .i64 t1) rfl (by kernel_rfl) (by kernel_rfl) (by kernel_rfl) (fun _ _ _ h => h) (Or.inl ⟨by rfl, fun w hSw => ?_⟩) hHeld ?_
      · (obtain ⟨c0, c1, c2⟩ := hSw.2.2.2.1.cx; simp only at c0 c1 c2; clear hSw; go_simp)
      simp only [Act.put, List.setIfInBounds_toArray, List.set_cons_zero, List.set_cons_succ]
      refine takeH (i := 4) (v := .bool true) rfl (by kernel_rfl) (by kernel_rfl) (by kernel_rfl) (fun _ _ _ h => h) (Or.inl ⟨by rfl, fun w hSw => ?_⟩) hHeld ?_
      · (clear hSw; go_simp)
      simp only [Act.put, List.setIfInBounds_toArray, List.set_cons_zero, List.set_cons_succ]
      refine takeH (i := 5) (v := .bool true) rfl (by kernel_rfl) (by kernel_rfl) (by kernel_rfl) (fun _ _ _ h => h) (Or.inl ⟨by rfl, fun w hSw => ?_⟩) hHeld ?_
      · (clear hSw; go_simp)
      simp only [Act.put, List.setIfInBounds_toArray, List.set_cons_zero, List.set_cons_succ]
      refine takeH (i := 6) (v := .pointer (some ⟨w2.heap.size, 1, none⟩)) rfl (by kernel_rfl) (by kernel_rfl) (by kernel_rfl) (fun _ _ _ h => h) (Or.inl ⟨by rfl, fun w hSw => ?_⟩) hHeld ?_
      · (clear hSw; go_simp)
      simp only [Act.put, List.setIfInBounds_toArray, List.set_cons_zero, List.set_cons_succ]
      refine takeH (i := 7) (v := .int .i64 r1) rfl (by kernel_rfl) (by kernel_rfl) (by kernel_rfl) (fun _ _ _ h => h) (Or.inl ⟨by rfl, fun w hSw => ?_⟩) hHeld ?_
      · (obtain ⟨d0, d1, d2⟩ := hSw.2.2.2.2.cx; simp only at d0 d1 d2; clear hSw; go_simp)
      simp only [Act.put, List.setIfInBounds_toArray, List.set_cons_zero, List.set_cons_succ]
      refine takeH (i := 8) (v := .pointer (some ⟨w1.heap.size, 1, none⟩)) rfl (by kernel_rfl) (by kernel_rfl) (by kernel_rfl) (fun _ _ _ h => h) (Or.inl ⟨by rfl, fun w hSw => ?_⟩) hHeld ?_
      · (clear hSw; go_simp)
      simp only [Act.put, List.setIfInBounds_toArray, List.set_cons_zero, List.set_cons_succ]
      refine takeH (i := 9) (v := .int .i64 r1) rfl (by kernel_rfl) (by kernel_rfl) (by kernel_rfl) (fun _ _ _ h => h) (Or.inl ⟨by rfl, fun w hSw => ?_⟩) hHeld ?_
      · (obtain ⟨c0, c1, c2⟩ := hSw.2.2.2.1.cx; simp only at c0 c1 c2; clear hSw; go_simp)
      simp only [Act.put, List.setIfInBounds_toArray, List.set_cons_zero, List.set_cons_succ]
      refine takeH (i := 10) (v := .bool true) rfl (by kernel_rfl) (by kernel_rfl) (by kernel_rfl) (fun _ _ _ h => h) (Or.inl ⟨by rfl, fun w hSw => ?_⟩) hHeld ?_
      · (clear hSw; go_simp)
      simp only [Act.put, List.setIfInBounds_toArray, List.set_cons_zero, List.set_cons_succ]
      refine takeH (i := 11) (v := .bool true) rfl (by kernel_rfl) (by kernel_rfl) (by kernel_rfl) (fun _ _ _ h => h) (Or.inl ⟨by rfl, fun w hSw => ?_⟩) hHeld ?_
      · (clear hSw; go_simp)
      simp only [Act.put, List.setIfInBounds_toArray, List.set_cons_zero, List.set_cons_succ]
      refine takeH (i := 12) (v := .bool true) rfl (by kernel_rfl) (by kernel_rfl) (by kernel_rfl) (fun _ _ _ h => h) (Or.inl ⟨by rfl, fun w hSw => ?_⟩) hHeld ?_
      · (clear hSw; go_simp)
      simp only [Act.put, List.setIfInBounds_toArray, List.set_cons_zero, List.set_cons_succ]
      refine takeH (i := 13) (v := .pointer (some ⟨w2.heap.size, 2, none⟩)) rfl (by kernel_rfl) (by kernel_rfl) (by kernel_rfl) (fun _ _ _ h => h) (Or.inl ⟨by rfl, fun w hSw => ?_⟩) hHeld ?_
      · (clear hSw; go_simp)
      simp only [Act.put, List.setIfInBounds_toArray, List.set_cons_zero, List.set_cons_succ]
      refine takeH (i := 14) (v := .bool o1) rfl (by kernel_rfl) (by kernel_rfl) (by kernel_rfl) (fun _ _ _ h => h) (Or.inl ⟨by rfl, fun w hSw => ?_⟩) hHeld ?_
      · (obtain ⟨d0, d1, d2⟩ := hSw.2.2.2.2.cx; simp only at d0 d1 d2; clear hSw; go_simp)
      simp only [Act.put, List.setIfInBounds_toArray, List.set_cons_zero, List.set_cons_succ]
      refine takeH (i := 15) (v := .pointer (some ⟨w1.heap.size, 2, none⟩)) rfl (by kernel_rfl) (by kernel_rfl) (by kernel_rfl) (fun _ _ _ h => h) (Or.inl ⟨by rfl, fun w hSw => ?_⟩) hHeld ?_
      · (clear hSw; go_simp)
      simp only [Act.put, List.setIfInBounds_toArray, List.set_cons_zero, List.set_cons_succ]
      refine takeH (i := 16) (v := .bool o1) rfl (by kernel_rfl) (by kernel_rfl) (by kernel_rfl) (fun _ _ _ h => h) (Or.inl ⟨by rfl, fun w hSw => ?_⟩) hHeld ?_
      · (obtain ⟨c0, c1, c2⟩ := hSw.2.2.2.1.cx; simp only at c0 c1 c2; clear hSw; go_simp)
      simp only [Act.put, List.setIfInBounds_toArray, List.set_cons_zero, List.set_cons_succ]
      refine takeH (i := 17) (v := .bool true) rfl (by kernel_rfl) (by kernel_rfl) (by kernel_rfl) (fun _ _ _ h => h) (Or.inl ⟨by rfl, fun w hSw => ?_⟩) hHeld ?_
      · (clear hSw; go_simp)
      simp only [Act.put, List.setIfInBounds_toArray, List.set_cons_zero, List.set_cons_succ]
      refine takeH (i := 18) (v := .bool true) rfl (by kernel_rfl) (by kernel_rfl) (by kernel_rfl) (fun _ _ _ h => h) (Or.inl ⟨by rfl, fun w hSw => ?_⟩) hHeld ?_
      · (clear hSw; go_simp)
      simp only [Act.put, List.setIfInBounds_toArray, List.set_cons_zero, List.set_cons_succ]
      refine takeH (i := 19) (v := .bool true) rfl (by kernel_rfl) (by kernel_rfl) (by kernel_rfl) (fun _ _ _ h => h) (Or.inl ⟨by rfl, fun w hSw => ?_⟩) hHeld ?_
      · (clear hSw; go_simp)
      simp only [Act.put, List.setIfInBounds_toArray, List.set_cons_zero, List.set_cons_succ]
      refine takeH (i := 20) (v := .agg #[.int .i64 t, .int .i64 r, .bool o]) rfl (by kernel_rfl) (by kernel_rfl) (by kernel_rfl) (fun _ _ _ h => h) (Or.inl ⟨by rfl, fun w hSw => ?_⟩) hHeld ?_
      · (obtain ⟨a0, a1, a2⟩ := hSw.2.1.cx; simp only at a0 a1 a2; clear hSw; go_simp)
      simp only [Act.put, List.setIfInBounds_toArray, List.set_cons_zero, List.set_cons_succ]
      refine takeH (i := 22) (v := .int .i64 2) rfl (by kernel_rfl) (by kernel_rfl) (by kernel_rfl) (fun _ _ _ h => h) (Or.inl ⟨by rfl, fun w hSw => ?_⟩) hHeld ?_
      · (clear hSw; go_simp)
      simp only [Act.put, List.setIfInBounds_toArray, List.set_cons_zero, List.set_cons_succ]
      refine wpAnyH_ready (rs := [21]) (by kernel_rfl) (by simp) ?_
      refine AllReadyH.cons rfl (fun K hK => ?_) AllReadyH.nil
      go_simp
      refine (state_any ⟨t, r, o⟩ _).mono ?_
      rintro e wz0 ⟨rfl, hbz0⟩
      have hH := hHeld
      rw [HST.out]
      have HSK := Lib.hid (And.intro (nxt hH.1 hbz0) (And.intro (hH.2.1.next hbz0) (And.intro (hH.2.2.1.next hbz0) (And.intro (hH.2.2.2.1.next hbz0) (hH.2.2.2.2.next hbz0)))))
      clear hbz0 hH
      clear hHeld
      dsimp only
      refine hK.out _ _ (HSK.out) (fun hHeld => ?_)
      clear hK K
      try simp only [Act.put, List.setIfInBounds_toArray, List.set_cons_zero, List.set_cons_succ]
      refine takeH (i := 23) (v := .bool true) rfl (by kernel_rfl) (by kernel_rfl) (by kernel_rfl) (fun _ _ _ h => h) (Or.inl ⟨by rfl, fun w hSw => ?_⟩) hHeld ?_
      · (clear hSw; go_simp)
      simp only [Act.put, List.setIfInBounds_toArray, List.set_cons_zero, List.set_cons_succ]
      refine takeH (i := 24) (v := .bool true) rfl (by kernel_rfl) (by kernel_rfl) (by kernel_rfl) (fun _ _ _ h => h) (Or.inl ⟨by rfl, fun w hSw => ?_⟩) hHeld ?_
      · (clear hSw; go_simp)
      simp only [Act.put, List.setIfInBounds_toArray, List.set_cons_zero, List.set_cons_succ]
      refine takeH (i := 25) (v := .bool true) rfl (by kernel_rfl) (by kernel_rfl) (by kernel_rfl) (fun _ _ _ h => h) (Or.inl ⟨by rfl, fun w hSw => ?_⟩) hHeld ?_
      · (clear hSw; go_simp)
      simp only [Act.put, List.setIfInBounds_toArray, List.set_cons_zero, List.set_cons_succ]
      refine takeH (i := 26) (v := .agg #[.int .i64 t, .int .i64 r, .bool o]) rfl (by kernel_rfl) (by kernel_rfl) (by kernel_rfl) (fun _ _ _ h => h) (Or.inl ⟨by rfl, fun w hSw => ?_⟩) hHeld ?_
      · (obtain ⟨a0, a1, a2⟩ := hSw.2.1.cx; simp only at a0 a1 a2; clear hSw; go_simp)
      simp only [Act.put, List.setIfInBounds_toArray, List.set_cons_zero, List.set_cons_succ]
      refine takeH (i := 29) (v := .agg #[.int .i64 t, .int .i64 r, .bool o]) rfl (by kernel_rfl) (by kernel_rfl) (by kernel_rfl) (fun _ _ _ h => h) (Or.inl ⟨by rfl, fun w hSw => ?_⟩) hHeld ?_
      · (obtain ⟨b0, b1, b2⟩ := hSw.2.2.1.cx; simp only at b0 b1 b2; clear hSw; go_simp)
      simp only [Act.put, List.setIfInBounds_toArray, List.set_cons_zero, List.set_cons_succ]
      refine wpAnyH_ready (rs := [27]) (by kernel_rfl) (by simp) ?_
      refine AllReadyH.cons rfl (fun K hK => ?_) AllReadyH.nil
      go_simp
      refine (check_any ⟨t, r, o⟩ _).mono ?_
      rintro e wz1 ⟨rfl, hbz1⟩
      have hH := hHeld
      rw [HE.out]
      have HSK := Lib.hid (And.intro (nxt hH.1 hbz1) (And.intro (hH.2.1.next hbz1) (And.intro (hH.2.2.1.next hbz1) (And.intro (hH.2.2.2.1.next hbz1) (hH.2.2.2.2.next hbz1)))))
      clear hbz1 hH
      clear hHeld
      dsimp only
      refine hK.out _ _ (HSK.out) (fun hHeld => ?_)
      clear hK K
      try simp only [Act.put, List.setIfInBounds_toArray, List.set_cons_zero, List.set_cons_succ]
      refine takeH (i := 28) (v := .bool true) rfl (by kernel_rfl) (by kernel_rfl) (by kernel_rfl) (fun _ _ _ h => h) (Or.inl ⟨by rfl, fun w hSw => ?_⟩) hHeld ?_
      · (clear hSw; go_simp)
      simp only [Act.put, List.setIfInBounds_toArray, List.set_cons_zero, List.set_cons_succ]
      refine wpAnyH_ready (rs := [30]) (by kernel_rfl) (by simp) ?_
      refine AllReadyH.cons rfl (fun K hK => ?_) AllReadyH.nil
      go_simp
      refine (rright_any ⟨t, r, o⟩ _).mono ?_
      rintro e wz2 ⟨rfl, hbz2⟩
      have hH := hHeld
      rw [HRT.out]
      have HSK := Lib.hid (And.intro (nxt hH.1 hbz2) (And.intro (hH.2.1.next hbz2) (And.intro (hH.2.2.1.next hbz2) (And.intro (hH.2.2.2.1.next hbz2) (hH.2.2.2.2.next hbz2)))))
      clear hbz2 hH
      clear hHeld
      dsimp only
      refine hK.out _ _ (HSK.out) (fun hHeld => ?_)
      clear hK K
      try simp only [Act.put, List.setIfInBounds_toArray, List.set_cons_zero, List.set_cons_succ]
      refine takeH (i := 31) (v := .bool true) rfl (by kernel_rfl) (by kernel_rfl) (by kernel_rfl) (fun _ _ _ h => h) (Or.inl ⟨by rfl, fun w hSw => ?_⟩) hHeld ?_
      · (clear hSw; go_simp)
      simp only [Act.put, List.setIfInBounds_toArray, List.set_cons_zero, List.set_cons_succ]
      refine takeH (i := 32) (v := .bool true) rfl (by kernel_rfl) (by kernel_rfl) (by kernel_rfl) (fun _ _ _ h => h) (Or.inl ⟨by rfl, fun w hSw => ?_⟩) hHeld ?_
      · (clear hSw; go_simp)
      simp only [Act.put, List.setIfInBounds_toArray, List.set_cons_zero, List.set_cons_succ]
      refine takeH (i := 33) (v := .bool true) rfl (by kernel_rfl) (by kernel_rfl) (by kernel_rfl) (fun _ _ _ h => h) (Or.inl ⟨by rfl, fun w hSw => ?_⟩) hHeld ?_
      · (clear hSw; go_simp)
      simp only [Act.put, List.setIfInBounds_toArray, List.set_cons_zero, List.set_cons_succ]
      refine takeH (i := 34) (v := .agg #[.int .i64 t, .int .i64 r, .bool o]) rfl (by kernel_rfl) (by kernel_rfl) (by kernel_rfl) (fun _ _ _ h => h) (Or.inl ⟨by rfl, fun w hSw => ?_⟩) hHeld ?_
      · (obtain ⟨a0, a1, a2⟩ := hSw.2.1.cx; simp only at a0 a1 a2; clear hSw; go_simp)
      simp only [Act.put, List.setIfInBounds_toArray, List.set_cons_zero, List.set_cons_succ]
      refine wpAnyH_ready (rs := [35]) (by kernel_rfl) (by simp) ?_
      refine AllReadyH.cons rfl (fun K hK => ?_) AllReadyH.nil
      go_simp
      refine (check_any ⟨t, r, o⟩ _).mono ?_
      rintro e wz3 ⟨rfl, hbz3⟩
      have hH := hHeld
      rw [HE.out]
      have HSK := Lib.hid (And.intro (nxt hH.1 hbz3) (And.intro (hH.2.1.next hbz3) (And.intro (hH.2.2.1.next hbz3) (And.intro (hH.2.2.2.1.next hbz3) (hH.2.2.2.2.next hbz3)))))
      clear hbz3 hH
      clear hHeld
      dsimp only
      refine hK.out _ _ (HSK.out) (fun hHeld => ?_)
      clear hK K
      try simp only [Act.put, List.setIfInBounds_toArray, List.set_cons_zero, List.set_cons_succ]
      refine takeH (i := 36) (v := .bool true) rfl (by kernel_rfl) (by kernel_rfl) (by kernel_rfl) (fun _ _ _ h => h) (Or.inl ⟨by rfl, fun w hSw => ?_⟩) hHeld ?_
      · (clear hSw; go_simp)
      simp only [Act.put, List.setIfInBounds_toArray, List.set_cons_zero, List.set_cons_succ]
      refine takeH (i := 37) (v := .bool true) rfl (by kernel_rfl) (by kernel_rfl) (by kernel_rfl) (fun _ _ _ h => h) (Or.inl ⟨by rfl, fun w hSw => ?_⟩) hHeld ?_
      · (clear hSw; go_simp)
      simp only [Act.put, List.setIfInBounds_toArray, List.set_cons_zero, List.set_cons_succ]
      refine takeH (i := 38) (v := undef) rfl (by kernel_rfl) (by kernel_rfl) (by kernel_rfl) (fun _ _ _ h => h) (Or.inr ⟨by rfl, rfl⟩) hHeld ?_
      simp only [Act.put, List.setIfInBounds_toArray, List.set_cons_zero, List.set_cons_succ]
      refine takeH (i := 39) (v := undef) rfl (by kernel_rfl) (by kernel_rfl) (by kernel_rfl) (fun _ _ _ h => h) (Or.inr ⟨by rfl, rfl⟩) hHeld ?_
      simp only [Act.put, List.setIfInBounds_toArray, List.set_cons_zero, List.set_cons_succ]
      refine takeH (i := 40) (v := undef) rfl (by kernel_rfl) (by kernel_rfl) (by kernel_rfl) (fun _ _ _ h => h) (Or.inr ⟨by rfl, rfl⟩) hHeld ?_
      simp only [Act.put, List.setIfInBounds_toArray, List.set_cons_zero, List.set_cons_succ]
      refine takeH (i := 41) (v := .bool true) rfl (by kernel_rfl) (by kernel_rfl) (by kernel_rfl) (fun _ _ _ h => h) (Or.inl ⟨by rfl, fun w hSw => ?_⟩) hHeld ?_
      · (clear hSw; go_simp)
      simp only [Act.put, List.setIfInBounds_toArray, List.set_cons_zero, List.set_cons_succ]
      refine takeH (i := 42) (v := .bool true) rfl (by kernel_rfl) (by kernel_rfl) (by kernel_rfl) (fun _ _ _ h => h) (Or.inl ⟨by rfl, fun w hSw => ?_⟩) hHeld ?_
      · (clear hSw; go_simp)
      simp only [Act.put, List.setIfInBounds_toArray, List.set_cons_zero, List.set_cons_succ]
      refine takeH (i := 43) (v := .bool true) rfl (by kernel_rfl) (by kernel_rfl) (by kernel_rfl) (fun _ _ _ h => h) (Or.inl ⟨by rfl, fun w hSw => ?_⟩) hHeld ?_
      · (clear hSw; go_simp)
      simp only [Act.put, List.setIfInBounds_toArray, List.set_cons_zero, List.set_cons_succ]
      refine wpAnyH_ready (rs := [44]) (by kernel_rfl) (by simp) ?_
      refine AllReadyH.cons rfl (fun K hK => ?_) AllReadyH.nil
      go_simp
      refine (awake8 _).mono ?_
      rintro e wz4 ⟨rfl, hbz4⟩
      have hH := hHeld
      have HSK := Lib.hid (And.intro (nxt hH.1 hbz4) (And.intro (hH.2.1.next hbz4) (And.intro (hH.2.2.1.next hbz4) (And.intro (hH.2.2.2.1.next hbz4) (hH.2.2.2.2.next hbz4)))))
      clear hbz4 hH
      clear hHeld
      dsimp only
      refine hK.out _ _ (HSK.out) (fun hHeld => ?_)
      clear hK K
      try simp only [Act.put, List.setIfInBounds_toArray, List.set_cons_zero, List.set_cons_succ]
      refine takeH (i := 45) (v := .bool true) rfl (by kernel_rfl) (by kernel_rfl) (by kernel_rfl) (fun _ _ _ h => h) (Or.inl ⟨by rfl, fun w hSw => ?_⟩) hHeld ?_
      · (clear hSw; go_simp)
      simp only [Act.put, List.setIfInBounds_toArray, List.set_cons_zero, List.set_cons_succ]
      refine takeH (i := 46) (v := .bool true) rfl (by kernel_rfl) (by kernel_rfl) (by kernel_rfl) (fun _ _ _ h => h) (Or.inl ⟨by rfl, fun w hSw => ?_⟩) hHeld ?_
      · (clear hSw; go_simp)
      simp only [Act.put, List.setIfInBounds_toArray, List.set_cons_zero, List.set_cons_succ]
      refine wpAnyH_done (by kernel_rfl) ?_ _
      clear hHeld
      have HF := Lib.hid HSK.out.1
      clear HSK
      go_wp2
      go_ret
      exact ⟨rfl, HF.out⟩
end Go.Proofs.Ytmffiakdoklaaaa
