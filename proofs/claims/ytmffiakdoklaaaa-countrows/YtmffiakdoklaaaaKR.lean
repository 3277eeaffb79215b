/- The contracts of the reference's Right, State and Come. -/
import Derived.Test.YtmffiakdoklaaaaKC
namespace Go.Proofs.Ytmffiakdoklaaaa
open Go.RowKit

/-- Block g is just the reference's counts c, not frozen. -/
def Rb (w : World) (g : Nat) (c : Ct) : Prop := w.heap[g]? = some (.cells c.cells 26)
theorem Rb.cx {w : World} {g : Nat} {c : Ct} (h : Rb w g c) : Cx w g c := by
  unfold Rb at h
  exact ⟨cell_of_row w g 0 _ _ (0, 0) h, cell_of_row w g 1 _ _ (0, 0) h, cell_of_row w g 2 _ _ (0, 0) h⟩
theorem Rb.frozen {w : World} {g : Nat} {c : Ct} (h : Rb w g c) (i : Nat) : w.frozen? ⟨g, i, none⟩ = false := by
  unfold Rb at h
  simp [World.frozen?, h]
theorem Rb.below {w w' : World} {B g : Nat} {c : Ct} (h : Rb w g c) (hb : Below B w w') (hg : g < B) : Rb w' g c := (hb.block g hg).trans h
theorem rb_new (w : World) (c : Ct) : Rb (w.alloc (.cells c.cells 26)) w.heap.size c := heap_alloc_new w _
theorem rb_next (w : World) (o : Obj) (c : Ct) : Rb ((w.alloc o).alloc (.cells c.cells 26)) (w.heap.size + 1) c := by
  have h := rb_new (w.alloc o) c
  simpa using h
theorem rb_first (w : World) (c : Ct) (o : Obj) : Rb ((w.alloc (.cells c.cells 26)).alloc o) w.heap.size c :=
  (rb_new w c).below (B := w.heap.size + 1) ((Below.refl _ _).alloc (by simp) _) (by omega)

set_option maxHeartbeats 400000 in
theorem rright_any (c : Ct) (w : World) : Calls Try.prog 14 #[c.val] w fun e w' => e = .returned (.bool c.right) ∧ Below w.heap.size w w' := by
  have HB := Lib.hid (below1 w (.cells c.cells 26))
  obtain ⟨t, r, o⟩ := c
  have HE : Ct.right ⟨t, r, o⟩ = if decide (r < 0) || decide (255 < r) then false else if o then t == 256 else decide (0 ≤ t) && decide (t ≤ 255) := by
    rw [Bool.eq_iff_iff, right_iff]
    simp only
    cases o <;> simp <;> omega
  rw [HE]
  clear HE
  generalize ha : decide (r < 0) = a
  generalize hb : decide (255 < r) = b
  cases a <;> cases b <;> cases o
  case false.false.false =>
    generalize hc : decide (0 ≤ t) = c
    generalize hd : decide (t ≤ 255) = d
    cases c <;> cases d <;> (
      go_enter Try.func14, Try.ntmps14
      go_wp2
      go_ret
      exact ⟨rfl, HB.out⟩)
  all_goals (
    go_enter Try.func14, Try.ntmps14
    go_wp2
    go_ret
    exact ⟨rfl, HB.out⟩)

theorem rstate_any (c : Ct) (w : World) : Calls Try.prog 11 #[c.val] w fun e w' => e = .returned (.int .i64 c.st) ∧ Below w.heap.size w w' := by
  have HB := Lib.hid (below1 w (.cells c.cells 26))
  obtain ⟨t, r, o⟩ := c
  have HE : Ct.st ⟨t, r, o⟩ = if o then 2 else if (decide (128 ≤ t) || decide (128 ≤ r)) then 1 else 0 := by
    simp [Ct.st]
    cases o
    · simp; congr 1
    · rfl
  rw [HE]
  clear HE
  generalize ha : decide (128 ≤ t) = a
  generalize hb : decide (128 ≤ r) = b
  cases o <;> cases a <;> cases b <;> (
    go_enter Try.func11, Try.ntmps11
    go_wp2
    go_ret
    exact ⟨rfl, HB.out⟩)

set_option maxHeartbeats 800000 in
theorem rcome_0 (c : Ct) (x : Int) (w : World) (h : c.run = true) : Calls Try.prog 9 #[c.val, .int .i64 0, .int .i64 x] w fun e w' => e = .returned (c.snt).val ∧ Below w.heap.size w w' := by
  have hk := fun w0 => rright_any c w0
  have HE := Lib.hid (show (c.snt) = ⟨max (c.t - 1) 0, c.r, c.o⟩ by unfold Ct.snt; rw [h]; rfl)
  obtain ⟨h0, h1, h2, h3, h4⟩ := run_iff.1 h
  rw [show c.right = true by simp only [Ct.run, Bool.and_eq_true] at h; exact h.1] at hk
  have HN := Lib.hid (below2 w (.cells c.cells 26) (.cells Ct.zero.cells 26))
  obtain ⟨t, r, o⟩ := c
  simp only at h0 h1 h2 h3 h4
  subst h0
  have HC := Lib.hid (rb_first w ⟨t, r, false⟩ (.cells Ct.zero.cells 26))
  have HD := Lib.hid (rb_next w (.cells (Ct.cells ⟨t, r, false⟩) 26) Ct.zero)
  clear h
  rw [HE.out]
  clear HE
  by_cases g : 0 < t
  · go_enter Try.func9, Try.ntmps9
    go_wp2_with fail
    refine (hk _).mono ?_
    rintro e w1 ⟨rfl, hb1⟩
    have HB1 := Lib.hid (nxt HN.out hb1)
    have HC1 := Lib.hid (HC.out.below hb1 (by simp; omega))
    have HD1 := Lib.hid (HD.out.below hb1 (by simp))
    obtain ⟨a0, a1, a2⟩ := HC1.out.cx
    obtain ⟨b0, b1, b2⟩ := HD1.out.cx
    have f0 := HD1.out.frozen 0
    have f1 := HD1.out.frozen 1
    have f2 := HD1.out.frozen 2
    have g0 := HC1.out.frozen 0
    have g1 := HC1.out.frozen 1
    have g2 := HC1.out.frozen 2
    clear hb1 HC HD HN
    simp only at a0 a1 a2
    go_wp2
    refine bodyPost_ret (v := Ct.val ⟨t - 1, r, false⟩) (by rw [results_cell1 rfl]; go_simp) rfl ⟨ret_ct ?_, set3 (Below.setCell HB1.out (p := ⟨w.heap.size, 0, none⟩) (Nat.le_refl _) _) (by omega) _ _ _⟩
    exact ct_ext (by (try simp) <;> omega) rfl rfl
  · go_enter Try.func9, Try.ntmps9
    go_wp2_with fail
    refine (hk _).mono ?_
    rintro e w1 ⟨rfl, hb1⟩
    have HB1 := Lib.hid (nxt HN.out hb1)
    have HC1 := Lib.hid (HC.out.below hb1 (by simp; omega))
    have HD1 := Lib.hid (HD.out.below hb1 (by simp))
    obtain ⟨a0, a1, a2⟩ := HC1.out.cx
    obtain ⟨b0, b1, b2⟩ := HD1.out.cx
    have f0 := HD1.out.frozen 0
    have f1 := HD1.out.frozen 1
    have f2 := HD1.out.frozen 2
    have g0 := HC1.out.frozen 0
    have g1 := HC1.out.frozen 1
    have g2 := HC1.out.frozen 2
    clear hb1 HC HD HN
    simp only at a0 a1 a2
    go_wp2
    refine bodyPost_ret (v := Ct.val ⟨t, r, false⟩) (by rw [results_cell1 rfl]; go_simp) rfl ⟨ret_ct ?_, set3 HB1.out (by omega) _ _ _⟩
    exact ct_ext (by (try simp) <;> omega) rfl rfl

set_option maxHeartbeats 800000 in
theorem rcome_1 (c : Ct) (x : Int) (w : World) (h : c.run = true) : Calls Try.prog 9 #[c.val, .int .i64 1, .int .i64 x] w fun e w' => e = .returned (c.rcv).val ∧ Below w.heap.size w w' := by
  have hk := fun w0 => rright_any c w0
  have HE := Lib.hid (show (c.rcv) = ⟨c.t, if 127 < c.r then 119 else max (c.r - 1) 0, c.o⟩ by unfold Ct.rcv; rw [h]; rfl)
  obtain ⟨h0, h1, h2, h3, h4⟩ := run_iff.1 h
  rw [show c.right = true by simp only [Ct.run, Bool.and_eq_true] at h; exact h.1] at hk
  have HN := Lib.hid (below2 w (.cells c.cells 26) (.cells Ct.zero.cells 26))
  obtain ⟨t, r, o⟩ := c
  simp only at h0 h1 h2 h3 h4
  subst h0
  have HC := Lib.hid (rb_first w ⟨t, r, false⟩ (.cells Ct.zero.cells 26))
  have HD := Lib.hid (rb_next w (.cells (Ct.cells ⟨t, r, false⟩) 26) Ct.zero)
  clear h
  rw [HE.out]
  clear HE
  by_cases g : 128 ≤ r
  · go_enter Try.func9, Try.ntmps9
    go_wp2_with fail
    refine (hk _).mono ?_
    rintro e w1 ⟨rfl, hb1⟩
    have HB1 := Lib.hid (nxt HN.out hb1)
    have HC1 := Lib.hid (HC.out.below hb1 (by simp; omega))
    have HD1 := Lib.hid (HD.out.below hb1 (by simp))
    obtain ⟨a0, a1, a2⟩ := HC1.out.cx
    obtain ⟨b0, b1, b2⟩ := HD1.out.cx
    have f0 := HD1.out.frozen 0
    have f1 := HD1.out.frozen 1
    have f2 := HD1.out.frozen 2
    have g0 := HC1.out.frozen 0
    have g1 := HC1.out.frozen 1
    have g2 := HC1.out.frozen 2
    clear hb1 HC HD HN
    simp only at a0 a1 a2
    go_wp2
    refine bodyPost_ret (v := Ct.val ⟨t, 119, false⟩) (by rw [results_cell1 rfl]; go_simp) rfl ⟨ret_ct ?_, set3 (Below.setCell HB1.out (p := ⟨w.heap.size, 1, none⟩) (Nat.le_refl _) _) (by omega) _ _ _⟩
    exact ct_ext rfl (by (try simp) <;> omega) rfl
  by_cases q : 0 < r
  · go_enter Try.func9, Try.ntmps9
    go_wp2_with fail
    refine (hk _).mono ?_
    rintro e w1 ⟨rfl, hb1⟩
    have HB1 := Lib.hid (nxt HN.out hb1)
    have HC1 := Lib.hid (HC.out.below hb1 (by simp; omega))
    have HD1 := Lib.hid (HD.out.below hb1 (by simp))
    obtain ⟨a0, a1, a2⟩ := HC1.out.cx
    obtain ⟨b0, b1, b2⟩ := HD1.out.cx
    have f0 := HD1.out.frozen 0
    have f1 := HD1.out.frozen 1
    have f2 := HD1.out.frozen 2
    have g0 := HC1.out.frozen 0
    have g1 := HC1.out.frozen 1
    have g2 := HC1.out.frozen 2
    clear hb1 HC HD HN
    simp only at a0 a1 a2
    go_wp2
    refine bodyPost_ret (v := Ct.val ⟨t, r - 1, false⟩) (by rw [results_cell1 rfl]; go_simp) rfl ⟨ret_ct ?_, set3 (Below.setCell HB1.out (p := ⟨w.heap.size, 1, none⟩) (Nat.le_refl _) _) (by omega) _ _ _⟩
    exact ct_ext rfl (by (try simp) <;> omega) rfl
  · go_enter Try.func9, Try.ntmps9
    go_wp2_with fail
    refine (hk _).mono ?_
    rintro e w1 ⟨rfl, hb1⟩
    have HB1 := Lib.hid (nxt HN.out hb1)
    have HC1 := Lib.hid (HC.out.below hb1 (by simp; omega))
    have HD1 := Lib.hid (HD.out.below hb1 (by simp))
    obtain ⟨a0, a1, a2⟩ := HC1.out.cx
    obtain ⟨b0, b1, b2⟩ := HD1.out.cx
    have f0 := HD1.out.frozen 0
    have f1 := HD1.out.frozen 1
    have f2 := HD1.out.frozen 2
    have g0 := HC1.out.frozen 0
    have g1 := HC1.out.frozen 1
    have g2 := HC1.out.frozen 2
    clear hb1 HC HD HN
    simp only at a0 a1 a2
    go_wp2
    refine bodyPost_ret (v := Ct.val ⟨t, r, false⟩) (by rw [results_cell1 rfl]; go_simp) rfl ⟨ret_ct ?_, set3 HB1.out (by omega) _ _ _⟩
    exact ct_ext rfl (by (try simp) <;> omega) rfl

set_option maxHeartbeats 800000 in
theorem rcome_2 (c : Ct) (x : Int) (w : World) (h : c.run = true) : Calls Try.prog 9 #[c.val, .int .i64 2, .int .i64 x] w fun e w' => e = .returned (c.txx).val ∧ Below w.heap.size w w' := by
  have hk := fun w0 => rright_any c w0
  have HE := Lib.hid (show (c.txx) = if 255 < c.t + 8 then ⟨256, c.r, true⟩ else ⟨c.t + 8, c.r, c.o⟩ by unfold Ct.txx; rw [h]; rfl)
  obtain ⟨h0, h1, h2, h3, h4⟩ := run_iff.1 h
  rw [show c.right = true by simp only [Ct.run, Bool.and_eq_true] at h; exact h.1] at hk
  have HN := Lib.hid (below2 w (.cells c.cells 26) (.cells Ct.zero.cells 26))
  obtain ⟨t, r, o⟩ := c
  simp only at h0 h1 h2 h3 h4
  subst h0
  have HC := Lib.hid (rb_first w ⟨t, r, false⟩ (.cells Ct.zero.cells 26))
  have HD := Lib.hid (rb_next w (.cells (Ct.cells ⟨t, r, false⟩) 26) Ct.zero)
  clear h
  rw [HE.out]
  clear HE
  by_cases g : 256 ≤ t + 8
  · go_enter Try.func9, Try.ntmps9
    go_wp2_with fail
    refine (hk _).mono ?_
    rintro e w1 ⟨rfl, hb1⟩
    have HB1 := Lib.hid (nxt HN.out hb1)
    have HC1 := Lib.hid (HC.out.below hb1 (by simp; omega))
    have HD1 := Lib.hid (HD.out.below hb1 (by simp))
    obtain ⟨a0, a1, a2⟩ := HC1.out.cx
    obtain ⟨b0, b1, b2⟩ := HD1.out.cx
    have f0 := HD1.out.frozen 0
    have f1 := HD1.out.frozen 1
    have f2 := HD1.out.frozen 2
    have g0 := HC1.out.frozen 0
    have g1 := HC1.out.frozen 1
    have g2 := HC1.out.frozen 2
    clear hb1 HC HD HN
    simp only at a0 a1 a2
    go_wp2
    refine bodyPost_ret (v := Ct.val ⟨256, r, true⟩) (by rw [results_cell1 rfl]; go_simp) rfl ⟨ret_ct ?_, set3 (Below.setCell (Below.setCell (Below.setCell HB1.out (p := ⟨w.heap.size, 0, none⟩) (Nat.le_refl _) _) (p := ⟨w.heap.size, 0, none⟩) (Nat.le_refl _) _) (p := ⟨w.heap.size, 2, none⟩) (Nat.le_refl _) _) (by omega) _ _ _⟩
    rfl
  go_enter Try.func9, Try.ntmps9
  go_wp2_with fail
  refine (hk _).mono ?_
  rintro e w1 ⟨rfl, hb1⟩
  have HB1 := Lib.hid (nxt HN.out hb1)
  have HC1 := Lib.hid (HC.out.below hb1 (by simp; omega))
  have HD1 := Lib.hid (HD.out.below hb1 (by simp))
  obtain ⟨a0, a1, a2⟩ := HC1.out.cx
  obtain ⟨b0, b1, b2⟩ := HD1.out.cx
  have f0 := HD1.out.frozen 0
  have f1 := HD1.out.frozen 1
  have f2 := HD1.out.frozen 2
  have g0 := HC1.out.frozen 0
  have g1 := HC1.out.frozen 1
  have g2 := HC1.out.frozen 2
  clear hb1 HC HD HN
  simp only at a0 a1 a2
  go_wp2
  refine bodyPost_ret (v := Ct.val ⟨t + 8, r, false⟩) (by rw [results_cell1 rfl]; go_simp) rfl ⟨ret_ct ?_, set3 (Below.setCell HB1.out (p := ⟨w.heap.size, 0, none⟩) (Nat.le_refl _) _) (by omega) _ _ _⟩
  rfl
set_option maxHeartbeats 800000 in
theorem rcome_3 (c : Ct) (x : Int) (w : World) (h : c.run = true) : Calls Try.prog 9 #[c.val, .int .i64 3, .int .i64 x] w fun e w' => e = .returned (c.rxx x).val ∧ Below w.heap.size w w' := by
  have hk := fun w0 => rright_any c w0
  have HE := Lib.hid (show c.rxx x = if (x == 1 || x == 8) then ⟨c.t, min (c.r + x) 255, c.o⟩ else c by unfold Ct.rxx; rw [h]; rfl)
  obtain ⟨h0, h1, h2, h3, h4⟩ := run_iff.1 h
  rw [show c.right = true by simp only [Ct.run, Bool.and_eq_true] at h; exact h.1] at hk
  have HN := Lib.hid (below2 w (.cells c.cells 26) (.cells Ct.zero.cells 26))
  obtain ⟨t, r, o⟩ := c
  simp only at h0 h1 h2 h3 h4
  subst h0
  have HC := Lib.hid (rb_first w ⟨t, r, false⟩ (.cells Ct.zero.cells 26))
  have HD := Lib.hid (rb_next w (.cells (Ct.cells ⟨t, r, false⟩) 26) Ct.zero)
  clear h
  rw [HE.out]
  clear HE
  by_cases g1 : x = 1
  · subst g1
    rw [if_pos (by decide)]
    by_cases q : 255 < r + 1
    · go_enter Try.func9, Try.ntmps9
      go_wp2_with fail
      refine (hk _).mono ?_
      rintro e w1 ⟨rfl, hb1⟩
      have HB1 := Lib.hid (nxt HN.out hb1)
      have HC1 := Lib.hid (HC.out.below hb1 (by simp; omega))
      have HD1 := Lib.hid (HD.out.below hb1 (by simp))
      obtain ⟨a0, a1, a2⟩ := HC1.out.cx
      obtain ⟨b0, b1, b2⟩ := HD1.out.cx
      have f0 := HD1.out.frozen 0
      have f1 := HD1.out.frozen 1
      have f2 := HD1.out.frozen 2
      have g0 := HC1.out.frozen 0
      have g1 := HC1.out.frozen 1
      have g2 := HC1.out.frozen 2
      clear hb1 HC HD HN
      simp only at a0 a1 a2
      go_wp2
      refine bodyPost_ret (v := Ct.val ⟨t, 255, false⟩) (by rw [results_cell1 rfl]; go_simp) rfl ⟨ret_ct ?_, set3 (Below.setCell (Below.setCell HB1.out (p := ⟨w.heap.size, 1, none⟩) (Nat.le_refl _) _) (p := ⟨w.heap.size, 1, none⟩) (Nat.le_refl _) _) (by omega) _ _ _⟩
      exact ct_ext rfl (by (try simp) <;> omega) rfl
    · go_enter Try.func9, Try.ntmps9
      go_wp2_with fail
      refine (hk _).mono ?_
      rintro e w1 ⟨rfl, hb1⟩
      have HB1 := Lib.hid (nxt HN.out hb1)
      have HC1 := Lib.hid (HC.out.below hb1 (by simp; omega))
      have HD1 := Lib.hid (HD.out.below hb1 (by simp))
      obtain ⟨a0, a1, a2⟩ := HC1.out.cx
      obtain ⟨b0, b1, b2⟩ := HD1.out.cx
      have f0 := HD1.out.frozen 0
      have f1 := HD1.out.frozen 1
      have f2 := HD1.out.frozen 2
      have g0 := HC1.out.frozen 0
      have g1 := HC1.out.frozen 1
      have g2 := HC1.out.frozen 2
      clear hb1 HC HD HN
      simp only at a0 a1 a2
      go_wp2
      refine bodyPost_ret (v := Ct.val ⟨t, r + 1, false⟩) (by rw [results_cell1 rfl]; go_simp) rfl ⟨ret_ct ?_, set3 (Below.setCell HB1.out (p := ⟨w.heap.size, 1, none⟩) (Nat.le_refl _) _) (by omega) _ _ _⟩
      exact ct_ext rfl (by (try simp) <;> omega) rfl
  have k1 : (x == 1) = false := by simpa using g1
  by_cases g8 : x = 8
  · subst g8
    rw [if_pos (by decide)]
    by_cases q : 255 < r + 8
    · go_enter Try.func9, Try.ntmps9
      go_wp2_with fail
      refine (hk _).mono ?_
      rintro e w1 ⟨rfl, hb1⟩
      have HB1 := Lib.hid (nxt HN.out hb1)
      have HC1 := Lib.hid (HC.out.below hb1 (by simp; omega))
      have HD1 := Lib.hid (HD.out.below hb1 (by simp))
      obtain ⟨a0, a1, a2⟩ := HC1.out.cx
      obtain ⟨b0, b1, b2⟩ := HD1.out.cx
      have f0 := HD1.out.frozen 0
      have f1 := HD1.out.frozen 1
      have f2 := HD1.out.frozen 2
      have g0 := HC1.out.frozen 0
      have g1 := HC1.out.frozen 1
      have g2 := HC1.out.frozen 2
      clear hb1 HC HD HN
      simp only at a0 a1 a2
      go_wp2
      refine bodyPost_ret (v := Ct.val ⟨t, 255, false⟩) (by rw [results_cell1 rfl]; go_simp) rfl ⟨ret_ct ?_, set3 (Below.setCell (Below.setCell HB1.out (p := ⟨w.heap.size, 1, none⟩) (Nat.le_refl _) _) (p := ⟨w.heap.size, 1, none⟩) (Nat.le_refl _) _) (by omega) _ _ _⟩
      exact ct_ext rfl (by (try simp) <;> omega) rfl
    · go_enter Try.func9, Try.ntmps9
      go_wp2_with fail
      refine (hk _).mono ?_
      rintro e w1 ⟨rfl, hb1⟩
      have HB1 := Lib.hid (nxt HN.out hb1)
      have HC1 := Lib.hid (HC.out.below hb1 (by simp; omega))
      have HD1 := Lib.hid (HD.out.below hb1 (by simp))
      obtain ⟨a0, a1, a2⟩ := HC1.out.cx
      obtain ⟨b0, b1, b2⟩ := HD1.out.cx
      have f0 := HD1.out.frozen 0
      have f1 := HD1.out.frozen 1
      have f2 := HD1.out.frozen 2
      have g0 := HC1.out.frozen 0
      have g1 := HC1.out.frozen 1
      have g2 := HC1.out.frozen 2
      clear hb1 HC HD HN
      simp only at a0 a1 a2
      go_wp2
      refine bodyPost_ret (v := Ct.val ⟨t, r + 8, false⟩) (by rw [results_cell1 rfl]; go_simp) rfl ⟨ret_ct ?_, set3 (Below.setCell HB1.out (p := ⟨w.heap.size, 1, none⟩) (Nat.le_refl _) _) (by omega) _ _ _⟩
      exact ct_ext rfl (by (try simp) <;> omega) rfl
  have k8 : (x == 8) = false := by simpa using g8
  rw [if_neg (by rw [k1, k8]; decide)]
  go_enter Try.func9, Try.ntmps9
  go_wp2_with fail
  refine (hk _).mono ?_
  rintro e w1 ⟨rfl, hb1⟩
  have HB1 := Lib.hid (nxt HN.out hb1)
  have HC1 := Lib.hid (HC.out.below hb1 (by simp; omega))
  have HD1 := Lib.hid (HD.out.below hb1 (by simp))
  obtain ⟨a0, a1, a2⟩ := HC1.out.cx
  obtain ⟨b0, b1, b2⟩ := HD1.out.cx
  have f0 := HD1.out.frozen 0
  have f1 := HD1.out.frozen 1
  have f2 := HD1.out.frozen 2
  have g0 := HC1.out.frozen 0
  have g1 := HC1.out.frozen 1
  have g2 := HC1.out.frozen 2
  clear hb1 HC HD HN
  simp only at a0 a1 a2
  go_wp2
  refine bodyPost_ret (v := Ct.val ⟨t, r, false⟩) (by rw [results_cell1 rfl]; go_simp) rfl ⟨ret_ct ?_, set3 HB1.out (by omega) _ _ _⟩
  rfl
end Go.Proofs.Ytmffiakdoklaaaa
