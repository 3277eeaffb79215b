/- The chapter's examples. -/
import Derived.Test.YtjbbneagikogbaaAQ
import Derived.Test.YtjbbneagikogbaaAF
namespace Go.Proofs.Ytjbbneagikogbaa
open Go.RowKit

abbrev xf (i : Int) (b : Bool) : Fr := ⟨i, b, false, 0, fun _ => 0⟩
theorem xf_291 : (xf 291 false).may = true ∧ (xf 290 false).may = true ∧ (xf 290 false).plc < (xf 291 false).plc := by decide
theorem xf_ls : lsV (xf 291 false) (xf 290 false) = 10 ∧ lsE (xf 291 false) (xf 290 false) = 0 ∧ lsV (xf 1310720 true) (xf 5 false) = 11 ∧ lsE (xf 1310720 true) (xf 5 false) = 0 ∧ lsV (xf 5 false) (xf 1310720 true) = -1 ∧ lsE (xf 5 false) (xf 1310720 true) = 0 := by
  refine ⟨?_, ?_, ?_, ?_, ?_, ?_⟩ <;> decide
theorem wir_101 : wir [1, 0, 1] = 0 := by decide
def x2 : Nat → Fr := fun j => [xf 291 false, xf 290 false].getD j Fr.zero
theorem x2_may : ∀ i, i < 2 → (x2 i).may = true := by
  intro i hi
  rcases (show i = 0 ∨ i = 1 by omega) with rfl | rfl
  · exact xf_291.1
  · exact xf_291.2.1
theorem x2_not : ¬ ∃ a b, a < b ∧ b < 2 ∧ (x2 a).plc = (x2 b).plc := by
  rintro ⟨a, b, h1, h2, h3⟩
  obtain ⟨rfl, rfl⟩ : a = 0 ∧ b = 1 := by omega
  have := xf_291.2.2
  change (xf 291 false).plc = (xf 290 false).plc at h3
  omega
theorem x2_first {ps : List Nat} (h : Srt (fun i => (x2 i).plc) 2 ps) : ps.getD 0 0 = 1 := by
  have h1 := h.lt (j := 0) (by omega)
  by_cases e : ps.getD 0 0 = 1
  · exact e
  · have h2 := h.first (i := 1) (by omega) (Ne.symm e)
    rw [show ps.getD 0 0 = 0 by omega] at h2
    have := xf_291.2.2
    change (xf 291 false).plc < (xf 290 false).plc at h2
    omega

theorem fb_more {w : World} {g : Nat} {f : Fr} (h : Fb w g f) (o : Obj) : Fb (w.alloc o) g f := h.below ((Below.refl w.heap.size w).alloc (Nat.le_refl _) o) h.lt
theorem fb_at (w : World) (f : Fr) (k : Nat) (hk : w.heap.size = k) : Fb (w.alloc (.cells f.cells 28)) k f := by subst hk; exact fb_new w f
/-- Four frames lie in the blocks behind w. -/
def Four (w : World) (g : Nat) (a b c d : Fr) : Prop := Fb w g a ∧ Fb w (g + 1) b ∧ Fb w (g + 1 + 1) c ∧ Fb w (g + 1 + 1 + 1) d
theorem Four.below {w w' : World} {g : Nat} {a b c d : Fr} (h : Four w g a b c d) (hb : Below w.heap.size w w') : Four w' g a b c d :=
  ⟨h.1.below hb h.1.lt, h.2.1.below hb h.2.1.lt, h.2.2.1.below hb h.2.2.1.lt, h.2.2.2.below hb h.2.2.2.lt⟩
theorem four_new (w : World) (a b c d : Fr) (o : Obj) : Four (((((w.alloc (.cells a.cells 28)).alloc (.cells b.cells 28)).alloc (.cells c.cells 28)).alloc (.cells d.cells 28)).alloc o) w.heap.size a b c d :=
  ⟨fb_more (fb_more (fb_more (fb_more (fb_new w a) _) _) _) _, fb_more (fb_more (fb_more (fb_at _ b _ (by simp)) _) _) _, fb_more (fb_more (fb_at _ c _ (by simp)) _) _, fb_more (fb_at _ d _ (by simp)) _⟩
theorem below_five (w : World) (a b c d e : Obj) : Below w.heap.size w (((((w.alloc a).alloc b).alloc c).alloc d).alloc e) :=
  (((((Below.refl _ _).alloc (Nat.le_refl _) _).alloc (by simp) _).alloc (by simp; omega) _).alloc (by simp; omega) _).alloc (by simp; omega) _
theorem x2_lit (w : World) (a b c d : Obj) : Fl (((((w.alloc a).alloc b).alloc c).alloc d).alloc (.cells (fcs [xf 291 false, xf 290 false]).toArray 28)) (some ⟨w.heap.size + 1 + 1 + 1 + 1, 0, none⟩) 2 x2 := by
  have h := fl_lit ((((w.alloc a).alloc b).alloc c).alloc d) [xf 291 false, xf 290 false]
  rw [show ((((w.alloc a).alloc b).alloc c).alloc d).heap.size = w.heap.size + 1 + 1 + 1 + 1 by simp] at h
  exact h

set_option maxRecDepth 100000 in
set_option maxHeartbeats 1600000 in
theorem awake7 (w : World) : Calls Try.prog 9 #[] w fun e w' => e = .returned (.bool true) ∧ Below w.heap.size w w' := by
  have H4 := Lib.hid (four_new w (xf 291 false) (xf 290 false) (xf 5 false) (xf 1310720 true) (.cells (fcs [xf 291 false, xf 290 false]).toArray 28))
  have HB := Lib.hid (below_five w (.cells (xf 291 false).cells 28) (.cells (xf 290 false).cells 28) (.cells (xf 5 false).cells 28) (.cells (xf 1310720 true).cells 28) (.cells (fcs [xf 291 false, xf 290 false]).toArray 28))
  have HL := Lib.hid (x2_lit w (.cells (xf 291 false).cells 28) (.cells (xf 290 false).cells 28) (.cells (xf 5 false).cells 28) (.cells (xf 1310720 true).cells 28))
  go_enter Try.func9, Try.ntmps9
  go_wp2_with fail
  refine (winner_in x2 _ 2 2 _ HL.out (by omega) (by omega) x2_may).mono ?_
  rintro e w1 ⟨hb1, h | ⟨ps, rfl, hs⟩⟩
  · exact absurd h.2 x2_not
  have HB1 := Lib.hid (nxt HB.out hb1)
  have H41 := Lib.hid (H4.out.below hb1)
  obtain ⟨a0, a1, a2, a3, a4, a5, a6, a7, a8, a9, a10, a11⟩ := H41.out.1.bx
  obtain ⟨b0, b1, b2, b3, b4, b5, b6, b7, b8, b9, b10, b11⟩ := H41.out.2.1.bx
  rw [x2_first hs]
  clear hb1 hs H4 HB HL
  obtain ⟨x1, x2', x3, x4, x5, x6⟩ := xf_ls
  go_wp2_with fail
  refine (loses_any (xf 291 false) (xf 290 false) _).mono ?_
  rintro e w2 ⟨rfl, hb2⟩
  rw [x1, x2']
  have HB2 := Lib.hid (nxt HB1.out hb2)
  have H42 := Lib.hid (H41.out.below hb2)
  clear a0 a1 a2 a3 a4 a5 a6 a7 a8 a9 a10 a11 b0 b1 b2 b3 b4 b5 b6 b7 b8 b9 b10 b11 hb2
  obtain ⟨a0, a1, a2, a3, a4, a5, a6, a7, a8, a9, a10, a11⟩ := H42.out.2.2.1.bx
  obtain ⟨b0, b1, b2, b3, b4, b5, b6, b7, b8, b9, b10, b11⟩ := H42.out.2.2.2.bx
  go_wp2_with fail
  refine (loses_any (xf 1310720 true) (xf 5 false) _).mono ?_
  rintro e w3 ⟨rfl, hb3⟩
  rw [x3, x4]
  have HB3 := Lib.hid (nxt HB2.out hb3)
  have H43 := Lib.hid (H42.out.below hb3)
  clear a0 a1 a2 a3 a4 a5 a6 a7 a8 a9 a10 a11 b0 b1 b2 b3 b4 b5 b6 b7 b8 b9 b10 b11 hb3
  obtain ⟨a0, a1, a2, a3, a4, a5, a6, a7, a8, a9, a10, a11⟩ := H43.out.2.2.1.bx
  obtain ⟨b0, b1, b2, b3, b4, b5, b6, b7, b8, b9, b10, b11⟩ := H43.out.2.2.2.bx
  go_wp2_with fail
  refine (loses_any (xf 5 false) (xf 1310720 true) _).mono ?_
  rintro e w4 ⟨rfl, hb4⟩
  rw [x5, x6]
  have HB4 := Lib.hid (nxt HB3.out hb4)
  have HI := Lib.hid (Arr.new w4 .i64 3 [1, 0, 1]).il
  clear a0 a1 a2 a3 a4 a5 a6 a7 a8 a9 a10 a11 b0 b1 b2 b3 b4 b5 b6 b7 b8 b9 b10 b11 hb4
  go_wp2_with fail
  refine (wired_any _ 3 3 [1, 0, 1] _ HI.out (by omega)).mono ?_
  rintro e w5 ⟨rfl, rfl⟩
  rw [wir_101]
  go_wp2
  go_ret
  exact ⟨rfl, HB4.out.alloc HB4.out.size _⟩
end Go.Proofs.Ytjbbneagikogbaa
