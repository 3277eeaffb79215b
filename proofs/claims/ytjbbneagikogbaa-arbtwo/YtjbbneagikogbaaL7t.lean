/- The walk of the law ArbTwo. -/
import Derived.Test.YtjbbneagikogbaaAW7
namespace Go.Proofs.Ytjbbneagikogbaa
open Go.RowKit

/-- Three frames lie in the blocks behind w. -/
def Tri (w : World) (g : Nat) (a b c : Fr) : Prop := Fb w g a ∧ Fb w (g + 1) b ∧ Fb w (g + 1 + 1) c
theorem Tri.below {w w' : World} {g : Nat} {a b c : Fr} (h : Tri w g a b c) (hb : Below w.heap.size w w') : Tri w' g a b c :=
  ⟨h.1.below hb h.1.lt, h.2.1.below hb h.2.1.lt, h.2.2.below hb h.2.2.lt⟩
theorem tri_new (w : World) (a b c : Fr) : Tri (((w.alloc (.cells a.cells 28)).alloc (.cells b.cells 28)).alloc (.cells c.cells 28)) w.heap.size a b c :=
  ⟨fb_more (fb_more (fb_new w a) _) _, fb_more (fb_at _ b _ (by simp)) _, fb_at _ c _ (by simp)⟩
theorem below_three (w : World) (a b c : Obj) : Below w.heap.size w (((w.alloc a).alloc b).alloc c) :=
  (((Below.refl _ _).alloc (Nat.le_refl _) _).alloc (by simp) _).alloc (by simp; omega) _
theorem ls_cases (f g : Fr) : ((f.may && g.may) = false ∧ lsV f g = 0 ∧ lsE f g = 14 ∧ lsV g f = 0 ∧ lsE g f = 14) ∨
    (f.may = true ∧ g.may = true ∧ ((f.plc = g.plc ∧ lsV f g = 0 ∧ lsE f g = 23 ∧ lsV g f = 0 ∧ lsE g f = 23) ∨
      (f.plc < g.plc ∧ lsV f g = -1 ∧ lsE f g = 0 ∧ (∃ k : Nat, lsV g f = k) ∧ lsE g f = 0) ∨ (g.plc < f.plc ∧ (∃ k : Nat, lsV f g = k) ∧ lsE f g = 0 ∧ lsV g f = -1 ∧ lsE g f = 0))) := by
  cases h : (f.may && g.may) with
  | false =>
    have h1 := ls_bad h
    have h2 := ls_bad (f := g) (g := f) (by rw [Bool.and_comm]; exact h)
    exact .inl ⟨rfl, h1.1, h1.2, h2.1, h2.2⟩
  | true =>
    rw [Bool.and_eq_true] at h
    obtain ⟨hf, hg⟩ := h
    refine .inr ⟨hf, hg, ?_⟩
    rcases Nat.lt_trichotomy f.plc g.plc with hl | he | hl
    · obtain ⟨k, hk⟩ := plc_lt hf hg hl
      have h1 := ls_not hf hg hk
      have h2 := ls_at hg hf hk
      exact .inr (.inl ⟨hl, h1.1, h1.2, ⟨k, h2.1⟩, h2.2⟩)
    · have h1 := ls_same hf hg he
      have h2 := ls_same hg hf he.symm
      exact .inl ⟨he, h1.1, h1.2, h2.1, h2.2⟩
    · obtain ⟨k, hk⟩ := plc_lt hg hf hl
      have h1 := ls_at hf hg hk
      have h2 := ls_not hg hf hk
      exact .inr (.inr ⟨hl, ⟨k, h1.1⟩, h1.2, h2.1, h2.2⟩)
theorem ls_trans {f g h : Fr} (hfg : f.may = true) (hl : f.plc < g.plc) (_h1 : lsE g h = 0) (h2 : lsV g h < 0) : lsV f h < 0 := by
  rcases ls_cases g h with ⟨_, _, e, _⟩ | ⟨_, hh, ⟨_, _, e, _⟩ | ⟨p, _⟩ | ⟨_, ⟨k, e⟩, _⟩⟩
  · omega
  · omega
  · rcases ls_cases f h with ⟨e, _⟩ | ⟨_, _, ⟨q, _⟩ | ⟨q, e, _⟩ | ⟨q, _⟩⟩
    · rw [hfg, hh] at e; cases e
    · omega
    · omega
    · omega
  · omega

set_option maxRecDepth 100000 in
set_option maxHeartbeats 3200000 in
theorem atwo_any (a b c : Fr) (w : World) :
    Calls Try.prog 7 #[a.val, b.val, c.val] w fun e w' => e = .returned (.bool true) ∧ Below w.heap.size w w' := by
  have HT := Lib.hid (tri_new w a b c)
  have HB := Lib.hid (below_three w (.cells a.cells 28) (.cells b.cells 28) (.cells c.cells 28))
  have HTR := Lib.hid (fun (h1 : a.may = true) (h2 : a.plc < b.plc) => @ls_trans a b c h1 h2)
  rcases ls_cases a b with ⟨hm, e1, e2, e3, e4⟩ | ⟨ha, hb, ⟨hp, e1, e2, e3, e4⟩ | ⟨hp, e1, e2, ⟨k, e3⟩, e4⟩ | ⟨hp, ⟨k, e1⟩, e2, e3, e4⟩⟩
  · have E1 := Lib.hid e1; have E2 := Lib.hid e2; have E3 := Lib.hid e3; have E4 := Lib.hid e4; have HM := Lib.hid hm
    clear e1 e2 e3 e4 hm
    go_enter Try.func7, Try.ntmps7
    go_wp2_with fail
    refine (loses_any a b _).mono ?_
    rintro e w1 ⟨rfl, hb1⟩
    rw [E1.out, E2.out]
    have HT1 := Lib.hid (HT.out.below hb1); have HB1 := Lib.hid (nxt HB.out hb1)
    clear hb1
    obtain ⟨a0, a1, a2, a3, a4, a5, a6, a7, a8, a9, a10, a11⟩ := HT1.out.1.bx
    obtain ⟨b0, b1, b2, b3, b4, b5, b6, b7, b8, b9, b10, b11⟩ := HT1.out.2.1.bx
    go_wp2_with fail
    refine (loses_any b a _).mono ?_
    rintro e w2 ⟨rfl, hb2⟩
    rw [E3.out, E4.out]
    have HT2 := Lib.hid (HT1.out.below hb2); have HB2 := Lib.hid (nxt HB1.out hb2)
    clear hb2 a0 a1 a2 a3 a4 a5 a6 a7 a8 a9 a10 a11 b0 b1 b2 b3 b4 b5 b6 b7 b8 b9 b10 b11
    obtain ⟨a0, a1, a2, a3, a4, a5, a6, a7, a8, a9, a10, a11⟩ := HT2.out.1.bx
    cases ha : a.may with
    | false =>
      have HE := Lib.hid (err_no ha)
      clear ha
      go_wp2_with fail
      refine (fcheck_any a _).mono ?_
      rintro e w3 ⟨rfl, hb3⟩
      rw [HE.out]
      have HB3 := Lib.hid (nxt HB2.out hb3)
      clear hb3 a0 a1 a2 a3 a4 a5 a6 a7 a8 a9 a10 a11
      go_wp2_with fail
      refine (awake7 _).mono ?_
      rintro e w4 ⟨rfl, hb4⟩
      go_wp2
      go_ret
      exact ⟨rfl, nxt HB3.out hb4⟩
    | true =>
      have HE := Lib.hid (err_ok ha)
      have HF := Lib.hid (show b.err = 14 from err_no (by have := HM.out; rw [ha] at this; simpa using this))
      clear ha
      go_wp2_with fail
      refine (fcheck_any a _).mono ?_
      rintro e w3 ⟨rfl, hb3⟩
      rw [HE.out]
      have HB3 := Lib.hid (nxt HB2.out hb3); have HT3 := Lib.hid (HT2.out.below hb3)
      clear hb3 a0 a1 a2 a3 a4 a5 a6 a7 a8 a9 a10 a11
      obtain ⟨b0, b1, b2, b3, b4, b5, b6, b7, b8, b9, b10, b11⟩ := HT3.out.2.1.bx
      go_wp2_with fail
      refine (fcheck_any b _).mono ?_
      rintro e w4 ⟨rfl, hb4⟩
      rw [HF.out]
      have HB4 := Lib.hid (nxt HB3.out hb4)
      clear hb4 b0 b1 b2 b3 b4 b5 b6 b7 b8 b9 b10 b11
      go_wp2_with fail
      refine (awake7 _).mono ?_
      rintro e w5 ⟨rfl, hb5⟩
      go_wp2
      go_ret
      exact ⟨rfl, nxt HB4.out hb5⟩
  · have E1 := Lib.hid e1; have E2 := Lib.hid e2; have E3 := Lib.hid e3; have E4 := Lib.hid e4
    have HE := Lib.hid (err_ok ha); have HF := Lib.hid (err_ok hb); have HA := Lib.hid ha; have HBM := Lib.hid hb
    have HP := Lib.hid (show (a.plc == b.plc) = true by simpa using hp)
    clear e1 e2 e3 e4 ha hb hp
    go_enter Try.func7, Try.ntmps7
    go_wp2_with fail
    refine (loses_any a b _).mono ?_
    rintro e w1 ⟨rfl, hb1⟩
    rw [E1.out, E2.out]
    have HT1 := Lib.hid (HT.out.below hb1); have HB1 := Lib.hid (nxt HB.out hb1)
    clear hb1
    obtain ⟨a0, a1, a2, a3, a4, a5, a6, a7, a8, a9, a10, a11⟩ := HT1.out.1.bx
    obtain ⟨b0, b1, b2, b3, b4, b5, b6, b7, b8, b9, b10, b11⟩ := HT1.out.2.1.bx
    go_wp2_with fail
    refine (loses_any b a _).mono ?_
    rintro e w2 ⟨rfl, hb2⟩
    rw [E3.out, E4.out]
    have HT2 := Lib.hid (HT1.out.below hb2); have HB2 := Lib.hid (nxt HB1.out hb2)
    clear hb2 a0 a1 a2 a3 a4 a5 a6 a7 a8 a9 a10 a11 b0 b1 b2 b3 b4 b5 b6 b7 b8 b9 b10 b11
    obtain ⟨a0, a1, a2, a3, a4, a5, a6, a7, a8, a9, a10, a11⟩ := HT2.out.1.bx
    go_wp2_with fail
    refine (fcheck_any a _).mono ?_
    rintro e w3 ⟨rfl, hb3⟩
    rw [HE.out]
    have HB3 := Lib.hid (nxt HB2.out hb3); have HT3 := Lib.hid (HT2.out.below hb3)
    clear hb3 a0 a1 a2 a3 a4 a5 a6 a7 a8 a9 a10 a11
    obtain ⟨b0, b1, b2, b3, b4, b5, b6, b7, b8, b9, b10, b11⟩ := HT3.out.2.1.bx
    go_wp2_with fail
    refine (fcheck_any b _).mono ?_
    rintro e w4 ⟨rfl, hb4⟩
    rw [HF.out]
    have HB4 := Lib.hid (nxt HB3.out hb4); have HT4 := Lib.hid (HT3.out.below hb4)
    clear hb4 b0 b1 b2 b3 b4 b5 b6 b7 b8 b9 b10 b11
    obtain ⟨a0, a1, a2, a3, a4, a5, a6, a7, a8, a9, a10, a11⟩ := HT4.out.1.bx
    obtain ⟨b0, b1, b2, b3, b4, b5, b6, b7, b8, b9, b10, b11⟩ := HT4.out.2.1.bx
    go_wp2_with fail
    refine (rival_yes a b _ HA.out HBM.out).mono ?_
    rintro e w5 ⟨rfl, hb5⟩
    rw [HP.out]
    have HB5 := Lib.hid (nxt HB4.out hb5)
    clear hb5 a0 a1 a2 a3 a4 a5 a6 a7 a8 a9 a10 a11 b0 b1 b2 b3 b4 b5 b6 b7 b8 b9 b10 b11
    go_wp2_with fail
    refine (awake7 _).mono ?_
    rintro e w6 ⟨rfl, hb6⟩
    go_wp2
    go_ret
    exact ⟨rfl, nxt HB5.out hb6⟩
  · have E1 := Lib.hid e1; have E2 := Lib.hid e2; have E3 := Lib.hid e3; have E4 := Lib.hid e4
    have HA := Lib.hid ha; have HBM := Lib.hid hb
    have HP := Lib.hid (show decide (a.plc < b.plc) = true by simpa using hp)
    have HTT := Lib.hid (HTR.out ha hp)
    clear e1 e2 e3 e4 ha hb hp
    have s1 : decide ((k : Int) < 0) = false := by simp
    have s2 : decide ((k : Int) < -1) = false := by simp
    go_enter Try.func7, Try.ntmps7
    go_wp2_with fail
    refine (loses_any a b _).mono ?_
    rintro e w1 ⟨rfl, hb1⟩
    rw [E1.out, E2.out]
    have HT1 := Lib.hid (HT.out.below hb1); have HB1 := Lib.hid (nxt HB.out hb1)
    clear hb1
    obtain ⟨a0, a1, a2, a3, a4, a5, a6, a7, a8, a9, a10, a11⟩ := HT1.out.1.bx
    obtain ⟨b0, b1, b2, b3, b4, b5, b6, b7, b8, b9, b10, b11⟩ := HT1.out.2.1.bx
    go_wp2_with fail
    refine (loses_any b a _).mono ?_
    rintro e w2 ⟨rfl, hb2⟩
    rw [E3.out, E4.out]
    have HT2 := Lib.hid (HT1.out.below hb2); have HB2 := Lib.hid (nxt HB1.out hb2)
    clear hb2 a0 a1 a2 a3 a4 a5 a6 a7 a8 a9 a10 a11 b0 b1 b2 b3 b4 b5 b6 b7 b8 b9 b10 b11
    obtain ⟨a0, a1, a2, a3, a4, a5, a6, a7, a8, a9, a10, a11⟩ := HT2.out.1.bx
    obtain ⟨b0, b1, b2, b3, b4, b5, b6, b7, b8, b9, b10, b11⟩ := HT2.out.2.1.bx
    go_wp2_with fail
    refine (less_yes a b _ HA.out HBM.out).mono ?_
    rintro e w3 ⟨rfl, hb3⟩
    rw [HP.out]
    have HT3 := Lib.hid (HT2.out.below hb3); have HB3 := Lib.hid (nxt HB2.out hb3)
    clear hb3 a0 a1 a2 a3 a4 a5 a6 a7 a8 a9 a10 a11 b0 b1 b2 b3 b4 b5 b6 b7 b8 b9 b10 b11
    obtain ⟨b0, b1, b2, b3, b4, b5, b6, b7, b8, b9, b10, b11⟩ := HT3.out.2.1.bx
    obtain ⟨d0, d1, d2, d3, d4, d5, d6, d7, d8, d9, d10, d11⟩ := HT3.out.2.2.bx
    go_wp2_with fail
    refine (loses_any b c _).mono ?_
    rintro e w4 ⟨rfl, hb4⟩
    have HT4 := Lib.hid (HT3.out.below hb4); have HB4 := Lib.hid (nxt HB3.out hb4)
    clear hb4 b0 b1 b2 b3 b4 b5 b6 b7 b8 b9 b10 b11 d0 d1 d2 d3 d4 d5 d6 d7 d8 d9 d10 d11
    obtain ⟨a0, a1, a2, a3, a4, a5, a6, a7, a8, a9, a10, a11⟩ := HT4.out.1.bx
    obtain ⟨d0, d1, d2, d3, d4, d5, d6, d7, d8, d9, d10, d11⟩ := HT4.out.2.2.bx
    generalize lsV b c = v1 at *
    generalize lsE b c = v2 at *
    go_wp2_with fail
    refine (loses_any a c _).mono ?_
    rintro e w5 ⟨rfl, hb5⟩
    have HB5 := Lib.hid (nxt HB4.out hb5)
    clear hb5 a0 a1 a2 a3 a4 a5 a6 a7 a8 a9 a10 a11 d0 d1 d2 d3 d4 d5 d6 d7 d8 d9 d10 d11
    generalize lsV a c = v3 at *
    generalize lsE a c = v4 at *
    by_cases c2 : v2 = 0
    · subst c2
      by_cases c4 : v4 = 0
      · subst c4
        by_cases c1 : v1 < 0
        · have c3 := HTT.out rfl c1
          have t1 : decide (0 ≤ v1) = false := by simp; omega
          go_wp2_with fail
          refine (awake7 _).mono ?_
          rintro e w6 ⟨rfl, hb6⟩
          go_wp2
          go_ret
          exact ⟨rfl, nxt HB5.out hb6⟩
        · have t1 : decide (0 ≤ v1) = true := by simp; omega
          go_wp2_with fail
          refine (awake7 _).mono ?_
          rintro e w6 ⟨rfl, hb6⟩
          go_wp2
          go_ret
          exact ⟨rfl, nxt HB5.out hb6⟩
      · have t4 : (v4 != 0) = true := by simpa using c4
        go_wp2_with fail
        refine (awake7 _).mono ?_
        rintro e w6 ⟨rfl, hb6⟩
        go_wp2
        go_ret
        exact ⟨rfl, nxt HB5.out hb6⟩
    · have t2 : (v2 != 0) = true := by simpa using c2
      go_wp2_with fail
      refine (awake7 _).mono ?_
      rintro e w6 ⟨rfl, hb6⟩
      go_wp2
      go_ret
      exact ⟨rfl, nxt HB5.out hb6⟩
  · have E1 := Lib.hid e1; have E2 := Lib.hid e2; have E3 := Lib.hid e3; have E4 := Lib.hid e4
    have HA := Lib.hid ha; have HBM := Lib.hid hb
    have HP := Lib.hid (show decide (a.plc < b.plc) = false by simp; omega)
    clear e1 e2 e3 e4 ha hb hp
    have s1 : decide ((k : Int) < 0) = false := by simp
    have s2 : decide ((k : Int) < -1) = false := by simp
    have s3 : decide (0 ≤ (k : Int)) = true := by simp
    go_enter Try.func7, Try.ntmps7
    go_wp2_with fail
    refine (loses_any a b _).mono ?_
    rintro e w1 ⟨rfl, hb1⟩
    rw [E1.out, E2.out]
    have HT1 := Lib.hid (HT.out.below hb1); have HB1 := Lib.hid (nxt HB.out hb1)
    clear hb1
    obtain ⟨a0, a1, a2, a3, a4, a5, a6, a7, a8, a9, a10, a11⟩ := HT1.out.1.bx
    obtain ⟨b0, b1, b2, b3, b4, b5, b6, b7, b8, b9, b10, b11⟩ := HT1.out.2.1.bx
    go_wp2_with fail
    refine (loses_any b a _).mono ?_
    rintro e w2 ⟨rfl, hb2⟩
    rw [E3.out, E4.out]
    have HT2 := Lib.hid (HT1.out.below hb2); have HB2 := Lib.hid (nxt HB1.out hb2)
    clear hb2 a0 a1 a2 a3 a4 a5 a6 a7 a8 a9 a10 a11 b0 b1 b2 b3 b4 b5 b6 b7 b8 b9 b10 b11
    obtain ⟨a0, a1, a2, a3, a4, a5, a6, a7, a8, a9, a10, a11⟩ := HT2.out.1.bx
    obtain ⟨b0, b1, b2, b3, b4, b5, b6, b7, b8, b9, b10, b11⟩ := HT2.out.2.1.bx
    go_wp2_with fail
    refine (less_yes a b _ HA.out HBM.out).mono ?_
    rintro e w3 ⟨rfl, hb3⟩
    rw [HP.out]
    have HT3 := Lib.hid (HT2.out.below hb3); have HB3 := Lib.hid (nxt HB2.out hb3)
    clear hb3 a0 a1 a2 a3 a4 a5 a6 a7 a8 a9 a10 a11 b0 b1 b2 b3 b4 b5 b6 b7 b8 b9 b10 b11
    obtain ⟨b0, b1, b2, b3, b4, b5, b6, b7, b8, b9, b10, b11⟩ := HT3.out.2.1.bx
    obtain ⟨d0, d1, d2, d3, d4, d5, d6, d7, d8, d9, d10, d11⟩ := HT3.out.2.2.bx
    go_wp2_with fail
    refine (loses_any b c _).mono ?_
    rintro e w4 ⟨rfl, hb4⟩
    have HT4 := Lib.hid (HT3.out.below hb4); have HB4 := Lib.hid (nxt HB3.out hb4)
    clear hb4 b0 b1 b2 b3 b4 b5 b6 b7 b8 b9 b10 b11 d0 d1 d2 d3 d4 d5 d6 d7 d8 d9 d10 d11
    obtain ⟨a0, a1, a2, a3, a4, a5, a6, a7, a8, a9, a10, a11⟩ := HT4.out.1.bx
    obtain ⟨d0, d1, d2, d3, d4, d5, d6, d7, d8, d9, d10, d11⟩ := HT4.out.2.2.bx
    generalize lsV b c = v1 at *
    generalize lsE b c = v2 at *
    go_wp2_with fail
    refine (loses_any a c _).mono ?_
    rintro e w5 ⟨rfl, hb5⟩
    have HB5 := Lib.hid (nxt HB4.out hb5)
    clear hb5 a0 a1 a2 a3 a4 a5 a6 a7 a8 a9 a10 a11 d0 d1 d2 d3 d4 d5 d6 d7 d8 d9 d10 d11
    generalize lsV a c = v3 at *
    generalize lsE a c = v4 at *
    by_cases c2 : v2 = 0
    · subst c2
      by_cases c4 : v4 = 0
      · subst c4
        go_wp2_with fail
        refine (awake7 _).mono ?_
        rintro e w6 ⟨rfl, hb6⟩
        go_wp2
        go_ret
        exact ⟨rfl, nxt HB5.out hb6⟩
      · have t4 : (v4 != 0) = true := by simpa using c4
        go_wp2_with fail
        refine (awake7 _).mono ?_
        rintro e w6 ⟨rfl, hb6⟩
        go_wp2
        go_ret
        exact ⟨rfl, nxt HB5.out hb6⟩
    · have t2 : (v2 != 0) = true := by simpa using c2
      go_wp2_with fail
      refine (awake7 _).mono ?_
      rintro e w6 ⟨rfl, hb6⟩
      go_wp2
      go_ret
      exact ⟨rfl, nxt HB5.out hb6⟩
end Go.Proofs.Ytjbbneagikogbaa
