/- The walk of the law ArbLoses. -/
import Derived.Test.YtjbbneagikogbaaAW7
import Derived.Test.YtjbbneagikogbaaAR
namespace Go.Proofs.Ytjbbneagikogbaa
open Go.RowKit

/-- Two frames lie in the blocks behind w. -/
def Duo (w : World) (g : Nat) (a b : Fr) : Prop := Fb w g a ∧ Fb w (g + 1) b
theorem Duo.below {w w' : World} {g : Nat} {a b : Fr} (h : Duo w g a b) (hb : Below w.heap.size w w') : Duo w' g a b := ⟨h.1.below hb h.1.lt, h.2.below hb h.2.lt⟩
theorem duo_bad {a b : Fr} (h : (a.may && b.may) = false) : ¬ ∀ i, i < 2 → ((fun j => [a, b].getD j Fr.zero) i).may = true := by
  intro h'
  have h0 : a.may = true := h' 0 (by omega)
  have h1 : b.may = true := h' 1 (by omega)
  rw [h0, h1] at h; cases h
theorem duo_may {a b : Fr} (ha : a.may = true) (hb : b.may = true) : ¬ ∃ i, i < 2 ∧ ((fun j => [a, b].getD j Fr.zero) i).may = false := by
  rintro ⟨i, hi, h⟩
  rcases (show i = 0 ∨ i = 1 by omega) with rfl | rfl
  · change a.may = false at h; rw [ha] at h; cases h
  · change b.may = false at h; rw [hb] at h; cases h
theorem duo_apart {a b : Fr} (h : a.plc ≠ b.plc) : ¬ ∃ i k, k < i ∧ i < 2 ∧ ((fun j => [a, b].getD j Fr.zero) i).plc = ((fun j => [a, b].getD j Fr.zero) k).plc := by
  rintro ⟨i, k, h1, h2, h3⟩
  obtain ⟨rfl, rfl⟩ : i = 1 ∧ k = 0 := by omega
  exact h h3.symm
theorem duo_same {a b : Fr} (h : a.plc = b.plc) : ¬ Aprt (fun j => [a, b].getD j Fr.zero) 2 := fun h' => h' 1 0 (by omega) (by omega) h.symm

set_option maxRecDepth 100000 in
set_option maxHeartbeats 3200000 in
theorem aloses_any (a b : Fr) (w : World) :
    Calls Try.prog 4 #[a.val, b.val] w fun e w' => e = .returned (.bool true) ∧ Below w.heap.size w w' := by
  have HB := Lib.hid (boxed2 a b w)
  have HT := Lib.hid (show Duo _ w.heap.size a b from ⟨fb_two1 w a b, fb_two2 w a b⟩)
  cases hm : (a.may && b.may) with
  | false =>
    obtain ⟨e1, e2⟩ := ls_bad hm
    have E1 := Lib.hid e1; have E2 := Lib.hid e2; have HN := Lib.hid (duo_bad hm)
    clear hm e1 e2
    go_enter Try.func4, Try.ntmps4
    go_wp2_with fail
    refine (loses_any a b _).mono ?_
    rintro e w1 ⟨rfl, hb1⟩
    rw [E1.out, E2.out]
    have HB1 := Lib.hid (nxt HB.out hb1)
    have HT1 := Lib.hid (HT.out.below hb1)
    clear hb1
    obtain ⟨a0, a1, a2, a3, a4, a5, a6, a7, a8, a9, a10, a11⟩ := HT1.out.1.bx
    obtain ⟨b0, b1, b2, b3, b4, b5, b6, b7, b8, b9, b10, b11⟩ := HT1.out.2.bx
    have HFL := Lib.hid (fl_lit w1 [a, b])
    have HBL := Lib.hid ((Below.refl w1.heap.size w1).alloc (Nat.le_refl _) (.cells (fcs [a, b]).toArray 28))
    go_wp2_with fail
    refine (rwrong_any (fun j => [a, b].getD j Fr.zero) (some ⟨w1.heap.size, 0, none⟩) 2 2 _ HFL.out (by omega)).mono ?_
    clear a0 a1 a2 a3 a4 a5 a6 a7 a8 a9 a10 a11 b0 b1 b2 b3 b4 b5 b6 b7 b8 b9 b10 b11
    rintro e w2 ⟨hb2, ⟨rfl, hx⟩ | ⟨hall, hx⟩⟩
    rotate_left
    · exact (HN.out hall).elim
    clear hx
    have HB2 := Lib.hid (nxt (nxt HB1.out HBL.out) hb2)
    clear hb2
    go_wp2_with fail
    refine (awake7 _).mono ?_
    rintro e w3 ⟨rfl, hb3⟩
    go_wp2
    go_ret
    exact ⟨rfl, nxt HB2.out hb3⟩
  | true =>
    rw [Bool.and_eq_true] at hm
    obtain ⟨ha, hb⟩ := hm
    have HA := Lib.hid ha; have HBM := Lib.hid hb; have HN1 := Lib.hid (duo_may ha hb)
    rcases Nat.lt_trichotomy a.plc b.plc with hp | hp | hp
    rotate_left
    · obtain ⟨e1, e2⟩ := ls_same ha hb hp
      have E1 := Lib.hid e1; have E2 := Lib.hid e2; have HN2 := Lib.hid (duo_same hp)
      clear ha hb hp e1 e2
      go_enter Try.func4, Try.ntmps4
      go_wp2_with fail
      refine (loses_any a b _).mono ?_
      rintro e w1 ⟨rfl, hb1⟩
      rw [E1.out, E2.out]
      have HB1 := Lib.hid (nxt HB.out hb1)
      have HT1 := Lib.hid (HT.out.below hb1)
      clear hb1
      obtain ⟨a0, a1, a2, a3, a4, a5, a6, a7, a8, a9, a10, a11⟩ := HT1.out.1.bx
      obtain ⟨b0, b1, b2, b3, b4, b5, b6, b7, b8, b9, b10, b11⟩ := HT1.out.2.bx
      have HFL := Lib.hid (fl_lit w1 [a, b])
      have HBL := Lib.hid ((Below.refl w1.heap.size w1).alloc (Nat.le_refl _) (.cells (fcs [a, b]).toArray 28))
      go_wp2_with fail
      refine (rwrong_any (fun j => [a, b].getD j Fr.zero) (some ⟨w1.heap.size, 0, none⟩) 2 2 _ HFL.out (by omega)).mono ?_
      clear a0 a1 a2 a3 a4 a5 a6 a7 a8 a9 a10 a11 b0 b1 b2 b3 b4 b5 b6 b7 b8 b9 b10 b11
      rintro e w2 ⟨hb2, ⟨rfl, hx⟩ | ⟨hall, ⟨rfl, hx⟩ | ⟨rfl, hx⟩⟩⟩
      · exact (HN1.out hx).elim
      rotate_left
      · exact (HN2.out hx).elim
      clear hx hall
      have HB2 := Lib.hid (nxt (nxt HB1.out HBL.out) hb2)
      clear hb2
      go_wp2_with fail
      refine (awake7 _).mono ?_
      rintro e w3 ⟨rfl, hb3⟩
      go_wp2
      go_ret
      exact ⟨rfl, nxt HB2.out hb3⟩
    · obtain ⟨k, hk⟩ := plc_lt hb ha hp
      obtain ⟨e1, e2⟩ := ls_at ha hb hk
      have E1 := Lib.hid e1; have E2 := Lib.hid e2; have HN2 := Lib.hid (duo_apart (a := a) (b := b) (by omega))
      have HDIF := Lib.hid hk.dif.2; have HX := Lib.hid hk.2.2; have HK := Lib.hid hk.lt.2
      clear ha hb hp e1 e2 hk
      go_enter Try.func4, Try.ntmps4
      go_wp2_with fail
      refine (loses_any a b _).mono ?_
      rintro e w1 ⟨rfl, hb1⟩
      rw [E1.out, E2.out]
      have HB1 := Lib.hid (nxt HB.out hb1)
      have HT1 := Lib.hid (HT.out.below hb1)
      clear hb1
      obtain ⟨a0, a1, a2, a3, a4, a5, a6, a7, a8, a9, a10, a11⟩ := HT1.out.1.bx
      obtain ⟨b0, b1, b2, b3, b4, b5, b6, b7, b8, b9, b10, b11⟩ := HT1.out.2.bx
      have HFL := Lib.hid (fl_lit w1 [a, b])
      have HBL := Lib.hid ((Below.refl w1.heap.size w1).alloc (Nat.le_refl _) (.cells (fcs [a, b]).toArray 28))
      go_wp2_with fail
      refine (rwrong_any (fun j => [a, b].getD j Fr.zero) (some ⟨w1.heap.size, 0, none⟩) 2 2 _ HFL.out (by omega)).mono ?_
      clear a0 a1 a2 a3 a4 a5 a6 a7 a8 a9 a10 a11 b0 b1 b2 b3 b4 b5 b6 b7 b8 b9 b10 b11
      rintro e w2 ⟨hb2, ⟨rfl, hx⟩ | ⟨hall, ⟨rfl, hx⟩ | ⟨rfl, hx⟩⟩⟩
      · exact (HN1.out hx).elim
      · exact (HN2.out hx).elim
      have HT2 := Lib.hid (HT1.out.below (nxt HBL.out hb2))
      have HB2 := Lib.hid (nxt (nxt HB1.out HBL.out) hb2)
      clear hb2 hall hx
      obtain ⟨a0, a1, a2, a3, a4, a5, a6, a7, a8, a9, a10, a11⟩ := HT2.out.1.bx
      obtain ⟨b0, b1, b2, b3, b4, b5, b6, b7, b8, b9, b10, b11⟩ := HT2.out.2.bx
      go_wp2_with fail
      refine (rplace_any a b _ HA.out HBM.out).mono ?_
      rintro e w3 ⟨rfl, hb3⟩
      rw [HDIF.out]
      have HT3 := Lib.hid (HT2.out.below hb3)
      have HB3 := Lib.hid (nxt HB2.out hb3)
      clear hb3 a0 a1 a2 a3 a4 a5 a6 a7 a8 a9 a10 a11 b0 b1 b2 b3 b4 b5 b6 b7 b8 b9 b10 b11
      obtain ⟨a0, a1, a2, a3, a4, a5, a6, a7, a8, a9, a10, a11⟩ := HT3.out.1.bx
      go_wp2_with fail
      refine (rarb_ok a _ HA.out).mono ?_
      rintro e w4 ⟨A4, cap4, rfl, hi4, hb4⟩
      obtain ⟨ad, z, rfl, hz, hc⟩ := hi4.at_ (k := k) (by rw [ofB_len]; have := HK.out; rw [lv_len] at this; exact this)
      obtain rfl : z = 1 := by
        have h := HX.out
        unfold Fr.lv at h
        rw [h] at hz
        injection hz with hz
        exact hz.symm
      have HB4 := Lib.hid (nxt HB3.out hb4)
      have hkl : (k : Int) < ((ofB a.num a.wid).length : Int) := by have := HK.out; unfold Fr.lv at this; omega
      have hkn : k < (ofB a.num a.wid).length := HK.out
      clear hz hi4 hb4 a0 a1 a2 a3 a4 a5 a6 a7 a8 a9 a10 a11
      generalize (ofB a.num a.wid).length = nn at *
      have hkk : ((k : Int) == (k : Int)) = true := by simp
      go_wp2_with fail
      refine (awake7 _).mono ?_
      rintro e w5 ⟨rfl, hb5⟩
      go_wp2
      go_ret
      exact ⟨rfl, nxt HB4.out hb5⟩
    · obtain ⟨k, hk⟩ := plc_lt ha hb hp
      obtain ⟨e1, e2⟩ := ls_not ha hb hk
      have E1 := Lib.hid e1; have E2 := Lib.hid e2; have HN2 := Lib.hid (duo_apart (a := a) (b := b) (by omega))
      have HDIF := Lib.hid hk.dif.1; have HX := Lib.hid hk.2.1; have HK := Lib.hid hk.lt.1
      clear ha hb hp e1 e2 hk
      go_enter Try.func4, Try.ntmps4
      go_wp2_with fail
      refine (loses_any a b _).mono ?_
      rintro e w1 ⟨rfl, hb1⟩
      rw [E1.out, E2.out]
      have HB1 := Lib.hid (nxt HB.out hb1)
      have HT1 := Lib.hid (HT.out.below hb1)
      clear hb1
      obtain ⟨a0, a1, a2, a3, a4, a5, a6, a7, a8, a9, a10, a11⟩ := HT1.out.1.bx
      obtain ⟨b0, b1, b2, b3, b4, b5, b6, b7, b8, b9, b10, b11⟩ := HT1.out.2.bx
      have HFL := Lib.hid (fl_lit w1 [a, b])
      have HBL := Lib.hid ((Below.refl w1.heap.size w1).alloc (Nat.le_refl _) (.cells (fcs [a, b]).toArray 28))
      go_wp2_with fail
      refine (rwrong_any (fun j => [a, b].getD j Fr.zero) (some ⟨w1.heap.size, 0, none⟩) 2 2 _ HFL.out (by omega)).mono ?_
      clear a0 a1 a2 a3 a4 a5 a6 a7 a8 a9 a10 a11 b0 b1 b2 b3 b4 b5 b6 b7 b8 b9 b10 b11
      rintro e w2 ⟨hb2, ⟨rfl, hx⟩ | ⟨hall, ⟨rfl, hx⟩ | ⟨rfl, hx⟩⟩⟩
      · exact (HN1.out hx).elim
      · exact (HN2.out hx).elim
      have HT2 := Lib.hid (HT1.out.below (nxt HBL.out hb2))
      have HB2 := Lib.hid (nxt (nxt HB1.out HBL.out) hb2)
      clear hb2 hall hx
      obtain ⟨a0, a1, a2, a3, a4, a5, a6, a7, a8, a9, a10, a11⟩ := HT2.out.1.bx
      obtain ⟨b0, b1, b2, b3, b4, b5, b6, b7, b8, b9, b10, b11⟩ := HT2.out.2.bx
      go_wp2_with fail
      refine (rplace_any a b _ HA.out HBM.out).mono ?_
      rintro e w3 ⟨rfl, hb3⟩
      rw [HDIF.out]
      have HT3 := Lib.hid (HT2.out.below hb3)
      have HB3 := Lib.hid (nxt HB2.out hb3)
      clear hb3 a0 a1 a2 a3 a4 a5 a6 a7 a8 a9 a10 a11 b0 b1 b2 b3 b4 b5 b6 b7 b8 b9 b10 b11
      obtain ⟨a0, a1, a2, a3, a4, a5, a6, a7, a8, a9, a10, a11⟩ := HT3.out.1.bx
      go_wp2_with fail
      refine (rarb_ok a _ HA.out).mono ?_
      rintro e w4 ⟨A4, cap4, rfl, hi4, hb4⟩
      obtain ⟨ad, z, rfl, hz, hc⟩ := hi4.at_ (k := k) (by rw [ofB_len]; have := HK.out; rw [lv_len] at this; exact this)
      obtain rfl : z = 0 := by
        have h := HX.out
        unfold Fr.lv at h
        rw [h] at hz
        injection hz with hz
        exact hz.symm
      have HB4 := Lib.hid (nxt HB3.out hb4)
      have hkl : (k : Int) < ((ofB a.num a.wid).length : Int) := by have := HK.out; unfold Fr.lv at this; omega
      have hkn : k < (ofB a.num a.wid).length := HK.out
      clear hz hi4 hb4 a0 a1 a2 a3 a4 a5 a6 a7 a8 a9 a10 a11
      generalize (ofB a.num a.wid).length = nn at *
      go_wp2_with fail
      refine (awake7 _).mono ?_
      rintro e w5 ⟨rfl, hb5⟩
      go_wp2
      go_ret
      exact ⟨rfl, nxt HB4.out hb5⟩
end Go.Proofs.Ytjbbneagikogbaa
