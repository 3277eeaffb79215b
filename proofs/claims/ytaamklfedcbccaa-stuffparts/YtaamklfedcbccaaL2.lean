/- The walk of the law StuffTakes. -/
import Derived.Test.YtaamklfedcbccaaSG
namespace Go.Proofs.Ytaamklfedcbccaa
open Go.RowKit

theorem bne_self_int (x : Int) : (x != x) = false := by simp
theorem lst_last {t : List Int} {k : Nat} (h : t.length = k + 1) : lst t = t.getD k 0 := by
  have e := lst_take (t := t) (k := k) (by omega)
  rwa [List.take_of_length_le (by omega)] at e

set_option maxHeartbeats 1600000 in
theorem law52 (A : Option Addr) (n cap : Nat) (zs : List Int) (w : World) (hr : Il w A n zs) (hcap : n ≤ cap) :
    Calls Try.prog 4 #[.slice A n cap] w fun e w' => e = .returned (.bool true) ∧ Below w.heap.size w w' := by
  have HR := Lib.hid hr
  clear hr
  by_cases hn : 300 < n
  · go_enter Try.func4, Try.ntmps4
    go_wp2_with (go_at_call 9; (refine (awake5 _).mono ?_); rintro e w1 ⟨rfl, hb1⟩)
    go_ret
    exact ⟨rfl, hb1⟩
  have h0 : decide ((300 : Int) < (n : Int)) = false := by simp; omega
  have hrl := tkR_len zs
  rw [HR.out.1] at hrl
  generalize hL : (tkR zs).length = L at *
  have HL := Lib.hid hL
  clear hL
  go_enter Try.func4, Try.ntmps4
  go_wp2_with fail
  refine (take_any _ _ _ _ _ HR.out (by omega)).mono ?_
  rintro e w1 ⟨A1, cap1, rfl, hi1, hc1, hb1⟩
  rw [HL.out] at hi1 hc1 ⊢
  have HI1 := Lib.hid hi1; have HB1 := Lib.hid hb1
  clear hi1 hb1 hc1
  go_wp2_with fail
  refine (rtake_any _ _ _ _ _ (HR.out.below HB1.out) (by omega) hcap).mono ?_
  rintro e w2 ⟨A2, cap2, rfl, hi2, hc2, hb2⟩
  rw [HL.out] at hi2 hc2 ⊢
  have HI2 := Lib.hid hi2; have HB2 := Lib.hid (nxt HB1.out hb2); have HI1 := Lib.hid (HI1.out.below hb2)
  clear hi2 hb2 hc2
  have q1 := bne_self_int (tkAt zs)
  have q2 := bne_self_int (tkE zs)
  generalize tkAt zs = ta at *
  generalize tkE zs = te at *
  go_wp2_with fail
  refine (next_any5 _ _ _ _ _ (HR.out.below HB2.out) (by omega) hcap).mono ?_
  rintro e w3 ⟨rfl, hb3⟩
  have HB3 := Lib.hid (nxt HB2.out hb3)
  have HI2 := Lib.hid (HI2.out.below hb3); have HI1 := Lib.hid (HI1.out.below hb3)
  clear hb3
  go_wp2_with fail
  refine (ints_b _ _ _ _ _ _ _ _ _ HI1.out HI2.out (by omega)).mono ?_
  rintro e w4 ⟨rfl, hb4⟩
  rw [show (tkR zs == tkR zs) = true from by simp]
  have HB4 := Lib.hid (nxt HB3.out hb4)
  clear hb4 HI1 HI2
  go_wp2_with fail
  refine (rcheck_any _ _ _ _ _ (HR.out.below HB4.out) (by omega)).mono ?_
  rintro e w' ⟨rfl, rfl⟩
  rcases Int.lt_or_le (chk zs) 0 with hk | hk
  · have HV := Lib.hid (fst_neg lvl zs hk)
    have HK := Lib.hid hk
    rw [show chk zs = -1 from fst_of_all lvl zs HV.out]
    clear hk
    go_wp2_with fail
    refine (five_b _ _ _ _ _ (HR.out.below HB4.out) (by omega)).mono ?_
    rintro e w5 ⟨rfl, hb5⟩
    have HB5 := Lib.hid (nxt HB4.out hb5)
    clear hb5
    by_cases h5 : 5 ≤ alk zs
    · obtain ⟨e1, e2⟩ := nxs_yes HK.out h5
      obtain ⟨k, rfl⟩ : ∃ k, n = k + 1 := ⟨n - 1, by have := (alk_spec zs).1; rw [HR.out.1] at this; omega⟩
      rw [show decide (5 ≤ alk zs) = true from by simpa using h5]
      obtain ⟨ad, rfl, -, -⟩ := HR.out.2 (by omega)
      have hc := il_getD (HR.out.below HB5.out) (k := k) (by omega)
      have HZ := Lib.hid (getD_lvl HV.out (i := k) (by rw [HR.out.1]; omega))
      rw [lst_last HR.out.1] at e2
      generalize zs.getD k 0 = z at *
      generalize nxs zs = s at *
      generalize nxl zs = x at *
      subst e1 e2
      have z1 : 0 ≤ z := by have := HZ.out; omega
      have z2 : z ≤ 1 := by have := HZ.out; omega
      clear h5
      go_wp2_with fail
      refine (awake5 _).mono ?_
      rintro e w6 ⟨rfl, hb6⟩
      go_wp2
      go_ret
      exact ⟨rfl, nxt HB5.out hb6⟩
    · obtain ⟨e1, e2⟩ := nxs_few (show alk zs < 5 by omega)
      rw [show decide (5 ≤ alk zs) = false from by simpa using h5]
      generalize nxs zs = s at *
      generalize nxl zs = x at *
      subst e1 e2
      clear h5
      go_wp2_with fail
      refine (awake5 _).mono ?_
      rintro e w6 ⟨rfl, hb6⟩
      go_wp2
      go_ret
      exact ⟨rfl, nxt HB5.out hb6⟩
  · obtain ⟨e1, e2⟩ := nxs_bad hk
    generalize nxs zs = s at *
    generalize nxl zs = x at *
    subst e1 e2
    go_wp2_with fail
    refine (awake5 _).mono ?_
    rintro e w6 ⟨rfl, hb6⟩
    go_wp2
    go_ret
    exact ⟨rfl, nxt HB4.out hb6⟩
end Go.Proofs.Ytaamklfedcbccaa
