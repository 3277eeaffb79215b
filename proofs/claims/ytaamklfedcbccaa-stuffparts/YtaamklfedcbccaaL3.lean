/- The walk of the law StuffBack. -/
import Derived.Test.YtaamklfedcbccaaL2
namespace Go.Proofs.Ytaamklfedcbccaa
open Go.RowKit

theorem from_mem {zs : List Int} : ∀ (rs : List Int) (i : Nat), From zs i rs → ∀ r ∈ rs, ∃ j, j + r.toNat ≤ zs.length ∧ ∀ k, j ≤ k → k < j + r.toNat → zs.getD k 0 = zs.getD j 0
  | [], _, _, r, hr => by cases hr
  | q :: rs, i, h, r, hr => by
    cases hr with
    | head => exact ⟨i, h.2.1, h.2.2.1⟩
    | tail _ hr => exact from_mem rs _ h.2.2.2.2 r hr
theorem max_le : ∀ (rs : List Int) (m b : Int), m ≤ b → (∀ r ∈ rs, r ≤ b) → rs.foldl max m ≤ b
  | [], _, _, hm, _ => hm
  | q :: rs, m, b, hm, h => max_le rs (max m q) b (by have := h q (by simp); omega) (fun r hr => h r (by simp [hr]))
theorem getD_take {t : List Int} {k j : Nat} (h : j < k) : (t.take k).getD j 0 = t.getD j 0 := by simp [List.getD, List.getElem?_take_of_lt h]
theorem okk_most {t : List Int} (h : okk t) : most (runs t) ≤ 5 := by
  refine max_le _ _ _ (by omega) fun r hr => ?_
  obtain ⟨j, h1, h2⟩ := from_mem _ _ (runs_from t) r hr
  rcases Int.lt_or_le 5 r with h6 | h6
  · exfalso
    have ha := h (j + 6) (by omega)
    have hl : (t.take (j + 6)).length = j + 5 + 1 := by rw [List.length_take]; omega
    have hs := (alk_spec (t.take (j + 6))).2.2 (by omega)
    rw [lst_last hl, hl, getD_take (by omega), getD_take (by omega), h2 (j + 5) (by omega) (by omega), h2 _ (by omega) (by omega)] at hs
    exact hs rfl
  · exact h6

set_option maxHeartbeats 1600000 in
theorem law53 (A X : Option Addr) (n nx cap capx : Nat) (zs xs : List Int) (w : World) (hr : Il w A n zs) (hx : Il w X nx xs) :
    Calls Try.prog 5 #[.slice A n cap, .slice X nx capx] w fun e w' => e = .returned (.bool true) ∧ Below w.heap.size w w' := by
  have HR := Lib.hid hr; have HX := Lib.hid hx
  clear hr hx
  by_cases hn : 300 < n
  · have h0 : decide ((300 : Int) < (n : Int)) = true := by simp; omega
    go_enter Try.func5, Try.ntmps5
    go_wp2_with (go_at_call 9; (refine (awake5 _).mono ?_); rintro e w1 ⟨rfl, hb1⟩)
    go_ret
    exact ⟨rfl, hb1⟩
  have h0 : decide ((300 : Int) < (n : Int)) = false := by simp; omega
  by_cases hnx : 300 < nx
  · have h1 : decide ((300 : Int) < (nx : Int)) = true := by simp; omega
    go_enter Try.func5, Try.ntmps5
    go_wp2_with (go_at_call 9; (refine (awake5 _).mono ?_); rintro e w1 ⟨rfl, hb1⟩)
    go_ret
    exact ⟨rfl, hb1⟩
  have h1 : decide ((300 : Int) < (nx : Int)) = false := by simp; omega
  rcases Int.lt_or_le (chk zs) 0 with hk | hk
  · have HV := Lib.hid (fst_neg lvl zs hk)
    have HC := Lib.hid (show chk zs = -1 from fst_of_all lvl zs HV.out)
    have hsl := stf_len zs
    have hsm := stf_most zs
    have HT := Lib.hid (tk_stf HV.out)
    have HM := Lib.hid (okk_most (stf_back zs).1)
    rw [HR.out.1] at hsl hsm
    generalize hL : (stf zs).length = L at *
    have HL := Lib.hid hL
    clear hk hL
    go_enter Try.func5, Try.ntmps5
    go_wp2_with fail
    refine (check_any _ _ _ _ _ HR.out (by omega)).mono ?_
    rintro e w' ⟨rfl, rfl⟩
    rw [HC.out]
    go_wp2_with fail
    refine (add_ok _ _ _ _ _ HR.out (by omega) HV.out).mono ?_
    rintro e w1 ⟨A1, cap1, rfl, hi1, hc1, hb1⟩
    rw [HL.out] at hi1 hc1 ⊢
    have HI1 := Lib.hid hi1; have HB1 := Lib.hid hb1
    clear hi1 hb1 hc1
    go_wp2_with fail
    refine (take_any _ _ _ _ _ HI1.out (by omega)).mono ?_
    rintro e w2 ⟨A2, cap2, rfl, hi2, hc2, hb2⟩
    rw [HT.out.1, HT.out.2.1]
    rw [HT.out.2.2, HR.out.1] at hi2 hc2 ⊢
    have HI2 := Lib.hid hi2; have HB2 := Lib.hid (nxt HB1.out hb2); have HI1 := Lib.hid (HI1.out.below hb2)
    clear hi2 hb2 hc2
    go_wp2_with fail
    refine (most_ok n _ (by omega)).mono ?_
    rintro e w' ⟨rfl, rfl⟩
    obtain ⟨ms, hms⟩ : ∃ ms, (n - 1) / 4 = ms := ⟨_, rfl⟩
    rw [hms] at hsm ⊢
    clear hms
    go_wp2_with fail
    refine (ints_b _ _ _ _ _ _ _ _ _ HI2.out (HR.out.below HB2.out) (by omega)).mono ?_
    rintro e w3 ⟨rfl, hb3⟩
    rw [show (zs == zs) = true from by simp]
    have HB3 := Lib.hid (nxt HB2.out hb3); have HI1 := Lib.hid (HI1.out.below hb3)
    clear hb3 HI2
    go_wp2_with fail
    refine (longest_ok _ _ _ _ _ HI1.out (by omega)).mono ?_
    rintro e w4 ⟨rfl, hb4⟩
    have hmo := HM.out
    generalize most (runs (stf zs)) = mo at *
    have hq1 : decide ((5 : Int) < mo) = false := by simp; omega
    have hq2 : decide ((ms : Int) < (L : Int) - (n : Int)) = false := by simp; omega
    have HB4 := Lib.hid (nxt HB3.out hb4)
    clear hb4 HI1 hmo
    go_wp2_with fail
    refine (count_ok _ _ _ _ _ (HR.out.below HB4.out) (by omega) HV.out).mono ?_
    rintro e w5 ⟨rfl, hb5⟩
    rw [HL.out]
    have HB5 := Lib.hid (nxt HB4.out hb5)
    clear hb5
    rcases Classical.em (tkE xs = 0) with he | he
    · obtain ⟨e1, e2⟩ := stf_tk he
      have HE1 := Lib.hid e1; have HE2 := Lib.hid e2; have HE := Lib.hid he
      clear he e1 e2
      go_wp2_with fail
      refine (take_any _ _ _ _ _ (HX.out.below HB5.out) (by omega)).mono ?_
      rintro e w7 ⟨A7, cap7, rfl, hi7, hc7, hb7⟩
      rw [HE.out]
      have HB7 := Lib.hid (nxt HB5.out hb7)
      have HI7 := Lib.hid hi7
      have hL7 : (tkR xs).length ≤ 300 := by have := tkR_len xs; rw [HX.out.1] at this; omega
      generalize hL : (tkR xs).length = L7 at *
      have HL7 := Lib.hid hL
      generalize tkAt xs = ta at *
      clear hi7 hb7 hc7 hL
      go_wp2_with fail
      refine (add_ok _ _ _ _ _ HI7.out (by omega) HE2.out).mono ?_
      rintro e w8 ⟨A8, cap8, rfl, hi8, hc8, hb8⟩
      rw [HE1.out, HX.out.1] at hi8 ⊢
      have HI8 := Lib.hid hi8
      have HB8 := Lib.hid (nxt HB7.out hb8)
      clear hi8 hb8 hc8
      go_wp2_with fail
      refine (ints_b _ _ _ _ _ _ _ _ _ HI8.out (HX.out.below HB8.out) (by omega)).mono ?_
      rintro e w9 ⟨rfl, hb9⟩
      rw [show (xs == xs) = true from by simp]
      have HB9 := Lib.hid (nxt HB8.out hb9)
      clear hb9
      go_wp2_with fail
      refine (awake5 _).mono ?_
      rintro e w10 ⟨rfl, hb10⟩
      go_wp2
      go_ret
      exact ⟨rfl, nxt HB9.out hb10⟩
    · have HN := Lib.hid (tkR_none he)
      have hne : (tkE xs != 0) = true := by simpa using he
      have hin := tkAt_in xs
      rw [HX.out.1] at hin
      go_wp2_with fail
      refine (take_any _ _ _ _ _ (HX.out.below HB5.out) (by omega)).mono ?_
      rintro e w7 ⟨A7, cap7, rfl, hi7, hc7, hb7⟩
      rw [HN.out, List.length_nil]
      have HB7 := Lib.hid (nxt HB5.out hb7)
      clear hi7 hb7 hc7 he
      obtain ⟨ta1, ta2⟩ := hin
      generalize tkAt xs = ta at *
      generalize tkE xs = te at *
      go_wp2_with fail
      refine (awake5 _).mono ?_
      rintro e w10 ⟨rfl, hb10⟩
      go_wp2
      go_ret
      exact ⟨rfl, nxt HB7.out hb10⟩
  · go_enter Try.func5, Try.ntmps5
    go_wp2_with fail
    refine (check_any _ _ _ _ _ HR.out (by omega)).mono ?_
    rintro e w' ⟨rfl, rfl⟩
    have HB0 := Lib.hid (Below.refl w.heap.size w)
    go_wp2_with fail
    refine (add_bad _ _ _ _ _ HR.out (by omega) hk).mono ?_
    rintro e w' ⟨rfl, rfl⟩
    clear hk
    rcases Classical.em (tkE xs = 0) with he | he
    · obtain ⟨e1, e2⟩ := stf_tk he
      have HE1 := Lib.hid e1; have HE2 := Lib.hid e2; have HE := Lib.hid he
      clear he e1 e2
      go_wp2_with fail
      refine (take_any _ _ _ _ _ (HX.out.below HB0.out) (by omega)).mono ?_
      rintro e w7 ⟨A7, cap7, rfl, hi7, hc7, hb7⟩
      rw [HE.out]
      have HB7 := Lib.hid (nxt HB0.out hb7)
      have HI7 := Lib.hid hi7
      have hL7 : (tkR xs).length ≤ 300 := by have := tkR_len xs; rw [HX.out.1] at this; omega
      generalize hL : (tkR xs).length = L7 at *
      have HL7 := Lib.hid hL
      generalize tkAt xs = ta at *
      clear hi7 hb7 hc7 hL
      go_wp2_with fail
      refine (add_ok _ _ _ _ _ HI7.out (by omega) HE2.out).mono ?_
      rintro e w8 ⟨A8, cap8, rfl, hi8, hc8, hb8⟩
      rw [HE1.out, HX.out.1] at hi8 ⊢
      have HI8 := Lib.hid hi8
      have HB8 := Lib.hid (nxt HB7.out hb8)
      clear hi8 hb8 hc8
      go_wp2_with fail
      refine (ints_b _ _ _ _ _ _ _ _ _ HI8.out (HX.out.below HB8.out) (by omega)).mono ?_
      rintro e w9 ⟨rfl, hb9⟩
      rw [show (xs == xs) = true from by simp]
      have HB9 := Lib.hid (nxt HB8.out hb9)
      clear hb9
      go_wp2_with fail
      refine (awake5 _).mono ?_
      rintro e w10 ⟨rfl, hb10⟩
      go_wp2
      go_ret
      exact ⟨rfl, nxt HB9.out hb10⟩
    · have HN := Lib.hid (tkR_none he)
      have hne : (tkE xs != 0) = true := by simpa using he
      have hin := tkAt_in xs
      rw [HX.out.1] at hin
      go_wp2_with fail
      refine (take_any _ _ _ _ _ (HX.out.below HB0.out) (by omega)).mono ?_
      rintro e w7 ⟨A7, cap7, rfl, hi7, hc7, hb7⟩
      rw [HN.out, List.length_nil]
      have HB7 := Lib.hid (nxt HB0.out hb7)
      clear hi7 hb7 hc7 he
      obtain ⟨ta1, ta2⟩ := hin
      generalize tkAt xs = ta at *
      generalize tkE xs = te at *
      go_wp2_with fail
      refine (awake5 _).mono ?_
      rintro e w10 ⟨rfl, hb10⟩
      go_wp2
      go_ret
      exact ⟨rfl, nxt HB7.out hb10⟩
end Go.Proofs.Ytaamklfedcbccaa
