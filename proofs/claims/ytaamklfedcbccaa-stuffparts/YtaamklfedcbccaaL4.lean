/- The walk of the law StuffNext. -/
import Derived.Test.YtaamklfedcbccaaL3
namespace Go.Proofs.Ytaamklfedcbccaa
open Go.RowKit

theorem chk_take {t : List Int} (h : ∀ z ∈ t, lvl z = true) (k : Nat) : chk (t.take k) < 0 := by
  rw [show chk (t.take k) = -1 from fst_of_all lvl _ (fun z hz => h z (List.mem_of_mem_take hz))]; omega
/-- Behind five alike comes the other one. -/
theorem told_next {t : List Int} {k : Nat} {z : Int} (h : ∀ z ∈ t, lvl z = true) (ho : okk t) (hz : t[k]? = some z) (h5 : 5 ≤ alk (t.take k)) : 1 - lst (t.take k) = z := by
  have hk : k < t.length := by
    rcases Nat.lt_or_ge k t.length with h | h
    · exact h
    · rw [List.getElem?_eq_none h] at hz; cases hz
  have ha := ho (k + 1) (by omega)
  rw [take_snoc t k z hz] at ha
  have hne : ¬ z = lst (t.take k) := fun e => by rw [alk_same e] at ha; omega
  have a1 := lvl_01 (h z (List.mem_of_getElem? hz))
  have a2 := lvl_01 (lst_lvl (t.take k) (fun z hz => h z (List.mem_of_mem_take hz)))
  omega
/-- Else it comes from the row, in its order. -/
theorem told_row {t : List Int} {k : Nat} {z : Int} (hz : t[k]? = some z) (h5 : ¬ 5 ≤ alk (t.take k)) : (stk t)[(stk (t.take k)).length]? = some z := by
  obtain ⟨r, hr⟩ := stk_more (t.take (k + 1)) (t.drop (k + 1))
  rw [List.take_append_drop, stk_step_else hz h5] at hr
  rw [hr]
  simp

set_option maxHeartbeats 1600000 in
theorem law54 (A : Option Addr) (n cap : Nat) (zs : List Int) (w : World) (hr : Il w A n zs) (hcap : n ≤ cap) :
    Calls Try.prog 6 #[.slice A n cap] w fun e w' => e = .returned (.bool true) ∧ Below w.heap.size w w' := by
  have HR := Lib.hid hr
  clear hr
  by_cases hn : 300 < n
  · go_enter Try.func6, Try.ntmps6
    go_wp2_with (go_at_call 9; (refine (awake5 _).mono ?_); rintro e w1 ⟨rfl, hb1⟩)
    go_ret
    exact ⟨rfl, hb1⟩
  have h0 : decide ((300 : Int) < (n : Int)) = false := by simp; omega
  rcases Int.lt_or_le (chk zs) 0 with hk | hk
  · have HV := Lib.hid (fst_neg lvl zs hk)
    have HC := Lib.hid (show chk zs = -1 from fst_of_all lvl zs HV.out)
    have hsl := stf_len zs
    have HSV := Lib.hid (stf_lvl zs HV.out)
    have HSB := Lib.hid (stf_back zs)
    have HA4 := Lib.hid (alk_stf zs)
    rw [HR.out.1] at hsl
    generalize hst : stf zs = s at *
    have HST := Lib.hid hst
    generalize hL : s.length = L at *
    have HL := Lib.hid hL
    clear hk hL hst
    go_enter Try.func6, Try.ntmps6
    go_wp2_with fail
    refine (check_any _ _ _ _ _ HR.out (by omega)).mono ?_
    rintro e w' ⟨rfl, rfl⟩
    rw [HC.out]
    go_wp2_with fail
    refine (add_ok _ _ _ _ _ HR.out (by omega) HV.out).mono ?_
    rintro e w1 ⟨A1, cap1, rfl, hi1, hc1, hb1⟩
    rw [HST.out, HL.out] at hi1 hc1 ⊢
    have HI1 := Lib.hid hi1; have HB1 := Lib.hid hb1
    clear hi1 hb1
    go_wp2
    go_loopw [6, 7] (fun c i wr => ∃ j : Nat, j ≤ L ∧ i = .int .i64 j ∧ c = .int .i64 ((stk (s.take j)).length : Nat) ∧ Il wr A1 L s ∧ Below w.heap.size w wr) (fun _ i _ => L - (intOf i).toNat)
    case atStart => exact ⟨0, Nat.zero_le _, rfl, rfl, HI1.out, HB1.out⟩
    case round =>
      obtain ⟨j, hj, rfl, rfl, hi, hbel⟩ := hrel
      by_cases hlt : j < L
      · obtain ⟨ad, z, rfl, hz, hc⟩ := hi.at_ hlt
        have HZ := Lib.hid hz
        have HI := Lib.hid hi
        have j1 : (0 : Int) ≤ (j : Int) := by omega
        have j2 : (j : Int) ≤ (cap1 : Int) := by omega
        have j3 : j ≤ cap1 := by omega
        have HIJ := Lib.hid (hi.take j hj)
        clear hz hi hc
        go_wp2_with fail
        refine (next_any5 _ _ _ _ _ HIJ.out (by omega) j3).mono ?_
        rintro e w3 ⟨rfl, hb3⟩
        have HI3 := Lib.hid (HI.out.below hb3)
        have HB3 := Lib.hid (nxt hbel hb3)
        have hc3 : w3.cell? (ad.add j) = some (.int .i64 z) := by
          obtain ⟨ad', z', e1, e2, e3⟩ := HI3.out.at_ hlt
          injection e1 with e1
          rw [HZ.out] at e2
          injection e2 with e2
          rw [e1, e2]; exact e3
        clear hb3 hbel HI HIJ
        by_cases h5 : 5 ≤ alk (s.take j)
        · obtain ⟨e1, e2⟩ := nxs_yes (chk_take HSV.out j) h5
          rw [told_next HSV.out HSB.out.1 HZ.out h5] at e2
          have HK := Lib.hid (stk_step_five HZ.out h5)
          rw [e1, e2]
          clear h5 e1 e2
          generalize hcc : (stk (s.take j)).length = c at *
          have HCC := Lib.hid hcc
          clear hcc
          go_wp2
          go_roundw
          case rel => exact ⟨j + 1, by omega, by go_num, by rw [HK.out, HCC.out], HI3.out, HB3.out⟩
          case measure => simp [intOf]; omega
        · obtain ⟨e1, e2⟩ := nxs_few (show alk (s.take j) < 5 by omega)
          have HTR := Lib.hid (told_row HZ.out h5)
          have HK := Lib.hid (stk_step_else HZ.out h5)
          rw [HSB.out.2] at HTR
          rw [e1, e2]
          clear h5 e1 e2
          generalize hcc : (stk (s.take j)).length = c at *
          have HCC := Lib.hid hcc
          have hcn : c < n := by
            rcases Nat.lt_or_ge c n with h | h
            · exact h
            · have := HTR.out; rw [List.getElem?_eq_none (by rw [HR.out.1]; exact h)] at this; cases this
          obtain ⟨bd, y, rfl, hy, hd⟩ := (HR.out.below HB3.out).at_ hcn
          obtain rfl : y = z := by have := HTR.out; rw [hy] at this; injection this
          have q1 : decide ((n : Int) ≤ (c : Int)) = false := by simp; omega
          have q2 : (y != y) = false := by simp
          have q3 : (c : Int) < (n : Int) := by omega
          have q4 : (0 : Int) ≤ (c : Int) := by omega
          have q5 : (j : Int) < (L : Int) := by omega
          clear hy hcc
          go_wp2
          go_quiet (fail)
          go_wp2
          go_roundw
          case rel => exact ⟨j + 1, by omega, by go_num, by rw [HK.out, List.length_append, HCC.out]; go_num, HI3.out, belowN HB3.out _⟩
          case measure => simp [intOf]; omega
      · obtain rfl : j = L := by omega
        have HTK := Lib.hid (show s.take j = s from List.take_of_length_le (by rw [HL.out]; omega))
        rw [HTK.out, HSB.out.2, HR.out.1]
        obtain ⟨e1, e2⟩ := nxs_few (show alk s < 5 by have := HA4.out; omega)
        have HE := Lib.hid (And.intro e1 e2)
        have HI := Lib.hid hi
        clear e1 e2 hi
        go_wp2_with fail
        refine (next_any5 _ _ _ _ _ HI.out (by omega) hc1).mono ?_
        rintro e w3 ⟨rfl, hb3⟩
        rw [HE.out.1, HE.out.2]
        go_wp2_with fail
        refine (awake5 _).mono ?_
        rintro e w10 ⟨rfl, hb10⟩
        go_wp2
        go_ret
        exact ⟨rfl, nxt (nxt hbel hb3) hb10⟩
  · obtain ⟨e1, e2⟩ := nxs_bad hk
    have HE := Lib.hid (And.intro e1 e2)
    go_enter Try.func6, Try.ntmps6
    go_wp2_with fail
    refine (check_any _ _ _ _ _ HR.out (by omega)).mono ?_
    rintro e w' ⟨rfl, rfl⟩
    go_wp2_with fail
    refine (next_any5 _ _ _ _ _ HR.out (by omega) hcap).mono ?_
    rintro e w3 ⟨rfl, hb3⟩
    rw [HE.out.1, HE.out.2]
    go_wp2_with fail
    refine (awake5 _).mono ?_
    rintro e w10 ⟨rfl, hb10⟩
    go_wp2
    go_ret
    exact ⟨rfl, nxt hb3 hb10⟩
end Go.Proofs.Ytaamklfedcbccaa
