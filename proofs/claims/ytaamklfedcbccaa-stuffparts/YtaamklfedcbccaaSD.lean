/- The contracts of stuff.Count and stuff.Next. -/
import Derived.Test.YtaamklfedcbccaaSC
import Derived.Test.YtaamklfedcbccaaSl
import Derived.Test.YtaamklfedcbccaaH
namespace Go.Proofs.Ytaamklfedcbccaa
open Go.RowKit

set_option maxHeartbeats 400000 in
theorem count_bad (A : Option Addr) (n cap : Nat) (zs : List Int) (w : World) (hr : Il w A n zs) (hn : n ≤ 10000) (hl : 0 ≤ chk zs) :
    Calls Try.prog 14 #[.slice A n cap] w fun e w' => e = .returned (.int .i64 0) ∧ w = w' := by
  go_enter Try.func14, Try.ntmps14
  go_wp2_with (go_at_call 20; (with_reducible refine (check_any _ _ _ _ _ hr (by omega)).mono ?_); rintro e w' ⟨rfl, rfl⟩)
  go_ret
  exact ⟨rfl, rfl⟩
set_option maxHeartbeats 400000 in
theorem count_ok (A : Option Addr) (n cap : Nat) (zs : List Int) (w : World) (hr : Il w A n zs) (hn : n ≤ 10000) (hl : ∀ z ∈ zs, lvl z = true) :
    Calls Try.prog 14 #[.slice A n cap] w fun e w' => e = .returned (.int .i64 (((stf zs).length : Int) - (n : Int))) ∧ Below w.heap.size w w' := by
  have HL := Lib.hid (show chk zs = -1 from fst_of_all lvl zs hl)
  have HV := Lib.hid hl
  have HR := Lib.hid hr
  have hsl := stf_len zs
  rw [hr.1] at hsl
  clear hl hr
  go_enter Try.func14, Try.ntmps14
  go_wp2_with fail
  refine (check_any _ _ _ _ _ HR.out (by omega)).mono ?_
  rintro e w' ⟨rfl, rfl⟩
  rw [HL.out]
  go_wp2_with fail
  refine (add_ok _ _ _ _ _ HR.out hn HV.out).mono ?_
  rintro e w1 ⟨A1, cap1, rfl, hi1, hc1, hb1⟩
  clear hi1
  generalize hm : (stf zs).length = m at *
  have HM := Lib.hid hm
  clear hm
  go_wp2
  go_ret
  exact ⟨by rw [HM.out]; rfl, hb1⟩

/-- What Next tells. -/
def nxs (t : List Int) : Bool := decide (chk t < 0 ∧ 5 ≤ alk t)
def nxl (t : List Int) : Int := if nxs t then 1 - lst t else 0
theorem nxs_bad {t : List Int} (h : 0 ≤ chk t) : nxs t = false ∧ nxl t = 0 := by
  have e : nxs t = false := by unfold nxs; simp; omega
  exact ⟨e, by unfold nxl; rw [e]; rfl⟩
theorem nxs_few {t : List Int} (h : alk t < 5) : nxs t = false ∧ nxl t = 0 := by
  have e : nxs t = false := by unfold nxs; simp; omega
  exact ⟨e, by unfold nxl; rw [e]; rfl⟩
theorem nxs_yes {t : List Int} (h : chk t < 0) (h5 : 5 ≤ alk t) : nxs t = true ∧ nxl t = 1 - lst t := by
  have e : nxs t = true := by unfold nxs; simp; omega
  exact ⟨e, by unfold nxl; rw [e]; rfl⟩
theorem five_runs (a b c d e : Int) (ha : a = 0 ∨ a = 1) (hb : b = 0 ∨ b = 1) (hc : c = 0 ∨ c = 1) (hd : d = 0 ∨ d = 1) (he : e = 0 ∨ e = 1) :
    (b = a ∧ c = a ∧ d = a ∧ e = a ∧ most (runs [a, b, c, d, e]) = 5) ∨ (¬ (b = a ∧ c = a ∧ d = a ∧ e = a) ∧ most (runs [a, b, c, d, e]) < 5) := by
  rcases ha with rfl | rfl <;> rcases hb with rfl | rfl <;> rcases hc with rfl | rfl <;> rcases hd with rfl | rfl <;> rcases he with rfl | rfl <;> decide
theorem drop_five {t : List Int} (h : 5 ≤ t.length) : t.drop (t.length - 5) = [t.getD (t.length - 5) 0, t.getD (t.length - 4) 0, t.getD (t.length - 3) 0, t.getD (t.length - 2) 0, t.getD (t.length - 1) 0] := by
  apply List.ext_getElem
  · simp; omega
  · intro i h1 h2
    simp at h2
    rw [List.getElem_drop]
    match i, h2 with
    | 0, _ => simp [List.getD, show t.length - 5 < t.length by omega]
    | 1, _ => simp [List.getD, show t.length - 4 < t.length by omega]; congr 1; omega
    | 2, _ => simp [List.getD, show t.length - 3 < t.length by omega]; congr 1; omega
    | 3, _ => simp [List.getD, show t.length - 2 < t.length by omega]; congr 1; omega
    | 4, _ => simp [List.getD, show t.length - 1 < t.length by omega]; congr 1; omega
theorem getD_lvl {t : List Int} (h : ∀ z ∈ t, lvl z = true) {i : Nat} (hi : i < t.length) : t.getD i 0 = 0 ∨ t.getD i 0 = 1 := lvl_01 (h _ (List.mem_of_getElem? (getD_some t i hi)))
theorem five_most {t : List Int} (h : 5 ≤ t.length) (hl : ∀ z ∈ t, lvl z = true) : (5 ≤ alk t ∧ most (runs (t.drop (t.length - 5))) = 5) ∨ (alk t < 5 ∧ most (runs (t.drop (t.length - 5))) < 5) := by
  rw [drop_five h]
  rcases five_runs _ _ _ _ _ (getD_lvl hl (i := t.length - 5) (by omega)) (getD_lvl hl (i := t.length - 4) (by omega)) (getD_lvl hl (i := t.length - 3) (by omega)) (getD_lvl hl (i := t.length - 2) (by omega)) (getD_lvl hl (i := t.length - 1) (by omega)) with ⟨h1, h2, h3, h4, h5⟩ | ⟨h1, h5⟩
  · refine .inl ⟨?_, h5⟩
    rcases Nat.lt_or_ge (alk t) 5 with ha | ha
    · obtain ⟨i, i1, i2, i3⟩ := five_no ha h
      exfalso
      apply i3
      rcases (by omega : i = t.length - 4 ∨ i = t.length - 3 ∨ i = t.length - 2 ∨ i = t.length - 1) with rfl | rfl | rfl | rfl <;> assumption
    · exact ha
  · refine .inr ⟨?_, h5⟩
    rcases Nat.lt_or_ge (alk t) 5 with ha | ha
    · exact ha
    · obtain ⟨_, hf⟩ := five_yes ha
      exfalso
      apply h1
      rw [hf (t.length - 5) (by omega) (by omega), hf (t.length - 4) (by omega) (by omega), hf (t.length - 3) (by omega) (by omega), hf (t.length - 2) (by omega) (by omega), hf (t.length - 1) (by omega) (by omega)]
      exact ⟨rfl, rfl, rfl, rfl⟩

set_option maxHeartbeats 800000 in
theorem next_any5 (A : Option Addr) (n cap : Nat) (zs : List Int) (w : World) (hr : Il w A n zs) (hn : n ≤ 10000) (hcap : n ≤ cap) :
    Calls Try.prog 18 #[.slice A n cap] w fun e w' => e = .returned (.tuple #[.bool (nxs zs), .int .i64 (nxl zs)]) ∧ Below w.heap.size w w' := by
  by_cases h5 : n < 5
  · obtain ⟨e1, e2⟩ := nxs_few (show alk zs < 5 by have := (alk_spec zs).1; rw [hr.1] at this; omega)
    rw [e1, e2]
    go_enter Try.func18, Try.ntmps18
    go_wp2_with fail
    go_ret2
    exact ⟨rfl, Below.refl _ _⟩
  · obtain ⟨k, rfl⟩ : ∃ k, n = k + 5 := ⟨n - 5, by omega⟩
    obtain ⟨ad, rfl, hlt, hcl⟩ := hr.2 (by omega)
    have HR := Lib.hid hr
    have HLN := Lib.hid hr.1
    have hq0 : decide (((k : Int) + 5) - 5 < 0) = false := by simp
    rcases Int.lt_or_le (chk zs) 0 with hk | hk
    · have HV := Lib.hid (fst_neg lvl zs hk)
      have HK := Lib.hid hk
      have HC := Lib.hid (show chk zs = -1 from fst_of_all lvl zs HV.out)
      have HM := Lib.hid (five_most (t := zs) (by rw [HLN.out]; omega) HV.out)
      have HD := Lib.hid (show Il w (some (ad.add k)) 5 (zs.drop k) from by have h := HR.out.drop k (by omega); rwa [Nat.add_sub_cancel_left] at h)
      have hck := hcl k (by omega)
      have HZ := Lib.hid (getD_lvl HV.out (i := k) (by rw [HLN.out]; omega))
      rw [HLN.out, Nat.add_sub_cancel] at HM
      clear hr hcl hlt hk
      go_enter Try.func18, Try.ntmps18
      go_wp2_with fail
      refine (check_any _ _ _ _ _ HR.out (by omega)).mono ?_
      rintro e w' ⟨rfl, rfl⟩
      rw [HC.out]
      go_wp2_with fail
      refine (longest_ok _ _ _ _ _ HD.out (by omega)).mono ?_
      rintro e w1 ⟨rfl, hb1⟩
      rcases HM.out with ⟨h1, h2⟩ | ⟨h1, h2⟩
      · obtain ⟨e1, e2⟩ := nxs_yes HK.out h1
        have hls := (five_yes h1).2 k (by rw [HLN.out]; omega) (by rw [HLN.out]; omega)
        rw [h2]
        rw [← hls] at e2
        have HE := Lib.hid (And.intro e1 e2)
        have hc1 : w1.cell? (ad.add k) = some (.int .i64 (zs.getD k 0)) := by
          obtain ⟨ad', e3, _, hc⟩ := (HR.out.below hb1).2 (by omega)
          injection e3 with e3
          subst e3
          exact hc k (by omega)
        clear h1 h2 hls e1 e2 hck
        generalize zs.getD k 0 = z at *
        go_wp2_with fail
        refine (other_any z _ HZ.out).mono ?_
        rintro e w' ⟨rfl, rfl⟩
        go_wp2
        go_ret2
        exact ⟨by rw [HE.out.1, HE.out.2]; rfl, hb1⟩
      · obtain ⟨e1, e2⟩ := nxs_few h1
        have HE := Lib.hid (And.intro e1 e2)
        generalize most (runs (zs.drop k)) = m at *
        clear h1 e1 e2
        go_wp2
        go_ret2
        exact ⟨by rw [HE.out.1, HE.out.2]; rfl, hb1⟩
    · obtain ⟨e1, e2⟩ := nxs_bad hk
      rw [e1, e2]
      go_enter Try.func18, Try.ntmps18
      go_wp2_with fail
      refine (check_any _ _ _ _ _ HR.out (by omega)).mono ?_
      rintro e w' ⟨rfl, rfl⟩
      go_wp2
      go_ret2
      exact ⟨rfl, Below.refl _ _⟩
end Go.Proofs.Ytaamklfedcbccaa
