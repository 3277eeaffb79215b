/- The walk of the law CountStays. -/
import Derived.Test.YtmffiakdoklaaaaKW
import Derived.Test.YtmffiakdoklaaaaKO
import Derived.Deep.DeepCutAuto
namespace Go.Proofs.Ytmffiakdoklaaaa
open Go.RowKit

set_option maxRecDepth 100000 in
set_option maxHeartbeats 3200000 in
theorem cstays_long (c : Ct) (A : Option Addr) (n n' : Nat) (w : World) (h : 300 < n) :
    Calls Try.prog 5 #[c.val, .slice A n n'] w fun e w' => e = .returned (.bool true) ∧ Below w.heap.size w w' := by
  have HB := Lib.hid (below1 w (.cells c.cells 23))
  have g0 : (300 : Int) < (n : Int) := by omega
  obtain ⟨t, r, o⟩ := c
  go_enter Try.func5, Try.ntmps5
  go_wp2_with fail
  refine (awake8 _).mono ?_
  rintro e w1 ⟨rfl, hb1⟩
  have HF := Lib.hid (nxt HB.out hb1)
  clear hb1
  go_wp2
  go_ret
  exact ⟨rfl, HF.out⟩

set_option maxRecDepth 100000 in
set_option maxHeartbeats 6400000 in
theorem cstays_wrong (c : Ct) (f : Nat → Int × Int) (A : Option Addr) (n n' : Nat) (w : World) (hn : n ≤ 300) (hA : Cl w A n f) (hr : c.right = false) :
    Calls Try.prog 5 #[c.val, .slice A n n'] w fun e w' => e = .returned (.bool true) ∧ Below w.heap.size w w' := by
  have HL := Lib.hid hA
  have HB := Lib.hid (below1 w (.cells c.cells 23))
  have HC := Lib.hid (cb_new w c)
  have HE := Lib.hid (show c.err = 10 by unfold Ct.err; rw [hr]; rfl)
  have HN := Lib.hid (fun k x h => come_not (c := c) (k := k) (by unfold Ct.run; rw [hr]; rfl) h x)
  have g0 : decide ((300 : Int) < (n : Int)) = false := by simp; omega
  clear hA hr
  obtain ⟨t, r, o⟩ := c
  go_enter Try.func5, Try.ntmps5
  go_wp2_with fail
  refine (check_any ⟨t, r, o⟩ _).mono ?_
  rintro e w1 ⟨rfl, hb1⟩
  rw [HE.out]
  have HB1 := Lib.hid (nxt HB.out hb1)
  have HC1 := Lib.hid (HC.out.next hb1)
  clear hb1 HB HC
  go_wp2
  go_loopw [5] (fun vi wr => ∃ k : Nat, k ≤ n ∧ vi = .int .i64 k ∧ Below w.heap.size w wr ∧ Cb wr w.heap.size ⟨t, r, o⟩) (fun vi _ => n - (intOf vi).toNat)
  case atStart => exact ⟨0, Nat.zero_le _, rfl, HB1.out, HC1.out⟩
  case round =>
    clear HB1 HC1
    obtain ⟨k, hk, rfl, hb, hc⟩ := hrel
    have HB1 := Lib.hid hb; have HC1 := Lib.hid hc
    clear hb hc
    by_cases hlt : k < n
    · have hlt' : (k : Int) < (n : Int) := by omega
      obtain ⟨ad, hAD, -, -, -⟩ := (HL.out.below HB1.out).at_ hlt
      subst hAD
      obtain ⟨wh, hwh⟩ : ∃ wh, (f k).1 = wh := ⟨_, rfl⟩
      obtain ⟨wg, hwg⟩ : ∃ wg, (f k).2 = wg := ⟨_, rfl⟩
      have HWH := Lib.hid hwh; have HWG := Lib.hid hwg
      clear hwh hwg
      by_cases h4 : wh = 4
      · subst h4
        go_wp2_with fail
        refine wp_region_held_drew (S := fun w' => Below w.heap.size w w' ∧ Cb w' w.heap.size ⟨t, r, o⟩) (by kernel_rfl) (⟨HB1.out.drew, HC1.out⟩) (fun hHeld => ?_)
        refine takeH (i := 0) (v := .slice (some ad) n n') rfl (by kernel_rfl) (by kernel_rfl) (by kernel_rfl) (fun _ _ _ h => h) (Or.inl ⟨by rfl, fun w hSw => ?_⟩) hHeld ?_
        · (clear hSw; go_simp)
        simp only [Act.put, List.setIfInBounds_toArray, List.set_cons_zero, List.set_cons_succ]
        refine takeH (i := 1) (v := .int .i64 k) rfl (by kernel_rfl) (by kernel_rfl) (by kernel_rfl) (fun _ _ _ h => h) (Or.inl ⟨by rfl, fun w hSw => ?_⟩) hHeld ?_
        · (clear hSw; go_simp)
        simp only [Act.put, List.setIfInBounds_toArray, List.set_cons_zero, List.set_cons_succ]
        refine takeH (i := 2) (v := .pointer (some (ad.add (k * 2)))) rfl (by kernel_rfl) (by kernel_rfl) (by kernel_rfl) (fun _ _ _ h => h) (Or.inl ⟨by rfl, fun w hSw => ?_⟩) hHeld ?_
        · (clear hSw; go_simp)
        simp only [Act.put, List.setIfInBounds_toArray, List.set_cons_zero, List.set_cons_succ]
        refine takeH (i := 3) (v := .pointer (some (ad.add (k * 2)))) rfl (by kernel_rfl) (by kernel_rfl) (by kernel_rfl) (fun _ _ _ h => h) (Or.inl ⟨by rfl, fun w hSw => ?_⟩) hHeld ?_
        · (clear hSw; go_simp)
        simp only [Act.put, List.setIfInBounds_toArray, List.set_cons_zero, List.set_cons_succ]
        refine takeH (i := 4) (v := .int .i64 4) rfl (by kernel_rfl) (by kernel_rfl) (by kernel_rfl) (fun _ _ _ h => h) (Or.inl ⟨by rfl, fun w hSw => ?_⟩) hHeld ?_
        · (obtain ⟨ad', hA', hl', x0, x1⟩ := (HL.out.below hSw.1).at_ hlt; injection hA' with hA'; subst hA'; rw [HWH.out] at x0; rw [HWG.out] at x1; clear hl'; clear hSw; go_simp)
        simp only [Act.put, List.setIfInBounds_toArray, List.set_cons_zero, List.set_cons_succ]
        refine takeH (i := 5) (v := .bool false) rfl (by kernel_rfl) (by kernel_rfl) (by kernel_rfl) (fun _ _ _ h => h) (Or.inl ⟨by rfl, fun w hSw => ?_⟩) hHeld ?_
        · (clear hSw; go_simp)
        simp only [Act.put, List.setIfInBounds_toArray, List.set_cons_zero, List.set_cons_succ]
        refine takeH (i := 6) (v := .bool false) rfl (by kernel_rfl) (by kernel_rfl) (by kernel_rfl) (fun _ _ _ h => h) (Or.inl ⟨by rfl, fun w hSw => ?_⟩) hHeld ?_
        · (clear hSw; go_simp)
        simp only [Act.put, List.setIfInBounds_toArray, List.set_cons_zero, List.set_cons_succ]
        refine takeH (i := 7) (v := undef) rfl (by kernel_rfl) (by kernel_rfl) (by kernel_rfl) (fun _ _ _ h => h) (Or.inr ⟨by rfl, rfl⟩) hHeld ?_
        simp only [Act.put, List.setIfInBounds_toArray, List.set_cons_zero, List.set_cons_succ]
        refine takeH (i := 8) (v := undef) rfl (by kernel_rfl) (by kernel_rfl) (by kernel_rfl) (fun _ _ _ h => h) (Or.inr ⟨by rfl, rfl⟩) hHeld ?_
        simp only [Act.put, List.setIfInBounds_toArray, List.set_cons_zero, List.set_cons_succ]
        refine takeH (i := 9) (v := undef) rfl (by kernel_rfl) (by kernel_rfl) (by kernel_rfl) (fun _ _ _ h => h) (Or.inr ⟨by rfl, rfl⟩) hHeld ?_
        simp only [Act.put, List.setIfInBounds_toArray, List.set_cons_zero, List.set_cons_succ]
        refine takeH (i := 10) (v := undef) rfl (by kernel_rfl) (by kernel_rfl) (by kernel_rfl) (fun _ _ _ h => h) (Or.inr ⟨by rfl, rfl⟩) hHeld ?_
        simp only [Act.put, List.setIfInBounds_toArray, List.set_cons_zero, List.set_cons_succ]
        refine takeH (i := 11) (v := undef) rfl (by kernel_rfl) (by kernel_rfl) (by kernel_rfl) (fun _ _ _ h => h) (Or.inr ⟨by rfl, rfl⟩) hHeld ?_
        simp only [Act.put, List.setIfInBounds_toArray, List.set_cons_zero, List.set_cons_succ]
        refine takeH (i := 12) (v := undef) rfl (by kernel_rfl) (by kernel_rfl) (by kernel_rfl) (fun _ _ _ h => h) (Or.inr ⟨by rfl, rfl⟩) hHeld ?_
        simp only [Act.put, List.setIfInBounds_toArray, List.set_cons_zero, List.set_cons_succ]
        refine takeH (i := 13) (v := undef) rfl (by kernel_rfl) (by kernel_rfl) (by kernel_rfl) (fun _ _ _ h => h) (Or.inr ⟨by rfl, rfl⟩) hHeld ?_
        simp only [Act.put, List.setIfInBounds_toArray, List.set_cons_zero, List.set_cons_succ]
        refine takeH (i := 14) (v := undef) rfl (by kernel_rfl) (by kernel_rfl) (by kernel_rfl) (fun _ _ _ h => h) (Or.inr ⟨by rfl, rfl⟩) hHeld ?_
        simp only [Act.put, List.setIfInBounds_toArray, List.set_cons_zero, List.set_cons_succ]
        refine takeH (i := 15) (v := .bool false) rfl (by kernel_rfl) (by kernel_rfl) (by kernel_rfl) (fun _ _ _ h => h) (Or.inl ⟨by rfl, fun w hSw => ?_⟩) hHeld ?_
        · (clear hSw; go_simp)
        simp only [Act.put, List.setIfInBounds_toArray, List.set_cons_zero, List.set_cons_succ]
        refine wpAnyH_done (by kernel_rfl) ?_ _
        clear hHeld
        have HB2 := Lib.hid HB1.out.drew; have HC2 := Lib.hid HC1.out
        clear HB1 HC1
        go_wp2
        go_roundw
        case rel => exact ⟨k + 1, by omega, by go_num, HB2.out, HC2.out⟩
        case measure => simp [intOf]; omega
      · have e4 : (wh != 4) = true := by simpa using h4
        have HM := Lib.hid (HN.out wh wg h4)
        go_wp2_with fail
        refine wp_region_held_drew (S := fun w' => Below w.heap.size w w' ∧ Cb w' w.heap.size ⟨t, r, o⟩) (by kernel_rfl) (⟨HB1.out.drew, HC1.out⟩) (fun hHeld => ?_)
        refine takeH (i := 0) (v := .slice (some ad) n n') rfl (by kernel_rfl) (by kernel_rfl) (by kernel_rfl) (fun _ _ _ h => h) (Or.inl ⟨by rfl, fun w hSw => ?_⟩) hHeld ?_
        · (clear hSw; go_simp)
        simp only [Act.put, List.setIfInBounds_toArray, List.set_cons_zero, List.set_cons_succ]
        refine takeH (i := 1) (v := .int .i64 k) rfl (by kernel_rfl) (by kernel_rfl) (by kernel_rfl) (fun _ _ _ h => h) (Or.inl ⟨by rfl, fun w hSw => ?_⟩) hHeld ?_
        · (clear hSw; go_simp)
        simp only [Act.put, List.setIfInBounds_toArray, List.set_cons_zero, List.set_cons_succ]
        refine takeH (i := 2) (v := .pointer (some (ad.add (k * 2)))) rfl (by kernel_rfl) (by kernel_rfl) (by kernel_rfl) (fun _ _ _ h => h) (Or.inl ⟨by rfl, fun w hSw => ?_⟩) hHeld ?_
        · (clear hSw; go_simp)
        simp only [Act.put, List.setIfInBounds_toArray, List.set_cons_zero, List.set_cons_succ]
        refine takeH (i := 3) (v := .pointer (some (ad.add (k * 2)))) rfl (by kernel_rfl) (by kernel_rfl) (by kernel_rfl) (fun _ _ _ h => h) (Or.inl ⟨by rfl, fun w hSw => ?_⟩) hHeld ?_
        · (clear hSw; go_simp)
        simp only [Act.put, List.setIfInBounds_toArray, List.set_cons_zero, List.set_cons_succ]
        refine takeH (i := 4) (v := .int .i64 wh) rfl (by kernel_rfl) (by kernel_rfl) (by kernel_rfl) (fun _ _ _ h => h) (Or.inl ⟨by rfl, fun w hSw => ?_⟩) hHeld ?_
        · (obtain ⟨ad', hA', hl', x0, x1⟩ := (HL.out.below hSw.1).at_ hlt; injection hA' with hA'; subst hA'; rw [HWH.out] at x0; rw [HWG.out] at x1; clear hl'; clear hSw; go_simp)
        simp only [Act.put, List.setIfInBounds_toArray, List.set_cons_zero, List.set_cons_succ]
        refine takeH (i := 5) (v := .bool true) rfl (by kernel_rfl) (by kernel_rfl) (by kernel_rfl) (fun _ _ _ h => h) (Or.inl ⟨by rfl, fun w hSw => ?_⟩) hHeld ?_
        · (clear hSw; go_simp)
        simp only [Act.put, List.setIfInBounds_toArray, List.set_cons_zero, List.set_cons_succ]
        refine takeH (i := 6) (v := .bool true) rfl (by kernel_rfl) (by kernel_rfl) (by kernel_rfl) (fun _ _ _ h => h) (Or.inl ⟨by rfl, fun w hSw => ?_⟩) hHeld ?_
        · (clear hSw; go_simp)
        simp only [Act.put, List.setIfInBounds_toArray, List.set_cons_zero, List.set_cons_succ]
        refine takeH (i := 7) (v := .agg #[.int .i64 t, .int .i64 r, .bool o]) rfl (by kernel_rfl) (by kernel_rfl) (by kernel_rfl) (fun _ _ _ h => h) (Or.inl ⟨by rfl, fun w hSw => ?_⟩) hHeld ?_
        · (obtain ⟨a0, a1, a2⟩ := hSw.2.cx; simp only at a0 a1 a2; clear hSw; go_simp)
        simp only [Act.put, List.setIfInBounds_toArray, List.set_cons_zero, List.set_cons_succ]
        refine takeH (i := 8) (v := .slice (some ad) n n') rfl (by kernel_rfl) (by kernel_rfl) (by kernel_rfl) (fun _ _ _ h => h) (Or.inl ⟨by rfl, fun w hSw => ?_⟩) hHeld ?_
        · (clear hSw; go_simp)
        simp only [Act.put, List.setIfInBounds_toArray, List.set_cons_zero, List.set_cons_succ]
        refine takeH (i := 9) (v := .int .i64 k) rfl (by kernel_rfl) (by kernel_rfl) (by kernel_rfl) (fun _ _ _ h => h) (Or.inl ⟨by rfl, fun w hSw => ?_⟩) hHeld ?_
        · (clear hSw; go_simp)
        simp only [Act.put, List.setIfInBounds_toArray, List.set_cons_zero, List.set_cons_succ]
        refine takeH (i := 10) (v := .pointer (some (ad.add (k * 2)))) rfl (by kernel_rfl) (by kernel_rfl) (by kernel_rfl) (fun _ _ _ h => h) (Or.inl ⟨by rfl, fun w hSw => ?_⟩) hHeld ?_
        · (clear hSw; go_simp)
        simp only [Act.put, List.setIfInBounds_toArray, List.set_cons_zero, List.set_cons_succ]
        refine takeH (i := 11) (v := .agg #[.int .i64 wh, .int .i64 wg]) rfl (by kernel_rfl) (by kernel_rfl) (by kernel_rfl) (fun _ _ _ h => h) (Or.inl ⟨by rfl, fun w hSw => ?_⟩) hHeld ?_
        · (obtain ⟨ad', hA', hl', x0, x1⟩ := (HL.out.below hSw.1).at_ hlt; injection hA' with hA'; subst hA'; rw [HWH.out] at x0; rw [HWG.out] at x1; clear hl'; clear hSw; go_simp)
        simp only [Act.put, List.setIfInBounds_toArray, List.set_cons_zero, List.set_cons_succ]
        refine takeH (i := 13) (v := .agg #[.int .i64 t, .int .i64 r, .bool o]) rfl (by kernel_rfl) (by kernel_rfl) (by kernel_rfl) (fun _ _ _ h => h) (Or.inl ⟨by rfl, fun w hSw => ?_⟩) hHeld ?_
        · (obtain ⟨a0, a1, a2⟩ := hSw.2.cx; simp only at a0 a1 a2; clear hSw; go_simp)
        simp only [Act.put, List.setIfInBounds_toArray, List.set_cons_zero, List.set_cons_succ]
        refine wpAnyH_ready (rs := [12]) (by kernel_rfl) (by simp) ?_
        refine AllReadyH.cons rfl (fun K hK => ?_) AllReadyH.nil
        go_simp
        refine (behind_any ⟨t, r, o⟩ wh wg _).mono ?_
        rintro e wz0 ⟨rfl, hbz0⟩
        have hH := hHeld
        rw [HM.out]
        have HSK := Lib.hid (And.intro (nxt hH.1 hbz0) (hH.2.next hbz0))
        clear hbz0 hH
        clear hHeld
        dsimp only
        refine hK.out _ _ (HSK.out) (fun hHeld => ?_)
        clear hK K
        try simp only [Act.put, List.setIfInBounds_toArray, List.set_cons_zero, List.set_cons_succ]
        refine takeH (i := 14) (v := .bool false) rfl (by kernel_rfl) (by kernel_rfl) (by kernel_rfl) (fun _ _ _ h => h) (Or.inl ⟨by rfl, fun w hSw => ?_⟩) hHeld ?_
        · (clear hSw; go_simp)
        simp only [Act.put, List.setIfInBounds_toArray, List.set_cons_zero, List.set_cons_succ]
        refine takeH (i := 15) (v := .bool false) rfl (by kernel_rfl) (by kernel_rfl) (by kernel_rfl) (fun _ _ _ h => h) (Or.inl ⟨by rfl, fun w hSw => ?_⟩) hHeld ?_
        · (clear hSw; go_simp)
        simp only [Act.put, List.setIfInBounds_toArray, List.set_cons_zero, List.set_cons_succ]
        refine wpAnyH_done (by kernel_rfl) ?_ _
        clear hHeld
        have HB2 := Lib.hid HSK.out.1; have HC2 := Lib.hid HSK.out.2
        clear HB1 HC1 HSK
        go_wp2
        go_roundw
        case rel => exact ⟨k + 1, by omega, by go_num, HB2.out, HC2.out⟩
        case measure => simp [intOf]; omega
    · go_wp2_with fail
      refine (awake8 _).mono ?_
      rintro e w4 ⟨rfl, hb4⟩
      have HF := Lib.hid (nxt HB1.out hb4)
      clear hb4
      go_wp2
      go_ret
      exact ⟨rfl, HF.out⟩

set_option maxRecDepth 100000 in
set_option maxHeartbeats 12800000 in
theorem cstays_right (c : Ct) (f : Nat → Int × Int) (A : Option Addr) (n n' : Nat) (w : World) (hn : n ≤ 300) (hA : Cl w A n f) (hr : c.right = true) :
    Calls Try.prog 5 #[c.val, .slice A n n'] w fun e w' => e = .returned (.bool true) ∧ Below w.heap.size w w' := by
  have HL := Lib.hid hA
  have HB := Lib.hid (below1 w (.cells c.cells 23))
  have HC := Lib.hid (cb_new w c)
  have HE := Lib.hid (show c.err = 0 by unfold Ct.err; rw [hr]; rfl)
  have HRT := Lib.hid hr
  have g0 : decide ((300 : Int) < (n : Int)) = false := by simp; omega
  clear hA hr
  obtain ⟨t0, r0, o0⟩ := c
  go_enter Try.func5, Try.ntmps5
  go_wp2_with fail
  refine (check_any ⟨t0, r0, o0⟩ _).mono ?_
  rintro e w1 ⟨rfl, hb1⟩
  rw [HE.out]
  have HB1 := Lib.hid (nxt HB.out hb1)
  have HC1 := Lib.hid (HC.out.next hb1)
  clear hb1 HB HC HE
  go_wp2
  go_loopw [6] (fun vi wr => ∃ (k : Nat) (c : Ct), k ≤ n ∧ vi = .int .i64 k ∧ c.right = true ∧ Below w.heap.size w wr ∧ Cb wr w.heap.size c) (fun vi _ => n - (intOf vi).toNat)
  case atStart => exact ⟨0, _, Nat.zero_le _, rfl, HRT.out, HB1.out, HC1.out⟩
  case round =>
    clear HB1 HC1 HRT
    obtain ⟨k, c, hk, rfl, hr, hb, hc⟩ := hrel
    have HB1 := Lib.hid hb; have HC1 := Lib.hid hc
    clear hb hc
    by_cases hlt : k < n
    · have hlt' : (k : Int) < (n : Int) := by omega
      obtain ⟨ad, hAD, -, -, -⟩ := (HL.out.below HB1.out).at_ hlt
      subst hAD
      obtain ⟨wh, hwh⟩ : ∃ wh, (f k).1 = wh := ⟨_, rfl⟩
      obtain ⟨wg, hwg⟩ : ∃ wg, (f k).2 = wg := ⟨_, rfl⟩
      have HWH := Lib.hid hwh; have HWG := Lib.hid hwg
      obtain ⟨d, hd⟩ : ∃ d, c.come wh wg = d := ⟨_, rfl⟩
      have HM := Lib.hid hd
      have hdr := come_right wh wg hr
      rw [hd] at hdr
      have HDR := Lib.hid hdr
      have HDE := Lib.hid (show d.err = 0 by unfold Ct.err; rw [hdr]; rfl)
      have HON := Lib.hid (fun h => come_on (c := c) wh wg hr h)
      have HOF := Lib.hid (fun h h4 => come_off (c := c) (k := wh) h h4 wg)
      rw [hd] at HON HOF
      have hst := st_off d
      obtain ⟨s, hs⟩ : ∃ s, d.st = s := ⟨_, rfl⟩
      rw [hs] at hst
      have HS := Lib.hid hs
      clear hwh hwg hd hdr hr hs
      obtain ⟨t, r, o⟩ := c
      obtain ⟨t1, r1, o1⟩ := d
      simp only at hst
      go_upto_region 13 with fail
      go_cut [7] (fun s7 wx => ∃ gd, s7 = .pointer (some ⟨gd, 0, none⟩) ∧ w.heap.size < gd ∧ Below w.heap.size w wx ∧ Cb wx w.heap.size ⟨t, r, o⟩ ∧ Cb wx gd ⟨t1, r1, o1⟩)
      case first =>
        have hgs := HC1.out.lt
        refine wp_region_held_drew (S := fun w' => Below w.heap.size w w' ∧ Cb w' w.heap.size ⟨t, r, o⟩) (by kernel_rfl) (⟨HB1.out.drew, HC1.out⟩) (fun hHeld => ?_)
        refine takeH (i := 0) (v := .agg #[.int .i64 t, .int .i64 r, .bool o]) rfl (by kernel_rfl) (by kernel_rfl) (by kernel_rfl) (fun _ _ _ h => h) (Or.inl ⟨by rfl, fun w hSw => ?_⟩) hHeld ?_
        · (obtain ⟨a0, a1, a2⟩ := hSw.2.cx; simp only at a0 a1 a2; clear hSw; go_simp)
        simp only [Act.put, List.setIfInBounds_toArray, List.set_cons_zero, List.set_cons_succ]
        refine takeH (i := 1) (v := .slice (some ad) n n') rfl (by kernel_rfl) (by kernel_rfl) (by kernel_rfl) (fun _ _ _ h => h) (Or.inl ⟨by rfl, fun w hSw => ?_⟩) hHeld ?_
        · (clear hSw; go_simp)
        simp only [Act.put, List.setIfInBounds_toArray, List.set_cons_zero, List.set_cons_succ]
        refine takeH (i := 2) (v := .int .i64 k) rfl (by kernel_rfl) (by kernel_rfl) (by kernel_rfl) (fun _ _ _ h => h) (Or.inl ⟨by rfl, fun w hSw => ?_⟩) hHeld ?_
        · (clear hSw; go_simp)
        simp only [Act.put, List.setIfInBounds_toArray, List.set_cons_zero, List.set_cons_succ]
        refine takeH (i := 3) (v := .pointer (some (ad.add (k * 2)))) rfl (by kernel_rfl) (by kernel_rfl) (by kernel_rfl) (fun _ _ _ h => h) (Or.inl ⟨by rfl, fun w hSw => ?_⟩) hHeld ?_
        · (clear hSw; go_simp)
        simp only [Act.put, List.setIfInBounds_toArray, List.set_cons_zero, List.set_cons_succ]
        refine takeH (i := 4) (v := .agg #[.int .i64 wh, .int .i64 wg]) rfl (by kernel_rfl) (by kernel_rfl) (by kernel_rfl) (fun _ _ _ h => h) (Or.inl ⟨by rfl, fun w hSw => ?_⟩) hHeld ?_
        · (obtain ⟨ad', hA', hl', x0, x1⟩ := (HL.out.below hSw.1).at_ hlt; injection hA' with hA'; subst hA'; rw [HWH.out] at x0; rw [HWG.out] at x1; clear hl'; clear hSw; go_simp)
        simp only [Act.put, List.setIfInBounds_toArray, List.set_cons_zero, List.set_cons_succ]
        refine wpAnyH_ready (rs := [5, 6]) (by kernel_rfl) (by simp) ?_
        refine AllReadyH.cons rfl (fun K hK => ?_) (AllReadyH.cons rfl (fun K hK => ?_) AllReadyH.nil)
        · go_simp
          refine (behind_any ⟨t, r, o⟩ wh wg _).mono ?_
          rintro e w3 ⟨rfl, hb3⟩
          have hH := hHeld
          rw [HM.out]
          have HA3 := Lib.hid (And.intro (nxt hH.1 hb3) (hH.2.next hb3))
          have HAz := Lib.hid (And.intro (HA3.out.1.alloc HA3.out.1.size (.cells Ct.zero.cells 23)) (HA3.out.2.next (below1 w3 (.cells Ct.zero.cells 23))))
          have HAd := Lib.hid (And.intro (HA3.out.1.alloc HA3.out.1.size (.cells (Ct.cells ⟨t1, r1, o1⟩) 23)) (HA3.out.2.next (below1 w3 (.cells (Ct.cells ⟨t1, r1, o1⟩) 23))))
          have HN3 := Lib.hid (cb_new w3 ⟨t1, r1, o1⟩)
          have hlt3 := HA3.out.2.lt
          clear hb3 hH hHeld
          dsimp only
          refine hK.out _ _ HA3.out (fun hHeld => ?_)
          clear hK K
          try simp only [Act.put, List.setIfInBounds_toArray, List.set_cons_zero, List.set_cons_succ]
          refine wpAnyH_ready (rs := [6]) (by kernel_rfl) (by simp) ?_
          refine AllReadyH.cons rfl (fun K hK => ?_) AllReadyH.nil
          go_simp
          refine hK.out _ _ HAz.out (fun hHeld => ?_)
          clear hK K
          try simp only [Act.put, List.setIfInBounds_toArray, List.set_cons_zero, List.set_cons_succ]
          refine wpAnyH_ready (rs := [7]) (by kernel_rfl) (by simp) ?_
          refine AllReadyH.cons rfl (fun K hK => ?_) AllReadyH.nil
          go_simp
          refine hK.out _ _ HAd.out (fun hHeld => ?_)
          clear hK K
          try simp only [Act.put, List.setIfInBounds_toArray, List.set_cons_zero, List.set_cons_succ]
          refine wpAnyH_done (by kernel_rfl) ?_ _
          clear hHeld
          go_wp2_with fail
          go_meet
          exact ⟨_, rfl, hlt3, HAd.out.1, HAd.out.2, HN3.out⟩
        · go_simp
          have HAz := Lib.hid (show Below w.heap.size w (wr.drew.alloc (.cells Ct.zero.cells 23)) ∧ Cb (wr.drew.alloc (.cells Ct.zero.cells 23)) w.heap.size ⟨t, r, o⟩ from And.intro (Below.alloc (w := wr.drew) HB1.out.drew HB1.out.size (.cells Ct.zero.cells 23)) (Cb.next (w := wr.drew) HC1.out (below1 wr.drew (.cells Ct.zero.cells 23))))
          have HNz := Lib.hid (show Cb (wr.drew.alloc (.cells Ct.zero.cells 23)) wr.heap.size Ct.zero from cb_new wr.drew Ct.zero)
          refine hK.out _ _ HAz.out (fun hHeld => ?_)
          clear hK K
          try simp only [Act.put, List.setIfInBounds_toArray, List.set_cons_zero, List.set_cons_succ]
          refine wpAnyH_ready (rs := [5]) (by kernel_rfl) (by simp) ?_
          refine AllReadyH.cons rfl (fun K hK => ?_) AllReadyH.nil
          go_simp
          refine (behind_any ⟨t, r, o⟩ wh wg _).mono ?_
          rintro e w3 ⟨rfl, hb3⟩
          have hH := hHeld
          rw [HM.out]
          have HA3 := Lib.hid (And.intro (nxt hH.1 hb3) (hH.2.next hb3))
          have HN3 := Lib.hid (HNz.out.next hb3)
          clear hb3 hH hHeld HNz
          dsimp only
          refine hK.out _ _ HA3.out (fun hHeld => ?_)
          clear hK K
          try simp only [Act.put, List.setIfInBounds_toArray, List.set_cons_zero, List.set_cons_succ]
          obtain ⟨d0, d1, d2⟩ := HN3.out.cx
          have f0 := HN3.out.frozen 0
          have f1 := HN3.out.frozen 1
          have f2 := HN3.out.frozen 2
          simp only [Ct.zero] at d0 d1 d2
          have HAd := Lib.hid (And.intro (show Below w.heap.size w _ from set3 HA3.out.1 HB1.out.size (.int .i64 t1) (.int .i64 r1) (.bool o1)) (And.intro (Cb.away (g' := wr.heap.size) HA3.out.2 (by omega) (.int .i64 t1) (.int .i64 r1) (.bool o1)) (HN3.out.put ⟨t1, r1, o1⟩)))
          refine wpAnyH_ready (rs := [7]) (by kernel_rfl) (by simp) ?_
          refine AllReadyH.cons rfl (fun K hK => ?_) AllReadyH.nil
          go_simp
          refine hK.out _ _ ⟨HAd.out.1, HAd.out.2.1⟩ (fun hHeld => ?_)
          clear hK K
          try simp only [Act.put, List.setIfInBounds_toArray, List.set_cons_zero, List.set_cons_succ]
          refine wpAnyH_done (by kernel_rfl) ?_ _
          clear hHeld
          go_wp2_with fail
          go_meet
          exact ⟨_, rfl, hgs, HAd.out.1, HAd.out.2.1, HAd.out.2.2⟩
      case rest =>
        clear HB1 HC1
        obtain ⟨gd, rfl, hgd, hb, hc, hd⟩ := hcut
        have HB2 := Lib.hid hb; have HC2 := Lib.hid hc; have HD2 := Lib.hid hd
        clear hb hc hd
        rename World => wq
        go_wp2_with fail
        refine wp_region_held_drew (S := fun w' => Below w.heap.size w w' ∧ Cb w' w.heap.size ⟨t, r, o⟩ ∧ Cb w' gd ⟨t1, r1, o1⟩) (by kernel_rfl) (⟨HB2.out.drew, HC2.out, HD2.out⟩) (fun hHeld => ?_)
        refine takeH (i := 0) (v := .agg #[.int .i64 t1, .int .i64 r1, .bool o1]) rfl (by kernel_rfl) (by kernel_rfl) (by kernel_rfl) (fun _ _ _ h => h) (Or.inl ⟨by rfl, fun w hSw => ?_⟩) hHeld ?_
        · (obtain ⟨d0, d1, d2⟩ := hSw.2.2.cx; simp only at d0 d1 d2; clear hSw; go_simp)
        simp only [Act.put, List.setIfInBounds_toArray, List.set_cons_zero, List.set_cons_succ]
        refine wpAnyH_ready (rs := [1]) (by kernel_rfl) (by simp) ?_
        refine AllReadyH.cons rfl (fun K hK => ?_) AllReadyH.nil
        go_simp
        refine (check_any ⟨t1, r1, o1⟩ _).mono ?_
        rintro e wz0 ⟨rfl, hbz0⟩
        have hH := hHeld
        rw [HDE.out]
        have HSK := Lib.hid (And.intro (nxt hH.1 hbz0) (And.intro (hH.2.1.next hbz0) (hH.2.2.next hbz0)))
        clear hbz0 hH
        clear hHeld
        dsimp only
        refine hK.out _ _ (HSK.out) (fun hHeld => ?_)
        clear hK K
        try simp only [Act.put, List.setIfInBounds_toArray, List.set_cons_zero, List.set_cons_succ]
        refine takeH (i := 2) (v := .bool false) rfl (by kernel_rfl) (by kernel_rfl) (by kernel_rfl) (fun _ _ _ h => h) (Or.inl ⟨by rfl, fun w hSw => ?_⟩) hHeld ?_
        · (clear hSw; go_simp)
        simp only [Act.put, List.setIfInBounds_toArray, List.set_cons_zero, List.set_cons_succ]
        refine takeH (i := 3) (v := .bool false) rfl (by kernel_rfl) (by kernel_rfl) (by kernel_rfl) (fun _ _ _ h => h) (Or.inl ⟨by rfl, fun w hSw => ?_⟩) hHeld ?_
        · (clear hSw; go_simp)
        simp only [Act.put, List.setIfInBounds_toArray, List.set_cons_zero, List.set_cons_succ]
        refine takeH (i := 4) (v := .agg #[.int .i64 t1, .int .i64 r1, .bool o1]) rfl (by kernel_rfl) (by kernel_rfl) (by kernel_rfl) (fun _ _ _ h => h) (Or.inl ⟨by rfl, fun w hSw => ?_⟩) hHeld ?_
        · (obtain ⟨d0, d1, d2⟩ := hSw.2.2.cx; simp only at d0 d1 d2; clear hSw; go_simp)
        simp only [Act.put, List.setIfInBounds_toArray, List.set_cons_zero, List.set_cons_succ]
        refine takeH (i := 7) (v := .pointer (some ⟨gd, 2, none⟩)) rfl (by kernel_rfl) (by kernel_rfl) (by kernel_rfl) (fun _ _ _ h => h) (Or.inl ⟨by rfl, fun w hSw => ?_⟩) hHeld ?_
        · (clear hSw; go_simp)
        simp only [Act.put, List.setIfInBounds_toArray, List.set_cons_zero, List.set_cons_succ]
        refine takeH (i := 8) (v := .bool o1) rfl (by kernel_rfl) (by kernel_rfl) (by kernel_rfl) (fun _ _ _ h => h) (Or.inl ⟨by rfl, fun w hSw => ?_⟩) hHeld ?_
        · (obtain ⟨d0, d1, d2⟩ := hSw.2.2.cx; simp only at d0 d1 d2; clear hSw; go_simp)
        simp only [Act.put, List.setIfInBounds_toArray, List.set_cons_zero, List.set_cons_succ]
        refine wpAnyH_ready (rs := [5]) (by kernel_rfl) (by simp) ?_
        refine AllReadyH.cons rfl (fun K hK => ?_) AllReadyH.nil
        go_simp
        refine (state_any ⟨t1, r1, o1⟩ _).mono ?_
        rintro e wz1 ⟨rfl, hbz1⟩
        have hH := hHeld
        rw [HS.out]
        have HSK := Lib.hid (And.intro (nxt hH.1 hbz1) (And.intro (hH.2.1.next hbz1) (hH.2.2.next hbz1)))
        clear hbz1 hH
        clear hHeld
        dsimp only
        refine hK.out _ _ (HSK.out) (fun hHeld => ?_)
        clear hK K
        try simp only [Act.put, List.setIfInBounds_toArray, List.set_cons_zero, List.set_cons_succ]
        refine takeH (i := 6) (v := .bool o1) rfl (by kernel_rfl) (by kernel_rfl) (by kernel_rfl) (fun _ _ _ h => h) (Or.inl ⟨by rfl, fun w hSw => ?_⟩) hHeld ?_
        · (clear hSw; go_simp)
        simp only [Act.put, List.setIfInBounds_toArray, List.set_cons_zero, List.set_cons_succ]
        refine takeH (i := 9) (v := .bool false) rfl (by kernel_rfl) (by kernel_rfl) (by kernel_rfl) (fun _ _ _ h => h) (Or.inl ⟨by rfl, fun w hSw => ?_⟩) hHeld ?_
        · (clear hSw; go_simp)
        simp only [Act.put, List.setIfInBounds_toArray, List.set_cons_zero, List.set_cons_succ]
        refine takeH (i := 10) (v := .bool false) rfl (by kernel_rfl) (by kernel_rfl) (by kernel_rfl) (fun _ _ _ h => h) (Or.inl ⟨by rfl, fun w hSw => ?_⟩) hHeld ?_
        · (clear hSw; go_simp)
        simp only [Act.put, List.setIfInBounds_toArray, List.set_cons_zero, List.set_cons_succ]
        refine wpAnyH_done (by kernel_rfl) ?_ _
        clear hHeld
        have HB3 := Lib.hid HSK.out.1; have HC3 := Lib.hid HSK.out.2.1; have HD3 := Lib.hid HSK.out.2.2
        clear HSK HB2 HC2 HD2 hst
        rename World => wz
        obtain ⟨a0, a1, a2⟩ := HC3.out.cx
        obtain ⟨d0, d1, d2⟩ := HD3.out.cx
        have f0 := HC3.out.frozen 0
        have f1 := HC3.out.frozen 1
        have f2 := HC3.out.frozen 2
        simp only at a0 a1 a2 d0 d1 d2
        obtain ⟨ad', hA', hl', x0, x1⟩ := (HL.out.below HB3.out).at_ hlt
        injection hA' with hA'
        subst hA'
        rw [HWH.out] at x0; rw [HWG.out] at x1
        clear hl'
        by_cases h4 : wh = 4
        · subst h4
          obtain ⟨rfl, rfl, rfl⟩ : t1 = 0 ∧ r1 = 0 ∧ o1 = false := by have h := HM.out; have e : Ct.zero = ⟨t1, r1, o1⟩ := h; unfold Ct.zero at e; injection e with e1 e2 e3; exact ⟨e1.symm, e2.symm, e3.symm⟩
          clear HM
          have HP := Lib.hid (HC3.out.put ⟨0, 0, false⟩)
          have HQ := Lib.hid (set3 HB3.out (Nat.le_refl _) (.int .i64 0) (.int .i64 0) (.bool false))
          clear HC3 HB3
          go_wp2
          go_roundw
          case rel => exact ⟨k + 1, ⟨0, 0, false⟩, by omega, by go_num, HDR.out, HQ.out, HP.out⟩
          case measure => simp [intOf]; omega
        have e4 : (wh == 4) = false := by simpa using h4
        cases o
        · obtain ⟨-, q0, q2, q1⟩ := HON.out rfl
          try simp only at q0 q2 q1
          clear HON HOF HM
          by_cases h0 : wh = 0
          · subst h0
            obtain ⟨e1, e2⟩ := q0 rfl
            subst e1
            have e3 : decide (t < t1) = false := by simp; omega
            clear q0 q1 q2
            have HP := Lib.hid (HC3.out.put ⟨t1, r1, o1⟩)
            have HQ := Lib.hid (set3 HB3.out (Nat.le_refl _) (.int .i64 t1) (.int .i64 r1) (.bool o1))
            clear HC3 HB3
            go_wp2
            go_roundw
            case rel => exact ⟨k + 1, ⟨t1, r1, o1⟩, by omega, by go_num, HDR.out, HQ.out, HP.out⟩
            case measure => simp [intOf]; omega
          have e0 : (wh == 0) = false := by simpa using h0
          by_cases h2 : wh = 2
          · subst h2
            obtain ⟨e1, e2⟩ := q2 rfl
            subst e1
            have e3 : decide (t1 < t) = false := by simp; omega
            clear q0 q1 q2
            have HP := Lib.hid (HC3.out.put ⟨t1, r1, o1⟩)
            have HQ := Lib.hid (set3 HB3.out (Nat.le_refl _) (.int .i64 t1) (.int .i64 r1) (.bool o1))
            clear HC3 HB3
            go_wp2
            go_roundw
            case rel => exact ⟨k + 1, ⟨t1, r1, o1⟩, by omega, by go_num, HDR.out, HQ.out, HP.out⟩
            case measure => simp [intOf]; omega
          have e2 : (wh == 2) = false := by simpa using h2
          obtain ⟨et, eo, p1, p3⟩ := q1 h0 h2 h4
          subst et eo
          clear q0 q1 q2
          by_cases h1 : wh = 1
          · subst h1
            have e3 : decide (r < r1) = false := by simp; exact p1 rfl
            clear p1 p3
            have HP := Lib.hid (HC3.out.put ⟨t1, r1, false⟩)
            have HQ := Lib.hid (set3 HB3.out (Nat.le_refl _) (.int .i64 t1) (.int .i64 r1) (.bool false))
            clear HC3 HB3
            go_wp2
            go_roundw
            case rel => exact ⟨k + 1, ⟨t1, r1, false⟩, by omega, by go_num, HDR.out, HQ.out, HP.out⟩
            case measure => simp [intOf]; omega
          have e1 : (wh == 1) = false := by simpa using h1
          by_cases h3 : wh = 3
          · subst h3
            have e5 : decide (r1 < r) = false := by simp; exact p3 rfl
            clear p1 p3
            have HP := Lib.hid (HC3.out.put ⟨t1, r1, false⟩)
            have HQ := Lib.hid (set3 HB3.out (Nat.le_refl _) (.int .i64 t1) (.int .i64 r1) (.bool false))
            clear HC3 HB3
            go_wp2
            go_roundw
            case rel => exact ⟨k + 1, ⟨t1, r1, false⟩, by omega, by go_num, HDR.out, HQ.out, HP.out⟩
            case measure => simp [intOf]; omega
          · have e3 : (wh == 3) = false := by simpa using h3
            clear p1 p3
            have HP := Lib.hid (HC3.out.put ⟨t1, r1, false⟩)
            have HQ := Lib.hid (set3 HB3.out (Nat.le_refl _) (.int .i64 t1) (.int .i64 r1) (.bool false))
            clear HC3 HB3
            go_wp2
            go_roundw
            case rel => exact ⟨k + 1, ⟨t1, r1, false⟩, by omega, by go_num, HDR.out, HQ.out, HP.out⟩
            case measure => simp [intOf]; omega
        · obtain ⟨rfl, rfl, rfl⟩ : t1 = t ∧ r1 = r ∧ o1 = true := by have h := HOF.out rfl h4; injection h with e1 e2 e3; exact ⟨e1, e2, e3⟩
          clear HON HOF HM
          by_cases h0 : wh = 0
          · subst h0
            have HP := Lib.hid (HC3.out.put ⟨t1, r1, true⟩)
            have HQ := Lib.hid (set3 HB3.out (Nat.le_refl _) (.int .i64 t1) (.int .i64 r1) (.bool true))
            clear HC3 HB3
            go_wp2
            go_roundw
            case rel => exact ⟨k + 1, ⟨t1, r1, true⟩, by omega, by go_num, HDR.out, HQ.out, HP.out⟩
            case measure => simp [intOf]; omega
          have e0 : (wh == 0) = false := by simpa using h0
          by_cases h2 : wh = 2
          · subst h2
            have HP := Lib.hid (HC3.out.put ⟨t1, r1, true⟩)
            have HQ := Lib.hid (set3 HB3.out (Nat.le_refl _) (.int .i64 t1) (.int .i64 r1) (.bool true))
            clear HC3 HB3
            go_wp2
            go_roundw
            case rel => exact ⟨k + 1, ⟨t1, r1, true⟩, by omega, by go_num, HDR.out, HQ.out, HP.out⟩
            case measure => simp [intOf]; omega
          have e2 : (wh == 2) = false := by simpa using h2
          by_cases h1 : wh = 1
          · subst h1
            have HP := Lib.hid (HC3.out.put ⟨t1, r1, true⟩)
            have HQ := Lib.hid (set3 HB3.out (Nat.le_refl _) (.int .i64 t1) (.int .i64 r1) (.bool true))
            clear HC3 HB3
            go_wp2
            go_roundw
            case rel => exact ⟨k + 1, ⟨t1, r1, true⟩, by omega, by go_num, HDR.out, HQ.out, HP.out⟩
            case measure => simp [intOf]; omega
          have e1 : (wh == 1) = false := by simpa using h1
          by_cases h3 : wh = 3
          · subst h3
            have HP := Lib.hid (HC3.out.put ⟨t1, r1, true⟩)
            have HQ := Lib.hid (set3 HB3.out (Nat.le_refl _) (.int .i64 t1) (.int .i64 r1) (.bool true))
            clear HC3 HB3
            go_wp2
            go_roundw
            case rel => exact ⟨k + 1, ⟨t1, r1, true⟩, by omega, by go_num, HDR.out, HQ.out, HP.out⟩
            case measure => simp [intOf]; omega
          · have e3 : (wh == 3) = false := by simpa using h3
            have HP := Lib.hid (HC3.out.put ⟨t1, r1, true⟩)
            have HQ := Lib.hid (set3 HB3.out (Nat.le_refl _) (.int .i64 t1) (.int .i64 r1) (.bool true))
            clear HC3 HB3
            go_wp2
            go_roundw
            case rel => exact ⟨k + 1, ⟨t1, r1, true⟩, by omega, by go_num, HDR.out, HQ.out, HP.out⟩
            case measure => simp [intOf]; omega
    · go_wp2_with fail
      refine (awake8 _).mono ?_
      rintro e w4 ⟨rfl, hb4⟩
      have HF := Lib.hid (nxt HB1.out hb4)
      clear hb4
      go_wp2
      go_ret
      exact ⟨rfl, HF.out⟩

theorem cstays_any (c : Ct) (f : Nat → Int × Int) (A : Option Addr) (n n' : Nat) (w : World) (hA : Cl w A n f) :
    Calls Try.prog 5 #[c.val, .slice A n n'] w fun e w' => e = .returned (.bool true) ∧ Below w.heap.size w w' := by
  by_cases h : n ≤ 300
  · cases hr : c.right
    · exact cstays_wrong c f A n n' w h hA hr
    · exact cstays_right c f A n n' w h hA hr
  · exact cstays_long c A n n' w (by omega)
end Go.Proofs.Ytmffiakdoklaaaa
