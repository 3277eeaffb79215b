/- The walk of the law CountReturns. -/
import Derived.Test.YtmffiakdoklaaaaKT
namespace Go.Proofs.Ytmffiakdoklaaaa
open Go.RowKit

set_option maxRecDepth 100000 in
set_option maxHeartbeats 1600000 in
theorem returns_not (c : Ct) (w : World) (h : c.right = false ∨ c.st ≠ 1) :
    Calls Try.prog 8 #[c.val] w fun e w' => e = .returned (.bool true) ∧ Below w.heap.size w w' := by
  have HB := Lib.hid (below1 w (.cells c.cells 23))
  have HC := Lib.hid (cb_new w c)
  have e0 := err_eq c
  cases hr : c.right
  · rw [hr] at e0
    have e1 : (c.err != 0) = true := e0
    obtain ⟨ce, hce⟩ : ∃ ce, c.err = ce := ⟨_, rfl⟩
    rw [hce] at e1
    have HCE := Lib.hid hce
    clear e0 h hr hce
    obtain ⟨t, r, o⟩ := c
    go_enter Try.func8, Try.ntmps8
    go_wp2_with fail
    refine (check_any ⟨t, r, o⟩ _).mono ?_
    rintro e w1 ⟨rfl, hb1⟩
    have HB1 := Lib.hid (nxt HB.out hb1)
    have HC1 := Lib.hid (HC.out.next hb1)
    obtain ⟨a0, a1, a2⟩ := HC1.out.cx
    simp only at a0 a1 a2
    clear hb1
    rw [HCE.out]
    have HBX := Lib.hid HB1.out; have HCX := Lib.hid HC1.out
    clear HB HC HB1 HC1
    go_wp2_with fail
    refine wp_region_held_drew (S := fun w' => Below w.heap.size w w' ∧ Cb w' w.heap.size ⟨t, r, o⟩) (by kernel_rfl) (⟨HBX.out.drew, HCX.out⟩) (fun hHeld => ?_)
    refine takeH (i := 0) (v := .agg #[.int .i64 t, .int .i64 r, .bool o]) rfl (by kernel_rfl) (by kernel_rfl) (by kernel_rfl) (fun _ _ _ h => h) (Or.inl ⟨by rfl, fun w hSw => ?_⟩) hHeld ?_
    · (obtain ⟨a0, a1, a2⟩ := hSw.2.cx; simp only at a0 a1 a2; clear hSw; go_simp)
    simp only [Act.put, List.setIfInBounds_toArray, List.set_cons_zero, List.set_cons_succ]
    refine wpAnyH_ready (rs := [1]) (by kernel_rfl) (by simp) ?_
    refine AllReadyH.cons rfl (fun K hK => ?_) AllReadyH.nil
    go_simp
    refine (check_any ⟨t, r, o⟩ _).mono ?_
    rintro e wv0 ⟨rfl, hbv0⟩
    have hH := hHeld
    rw [HCE.out]
    have HSK := Lib.hid (And.intro (nxt hH.1 hbv0) (hH.2.next hbv0))
    clear hbv0 hH
    clear hHeld
    dsimp only
    refine hK.out _ _ (HSK.out) (fun hHeld => ?_)
    clear hK K
    try simp only [Act.put, List.setIfInBounds_toArray, List.set_cons_zero, List.set_cons_succ]
    refine takeH (i := 2) (v := .bool true) rfl (by kernel_rfl) (by kernel_rfl) (by kernel_rfl) (fun _ _ _ h => h) (Or.inl ⟨by rfl, fun w hSw => ?_⟩) hHeld ?_
    · (clear hSw; go_simp)
    simp only [Act.put, List.setIfInBounds_toArray, List.set_cons_zero, List.set_cons_succ]
    refine takeH (i := 3) (v := .bool true) rfl (by kernel_rfl) (by kernel_rfl) (by kernel_rfl) (fun _ _ _ h => h) (Or.inl ⟨by rfl, fun w hSw => ?_⟩) hHeld ?_
    · (clear hSw; go_simp)
    simp only [Act.put, List.setIfInBounds_toArray, List.set_cons_zero, List.set_cons_succ]
    refine takeH (i := 4) (v := undef) rfl (by kernel_rfl) (by kernel_rfl) (by kernel_rfl) (fun _ _ _ h => h) (Or.inr ⟨by rfl, rfl⟩) hHeld ?_
    simp only [Act.put, List.setIfInBounds_toArray, List.set_cons_zero, List.set_cons_succ]
    refine takeH (i := 5) (v := undef) rfl (by kernel_rfl) (by kernel_rfl) (by kernel_rfl) (fun _ _ _ h => h) (Or.inr ⟨by rfl, rfl⟩) hHeld ?_
    simp only [Act.put, List.setIfInBounds_toArray, List.set_cons_zero, List.set_cons_succ]
    refine takeH (i := 6) (v := undef) rfl (by kernel_rfl) (by kernel_rfl) (by kernel_rfl) (fun _ _ _ h => h) (Or.inr ⟨by rfl, rfl⟩) hHeld ?_
    simp only [Act.put, List.setIfInBounds_toArray, List.set_cons_zero, List.set_cons_succ]
    refine takeH (i := 7) (v := undef) rfl (by kernel_rfl) (by kernel_rfl) (by kernel_rfl) (fun _ _ _ h => h) (Or.inr ⟨by rfl, rfl⟩) hHeld ?_
    simp only [Act.put, List.setIfInBounds_toArray, List.set_cons_zero, List.set_cons_succ]
    refine takeH (i := 8) (v := undef) rfl (by kernel_rfl) (by kernel_rfl) (by kernel_rfl) (fun _ _ _ h => h) (Or.inr ⟨by rfl, rfl⟩) hHeld ?_
    simp only [Act.put, List.setIfInBounds_toArray, List.set_cons_zero, List.set_cons_succ]
    refine takeH (i := 9) (v := undef) rfl (by kernel_rfl) (by kernel_rfl) (by kernel_rfl) (fun _ _ _ h => h) (Or.inr ⟨by rfl, rfl⟩) hHeld ?_
    simp only [Act.put, List.setIfInBounds_toArray, List.set_cons_zero, List.set_cons_succ]
    refine takeH (i := 10) (v := .bool true) rfl (by kernel_rfl) (by kernel_rfl) (by kernel_rfl) (fun _ _ _ h => h) (Or.inl ⟨by rfl, fun w hSw => ?_⟩) hHeld ?_
    · (clear hSw; go_simp)
    simp only [Act.put, List.setIfInBounds_toArray, List.set_cons_zero, List.set_cons_succ]
    refine takeH (i := 11) (v := .bool true) rfl (by kernel_rfl) (by kernel_rfl) (by kernel_rfl) (fun _ _ _ h => h) (Or.inl ⟨by rfl, fun w hSw => ?_⟩) hHeld ?_
    · (clear hSw; go_simp)
    simp only [Act.put, List.setIfInBounds_toArray, List.set_cons_zero, List.set_cons_succ]
    refine wpAnyH_ready (rs := [12]) (by kernel_rfl) (by simp) ?_
    refine AllReadyH.cons rfl (fun K hK => ?_) AllReadyH.nil
    go_simp
    refine (awake8 _).mono ?_
    rintro e wv1 ⟨rfl, hbv1⟩
    have hH := hHeld
    have HSK := Lib.hid (And.intro (nxt hH.1 hbv1) (hH.2.next hbv1))
    clear hbv1 hH
    clear hHeld
    dsimp only
    refine hK.out _ _ (HSK.out) (fun hHeld => ?_)
    clear hK K
    try simp only [Act.put, List.setIfInBounds_toArray, List.set_cons_zero, List.set_cons_succ]
    refine takeH (i := 13) (v := .bool true) rfl (by kernel_rfl) (by kernel_rfl) (by kernel_rfl) (fun _ _ _ h => h) (Or.inl ⟨by rfl, fun w hSw => ?_⟩) hHeld ?_
    · (clear hSw; go_simp)
    simp only [Act.put, List.setIfInBounds_toArray, List.set_cons_zero, List.set_cons_succ]
    refine takeH (i := 14) (v := .bool true) rfl (by kernel_rfl) (by kernel_rfl) (by kernel_rfl) (fun _ _ _ h => h) (Or.inl ⟨by rfl, fun w hSw => ?_⟩) hHeld ?_
    · (clear hSw; go_simp)
    simp only [Act.put, List.setIfInBounds_toArray, List.set_cons_zero, List.set_cons_succ]
    refine wpAnyH_done (by kernel_rfl) ?_ _
    clear hHeld
    have HF := Lib.hid HSK.out.1
    clear HSK
    go_wp2
    go_ret
    exact ⟨rfl, HF.out⟩
  · have hs : c.st ≠ 1 := by
      rcases h with h | h
      · rw [hr] at h; cases h
      · exact h
    rw [hr] at e0
    have hss := st_snt hs
    have e1 : (c.st != 1) = true := by simpa using hs
    obtain ⟨ce, hce⟩ : ∃ ce, c.err = ce := ⟨_, rfl⟩
    have hc0 : c.err = 0 := by unfold Ct.err; rw [hr]; rfl
    have HCE := Lib.hid hc0
    obtain ⟨s, hst⟩ : ∃ s, c.st = s := ⟨_, rfl⟩
    rw [hst] at hss e1
    have HST := Lib.hid hst; have HSS := Lib.hid hss
    obtain ⟨d, hd⟩ : ∃ d, c.snt = d := ⟨_, rfl⟩
    have HD := Lib.hid hd
    rw [hd] at HSS
    clear e0 h hr hce hs hss hst hc0 hd
    obtain ⟨t, r, o⟩ := c
    obtain ⟨t1, r1, o1⟩ := d
    go_enter Try.func8, Try.ntmps8
    go_wp2_with fail
    refine (check_any ⟨t, r, o⟩ _).mono ?_
    rintro e w1 ⟨rfl, hb1⟩
    have HB1 := Lib.hid (nxt HB.out hb1)
    have HC1 := Lib.hid (HC.out.next hb1)
    obtain ⟨a0, a1, a2⟩ := HC1.out.cx
    simp only at a0 a1 a2
    clear hb1
    rw [HCE.out]
    clear HB HC
    go_wp2_with fail
    refine (state_any ⟨t, r, o⟩ _).mono ?_
    rintro e w2 ⟨rfl, hb2⟩
    rw [HST.out]
    have HBX := Lib.hid (nxt HB1.out hb2)
    have HCX := Lib.hid (HC1.out.next hb2)
    clear HB1 HC1 hb2 a0 a1 a2
    go_wp2_with fail
    refine wp_region_held_drew (S := fun w' => Below w.heap.size w w' ∧ Cb w' w.heap.size ⟨t, r, o⟩) (by kernel_rfl) (⟨HBX.out.drew, HCX.out⟩) (fun hHeld => ?_)
    refine takeH (i := 0) (v := .agg #[.int .i64 t, .int .i64 r, .bool o]) rfl (by kernel_rfl) (by kernel_rfl) (by kernel_rfl) (fun _ _ _ h => h) (Or.inl ⟨by rfl, fun w hSw => ?_⟩) hHeld ?_
    · (obtain ⟨a0, a1, a2⟩ := hSw.2.cx; simp only at a0 a1 a2; clear hSw; go_simp)
    simp only [Act.put, List.setIfInBounds_toArray, List.set_cons_zero, List.set_cons_succ]
    refine wpAnyH_ready (rs := [1]) (by kernel_rfl) (by simp) ?_
    refine AllReadyH.cons rfl (fun K hK => ?_) AllReadyH.nil
    go_simp
    refine (check_any ⟨t, r, o⟩ _).mono ?_
    rintro e wv0 ⟨rfl, hbv0⟩
    have hH := hHeld
    rw [HCE.out]
    have HSK := Lib.hid (And.intro (nxt hH.1 hbv0) (hH.2.next hbv0))
    clear hbv0 hH
    clear hHeld
    dsimp only
    refine hK.out _ _ (HSK.out) (fun hHeld => ?_)
    clear hK K
    try simp only [Act.put, List.setIfInBounds_toArray, List.set_cons_zero, List.set_cons_succ]
    refine takeH (i := 2) (v := .bool false) rfl (by kernel_rfl) (by kernel_rfl) (by kernel_rfl) (fun _ _ _ h => h) (Or.inl ⟨by rfl, fun w hSw => ?_⟩) hHeld ?_
    · (clear hSw; go_simp)
    simp only [Act.put, List.setIfInBounds_toArray, List.set_cons_zero, List.set_cons_succ]
    refine takeH (i := 3) (v := .bool false) rfl (by kernel_rfl) (by kernel_rfl) (by kernel_rfl) (fun _ _ _ h => h) (Or.inl ⟨by rfl, fun w hSw => ?_⟩) hHeld ?_
    · (clear hSw; go_simp)
    simp only [Act.put, List.setIfInBounds_toArray, List.set_cons_zero, List.set_cons_succ]
    refine takeH (i := 4) (v := .agg #[.int .i64 t, .int .i64 r, .bool o]) rfl (by kernel_rfl) (by kernel_rfl) (by kernel_rfl) (fun _ _ _ h => h) (Or.inl ⟨by rfl, fun w hSw => ?_⟩) hHeld ?_
    · (obtain ⟨a0, a1, a2⟩ := hSw.2.cx; simp only at a0 a1 a2; clear hSw; go_simp)
    simp only [Act.put, List.setIfInBounds_toArray, List.set_cons_zero, List.set_cons_succ]
    refine takeH (i := 7) (v := .agg #[.int .i64 t, .int .i64 r, .bool o]) rfl (by kernel_rfl) (by kernel_rfl) (by kernel_rfl) (fun _ _ _ h => h) (Or.inl ⟨by rfl, fun w hSw => ?_⟩) hHeld ?_
    · (obtain ⟨a0, a1, a2⟩ := hSw.2.cx; simp only at a0 a1 a2; clear hSw; go_simp)
    simp only [Act.put, List.setIfInBounds_toArray, List.set_cons_zero, List.set_cons_succ]
    refine wpAnyH_ready (rs := [5]) (by kernel_rfl) (by simp) ?_
    refine AllReadyH.cons rfl (fun K hK => ?_) AllReadyH.nil
    go_simp
    refine (sent_any ⟨t, r, o⟩ _).mono ?_
    rintro e wv1 ⟨rfl, hbv1⟩
    have hH := hHeld
    rw [HD.out]
    have HSK := Lib.hid (And.intro (nxt hH.1 hbv1) (hH.2.next hbv1))
    clear hbv1 hH
    clear hHeld
    dsimp only
    refine hK.out _ _ (HSK.out) (fun hHeld => ?_)
    clear hK K
    try simp only [Act.put, List.setIfInBounds_toArray, List.set_cons_zero, List.set_cons_succ]
    refine wpAnyH_ready (rs := [6]) (by kernel_rfl) (by simp) ?_
    refine AllReadyH.cons rfl (fun K hK => ?_) AllReadyH.nil
    go_simp
    refine (state_any ⟨t1, r1, o1⟩ _).mono ?_
    rintro e wv2 ⟨rfl, hbv2⟩
    have hH := hHeld
    rw [HSS.out]
    have HSK := Lib.hid (And.intro (nxt hH.1 hbv2) (hH.2.next hbv2))
    clear hbv2 hH
    clear hHeld
    dsimp only
    refine hK.out _ _ (HSK.out) (fun hHeld => ?_)
    clear hK K
    try simp only [Act.put, List.setIfInBounds_toArray, List.set_cons_zero, List.set_cons_succ]
    refine wpAnyH_ready (rs := [8]) (by kernel_rfl) (by simp) ?_
    refine AllReadyH.cons rfl (fun K hK => ?_) AllReadyH.nil
    go_simp
    refine (state_any ⟨t, r, o⟩ _).mono ?_
    rintro e wv3 ⟨rfl, hbv3⟩
    have hH := hHeld
    rw [HST.out]
    have HSK := Lib.hid (And.intro (nxt hH.1 hbv3) (hH.2.next hbv3))
    clear hbv3 hH
    clear hHeld
    dsimp only
    refine hK.out _ _ (HSK.out) (fun hHeld => ?_)
    clear hK K
    try simp only [Act.put, List.setIfInBounds_toArray, List.set_cons_zero, List.set_cons_succ]
    refine takeH (i := 9) (v := .bool true) rfl (by kernel_rfl) (by kernel_rfl) (by kernel_rfl) (fun _ _ _ h => h) (Or.inl ⟨by rfl, fun w hSw => ?_⟩) hHeld ?_
    · (clear hSw; go_simp)
    simp only [Act.put, List.setIfInBounds_toArray, List.set_cons_zero, List.set_cons_succ]
    refine takeH (i := 10) (v := .bool true) rfl (by kernel_rfl) (by kernel_rfl) (by kernel_rfl) (fun _ _ _ h => h) (Or.inl ⟨by rfl, fun w hSw => ?_⟩) hHeld ?_
    · (clear hSw; go_simp)
    simp only [Act.put, List.setIfInBounds_toArray, List.set_cons_zero, List.set_cons_succ]
    refine takeH (i := 11) (v := .bool true) rfl (by kernel_rfl) (by kernel_rfl) (by kernel_rfl) (fun _ _ _ h => h) (Or.inl ⟨by rfl, fun w hSw => ?_⟩) hHeld ?_
    · (clear hSw; go_simp)
    simp only [Act.put, List.setIfInBounds_toArray, List.set_cons_zero, List.set_cons_succ]
    refine wpAnyH_ready (rs := [12]) (by kernel_rfl) (by simp) ?_
    refine AllReadyH.cons rfl (fun K hK => ?_) AllReadyH.nil
    go_simp
    refine (awake8 _).mono ?_
    rintro e wv4 ⟨rfl, hbv4⟩
    have hH := hHeld
    have HSK := Lib.hid (And.intro (nxt hH.1 hbv4) (hH.2.next hbv4))
    clear hbv4 hH
    clear hHeld
    dsimp only
    refine hK.out _ _ (HSK.out) (fun hHeld => ?_)
    clear hK K
    try simp only [Act.put, List.setIfInBounds_toArray, List.set_cons_zero, List.set_cons_succ]
    refine takeH (i := 13) (v := .bool true) rfl (by kernel_rfl) (by kernel_rfl) (by kernel_rfl) (fun _ _ _ h => h) (Or.inl ⟨by rfl, fun w hSw => ?_⟩) hHeld ?_
    · (clear hSw; go_simp)
    simp only [Act.put, List.setIfInBounds_toArray, List.set_cons_zero, List.set_cons_succ]
    refine takeH (i := 14) (v := .bool true) rfl (by kernel_rfl) (by kernel_rfl) (by kernel_rfl) (fun _ _ _ h => h) (Or.inl ⟨by rfl, fun w hSw => ?_⟩) hHeld ?_
    · (clear hSw; go_simp)
    simp only [Act.put, List.setIfInBounds_toArray, List.set_cons_zero, List.set_cons_succ]
    refine wpAnyH_done (by kernel_rfl) ?_ _
    clear hHeld
    have HF := Lib.hid HSK.out.1
    clear HSK
    go_wp2
    go_ret
    exact ⟨rfl, HF.out⟩
end Go.Proofs.Ytmffiakdoklaaaa
