/- The contracts of frame.bothMayBe, place, Less and Rival. -/
import Derived.Test.YtldhnbohpnkcpaaAr
import Derived.Test.YtldhnbohpnkcpaaFb
namespace Go.Proofs.Ytldhnbohpnkcpaa
open Go.RowKit

theorem boxed2 (f g : Fr) (w : World) : Below w.heap.size w ((w.alloc (.cells f.cells 34)).alloc (.cells g.cells 34)) := (boxed f w).alloc (by simp) _
theorem bx_two1 (w : World) (f g : Fr) : Bx ((w.alloc (.cells f.cells 34)).alloc (.cells g.cells 34)) w.heap.size f :=
  (bx_new w f).below ((Below.refl _ _).alloc (Nat.le_refl _) _) (by simp)
theorem bx_two2 (w : World) (f g : Fr) : Bx ((w.alloc (.cells f.cells 34)).alloc (.cells g.cells 34)) (w.heap.size + 1) g := by
  have h := bx_new (w.alloc (.cells f.cells 34)) g
  simpa using h

set_option maxHeartbeats 400000 in
theorem both_any (f g : Fr) (w : World) :
    Calls Try.prog 31 #[f.val, g.val] w fun e w' => e = .returned (.bool (f.may && g.may)) ∧ Below w.heap.size w w' := by
  have HB := Lib.hid (boxed2 f g w)
  have HX := Lib.hid (bx_two2 w f g)
  cases hf : f.may
  · have HF := Lib.hid hf
    clear hf
    go_enter Try.func31, Try.ntmps31
    go_wp2_with fail
    refine (fcheck_any f _).mono ?_
    rintro e w1 ⟨rfl, hb1⟩
    rw [err_no HF.out]
    go_wp2
    go_ret
    exact ⟨rfl, nxt HB.out hb1⟩
  · have HF := Lib.hid hf
    clear hf
    have HG : g.may = false ∧ g.err = 14 ∨ g.may = true ∧ g.err = 0 := by
      cases hg : g.may
      · exact .inl ⟨rfl, err_no hg⟩
      · exact .inr ⟨rfl, err_ok hg⟩
    generalize hgm : g.may = m at HG ⊢
    have HG := Lib.hid HG
    clear hgm
    go_enter Try.func31, Try.ntmps31
    go_wp2_with fail
    refine (fcheck_any f _).mono ?_
    rintro e w1 ⟨rfl, hb1⟩
    rw [err_ok HF.out]
    obtain ⟨c0, c1, c2, c3, c4, c5, c6, c7, c8, c9, c10, c11⟩ := HX.out.below hb1 (by simp)
    go_wp2_with fail
    refine (fcheck_any g _).mono ?_
    rintro e w2 ⟨rfl, hb2⟩
    have HB2 := Lib.hid (nxt (nxt HB.out hb1) hb2)
    rcases HG.out with ⟨rfl, he⟩ | ⟨rfl, he⟩
    · rw [he]
      go_wp2
      go_ret
      exact ⟨rfl, HB2.out⟩
    · rw [he]
      go_wp2
      go_ret
      exact ⟨rfl, HB2.out⟩

set_option maxHeartbeats 400000 in
theorem place_ok (f : Fr) (w : World) (h : f.may = true) :
    Calls Try.prog 32 #[f.val] w fun e w' => e = .returned (.int .u64 f.plc) ∧ Below w.heap.size w w' := by
  have HB := Lib.hid (boxed f w)
  cases hx : f.ext
  · have hl := num_short_lt h hx
    have e1 : f.wid = 13 := by simp [Fr.wid, hx]
    have e2 : f.plc = f.num * 524288 := by simp [Fr.plc, hx]
    have HM := Lib.hid h; have HX := Lib.hid hx; have E1 := Lib.hid e1
    obtain ⟨n, hn⟩ : ∃ n, f.num = n := ⟨_, rfl⟩
    rw [e2]
    rw [hn] at hl ⊢
    have HN := Lib.hid hn
    have hl' : (n : Int) < 8192 := by omega
    clear h hx e1 e2 hn
    go_enter Try.func32, Try.ntmps32
    go_wp2_with fail
    refine (levels_ok f _ HM.out).mono ?_
    rintro e w2 ⟨rfl, hb2⟩
    rw [E1.out, HN.out]
    go_wp2
    go_ret
    exact ⟨ret_int (by simp), nxt HB.out hb2⟩
  · have hl := num_lt h
    have e1 : f.wid = 32 := by simp [Fr.wid, hx]
    have e2 : f.plc = f.num := by simp [Fr.plc, hx]
    have HM := Lib.hid h; have HX := Lib.hid hx; have E1 := Lib.hid e1
    obtain ⟨n, hn⟩ : ∃ n, f.num = n := ⟨_, rfl⟩
    rw [e2]
    rw [hn] at hl ⊢
    have HN := Lib.hid hn
    have hl' : (n : Int) < 4294967296 := by omega
    clear h hx e1 e2 hn
    go_enter Try.func32, Try.ntmps32
    go_wp2_with fail
    refine (levels_ok f _ HM.out).mono ?_
    rintro e w2 ⟨rfl, hb2⟩
    rw [E1.out, HN.out]
    go_wp2
    go_ret
    exact ⟨rfl, nxt HB.out hb2⟩

theorem beq_cast (o c : Nat) : ((o : Int) == (c : Int)) = (o == c) := by
  rw [Bool.eq_iff_iff, beq_iff_eq, beq_iff_eq]; omega
/-- Two frames lie in the blocks behind w. -/
theorem two_keep (f g : Fr) (w : World) {w' : World} (hb : Below ((w.alloc (.cells f.cells 34)).alloc (.cells g.cells 34)).drew.heap.size ((w.alloc (.cells f.cells 34)).alloc (.cells g.cells 34)).drew w') : Bx w' w.heap.size f ∧ Bx w' (w.heap.size + 1) g :=
  ⟨Bx.below (w := ((w.alloc (.cells f.cells 34)).alloc (.cells g.cells 34)).drew) (bx_two1 w f g) hb (by simp; omega), Bx.below (w := ((w.alloc (.cells f.cells 34)).alloc (.cells g.cells 34)).drew) (bx_two2 w f g) hb (by simp)⟩
set_option maxRecDepth 100000 in
set_option maxHeartbeats 1600000 in
theorem less_yes (f g : Fr) (w : World) (hf : f.may = true) (hg : g.may = true) :
    Calls Try.prog 20 #[f.val, g.val] w fun e w' => e = .returned (.bool (decide (f.plc < g.plc))) ∧ Below w.heap.size w w' := by
  have HB := Lib.hid (boxed2 f g w)
  have HX := Lib.hid (And.intro (bx_two1 w f g) (bx_two2 w f g))
  have HF := Lib.hid hf; have HG := Lib.hid hg
  clear hf hg
  go_enter Try.func20, Try.ntmps20
  go_wp2_with fail
  refine wp_region_held_drew (S := fun w' => Bx w' w.heap.size f ∧ Bx w' (w.heap.size + 1) g) (by kernel_rfl) HX.out (fun hHeld => ?_)
  refine takeH (i := 0) (v := f.val) rfl (by kernel_rfl) (by kernel_rfl) (by kernel_rfl) (fun _ _ _ h => h) (Or.inl ⟨by rfl, fun w hSw => ?_⟩) hHeld ?_
  · (obtain ⟨c0, c1, c2, c3, c4, c5, c6, c7, c8, c9, c10, c11⟩ := hSw.1; clear hSw; go_simp)
  simp only [Act.put, List.setIfInBounds_toArray, List.set_cons_zero, List.set_cons_succ]
  refine takeH (i := 1) (v := g.val) rfl (by kernel_rfl) (by kernel_rfl) (by kernel_rfl) (fun _ _ _ h => h) (Or.inl ⟨by rfl, fun w hSw => ?_⟩) hHeld ?_
  · (obtain ⟨c0, c1, c2, c3, c4, c5, c6, c7, c8, c9, c10, c11⟩ := hSw.2; clear hSw; go_simp)
  simp only [Act.put, List.setIfInBounds_toArray, List.set_cons_zero, List.set_cons_succ]
  refine wpAnyH_ready (rs := [2]) (by kernel_rfl) (by simp) ?_
  refine AllReadyH.cons rfl (fun K hK => ?_) AllReadyH.nil
  go_simp
  refine (both_any f g _).mono ?_
  rintro e w1 ⟨rfl, hb1⟩
  rw [HF.out, HG.out]
  clear hHeld
  dsimp only
  refine hK.out _ _ (two_keep f g w hb1) (fun hHeld => ?_)
  clear hK K
  try simp only [Act.put, List.setIfInBounds_toArray, List.set_cons_zero, List.set_cons_succ]
  refine takeH (i := 3) (v := .bool true) rfl (by kernel_rfl) (by kernel_rfl) (by kernel_rfl) (fun _ _ _ h => h) (Or.inl ⟨by rfl, fun w hSw => ?_⟩) hHeld ?_
  · (clear hSw; go_simp)
  simp only [Act.put, List.setIfInBounds_toArray, List.set_cons_zero, List.set_cons_succ]
  refine takeH (i := 4) (v := f.val) rfl (by kernel_rfl) (by kernel_rfl) (by kernel_rfl) (fun _ _ _ h => h) (Or.inl ⟨by rfl, fun w hSw => ?_⟩) hHeld ?_
  · (obtain ⟨c0, c1, c2, c3, c4, c5, c6, c7, c8, c9, c10, c11⟩ := hSw.1; clear hSw; go_simp)
  simp only [Act.put, List.setIfInBounds_toArray, List.set_cons_zero, List.set_cons_succ]
  refine takeH (i := 6) (v := g.val) rfl (by kernel_rfl) (by kernel_rfl) (by kernel_rfl) (fun _ _ _ h => h) (Or.inl ⟨by rfl, fun w hSw => ?_⟩) hHeld ?_
  · (obtain ⟨c0, c1, c2, c3, c4, c5, c6, c7, c8, c9, c10, c11⟩ := hSw.2; clear hSw; go_simp)
  simp only [Act.put, List.setIfInBounds_toArray, List.set_cons_zero, List.set_cons_succ]
  refine wpAnyH_ready (rs := [5]) (by kernel_rfl) (by simp) ?_
  refine AllReadyH.cons rfl (fun K hK => ?_) AllReadyH.nil
  go_simp
  refine (place_ok f _ HF.out).mono ?_
  rintro e w2 ⟨rfl, hb2⟩
  clear hHeld
  dsimp only
  refine hK.out _ _ (two_keep f g w (nxt hb1 hb2)) (fun hHeld => ?_)
  clear hK K
  try simp only [Act.put, List.setIfInBounds_toArray, List.set_cons_zero, List.set_cons_succ]
  refine wpAnyH_ready (rs := [7]) (by kernel_rfl) (by simp) ?_
  refine AllReadyH.cons rfl (fun K hK => ?_) AllReadyH.nil
  go_simp
  refine (place_ok g _ HG.out).mono ?_
  rintro e w3 ⟨rfl, hb3⟩
  clear hHeld
  dsimp only
  refine hK.out _ _ (two_keep f g w (nxt (nxt hb1 hb2) hb3)) (fun hHeld => ?_)
  clear hK K
  try simp only [Act.put, List.setIfInBounds_toArray, List.set_cons_zero, List.set_cons_succ]
  refine takeH (i := 8) (v := .bool (decide (f.plc < g.plc))) rfl (by kernel_rfl) (by kernel_rfl) (by kernel_rfl) (fun _ _ _ h => h) (Or.inl ⟨by rfl, fun w hSw => ?_⟩) hHeld ?_
  · (clear hSw; go_simp)
  simp only [Act.put, List.setIfInBounds_toArray, List.set_cons_zero, List.set_cons_succ]
  refine takeH (i := 9) (v := .bool (decide (f.plc < g.plc))) rfl (by kernel_rfl) (by kernel_rfl) (by kernel_rfl) (fun _ _ _ h => h) (Or.inl ⟨by rfl, fun w hSw => ?_⟩) hHeld ?_
  · (clear hSw; go_simp)
  simp only [Act.put, List.setIfInBounds_toArray, List.set_cons_zero, List.set_cons_succ]
  refine takeH (i := 10) (v := .bool (decide (f.plc < g.plc))) rfl (by kernel_rfl) (by kernel_rfl) (by kernel_rfl) (fun _ _ _ h => h) (Or.inl ⟨by rfl, fun w hSw => ?_⟩) hHeld ?_
  · (clear hSw; go_simp)
  simp only [Act.put, List.setIfInBounds_toArray, List.set_cons_zero, List.set_cons_succ]
  refine wpAnyH_done (by kernel_rfl) ?_ _
  clear hHeld
  go_wp2
  go_ret
  exact ⟨rfl, nxt (nxt (nxt (nxt HB.out (belowN (Below.refl _ _) 1)) hb1) hb2) hb3⟩

set_option maxRecDepth 100000 in
set_option maxHeartbeats 1600000 in
theorem less_no (f g : Fr) (w : World) (hn : (f.may && g.may) = false) :
    Calls Try.prog 20 #[f.val, g.val] w fun e w' => e = .returned (.bool false) ∧ Below w.heap.size w w' := by
  have HB := Lib.hid (boxed2 f g w)
  have HX := Lib.hid (And.intro (bx_two1 w f g) (bx_two2 w f g))
  have HN := Lib.hid hn
  clear hn
  go_enter Try.func20, Try.ntmps20
  go_wp2_with fail
  refine wp_region_held_drew (S := fun w' => Bx w' w.heap.size f ∧ Bx w' (w.heap.size + 1) g) (by kernel_rfl) HX.out (fun hHeld => ?_)
  refine takeH (i := 0) (v := f.val) rfl (by kernel_rfl) (by kernel_rfl) (by kernel_rfl) (fun _ _ _ h => h) (Or.inl ⟨by rfl, fun w hSw => ?_⟩) hHeld ?_
  · (obtain ⟨c0, c1, c2, c3, c4, c5, c6, c7, c8, c9, c10, c11⟩ := hSw.1; clear hSw; go_simp)
  simp only [Act.put, List.setIfInBounds_toArray, List.set_cons_zero, List.set_cons_succ]
  refine takeH (i := 1) (v := g.val) rfl (by kernel_rfl) (by kernel_rfl) (by kernel_rfl) (fun _ _ _ h => h) (Or.inl ⟨by rfl, fun w hSw => ?_⟩) hHeld ?_
  · (obtain ⟨c0, c1, c2, c3, c4, c5, c6, c7, c8, c9, c10, c11⟩ := hSw.2; clear hSw; go_simp)
  simp only [Act.put, List.setIfInBounds_toArray, List.set_cons_zero, List.set_cons_succ]
  refine wpAnyH_ready (rs := [2]) (by kernel_rfl) (by simp) ?_
  refine AllReadyH.cons rfl (fun K hK => ?_) AllReadyH.nil
  go_simp
  refine (both_any f g _).mono ?_
  rintro e w1 ⟨rfl, hb1⟩
  rw [HN.out]
  clear hHeld
  dsimp only
  refine hK.out _ _ (two_keep f g w hb1) (fun hHeld => ?_)
  clear hK K
  try simp only [Act.put, List.setIfInBounds_toArray, List.set_cons_zero, List.set_cons_succ]
  refine takeH (i := 3) (v := .bool false) rfl (by kernel_rfl) (by kernel_rfl) (by kernel_rfl) (fun _ _ _ h => h) (Or.inl ⟨by rfl, fun w hSw => ?_⟩) hHeld ?_
  · (clear hSw; go_simp)
  simp only [Act.put, List.setIfInBounds_toArray, List.set_cons_zero, List.set_cons_succ]
  refine takeH (i := 4) (v := undef) rfl (by kernel_rfl) (by kernel_rfl) (by kernel_rfl) (fun _ _ _ h => h) (Or.inr ⟨by rfl, rfl⟩) hHeld ?_
  simp only [Act.put, List.setIfInBounds_toArray, List.set_cons_zero, List.set_cons_succ]
  refine takeH (i := 5) (v := undef) rfl (by kernel_rfl) (by kernel_rfl) (by kernel_rfl) (fun _ _ _ h => h) (Or.inr ⟨by rfl, rfl⟩) hHeld ?_
  simp only [Act.put, List.setIfInBounds_toArray, List.set_cons_zero, List.set_cons_succ]
  refine takeH (i := 6) (v := undef) rfl (by kernel_rfl) (by kernel_rfl) (by kernel_rfl) (fun _ _ _ h => h) (Or.inr ⟨by rfl, rfl⟩) hHeld ?_
  simp only [Act.put, List.setIfInBounds_toArray, List.set_cons_zero, List.set_cons_succ]
  refine takeH (i := 7) (v := undef) rfl (by kernel_rfl) (by kernel_rfl) (by kernel_rfl) (fun _ _ _ h => h) (Or.inr ⟨by rfl, rfl⟩) hHeld ?_
  simp only [Act.put, List.setIfInBounds_toArray, List.set_cons_zero, List.set_cons_succ]
  refine takeH (i := 8) (v := undef) rfl (by kernel_rfl) (by kernel_rfl) (by kernel_rfl) (fun _ _ _ h => h) (Or.inr ⟨by rfl, rfl⟩) hHeld ?_
  simp only [Act.put, List.setIfInBounds_toArray, List.set_cons_zero, List.set_cons_succ]
  refine takeH (i := 9) (v := .bool false) rfl (by kernel_rfl) (by kernel_rfl) (by kernel_rfl) (fun _ _ _ h => h) (Or.inl ⟨by rfl, fun w hSw => ?_⟩) hHeld ?_
  · (clear hSw; go_simp)
  simp only [Act.put, List.setIfInBounds_toArray, List.set_cons_zero, List.set_cons_succ]
  refine takeH (i := 10) (v := .bool false) rfl (by kernel_rfl) (by kernel_rfl) (by kernel_rfl) (fun _ _ _ h => h) (Or.inl ⟨by rfl, fun w hSw => ?_⟩) hHeld ?_
  · (clear hSw; go_simp)
  simp only [Act.put, List.setIfInBounds_toArray, List.set_cons_zero, List.set_cons_succ]
  refine wpAnyH_done (by kernel_rfl) ?_ _
  clear hHeld
  go_wp2
  go_ret
  exact ⟨rfl, nxt (nxt HB.out (belowN (Below.refl _ _) 1)) hb1⟩

set_option maxRecDepth 100000 in
set_option maxHeartbeats 1600000 in
theorem rival_yes (f g : Fr) (w : World) (hf : f.may = true) (hg : g.may = true) :
    Calls Try.prog 21 #[f.val, g.val] w fun e w' => e = .returned (.bool (f.plc == g.plc)) ∧ Below w.heap.size w w' := by
  have HB := Lib.hid (boxed2 f g w)
  have HX := Lib.hid (And.intro (bx_two1 w f g) (bx_two2 w f g))
  have HF := Lib.hid hf; have HG := Lib.hid hg
  clear hf hg
  go_enter Try.func21, Try.ntmps21
  go_wp2_with fail
  refine wp_region_held_drew (S := fun w' => Bx w' w.heap.size f ∧ Bx w' (w.heap.size + 1) g) (by kernel_rfl) HX.out (fun hHeld => ?_)
  refine takeH (i := 0) (v := f.val) rfl (by kernel_rfl) (by kernel_rfl) (by kernel_rfl) (fun _ _ _ h => h) (Or.inl ⟨by rfl, fun w hSw => ?_⟩) hHeld ?_
  · (obtain ⟨c0, c1, c2, c3, c4, c5, c6, c7, c8, c9, c10, c11⟩ := hSw.1; clear hSw; go_simp)
  simp only [Act.put, List.setIfInBounds_toArray, List.set_cons_zero, List.set_cons_succ]
  refine takeH (i := 1) (v := g.val) rfl (by kernel_rfl) (by kernel_rfl) (by kernel_rfl) (fun _ _ _ h => h) (Or.inl ⟨by rfl, fun w hSw => ?_⟩) hHeld ?_
  · (obtain ⟨c0, c1, c2, c3, c4, c5, c6, c7, c8, c9, c10, c11⟩ := hSw.2; clear hSw; go_simp)
  simp only [Act.put, List.setIfInBounds_toArray, List.set_cons_zero, List.set_cons_succ]
  refine wpAnyH_ready (rs := [2]) (by kernel_rfl) (by simp) ?_
  refine AllReadyH.cons rfl (fun K hK => ?_) AllReadyH.nil
  go_simp
  refine (both_any f g _).mono ?_
  rintro e w1 ⟨rfl, hb1⟩
  rw [HF.out, HG.out]
  clear hHeld
  dsimp only
  refine hK.out _ _ (two_keep f g w hb1) (fun hHeld => ?_)
  clear hK K
  try simp only [Act.put, List.setIfInBounds_toArray, List.set_cons_zero, List.set_cons_succ]
  refine takeH (i := 3) (v := .bool true) rfl (by kernel_rfl) (by kernel_rfl) (by kernel_rfl) (fun _ _ _ h => h) (Or.inl ⟨by rfl, fun w hSw => ?_⟩) hHeld ?_
  · (clear hSw; go_simp)
  simp only [Act.put, List.setIfInBounds_toArray, List.set_cons_zero, List.set_cons_succ]
  refine takeH (i := 4) (v := f.val) rfl (by kernel_rfl) (by kernel_rfl) (by kernel_rfl) (fun _ _ _ h => h) (Or.inl ⟨by rfl, fun w hSw => ?_⟩) hHeld ?_
  · (obtain ⟨c0, c1, c2, c3, c4, c5, c6, c7, c8, c9, c10, c11⟩ := hSw.1; clear hSw; go_simp)
  simp only [Act.put, List.setIfInBounds_toArray, List.set_cons_zero, List.set_cons_succ]
  refine takeH (i := 6) (v := g.val) rfl (by kernel_rfl) (by kernel_rfl) (by kernel_rfl) (fun _ _ _ h => h) (Or.inl ⟨by rfl, fun w hSw => ?_⟩) hHeld ?_
  · (obtain ⟨c0, c1, c2, c3, c4, c5, c6, c7, c8, c9, c10, c11⟩ := hSw.2; clear hSw; go_simp)
  simp only [Act.put, List.setIfInBounds_toArray, List.set_cons_zero, List.set_cons_succ]
  refine wpAnyH_ready (rs := [5]) (by kernel_rfl) (by simp) ?_
  refine AllReadyH.cons rfl (fun K hK => ?_) AllReadyH.nil
  go_simp
  refine (place_ok f _ HF.out).mono ?_
  rintro e w2 ⟨rfl, hb2⟩
  clear hHeld
  dsimp only
  refine hK.out _ _ (two_keep f g w (nxt hb1 hb2)) (fun hHeld => ?_)
  clear hK K
  try simp only [Act.put, List.setIfInBounds_toArray, List.set_cons_zero, List.set_cons_succ]
  refine wpAnyH_ready (rs := [7]) (by kernel_rfl) (by simp) ?_
  refine AllReadyH.cons rfl (fun K hK => ?_) AllReadyH.nil
  go_simp
  refine (place_ok g _ HG.out).mono ?_
  rintro e w3 ⟨rfl, hb3⟩
  clear hHeld
  dsimp only
  refine hK.out _ _ (two_keep f g w (nxt (nxt hb1 hb2) hb3)) (fun hHeld => ?_)
  clear hK K
  try simp only [Act.put, List.setIfInBounds_toArray, List.set_cons_zero, List.set_cons_succ]
  refine takeH (i := 8) (v := .bool (f.plc == g.plc)) rfl (by kernel_rfl) (by kernel_rfl) (by kernel_rfl) (fun _ _ _ h => h) (Or.inl ⟨by rfl, fun w hSw => ?_⟩) hHeld ?_
  · (clear hSw; go_simp; exact beq_cast _ _)
  simp only [Act.put, List.setIfInBounds_toArray, List.set_cons_zero, List.set_cons_succ]
  refine takeH (i := 9) (v := .bool (f.plc == g.plc)) rfl (by kernel_rfl) (by kernel_rfl) (by kernel_rfl) (fun _ _ _ h => h) (Or.inl ⟨by rfl, fun w hSw => ?_⟩) hHeld ?_
  · (clear hSw; go_simp)
  simp only [Act.put, List.setIfInBounds_toArray, List.set_cons_zero, List.set_cons_succ]
  refine takeH (i := 10) (v := .bool (f.plc == g.plc)) rfl (by kernel_rfl) (by kernel_rfl) (by kernel_rfl) (fun _ _ _ h => h) (Or.inl ⟨by rfl, fun w hSw => ?_⟩) hHeld ?_
  · (clear hSw; go_simp)
  simp only [Act.put, List.setIfInBounds_toArray, List.set_cons_zero, List.set_cons_succ]
  refine wpAnyH_done (by kernel_rfl) ?_ _
  clear hHeld
  go_wp2
  go_ret
  exact ⟨rfl, nxt (nxt (nxt (nxt HB.out (belowN (Below.refl _ _) 1)) hb1) hb2) hb3⟩

set_option maxRecDepth 100000 in
set_option maxHeartbeats 1600000 in
theorem rival_no (f g : Fr) (w : World) (hn : (f.may && g.may) = false) :
    Calls Try.prog 21 #[f.val, g.val] w fun e w' => e = .returned (.bool false) ∧ Below w.heap.size w w' := by
  have HB := Lib.hid (boxed2 f g w)
  have HX := Lib.hid (And.intro (bx_two1 w f g) (bx_two2 w f g))
  have HN := Lib.hid hn
  clear hn
  go_enter Try.func21, Try.ntmps21
  go_wp2_with fail
  refine wp_region_held_drew (S := fun w' => Bx w' w.heap.size f ∧ Bx w' (w.heap.size + 1) g) (by kernel_rfl) HX.out (fun hHeld => ?_)
  refine takeH (i := 0) (v := f.val) rfl (by kernel_rfl) (by kernel_rfl) (by kernel_rfl) (fun _ _ _ h => h) (Or.inl ⟨by rfl, fun w hSw => ?_⟩) hHeld ?_
  · (obtain ⟨c0, c1, c2, c3, c4, c5, c6, c7, c8, c9, c10, c11⟩ := hSw.1; clear hSw; go_simp)
  simp only [Act.put, List.setIfInBounds_toArray, List.set_cons_zero, List.set_cons_succ]
  refine takeH (i := 1) (v := g.val) rfl (by kernel_rfl) (by kernel_rfl) (by kernel_rfl) (fun _ _ _ h => h) (Or.inl ⟨by rfl, fun w hSw => ?_⟩) hHeld ?_
  · (obtain ⟨c0, c1, c2, c3, c4, c5, c6, c7, c8, c9, c10, c11⟩ := hSw.2; clear hSw; go_simp)
  simp only [Act.put, List.setIfInBounds_toArray, List.set_cons_zero, List.set_cons_succ]
  refine wpAnyH_ready (rs := [2]) (by kernel_rfl) (by simp) ?_
  refine AllReadyH.cons rfl (fun K hK => ?_) AllReadyH.nil
  go_simp
  refine (both_any f g _).mono ?_
  rintro e w1 ⟨rfl, hb1⟩
  rw [HN.out]
  clear hHeld
  dsimp only
  refine hK.out _ _ (two_keep f g w hb1) (fun hHeld => ?_)
  clear hK K
  try simp only [Act.put, List.setIfInBounds_toArray, List.set_cons_zero, List.set_cons_succ]
  refine takeH (i := 3) (v := .bool false) rfl (by kernel_rfl) (by kernel_rfl) (by kernel_rfl) (fun _ _ _ h => h) (Or.inl ⟨by rfl, fun w hSw => ?_⟩) hHeld ?_
  · (clear hSw; go_simp)
  simp only [Act.put, List.setIfInBounds_toArray, List.set_cons_zero, List.set_cons_succ]
  refine takeH (i := 4) (v := undef) rfl (by kernel_rfl) (by kernel_rfl) (by kernel_rfl) (fun _ _ _ h => h) (Or.inr ⟨by rfl, rfl⟩) hHeld ?_
  simp only [Act.put, List.setIfInBounds_toArray, List.set_cons_zero, List.set_cons_succ]
  refine takeH (i := 5) (v := undef) rfl (by kernel_rfl) (by kernel_rfl) (by kernel_rfl) (fun _ _ _ h => h) (Or.inr ⟨by rfl, rfl⟩) hHeld ?_
  simp only [Act.put, List.setIfInBounds_toArray, List.set_cons_zero, List.set_cons_succ]
  refine takeH (i := 6) (v := undef) rfl (by kernel_rfl) (by kernel_rfl) (by kernel_rfl) (fun _ _ _ h => h) (Or.inr ⟨by rfl, rfl⟩) hHeld ?_
  simp only [Act.put, List.setIfInBounds_toArray, List.set_cons_zero, List.set_cons_succ]
  refine takeH (i := 7) (v := undef) rfl (by kernel_rfl) (by kernel_rfl) (by kernel_rfl) (fun _ _ _ h => h) (Or.inr ⟨by rfl, rfl⟩) hHeld ?_
  simp only [Act.put, List.setIfInBounds_toArray, List.set_cons_zero, List.set_cons_succ]
  refine takeH (i := 8) (v := undef) rfl (by kernel_rfl) (by kernel_rfl) (by kernel_rfl) (fun _ _ _ h => h) (Or.inr ⟨by rfl, rfl⟩) hHeld ?_
  simp only [Act.put, List.setIfInBounds_toArray, List.set_cons_zero, List.set_cons_succ]
  refine takeH (i := 9) (v := .bool false) rfl (by kernel_rfl) (by kernel_rfl) (by kernel_rfl) (fun _ _ _ h => h) (Or.inl ⟨by rfl, fun w hSw => ?_⟩) hHeld ?_
  · (clear hSw; go_simp)
  simp only [Act.put, List.setIfInBounds_toArray, List.set_cons_zero, List.set_cons_succ]
  refine takeH (i := 10) (v := .bool false) rfl (by kernel_rfl) (by kernel_rfl) (by kernel_rfl) (fun _ _ _ h => h) (Or.inl ⟨by rfl, fun w hSw => ?_⟩) hHeld ?_
  · (clear hSw; go_simp)
  simp only [Act.put, List.setIfInBounds_toArray, List.set_cons_zero, List.set_cons_succ]
  refine wpAnyH_done (by kernel_rfl) ?_ _
  clear hHeld
  go_wp2
  go_ret
  exact ⟨rfl, nxt (nxt HB.out (belowN (Below.refl _ _) 1)) hb1⟩
end Go.Proofs.Ytldhnbohpnkcpaa
