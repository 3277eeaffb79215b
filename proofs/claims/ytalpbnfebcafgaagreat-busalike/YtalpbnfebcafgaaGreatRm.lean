/- The contracts of math/bits.Mul and slices.Repeat, as field.All asks them. -/
import Derived.Test.YtalpbnfebcafgaaGreatFs
import Derived.Laws.CopyOwn
namespace Go.Proofs.YtalpbnfebcafgaaGreat
set_option maxRecDepth 20000
open Go.RowKit

set_option maxHeartbeats 800000 in
theorem mul64_ten (w : World) : Calls Tryz.prog 84 #[.int .u64 1, .int .u64 10] w fun e w' => e = .returned (.tuple #[.int .u64 0, .int .u64 10]) ∧ w = w' := by
  go_enter Tryz.func84, Tryz.ntmps84
  go_wp2
  go_ret2
  exact ⟨rfl, rfl⟩
set_option maxHeartbeats 800000 in
theorem mul_ten (w : World) : Calls Tryz.prog 74 #[.int .u64 1, .int .u64 10] w fun e w' => e = .returned (.tuple #[.int .u64 0, .int .u64 10]) ∧ w = w' := by
  go_enter Tryz.func74, Tryz.ntmps74
  go_wp2_with fail
  refine (mul64_ten _).mono ?_
  rintro e w' ⟨rfl, rfl⟩
  go_wp2
  go_ret2
  exact ⟨rfl, rfl⟩

theorem copy_arr (W : World) (g o dLen dCap : Nat) (ad : Addr) (sLen sCap k : Nat) (zs ys : List Int) (ha : Arr .i64 3 W g zs) (hk : k = Nat.min sLen dLen) (hys : ys.length = k) (hsrc : ∀ j, j < k → W.cell? (ad.add j) = some (.int .i64 (ys.getD j 0))) (hfit : o + k ≤ zs.length) :
    ∃ W', (Builtin.copy_ #[23, 23] 3 #[.slice (some ⟨g, o, none⟩) dLen dCap, .slice (some ad) sLen sCap]).run Tryz.prog W = .ok (.int .i64 (k : Int)) W' ∧ Arr .i64 3 W' g (zs.take o ++ ys ++ zs.drop (o + k)) ∧ Below g W W' := by
  have hs : (Tryz.prog.info? 3).map (·.size) = some 1 := by kernel_rfl
  have hrun := run_copy_row (P := Tryz.prog) W 23 23 3 3 g o dLen dCap ad sLen sCap (zs.map (Value.int .i64)).toArray 3 (ys.map (Value.int .i64)) Tryz.underlying23 hs ha (by rw [List.length_map, hys]; exact hk)
    (fun j v hv => by
      have hj : j < k := by
        rcases Nat.lt_or_ge j k with h | h
        · exact h
        · rw [List.getElem?_eq_none (by rw [List.length_map]; omega)] at hv; cases hv
      rw [hsrc j hj]
      simp [hys ▸ hj] at hv
      simp [hys ▸ hj, hv]) (by simp; omega) (ints_oneCell _ _)
  rw [List.length_map, hys] at hrun
  refine ⟨_, hrun, ?_, below_setRow (Below.refl _ _) (Nat.le_refl _) _⟩
  have h1 := setRow_heap W g _ ((zs.map (Value.int .i64)).toArray.toList.take o ++ (ys.map (Value.int .i64)) ++ (zs.map (Value.int .i64)).toArray.toList.drop (o + k)).toArray _ _ ha
  unfold Arr
  rw [h1]
  simp [List.map_take, List.map_drop]

/-- Ones ahead of noughts. -/
def ons (k : Nat) : List Int := List.replicate k 1 ++ List.replicate (10 - k) 0

theorem copy_ons (W : World) (g k m c c' : Nat) (ha : Arr .i64 3 W g (ons k)) (hk : k = 1 ∧ m = 1 ∨ k = 2 ∧ m = 2 ∨ k = 4 ∧ m = 4 ∨ k = 8 ∧ m = 2) :
    ∃ W', (Builtin.copy_ #[23, 23] 3 #[.slice (some ⟨g, k, none⟩) (10 - k) c, .slice (some ⟨g, 0, none⟩) k c']).run Tryz.prog W = .ok (.int .i64 (m : Int)) W' ∧ Arr .i64 3 W' g (ons (k + m)) ∧ Below g W W' := by
  have hsrc : ∀ j, j < m → W.cell? ((⟨g, 0, none⟩ : Addr).add j) = some (.int .i64 ((List.replicate m (1 : Int)).getD j 0)) := fun j hj => by
    rw [add_zero_off, ha.cell (by unfold ons; simp; omega)]
    congr 2
    unfold ons
    rw [List.getD_eq_getElem?_getD, List.getD_eq_getElem?_getD, List.getElem?_append_left (by simp; omega)]
    simp [hj, show j < k by omega]
  obtain ⟨W', h1, h2, h3⟩ := copy_arr W g k (10 - k) c ⟨g, 0, none⟩ k c' m (ons k) (List.replicate m 1) ha (by rcases hk with ⟨rfl, rfl⟩ | ⟨rfl, rfl⟩ | ⟨rfl, rfl⟩ | ⟨rfl, rfl⟩ <;> rfl) (by simp) hsrc (by unfold ons; simp; omega)
  refine ⟨W', h1, ?_, h3⟩
  have e : (ons k).take k ++ List.replicate m 1 ++ (ons k).drop (k + m) = ons (k + m) := by
    rcases hk with ⟨rfl, rfl⟩ | ⟨rfl, rfl⟩ | ⟨rfl, rfl⟩ | ⟨rfl, rfl⟩ <;> decide
  rwa [e] at h2

theorem copy_one (W : World) (g c cap : Nat) (ad : Addr) (ha : Arr .i64 3 W g (ons 0)) (hr : Il W (some ad) 1 [1]) :
    ∃ W', (Builtin.copy_ #[23, 23] 3 #[.slice (some ⟨g, 0, none⟩) 10 c, .slice (some ad) 1 cap]).run Tryz.prog W = .ok (.int .i64 1) W' ∧ Arr .i64 3 W' g (ons 1) ∧ Below g W W' := by
  obtain ⟨ad', e, _, hc⟩ := hr.2 (by omega)
  injection e with e
  subst e
  obtain ⟨W', h1, h2, h3⟩ := copy_arr W g 0 10 c ad 1 cap 1 (ons 0) [1] ha rfl rfl hc (by decide)
  exact ⟨W', h1, h2, h3⟩

set_option linter.unusedSimpArgs false in
set_option maxRecDepth 100000 in
set_option maxHeartbeats 1600000 in
theorem repeat_ten (ad : Addr) (cap : Nat) (w : World) (hr : Il w (some ad) 1 [1]) :
    Calls Tryz.prog 59 #[.slice (some ad) 1 cap, .int .i64 10] w fun e w' => ∃ A c, e = .returned (.slice A 10 c) ∧ Il w' A 10 (List.replicate 10 1) ∧ Below w.heap.size w w' := by
  have hmk : ∀ w : World, (Instr.makeSlice 23 (.int .i64 10) (.int .i64 10)).run Tryz.prog w = .ok (.slice (some ⟨w.heap.size, 0, none⟩) 10 10) (w.alloc (.cells ((List.replicate 10 0).map (Value.int .i64)).toArray 3)) := make22 10 (by omega)
  have HB := Lib.hid (show Arr .i64 3 (w.alloc (.cells ((List.replicate 10 0).map (Value.int .i64)).toArray 3)) w.heap.size (ons 0) from Arr.new w .i64 3 (List.replicate 10 0))
  have HC := Lib.hid (copy_one _ w.heap.size 10 cap ad HB.out (hr.below ((Below.refl _ _).alloc (Nat.le_refl _) _)))
  clear hr HB
  generalize ((List.replicate 10 (0 : Int)).map (Value.int .i64)).toArray = cs at hmk HC
  go_enter Tryz.func59, Tryz.ntmps59
  go_wp2_with fail
  refine (mul_ten _).mono ?_
  rintro e w' ⟨rfl, rfl⟩
  go_wp2_with fail
  obtain ⟨w1, hrun, ha1, hb1⟩ := HC.out
  rw [hrun]
  have HA1 := Lib.hid ha1
  have HB1 := Lib.hid (((Below.refl w.heap.size w).alloc (Nat.le_refl _) (.cells cs 3)).trans hb1)
  clear HC hrun ha1 hb1
  go_wp2
  go_loopw [8] (fun i wr => ∃ k : Nat, (k = 1 ∨ k = 2 ∨ k = 4 ∨ k = 8 ∨ k = 10) ∧ i = .int .i64 k ∧ Arr .i64 3 wr w.heap.size (ons k) ∧ Below w.heap.size w wr) (fun i _ => 10 - (intOf i).toNat)
  case atStart => exact ⟨1, .inl rfl, rfl, HA1.out, HB1.out⟩
  case round =>
    obtain ⟨k, hk, rfl, ha, hbel⟩ := hrel
    have HA := Lib.hid ha
    clear ha
    rcases hk with rfl | rfl | rfl | rfl | rfl
    · go_wp2_with fail
      refine wp_region_held_drew (S := fun _ => True) (by kernel_rfl) trivial (fun hHeld => ?_)
      refine takeH (i := 0) (v := .int .i64 1) rfl (by kernel_rfl) (by kernel_rfl) (by kernel_rfl) (fun _ _ _ h => h) (Or.inl ⟨by rfl, fun w hSw => ?_⟩) hHeld ?_
      · (clear hSw; go_simp)
      simp only [Act.put, List.setIfInBounds_toArray, List.set_cons_zero, List.set_cons_succ]
      refine takeH (i := 1) (v := .slice (some ⟨w.heap.size, 0, none⟩) 10 10) rfl (by kernel_rfl) (by kernel_rfl) (by kernel_rfl) (fun _ _ _ h => h) (Or.inl ⟨by rfl, fun w hSw => ?_⟩) hHeld ?_
      · (clear hSw; go_simp)
      simp only [Act.put, List.setIfInBounds_toArray, List.set_cons_zero, List.set_cons_succ]
      refine takeH (i := 2) (v := .int .i64 1) rfl (by kernel_rfl) (by kernel_rfl) (by kernel_rfl) (fun _ _ _ h => h) (Or.inl ⟨by rfl, fun w hSw => ?_⟩) hHeld ?_
      · (clear hSw; go_simp)
      simp only [Act.put, List.setIfInBounds_toArray, List.set_cons_zero, List.set_cons_succ]
      refine takeH (i := 3) (v := .slice (some ⟨w.heap.size, 1, none⟩) 9 9) rfl (by kernel_rfl) (by kernel_rfl) (by kernel_rfl) (fun _ _ _ h => h) (Or.inl ⟨by rfl, fun w hSw => ?_⟩) hHeld ?_
      · (clear hSw; go_simp)
      simp only [Act.put, List.setIfInBounds_toArray, List.set_cons_zero, List.set_cons_succ]
      refine takeH (i := 4) (v := .slice (some ⟨w.heap.size, 0, none⟩) 10 10) rfl (by kernel_rfl) (by kernel_rfl) (by kernel_rfl) (fun _ _ _ h => h) (Or.inl ⟨by rfl, fun w hSw => ?_⟩) hHeld ?_
      · (clear hSw; go_simp)
      simp only [Act.put, List.setIfInBounds_toArray, List.set_cons_zero, List.set_cons_succ]
      refine takeH (i := 5) (v := .int .i64 1) rfl (by kernel_rfl) (by kernel_rfl) (by kernel_rfl) (fun _ _ _ h => h) (Or.inl ⟨by rfl, fun w hSw => ?_⟩) hHeld ?_
      · (clear hSw; go_simp)
      simp only [Act.put, List.setIfInBounds_toArray, List.set_cons_zero, List.set_cons_succ]
      refine takeH (i := 6) (v := .slice (some ⟨w.heap.size, 0, none⟩) 1 10) rfl (by kernel_rfl) (by kernel_rfl) (by kernel_rfl) (fun _ _ _ h => h) (Or.inl ⟨by rfl, fun w hSw => ?_⟩) hHeld ?_
      · (clear hSw; go_simp)
      simp only [Act.put, List.setIfInBounds_toArray, List.set_cons_zero, List.set_cons_succ]
      refine wpAnyH_ready (rs := [7]) (by kernel_rfl) (by simp) ?_
      refine AllReadyH.cons rfl (fun K hK => ?_) AllReadyH.nil
      obtain ⟨w2, hrun, ha2, hb2⟩ := copy_ons wr.drew w.heap.size 1 1 9 10 HA.out (by omega)
      have hrun2 : ∀ r, r = wr.drew → (Builtin.copy_ #[23, 23] 3 #[.slice (some ⟨w.heap.size, 1, none⟩) 9 9, .slice (some ⟨w.heap.size, 0, none⟩) 1 10]).run Tryz.prog r = .ok (.int .i64 1) w2 := fun r e => by rw [e]; exact hrun
      have hrun3 := hrun2 _ rfl
      clear hrun2 hrun
      go_simp
      clear hHeld hrun3
      refine hK.out _ _ trivial (fun hHeld => ?_)
      clear hK K
      try simp only [Act.put, List.setIfInBounds_toArray, List.set_cons_zero, List.set_cons_succ]
      refine takeH (i := 8) (v := .int .i64 2) rfl (by kernel_rfl) (by kernel_rfl) (by kernel_rfl) (fun _ _ _ h => h) (Or.inl ⟨by rfl, fun w hSw => ?_⟩) hHeld ?_
      · (clear hSw; go_simp; rfl)
      simp only [Act.put, List.setIfInBounds_toArray, List.set_cons_zero, List.set_cons_succ]
      refine takeH (i := 9) (v := .int .i64 2) rfl (by kernel_rfl) (by kernel_rfl) (by kernel_rfl) (fun _ _ _ h => h) (Or.inl ⟨by rfl, fun w hSw => ?_⟩) hHeld ?_
      · (clear hSw; go_simp)
      simp only [Act.put, List.setIfInBounds_toArray, List.set_cons_zero, List.set_cons_succ]
      refine wpAnyH_done (by kernel_rfl) ?_ _
      clear hHeld
      go_wp2
      go_roundw
      case rel => exact ⟨2, by omega, by go_num, ha2, (below_drew hbel).trans hb2⟩
      case measure => simp [intOf]
    · go_wp2_with fail
      refine wp_region_held_drew (S := fun _ => True) (by kernel_rfl) trivial (fun hHeld => ?_)
      refine takeH (i := 0) (v := .int .i64 2) rfl (by kernel_rfl) (by kernel_rfl) (by kernel_rfl) (fun _ _ _ h => h) (Or.inl ⟨by rfl, fun w hSw => ?_⟩) hHeld ?_
      · (clear hSw; go_simp)
      simp only [Act.put, List.setIfInBounds_toArray, List.set_cons_zero, List.set_cons_succ]
      refine takeH (i := 1) (v := .slice (some ⟨w.heap.size, 0, none⟩) 10 10) rfl (by kernel_rfl) (by kernel_rfl) (by kernel_rfl) (fun _ _ _ h => h) (Or.inl ⟨by rfl, fun w hSw => ?_⟩) hHeld ?_
      · (clear hSw; go_simp)
      simp only [Act.put, List.setIfInBounds_toArray, List.set_cons_zero, List.set_cons_succ]
      refine takeH (i := 2) (v := .int .i64 2) rfl (by kernel_rfl) (by kernel_rfl) (by kernel_rfl) (fun _ _ _ h => h) (Or.inl ⟨by rfl, fun w hSw => ?_⟩) hHeld ?_
      · (clear hSw; go_simp)
      simp only [Act.put, List.setIfInBounds_toArray, List.set_cons_zero, List.set_cons_succ]
      refine takeH (i := 3) (v := .slice (some ⟨w.heap.size, 2, none⟩) 8 8) rfl (by kernel_rfl) (by kernel_rfl) (by kernel_rfl) (fun _ _ _ h => h) (Or.inl ⟨by rfl, fun w hSw => ?_⟩) hHeld ?_
      · (clear hSw; go_simp)
      simp only [Act.put, List.setIfInBounds_toArray, List.set_cons_zero, List.set_cons_succ]
      refine takeH (i := 4) (v := .slice (some ⟨w.heap.size, 0, none⟩) 10 10) rfl (by kernel_rfl) (by kernel_rfl) (by kernel_rfl) (fun _ _ _ h => h) (Or.inl ⟨by rfl, fun w hSw => ?_⟩) hHeld ?_
      · (clear hSw; go_simp)
      simp only [Act.put, List.setIfInBounds_toArray, List.set_cons_zero, List.set_cons_succ]
      refine takeH (i := 5) (v := .int .i64 2) rfl (by kernel_rfl) (by kernel_rfl) (by kernel_rfl) (fun _ _ _ h => h) (Or.inl ⟨by rfl, fun w hSw => ?_⟩) hHeld ?_
      · (clear hSw; go_simp)
      simp only [Act.put, List.setIfInBounds_toArray, List.set_cons_zero, List.set_cons_succ]
      refine takeH (i := 6) (v := .slice (some ⟨w.heap.size, 0, none⟩) 2 10) rfl (by kernel_rfl) (by kernel_rfl) (by kernel_rfl) (fun _ _ _ h => h) (Or.inl ⟨by rfl, fun w hSw => ?_⟩) hHeld ?_
      · (clear hSw; go_simp)
      simp only [Act.put, List.setIfInBounds_toArray, List.set_cons_zero, List.set_cons_succ]
      refine wpAnyH_ready (rs := [7]) (by kernel_rfl) (by simp) ?_
      refine AllReadyH.cons rfl (fun K hK => ?_) AllReadyH.nil
      obtain ⟨w2, hrun, ha2, hb2⟩ := copy_ons wr.drew w.heap.size 2 2 8 10 HA.out (by omega)
      have hrun2 : ∀ r, r = wr.drew → (Builtin.copy_ #[23, 23] 3 #[.slice (some ⟨w.heap.size, 2, none⟩) 8 8, .slice (some ⟨w.heap.size, 0, none⟩) 2 10]).run Tryz.prog r = .ok (.int .i64 2) w2 := fun r e => by rw [e]; exact hrun
      have hrun3 := hrun2 _ rfl
      clear hrun2 hrun
      go_simp
      clear hHeld hrun3
      refine hK.out _ _ trivial (fun hHeld => ?_)
      clear hK K
      try simp only [Act.put, List.setIfInBounds_toArray, List.set_cons_zero, List.set_cons_succ]
      refine takeH (i := 8) (v := .int .i64 4) rfl (by kernel_rfl) (by kernel_rfl) (by kernel_rfl) (fun _ _ _ h => h) (Or.inl ⟨by rfl, fun w hSw => ?_⟩) hHeld ?_
      · (clear hSw; go_simp; rfl)
      simp only [Act.put, List.setIfInBounds_toArray, List.set_cons_zero, List.set_cons_succ]
      refine takeH (i := 9) (v := .int .i64 4) rfl (by kernel_rfl) (by kernel_rfl) (by kernel_rfl) (fun _ _ _ h => h) (Or.inl ⟨by rfl, fun w hSw => ?_⟩) hHeld ?_
      · (clear hSw; go_simp)
      simp only [Act.put, List.setIfInBounds_toArray, List.set_cons_zero, List.set_cons_succ]
      refine wpAnyH_done (by kernel_rfl) ?_ _
      clear hHeld
      go_wp2
      go_roundw
      case rel => exact ⟨4, by omega, by go_num, ha2, (below_drew hbel).trans hb2⟩
      case measure => simp [intOf]
    · go_wp2_with fail
      refine wp_region_held_drew (S := fun _ => True) (by kernel_rfl) trivial (fun hHeld => ?_)
      refine takeH (i := 0) (v := .int .i64 4) rfl (by kernel_rfl) (by kernel_rfl) (by kernel_rfl) (fun _ _ _ h => h) (Or.inl ⟨by rfl, fun w hSw => ?_⟩) hHeld ?_
      · (clear hSw; go_simp)
      simp only [Act.put, List.setIfInBounds_toArray, List.set_cons_zero, List.set_cons_succ]
      refine takeH (i := 1) (v := .slice (some ⟨w.heap.size, 0, none⟩) 10 10) rfl (by kernel_rfl) (by kernel_rfl) (by kernel_rfl) (fun _ _ _ h => h) (Or.inl ⟨by rfl, fun w hSw => ?_⟩) hHeld ?_
      · (clear hSw; go_simp)
      simp only [Act.put, List.setIfInBounds_toArray, List.set_cons_zero, List.set_cons_succ]
      refine takeH (i := 2) (v := .int .i64 4) rfl (by kernel_rfl) (by kernel_rfl) (by kernel_rfl) (fun _ _ _ h => h) (Or.inl ⟨by rfl, fun w hSw => ?_⟩) hHeld ?_
      · (clear hSw; go_simp)
      simp only [Act.put, List.setIfInBounds_toArray, List.set_cons_zero, List.set_cons_succ]
      refine takeH (i := 3) (v := .slice (some ⟨w.heap.size, 4, none⟩) 6 6) rfl (by kernel_rfl) (by kernel_rfl) (by kernel_rfl) (fun _ _ _ h => h) (Or.inl ⟨by rfl, fun w hSw => ?_⟩) hHeld ?_
      · (clear hSw; go_simp)
      simp only [Act.put, List.setIfInBounds_toArray, List.set_cons_zero, List.set_cons_succ]
      refine takeH (i := 4) (v := .slice (some ⟨w.heap.size, 0, none⟩) 10 10) rfl (by kernel_rfl) (by kernel_rfl) (by kernel_rfl) (fun _ _ _ h => h) (Or.inl ⟨by rfl, fun w hSw => ?_⟩) hHeld ?_
      · (clear hSw; go_simp)
      simp only [Act.put, List.setIfInBounds_toArray, List.set_cons_zero, List.set_cons_succ]
      refine takeH (i := 5) (v := .int .i64 4) rfl (by kernel_rfl) (by kernel_rfl) (by kernel_rfl) (fun _ _ _ h => h) (Or.inl ⟨by rfl, fun w hSw => ?_⟩) hHeld ?_
      · (clear hSw; go_simp)
      simp only [Act.put, List.setIfInBounds_toArray, List.set_cons_zero, List.set_cons_succ]
      refine takeH (i := 6) (v := .slice (some ⟨w.heap.size, 0, none⟩) 4 10) rfl (by kernel_rfl) (by kernel_rfl) (by kernel_rfl) (fun _ _ _ h => h) (Or.inl ⟨by rfl, fun w hSw => ?_⟩) hHeld ?_
      · (clear hSw; go_simp)
      simp only [Act.put, List.setIfInBounds_toArray, List.set_cons_zero, List.set_cons_succ]
      refine wpAnyH_ready (rs := [7]) (by kernel_rfl) (by simp) ?_
      refine AllReadyH.cons rfl (fun K hK => ?_) AllReadyH.nil
      obtain ⟨w2, hrun, ha2, hb2⟩ := copy_ons wr.drew w.heap.size 4 4 6 10 HA.out (by omega)
      have hrun2 : ∀ r, r = wr.drew → (Builtin.copy_ #[23, 23] 3 #[.slice (some ⟨w.heap.size, 4, none⟩) 6 6, .slice (some ⟨w.heap.size, 0, none⟩) 4 10]).run Tryz.prog r = .ok (.int .i64 4) w2 := fun r e => by rw [e]; exact hrun
      have hrun3 := hrun2 _ rfl
      clear hrun2 hrun
      go_simp
      clear hHeld hrun3
      refine hK.out _ _ trivial (fun hHeld => ?_)
      clear hK K
      try simp only [Act.put, List.setIfInBounds_toArray, List.set_cons_zero, List.set_cons_succ]
      refine takeH (i := 8) (v := .int .i64 8) rfl (by kernel_rfl) (by kernel_rfl) (by kernel_rfl) (fun _ _ _ h => h) (Or.inl ⟨by rfl, fun w hSw => ?_⟩) hHeld ?_
      · (clear hSw; go_simp; rfl)
      simp only [Act.put, List.setIfInBounds_toArray, List.set_cons_zero, List.set_cons_succ]
      refine takeH (i := 9) (v := .int .i64 8) rfl (by kernel_rfl) (by kernel_rfl) (by kernel_rfl) (fun _ _ _ h => h) (Or.inl ⟨by rfl, fun w hSw => ?_⟩) hHeld ?_
      · (clear hSw; go_simp)
      simp only [Act.put, List.setIfInBounds_toArray, List.set_cons_zero, List.set_cons_succ]
      refine wpAnyH_done (by kernel_rfl) ?_ _
      clear hHeld
      go_wp2
      go_roundw
      case rel => exact ⟨8, by omega, by go_num, ha2, (below_drew hbel).trans hb2⟩
      case measure => simp [intOf]
    · go_wp2_with fail
      refine wp_region_held_drew (S := fun _ => True) (by kernel_rfl) trivial (fun hHeld => ?_)
      refine takeH (i := 0) (v := .int .i64 8) rfl (by kernel_rfl) (by kernel_rfl) (by kernel_rfl) (fun _ _ _ h => h) (Or.inl ⟨by rfl, fun w hSw => ?_⟩) hHeld ?_
      · (clear hSw; go_simp)
      simp only [Act.put, List.setIfInBounds_toArray, List.set_cons_zero, List.set_cons_succ]
      refine takeH (i := 1) (v := .slice (some ⟨w.heap.size, 0, none⟩) 10 10) rfl (by kernel_rfl) (by kernel_rfl) (by kernel_rfl) (fun _ _ _ h => h) (Or.inl ⟨by rfl, fun w hSw => ?_⟩) hHeld ?_
      · (clear hSw; go_simp)
      simp only [Act.put, List.setIfInBounds_toArray, List.set_cons_zero, List.set_cons_succ]
      refine takeH (i := 2) (v := .int .i64 8) rfl (by kernel_rfl) (by kernel_rfl) (by kernel_rfl) (fun _ _ _ h => h) (Or.inl ⟨by rfl, fun w hSw => ?_⟩) hHeld ?_
      · (clear hSw; go_simp)
      simp only [Act.put, List.setIfInBounds_toArray, List.set_cons_zero, List.set_cons_succ]
      refine takeH (i := 3) (v := .slice (some ⟨w.heap.size, 8, none⟩) 2 2) rfl (by kernel_rfl) (by kernel_rfl) (by kernel_rfl) (fun _ _ _ h => h) (Or.inl ⟨by rfl, fun w hSw => ?_⟩) hHeld ?_
      · (clear hSw; go_simp)
      simp only [Act.put, List.setIfInBounds_toArray, List.set_cons_zero, List.set_cons_succ]
      refine takeH (i := 4) (v := .slice (some ⟨w.heap.size, 0, none⟩) 10 10) rfl (by kernel_rfl) (by kernel_rfl) (by kernel_rfl) (fun _ _ _ h => h) (Or.inl ⟨by rfl, fun w hSw => ?_⟩) hHeld ?_
      · (clear hSw; go_simp)
      simp only [Act.put, List.setIfInBounds_toArray, List.set_cons_zero, List.set_cons_succ]
      refine takeH (i := 5) (v := .int .i64 8) rfl (by kernel_rfl) (by kernel_rfl) (by kernel_rfl) (fun _ _ _ h => h) (Or.inl ⟨by rfl, fun w hSw => ?_⟩) hHeld ?_
      · (clear hSw; go_simp)
      simp only [Act.put, List.setIfInBounds_toArray, List.set_cons_zero, List.set_cons_succ]
      refine takeH (i := 6) (v := .slice (some ⟨w.heap.size, 0, none⟩) 8 10) rfl (by kernel_rfl) (by kernel_rfl) (by kernel_rfl) (fun _ _ _ h => h) (Or.inl ⟨by rfl, fun w hSw => ?_⟩) hHeld ?_
      · (clear hSw; go_simp)
      simp only [Act.put, List.setIfInBounds_toArray, List.set_cons_zero, List.set_cons_succ]
      refine wpAnyH_ready (rs := [7]) (by kernel_rfl) (by simp) ?_
      refine AllReadyH.cons rfl (fun K hK => ?_) AllReadyH.nil
      obtain ⟨w2, hrun, ha2, hb2⟩ := copy_ons wr.drew w.heap.size 8 2 2 10 HA.out (by omega)
      have hrun2 : ∀ r, r = wr.drew → (Builtin.copy_ #[23, 23] 3 #[.slice (some ⟨w.heap.size, 8, none⟩) 2 2, .slice (some ⟨w.heap.size, 0, none⟩) 8 10]).run Tryz.prog r = .ok (.int .i64 2) w2 := fun r e => by rw [e]; exact hrun
      have hrun3 := hrun2 _ rfl
      clear hrun2 hrun
      go_simp
      clear hHeld hrun3
      refine hK.out _ _ trivial (fun hHeld => ?_)
      clear hK K
      try simp only [Act.put, List.setIfInBounds_toArray, List.set_cons_zero, List.set_cons_succ]
      refine takeH (i := 8) (v := .int .i64 10) rfl (by kernel_rfl) (by kernel_rfl) (by kernel_rfl) (fun _ _ _ h => h) (Or.inl ⟨by rfl, fun w hSw => ?_⟩) hHeld ?_
      · (clear hSw; go_simp; rfl)
      simp only [Act.put, List.setIfInBounds_toArray, List.set_cons_zero, List.set_cons_succ]
      refine takeH (i := 9) (v := .int .i64 10) rfl (by kernel_rfl) (by kernel_rfl) (by kernel_rfl) (fun _ _ _ h => h) (Or.inl ⟨by rfl, fun w hSw => ?_⟩) hHeld ?_
      · (clear hSw; go_simp)
      simp only [Act.put, List.setIfInBounds_toArray, List.set_cons_zero, List.set_cons_succ]
      refine wpAnyH_done (by kernel_rfl) ?_ _
      clear hHeld
      go_wp2
      go_roundw
      case rel => exact ⟨10, by omega, by go_num, ha2, (below_drew hbel).trans hb2⟩
      case measure => simp [intOf]
    · go_wp2
      go_ret
      exact ⟨some ⟨w.heap.size, 0, none⟩, 10, rfl, HA.out.il, hbel⟩
end Go.Proofs.YtalpbnfebcafgaaGreat
