/- The contract of slices.Insert of one frame into a row of the call's own. -/
import Derived.Test.YtldhnbohpnkcpaaQG
import Derived.Laws.NewBlocks
namespace Go.Proofs.Ytldhnbohpnkcpaa
open Go.RowKit
set_option linter.unusedSimpArgs false

theorem sF_to2 (b L cap p : Nat) (hp : p ≤ cap) (q : Int) (hq : q = p) : (∀ w : World, (Instr.sliceAt 29 (.slice (some ⟨b, 0, none⟩) L cap) none (some (.int .i64 q)) none).run Try.prog w = .ok (.slice (some ⟨b, 0, none⟩) p cap) w) ∧
    ∀ w : World, (Instr.slice 29 (.slice (some ⟨b, 0, none⟩) L cap) none (some (.int .i64 q)) none).run Try.prog w = .ok (.slice (some ⟨b, 0, none⟩) p cap) w := by
  subst hq; exact sF_to b L cap p hp
theorem sF_from2 (b L cap p : Nat) (hp : p ≤ L) (hpc : p < cap) (q : Int) (hq : q = p) : (∀ w : World, (Instr.sliceAt 29 (.slice (some ⟨b, 0, none⟩) L cap) (some (.int .i64 q)) none none).run Try.prog w = .ok (.slice (some ⟨b, p * 12, none⟩) (L - p) (cap - p)) w) ∧
    ∀ w : World, (Instr.slice 29 (.slice (some ⟨b, 0, none⟩) L cap) (some (.int .i64 q)) none none).run Try.prog w = .ok (.slice (some ⟨b, p * 12, none⟩) (L - p) (cap - p)) w := by
  have h := sF_from b L cap p hp q hq
  rw [if_neg (by omega)] at h
  exact h
theorem sF_any (A : Option Addr) (L cap p : Nat) (hp : p ≤ L) (_hc : L ≤ cap) : ∃ X, (∀ w : World, (Instr.sliceAt 29 (.slice A L cap) (some (.int .i64 (p : Int))) none none).run Try.prog w = .ok X w) ∧
    ∀ w : World, (Instr.slice 29 (.slice A L cap) (some (.int .i64 (p : Int))) none none).run Try.prog w = .ok X w := by
  obtain ⟨i, hi, -, hsz, -⟩ := info28
  have h : ∀ w : World, (Instr.slice 29 (.slice A L cap) (some (.int .i64 (p : Int))) none none).run Try.prog w = .ok (sliced A p L cap 12) w := by
    intro w
    rw [run_slice_l _ _ _ _ _ Try.underlying29 _ _ (by omega) (by omega)]
    show ((sizeOf 34).run Try.prog w).andThen _ = _
    simp [sizeOf, typeInfo, hi, hsz]
  exact ⟨_, fun w => by rw [run_sliceAt_slice _ _ _ _ _ _ Try.underlying29]; exact h w, h⟩
theorem over_ap (w : World) (a b : Addr) (la ca lb cb : Nat) (hne : a.block ≠ b.block) (ca' cb' : Array Value) (ha : Rw w a.block ca') (hb : Rw w b.block cb') (h0 : cb'.size ≠ 0) :
    (callFunc 44 #[.slice (some a) la ca, .slice (some b) lb cb]).run Try.prog w = .ok (.value (.bool false)) w := by
  have hsz : ∀ w : World, (sizeOf 34).run Try.prog w = .ok 12 w := fun w => by
    obtain ⟨i, hi, -, hsz, -⟩ := info28
    simp [sizeOf, typeInfo, hi, hsz]
  unfold Rw at ha hb
  rw [run_callFunc_extern Try.func44 (by kernel_rfl) (by kernel_rfl) (by kernel_rfl) (e := Extern.SlicesOverlaps.overlaps #[29, 29] #[4]) (by kernel_rfl),
    Lib.run_overlaps_apart w 29 4 34 Try.underlying29 12 hsz a b la ca lb cb hne 34 34 ca'.size cb'.size (by simp [World.shape?, ha]) (by simp [World.shape?, hb]) h0 (by simp [World.frozen?, ha]) (by simp [World.frozen?, ha])]
  rfl

theorem ins_len (gs : List Fr) (f : Fr) (i : Nat) (hi : i ≤ gs.length) : (gs.take i ++ f :: gs.drop i).length = gs.length + 1 := by
  rw [List.length_append, List.length_take, List.length_cons, List.length_drop]; omega
theorem ins_fcs (gs : List Fr) (f : Fr) (i : Nat) : fcs (gs.take i ++ f :: gs.drop i) = (fcs gs).take (i * 12) ++ (fcs [f] ++ (fcs gs).drop (i * 12)) := by
  rw [fcs_app, show f :: gs.drop i = [f] ++ gs.drop i from rfl, fcs_app, fcs_take, fcs_drop]
theorem ins_room {gs : List Fr} {f : Fr} {cur : Array Value} {i cap : Nat} (hi : i < gs.length) (hs : cur.size = cap * 12) (hc : gs.length + 1 ≤ cap) (ht : cur.toList.take (gs.length * 12) = fcs gs) :
    (laid (laid cur ((i + 1) * 12) (fcs (gs.drop i))) (i * 12) (fcs [f])).toList.take ((gs.length + 1) * 12) = fcs (gs.take i ++ f :: gs.drop i) ∧
    (laid cur ((i + 1) * 12) (fcs (gs.drop i))).size = cap * 12 ∧ (laid (laid cur ((i + 1) * 12) (fcs (gs.drop i))) (i * 12) (fcs [f])).size = cap * 12 := by
  have hl : (fcs (gs.drop i)).length = (gs.length - i) * 12 := by rw [fcs_len, List.length_drop]
  have hl1 : (fcs [f]).length = 12 := fcs_len [f]
  have h1 : (laid cur ((i + 1) * 12) (fcs (gs.drop i))).size = cap * 12 := by rw [laid_size (by rw [hl, hs]; omega), hs]
  refine ⟨?_, h1, by rw [laid_size (by rw [h1, hl1]; omega), h1]⟩
  have hk : (cur.toList.take ((i + 1) * 12)).length = (i + 1) * 12 := by rw [List.length_take]; simp; omega
  rw [laid_hi (by rw [hl1]; omega) (by rw [h1]; omega), hl1, laid_at (o := (i + 1) * 12) (k := (gs.length + 1) * 12) (by rw [hs]; omega) (by rw [hl]; omega), laid_lo (by omega) (by rw [hs]; omega),
    show i * 12 + 12 = (cur.toList.take ((i + 1) * 12)).length by rw [hk]; omega, List.drop_left, ins_fcs, ← ht, List.take_take, Nat.min_eq_left (by omega), List.append_assoc, fcs_drop, ← ht]
theorem ins_grow {gs : List Fr} {f : Fr} {cur : Array Value} {i cap : Nat} (hi : i < gs.length) (hs : cur.size = cap * 12) (hc : gs.length + 1 ≤ cap) (ht : cur.toList.take (i * 12) = fcs (gs.take i)) :
    (laid (laid cur (i * 12) (fcs [f])) ((i + 1) * 12) (fcs (gs.drop i))).toList.take ((gs.length + 1) * 12) = fcs (gs.take i ++ f :: gs.drop i) ∧
    (laid cur (i * 12) (fcs [f])).size = cap * 12 ∧ (laid (laid cur (i * 12) (fcs [f])) ((i + 1) * 12) (fcs (gs.drop i))).size = cap * 12 := by
  have hl : (fcs (gs.drop i)).length = (gs.length - i) * 12 := by rw [fcs_len, List.length_drop]
  have hl1 : (fcs [f]).length = 12 := fcs_len [f]
  have h1 : (laid cur (i * 12) (fcs [f])).size = cap * 12 := by rw [laid_size (by rw [hl1, hs]; omega), hs]
  refine ⟨?_, h1, by rw [laid_size (by rw [h1, hl]; omega), h1]⟩
  rw [laid_at (by rw [h1]; omega) (by rw [hl]; omega), laid_at (by rw [hs]; omega) (by rw [hl1]; omega), ht, ins_fcs, List.append_assoc, fcs_take, fcs_drop]

/-- What Insert's answer is. -/
def InsOk (w : World) (B : Nat) (v : Value) (gs : List Fr) (f : Fr) (i : Nat) (e : Ending) (w' : World) : Prop :=
  ∃ u, e = .returned u ∧ Fown w' B u (gs.take i ++ f :: gs.drop i) ∧ w.grownBy w' v.ownBlock ∧ Lies w v u

set_option maxHeartbeats 1600000 in
set_option maxRecDepth 100000 in
theorem insert_end {w : World} {B : Nat} {v : Value} {gs : List Fr} {f : Fr} {vb : Nat} (h : Fown w B v gs) (hn : gs.length ≤ 1000) (hB : B ≤ w.heap.size) (hf : Rw w vb (fcs [f]).toArray) :
    Calls Try.prog 38 #[v, .int .i64 gs.length, .slice (some ⟨vb, 0, none⟩) 1 1] w (InsOk w B v gs f gs.length) := by
  obtain ⟨A, cap, rfl, _, hc⟩ := h.fl
  obtain ⟨X, x1, x2⟩ := sF_any A gs.length cap gs.length (Nat.le_refl _) hc
  have HO := Lib.hid h
  have HBB := Lib.hid hB
  have HN := Lib.hid hn
  have HS := Lib.hid (show Fs w (some ⟨vb, 0, none⟩) 1 [f] from ⟨rfl, fun _ => ⟨_, rfl, fun j u hu => by
    rw [add0]; exact hf.cell (by simpa using hu)⟩⟩)
  have HE := Lib.hid (show gs.take gs.length ++ f :: gs.drop gs.length = gs ++ [f] by simp)
  clear h hB hf
  unfold InsOk
  rw [HE.out]
  obtain ⟨n, hgn⟩ : ∃ n, gs.length = n := ⟨_, rfl⟩
  have HG := Lib.hid hgn
  rw [hgn] at x1 x2 hc HO
  rw [hgn]
  clear hgn hn
  go_enter Try.func38, Try.ntmps38
  go_wp2_with (first | (at_builtin; refine append_F _ (by rfl) _ _ rfl B _ gs rfl HO.out _ _ _ [f] rfl HS.out (by have := HN.out; omega) HBB.out ?_; intro v' w' h1 h2 h3) | fail)
  go_wp2
  go_ret
  exact ⟨_, rfl, h1, h2, h3⟩

set_option maxHeartbeats 1600000 in
set_option maxRecDepth 100000 in
theorem insert_room {w : World} {B b i cap vb : Nat} {cur : Array Value} {gs : List Fr} {f : Fr} (hi : i < gs.length) (hn : gs.length ≤ 1000) (hbB : B ≤ b) (hR : Rw w b cur) (hc : gs.length + 1 ≤ cap) (hm : cap ≤ maxLen) (hs : cur.size = cap * 12) (ht : cur.toList.take (gs.length * 12) = fcs gs)
    (hf : Rw w vb (fcs [f]).toArray) (hne : vb ≠ b) :
    Calls Try.prog 38 #[.slice (some ⟨b, 0, none⟩) gs.length cap, .int .i64 i, .slice (some ⟨vb, 0, none⟩) 1 1] w (InsOk w B (.slice (some ⟨b, 0, none⟩) gs.length cap) gs f i) := by
  obtain ⟨D1, D2, D3⟩ := ins_room (f := f) hi hs hc ht
  have HD1 := Lib.hid D1; have HD3 := Lib.hid D3
  have HL := Lib.hid (ins_len gs f i (by omega))
  obtain ⟨X, x1, x2⟩ := sF_any (some ⟨b, 0, none⟩) gs.length cap i (by omega) (by omega)
  obtain ⟨y1, y2⟩ := sF_to2 b gs.length cap (gs.length + 1) hc ((gs.length : Int) + 1) (by simp)
  obtain ⟨z1, z2⟩ := sF_from2 b (gs.length + 1) cap (i + 1) (by omega) (by omega) ((i : Int) + 1) (by simp)
  obtain ⟨u1, u2⟩ := sF_from2 b (gs.length + 1) cap i (by omega) (by omega) (i : Int) rfl
  have hov := fun lb cb => over_ap w ⟨vb, 0, none⟩ ⟨b, (i + 1) * 12, none⟩ 1 1 lb cb hne _ _ hf hR (by omega)
  have hsrc : ∀ j u, (fcs (gs.drop i))[j]? = some u → w.drew.cell? ((⟨b, i * 12, none⟩ : Addr).add j) = some u := by
    intro j u hu
    rw [Addr.add_lit]
    refine Rw.cell (w := w.drew) hR ?_
    have hj : j < (gs.length - i) * 12 := by
      have := (List.getElem?_eq_some_iff.1 hu).1
      rwa [fcs_len, List.length_drop] at this
    rw [fcs_drop, List.getElem?_drop, ← ht, List.getElem?_take, if_pos (by omega)] at hu
    simpa using hu
  have hcp := fun ty => run_copyF w.drew ty b ((i + 1) * 12) (gs.length + 1 - (i + 1)) (cap - (i + 1)) ⟨b, i * 12, none⟩ (gs.length + 1 - i) (cap - i) (gs.length - i) cur _ (fcs (gs.drop i)) hR (by show min _ _ = _; omega) (by rw [fcs_len, List.length_drop]) hsrc (by rw [fcs_len, List.length_drop, hs]; omega) (fcs_one _)
  clear hsrc D1 D3 ht
  obtain ⟨cur1, hcur1⟩ : ∃ c, laid cur ((i + 1) * 12) (fcs (gs.drop i)) = c := ⟨_, rfl⟩
  rw [hcur1] at hcp HD1 HD3 D2
  obtain ⟨w1, hw1⟩ : ∃ w1, w.drew.setRow b cur1 = w1 := ⟨_, rfl⟩
  rw [hw1] at hcp
  have hR1 : Rw w1 b cur1 := by rw [← hw1]; exact Rw.set (w := w.drew) hR cur1
  have hf1 : Rw w1 vb (fcs [f]).toArray := by rw [← hw1]; exact (setRow_other w.drew b vb cur1 hne).trans hf
  have hcq := fun ty => run_copyF w1 ty b (i * 12) (gs.length + 1 - i) (cap - i) ⟨vb, 0, none⟩ 1 1 1 cur1 _ (fcs [f]) hR1 (by show min _ _ = _; omega) rfl (fun j u hu => by rw [add0]; exact hf1.cell (by simpa using hu)) (by rw [fcs_len, D2]; simp; omega) (fcs_one _)
  have HW := Lib.hid hw1
  have HR1 := Lib.hid hR1
  have HB := Lib.hid hbB
  have HM := Lib.hid hm
  have HC := Lib.hid hc
  clear hw1 hR1 hcur1 D2 hs hm hbB hR hf hf1 hne
  unfold InsOk
  generalize gs.take i ++ f :: gs.drop i = GS at *
  generalize gs.length = n at *
  generalize fcs [f] = FF at *
  have g0 : ¬ ((i : Int) = (n : Int)) := by omega
  have g1 : ¬ ((cap : Int) < (n : Int) + 1) := by omega
  have g2 : IntKind.i64.wrap ((i : Int) + 1) = (i : Int) + 1 := IntWalk.i64_in _ (by omega)
  have g3 : IntKind.i64.wrap ((n : Int) + 1) = (n : Int) + 1 := IntWalk.i64_in _ (by omega)
  go_enter Try.func38, Try.ntmps38
  go_wp2_with (simp only [hov])
  refine wp_region_held_drew (S := fun _ => True) (by kernel_rfl) (trivial) (fun hHeld => ?_)
  refine takeH (i := 0) (v := .slice (some ⟨b, 0, none⟩) (n + 1) cap) rfl (by kernel_rfl) (by kernel_rfl) (by kernel_rfl) (fun _ _ _ h => h) (Or.inl ⟨by rfl, fun w hSw => ?_⟩) hHeld ?_
  · (clear hSw; go_simp)
  simp only [Act.put, List.setIfInBounds_toArray, List.set_cons_zero, List.set_cons_succ]
  refine takeH (i := 1) (v := .int .i64 i) rfl (by kernel_rfl) (by kernel_rfl) (by kernel_rfl) (fun _ _ _ h => h) (Or.inl ⟨by rfl, fun w hSw => ?_⟩) hHeld ?_
  · (clear hSw; go_simp)
  simp only [Act.put, List.setIfInBounds_toArray, List.set_cons_zero, List.set_cons_succ]
  refine takeH (i := 2) (v := .int .i64 1) rfl (by kernel_rfl) (by kernel_rfl) (by kernel_rfl) (fun _ _ _ h => h) (Or.inl ⟨by rfl, fun w hSw => ?_⟩) hHeld ?_
  · (clear hSw; go_simp)
  simp only [Act.put, List.setIfInBounds_toArray, List.set_cons_zero, List.set_cons_succ]
  refine takeH (i := 3) (v := .int .i64 ((i : Int) + 1)) rfl (by kernel_rfl) (by kernel_rfl) (by kernel_rfl) (fun _ _ _ h => h) (Or.inl ⟨by rfl, fun w hSw => ?_⟩) hHeld ?_
  · (clear hSw; go_simp)
  simp only [Act.put, List.setIfInBounds_toArray, List.set_cons_zero, List.set_cons_succ]
  refine takeH (i := 4) (v := .slice (some ⟨b, (i + 1) * 12, none⟩) (n + 1 - (i + 1)) (cap - (i + 1))) rfl (by kernel_rfl) (by kernel_rfl) (by kernel_rfl) (fun _ _ _ h => h) (Or.inl ⟨by rfl, fun w hSw => ?_⟩) hHeld ?_
  · (clear hSw; go_simp)
  simp only [Act.put, List.setIfInBounds_toArray, List.set_cons_zero, List.set_cons_succ]
  refine takeH (i := 5) (v := .slice (some ⟨b, 0, none⟩) (n + 1) cap) rfl (by kernel_rfl) (by kernel_rfl) (by kernel_rfl) (fun _ _ _ h => h) (Or.inl ⟨by rfl, fun w hSw => ?_⟩) hHeld ?_
  · (clear hSw; go_simp)
  simp only [Act.put, List.setIfInBounds_toArray, List.set_cons_zero, List.set_cons_succ]
  refine takeH (i := 6) (v := .int .i64 i) rfl (by kernel_rfl) (by kernel_rfl) (by kernel_rfl) (fun _ _ _ h => h) (Or.inl ⟨by rfl, fun w hSw => ?_⟩) hHeld ?_
  · (clear hSw; go_simp)
  simp only [Act.put, List.setIfInBounds_toArray, List.set_cons_zero, List.set_cons_succ]
  refine takeH (i := 7) (v := .slice (some ⟨b, i * 12, none⟩) (n + 1 - i) (cap - i)) rfl (by kernel_rfl) (by kernel_rfl) (by kernel_rfl) (fun _ _ _ h => h) (Or.inl ⟨by rfl, fun w hSw => ?_⟩) hHeld ?_
  · (clear hSw; go_simp)
  simp only [Act.put, List.setIfInBounds_toArray, List.set_cons_zero, List.set_cons_succ]
  refine wpAnyH_ready (rs := [8]) (by kernel_rfl) (by simp) ?_
  refine AllReadyH.cons rfl (fun K hK => ?_) AllReadyH.nil
  refine step_copy_run (by rfl) (.tmp 73) (.tmp 76) 29 29 (by rfl) _ _ (by rfl) (by rfl) (hcp _) ?_
  clear hHeld
  refine hK.out _ _ trivial (fun hHeld => ?_)
  clear hK K
  simp only [Act.put, List.setIfInBounds_toArray, List.set_cons_zero, List.set_cons_succ]
  refine wpAnyH_done (by kernel_rfl) ?_ _
  clear hHeld
  go_wp2_with (first | (at_builtin; refine wpl_copy_run _ (by rfl) _ _ _ _ rfl _ _ rfl rfl (hcq _) ?_) | fail)
  go_wp2
  go_ret
  refine ⟨_, rfl, ?_, ?_, .inl rfl⟩
  · exact Fown.mk_ HB.out (HR1.out.set _) HL.out HC.out HM.out HD3.out HD1.out
  · rw [← HW.out, setRow_setRow]
    exact gundrew (grown_set w.drew b _)
end Go.Proofs.Ytldhnbohpnkcpaa
