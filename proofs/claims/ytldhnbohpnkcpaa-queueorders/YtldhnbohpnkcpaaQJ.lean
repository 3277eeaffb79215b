/- The contract of slices.Insert of one frame into a row of the call's own that has no room; and of all. -/
import Derived.Test.YtldhnbohpnkcpaaQH
namespace Go.Proofs.Ytldhnbohpnkcpaa
open Go.RowKit
set_option linter.unusedSimpArgs false

theorem zeros_size (k : Nat) : (Builtin.zeroCells Fr.zero.val.cells k).size = k * 12 := by rw [size_zeroCells]; rfl
/-- append of a make onto a beginning of a row that has no room. -/
theorem run_appendF_zeros (w : World) (ty : TypeId) (b i n cap : Nat) (cur : Array Value) (gs : List Fr) (hR : Rw w b cur) (ht : cur.toList.take (gs.length * 12) = fcs gs) (hgn : gs.length = n) (hi : i < n) (hcap : cap < n + 1) (hn : n ≤ 1000) (x : Int) (hx : x = ((n + 1 - i : Nat) : Int)) :
    ∃ gc cur0, (Builtin.append_ #[29, 3] ty #[.slice (some ⟨b, 0, none⟩) i cap, .int .i64 x]).run Try.prog w = .ok (.slice (some ⟨w.heap.size, 0, none⟩) (n + 1) gc) (w.drew.alloc (.cells cur0 34)) ∧
      n + 1 ≤ gc ∧ gc ≤ maxLen ∧ cur0.size = gc * 12 ∧ cur0.toList.take (i * 12) = fcs (gs.take i) := by
  subst hx
  obtain ⟨ti, hti, hz, hsz, hby⟩ := info28
  have hl : (fcs (gs.take i)).length = i * 12 := by rw [fcs_len, List.length_take, hgn, Nat.min_eq_left (by omega)]
  have hold : (Builtin.firstCells ti.size i (.slice (some ⟨b, 0, none⟩) i cap)).run Try.prog w.drew = .ok (fcs (gs.take i)).toArray w.drew := by
    rw [hsz]
    refine run_firstCells_some (P := Try.prog) w.drew 12 i ⟨b, 0, none⟩ i cap _ hl fun j v hj => ?_
    rw [add0]
    refine Rw.cell (w := w.drew) hR ?_
    have hjl := (List.getElem?_eq_some_iff.1 hj).1
    rw [hl] at hjl
    rw [fcs_take, ← ht, List.take_take, Nat.min_eq_left (by omega), List.getElem?_take, if_pos hjl] at hj
    simpa using hj
  have e : i + (n + 1 - i) = n + 1 := by omega
  have hrun := Lib.run_append_grow_zeros (P := Try.prog) w 29 3 ty 34 ti Fr.zero.val .i64 .i64 Try.underlying29 Try.underlying3 hti hz (some ⟨b, 0, none⟩) i cap (fcs (gs.take i)) hold (n + 1 - i) (by omega) (by rw [hsz]; omega) (by omega) (by omega) (by rw [hby]; omega) (by rw [hby]; exact growslice_fits (by omega) (by omega))
  rw [e] at hrun
  have hg := grownCap_ge w (n + 1) cap 34
  refine ⟨_, _, hrun, hg, grownCap_le_maxLen w _ _ _ (by unfold maxLen; omega), ?_, ?_⟩
  · rw [Array.size_append, Array.size_append, zeros_size, zeros_size, List.size_toArray, hl]
    omega
  · rw [Array.toList_append, Array.toList_append, List.append_assoc, ← hl, List.take_left]

set_option maxHeartbeats 1600000 in
set_option maxRecDepth 100000 in
theorem insert_grow {w : World} {B b i cap vb : Nat} {cur : Array Value} {gs : List Fr} {f : Fr} (hi : i < gs.length) (hn : gs.length ≤ 1000) (hBw : B ≤ w.heap.size) (hR : Rw w b cur) (hc : gs.length ≤ cap) (hcap : cap < gs.length + 1) (ht : cur.toList.take (gs.length * 12) = fcs gs)
    (hf : Rw w vb (fcs [f]).toArray) :
    Calls Try.prog 38 #[.slice (some ⟨b, 0, none⟩) gs.length cap, .int .i64 i, .slice (some ⟨vb, 0, none⟩) 1 1] w (InsOk w B (.slice (some ⟨b, 0, none⟩) gs.length cap) gs f i) := by
  obtain ⟨gc, cur0, h0⟩ : ∃ gc cur0, (∀ ty, (Builtin.append_ #[29, 3] ty #[.slice (some ⟨b, 0, none⟩) i cap, .int .i64 ((gs.length : Int) + 1 - (i : Int))]).run Try.prog w = .ok (.slice (some ⟨w.heap.size, 0, none⟩) (gs.length + 1) gc) (w.drew.alloc (.cells cur0 34))) ∧
      gs.length + 1 ≤ gc ∧ gc ≤ maxLen ∧ cur0.size = gc * 12 ∧ cur0.toList.take (i * 12) = fcs (gs.take i) := by
    obtain ⟨gc, cur0, h1, h2⟩ := run_appendF_zeros w 0 b i gs.length cap cur gs hR ht rfl hi hcap hn ((gs.length : Int) + 1 - (i : Int)) (by omega)
    exact ⟨gc, cur0, fun ty => h1, h2⟩
  obtain ⟨happ, hgc, hgm, hgs, hgt⟩ := h0
  obtain ⟨D1, D2, D3⟩ := ins_grow (f := f) hi hgs hgc hgt
  have HD1 := Lib.hid D1; have HD3 := Lib.hid D3
  have HL := Lib.hid (ins_len gs f i (by omega))
  obtain ⟨y1, y2⟩ := sF_to2 b gs.length cap i (by omega) (i : Int) rfl
  obtain ⟨z1, z2⟩ := sF_from2 w.heap.size (gs.length + 1) gc (i + 1) (by omega) (by omega) ((i : Int) + 1) (by simp)
  obtain ⟨u1, u2⟩ := sF_from2 w.heap.size (gs.length + 1) gc i (by omega) (by omega) (i : Int) rfl
  obtain ⟨t1, t2⟩ := sF_from2 b gs.length cap i (by omega) (by omega) (i : Int) rfl
  have hbw := hR.lt
  have hvw := hf.lt
  obtain ⟨w1, hw1⟩ : ∃ w1, w.drew.alloc (.cells cur0 34) = w1 := ⟨_, rfl⟩
  rw [hw1] at happ
  have hR1 : Rw w1 w.heap.size cur0 := by rw [← hw1]; exact heap_alloc_new w.drew _
  have hRb : Rw w1 b cur := by rw [← hw1]; exact (heap_alloc_old w.drew _ (r := b) hbw).trans hR
  have hf1 : Rw w1 vb (fcs [f]).toArray := by rw [← hw1]; exact (heap_alloc_old w.drew _ (r := vb) hvw).trans hf
  have hcp := fun ty => run_copyF w1 ty w.heap.size (i * 12) (gs.length + 1 - i) (gc - i) ⟨vb, 0, none⟩ 1 1 1 cur0 _ (fcs [f]) hR1 (by show min _ _ = _; omega) rfl (fun j u hu => by rw [add0]; exact hf1.cell (by simpa using hu)) (by rw [fcs_len, hgs]; simp; omega) (fcs_one _)
  obtain ⟨cur1, hcur1⟩ : ∃ c, laid cur0 (i * 12) (fcs [f]) = c := ⟨_, rfl⟩
  rw [hcur1] at hcp HD1 HD3 D2
  obtain ⟨w2, hw2⟩ : ∃ w2, w1.setRow w.heap.size cur1 = w2 := ⟨_, rfl⟩
  rw [hw2] at hcp
  have hR2 : Rw w2 w.heap.size cur1 := by rw [← hw2]; exact Rw.set hR1 cur1
  have hRb2 : Rw w2 b cur := by rw [← hw2]; exact (setRow_other w1 w.heap.size b cur1 (by omega)).trans hRb
  have hsrc : ∀ j u, (fcs (gs.drop i))[j]? = some u → w2.drew.cell? ((⟨b, i * 12, none⟩ : Addr).add j) = some u := by
    intro j u hu
    rw [Addr.add_lit]
    refine Rw.cell (w := w2.drew) hRb2 ?_
    have hj : j < (gs.length - i) * 12 := by
      have := (List.getElem?_eq_some_iff.1 hu).1
      rwa [fcs_len, List.length_drop] at this
    rw [fcs_drop, List.getElem?_drop, ← ht, List.getElem?_take, if_pos (by omega)] at hu
    simpa using hu
  have hcq := fun ty => run_copyF w2.drew ty w.heap.size ((i + 1) * 12) (gs.length + 1 - (i + 1)) (gc - (i + 1)) ⟨b, i * 12, none⟩ (gs.length - i) (cap - i) (gs.length - i) cur1 _ (fcs (gs.drop i)) hR2 (by show min _ _ = _; omega) (by rw [fcs_len, List.length_drop]) hsrc (by rw [fcs_len, List.length_drop, D2]; omega) (fcs_one _)
  have HG := Lib.hid (show ∀ c, w.grownBy (w2.drew.setRow w.heap.size c) (some b) from fun c => by
    refine ⟨?_, ?_, ?_, ?_, fun k hk _ => ?_⟩
    · rw [← hw2, ← hw1]; rfl
    · rw [← hw2, ← hw1]; rfl
    · rw [← hw2, ← hw1]; rfl
    · rw [← hw2, ← hw1]; simp
    · rw [setRow_other _ _ _ _ (by omega)]
      show w2.heap[k]? = _
      rw [← hw2, setRow_other _ _ _ _ (by omega), ← hw1]
      exact heap_alloc_old w.drew _ (r := k) hk)
  have HR2 := Lib.hid hR2
  have HB := Lib.hid hBw
  have HM := Lib.hid hgm
  have HC := Lib.hid hgc
  have hgi : i < gc := by omega
  have hgi1 : i + 1 < gc := by omega
  clear hsrc D1 D2 D3 ht hw1 hw2 hR1 hRb hf1 hR2 hRb2 hcur1 hgm hgs hgt hBw hR hf hbw hvw
  unfold InsOk
  generalize gs.take i ++ f :: gs.drop i = GS at *
  generalize gs.length = n at *
  generalize fcs [f] = FF at *
  obtain ⟨G, hG⟩ : ∃ G, w.heap.size = G := ⟨_, rfl⟩
  have HGG := Lib.hid hG
  rw [hG] at z1 z2 u1 u2 happ hcp hcq HG HR2 HB
  clear hG
  have g0 : ¬ ((i : Int) = (n : Int)) := by omega
  have g1 : (cap : Int) < (n : Int) + 1 := by omega
  have g2 : IntKind.i64.wrap ((i : Int) + 1) = (i : Int) + 1 := IntWalk.i64_in _ (by omega)
  have g3 : IntKind.i64.wrap ((n : Int) + 1) = (n : Int) + 1 := IntWalk.i64_in _ (by omega)
  have g4 : IntKind.i64.wrap ((n : Int) + 1 - (i : Int)) = (n : Int) + 1 - (i : Int) := IntWalk.i64_in _ (by omega)
  go_enter Try.func38, Try.ntmps38
  go_wp2_with (first
    | (at_builtin; refine Lib.wpList_append_run _ (by rfl) _ _ _ _ rfl _ _ rfl rfl _ _ (happ _) ?_)
    | (at_builtin; refine wpl_copy_run _ (by rfl) _ _ _ _ rfl _ _ rfl rfl (hcp _) ?_)
    | fail)
  refine wp_region_held_drew (S := fun _ => True) (by kernel_rfl) (trivial) (fun hHeld => ?_)
  refine takeH (i := 0) (v := .slice (some ⟨G, 0, none⟩) (n + 1) gc) rfl (by kernel_rfl) (by kernel_rfl) (by kernel_rfl) (fun _ _ _ h => h) (Or.inl ⟨by rfl, fun w hSw => ?_⟩) hHeld ?_
  · (clear hSw; go_simp)
  simp only [Act.put, List.setIfInBounds_toArray, List.set_cons_zero, List.set_cons_succ]
  refine takeH (i := 1) (v := .int .i64 i) rfl (by kernel_rfl) (by kernel_rfl) (by kernel_rfl) (fun _ _ _ h => h) (Or.inl ⟨by rfl, fun w hSw => ?_⟩) hHeld ?_
  · (clear hSw; go_simp)
  simp only [Act.put, List.setIfInBounds_toArray, List.set_cons_zero, List.set_cons_succ]
  refine takeH (i := 2) (v := .int .i64 1) rfl (by kernel_rfl) (by kernel_rfl) (by kernel_rfl) (fun _ _ _ h => h) (Or.inl ⟨by rfl, fun w hSw => ?_⟩) hHeld ?_
  · (clear hSw; go_simp)
  simp only [Act.put, List.setIfInBounds_toArray, List.set_cons_zero, List.set_cons_succ]
  refine takeH (i := 3) (v := .int .i64 ((i : Int) + 1)) rfl (by kernel_rfl) (by kernel_rfl) (by kernel_rfl) (fun _ _ _ h => h) (Or.inl ⟨by rfl, fun w hSw => ?_⟩) hHeld ?_
  · (clear hSw; go_simp)
  simp only [Act.put, List.setIfInBounds_toArray, List.set_cons_zero, List.set_cons_succ]
  refine takeH (i := 4) (v := .slice (some ⟨G, (i + 1) * 12, none⟩) (n + 1 - (i + 1)) (gc - (i + 1))) rfl (by kernel_rfl) (by kernel_rfl) (by kernel_rfl) (fun _ _ _ h => h) (Or.inl ⟨by rfl, fun w hSw => ?_⟩) hHeld ?_
  · (clear hSw; go_simp)
  simp only [Act.put, List.setIfInBounds_toArray, List.set_cons_zero, List.set_cons_succ]
  refine takeH (i := 5) (v := .slice (some ⟨b, 0, none⟩) n cap) rfl (by kernel_rfl) (by kernel_rfl) (by kernel_rfl) (fun _ _ _ h => h) (Or.inl ⟨by rfl, fun w hSw => ?_⟩) hHeld ?_
  · (clear hSw; go_simp)
  simp only [Act.put, List.setIfInBounds_toArray, List.set_cons_zero, List.set_cons_succ]
  refine takeH (i := 6) (v := .int .i64 i) rfl (by kernel_rfl) (by kernel_rfl) (by kernel_rfl) (fun _ _ _ h => h) (Or.inl ⟨by rfl, fun w hSw => ?_⟩) hHeld ?_
  · (clear hSw; go_simp)
  simp only [Act.put, List.setIfInBounds_toArray, List.set_cons_zero, List.set_cons_succ]
  refine takeH (i := 7) (v := .slice (some ⟨b, i * 12, none⟩) (n - i) (cap - i)) rfl (by kernel_rfl) (by kernel_rfl) (by kernel_rfl) (fun _ _ _ h => h) (Or.inl ⟨by rfl, fun w hSw => ?_⟩) hHeld ?_
  · (clear hSw; go_simp)
  simp only [Act.put, List.setIfInBounds_toArray, List.set_cons_zero, List.set_cons_succ]
  refine wpAnyH_ready (rs := [8]) (by kernel_rfl) (by simp) ?_
  refine AllReadyH.cons rfl (fun K hK => ?_) AllReadyH.nil
  refine step_copy_run (by rfl) (.tmp 50) (.tmp 53) 29 29 (by rfl) _ _ (by rfl) (by rfl) (hcq _) ?_
  clear hHeld
  refine hK.out _ _ trivial (fun hHeld => ?_)
  clear hK K
  simp only [Act.put, List.setIfInBounds_toArray, List.set_cons_zero, List.set_cons_succ]
  refine wpAnyH_done (by kernel_rfl) ?_ _
  clear hHeld
  go_wp2
  go_ret
  refine ⟨_, rfl, ?_, HG.out _, .inr ?_⟩
  · exact Fown.mk_ HB.out (HR2.out.set _) HL.out HC.out HM.out HD3.out HD1.out
  · show some G = _
    rw [HGG.out]

/-- All ways together. -/
theorem insert_any {w : World} {B i : Nat} {v : Value} {gs : List Fr} {f : Fr} {vb : Nat} (h : Fown w B v gs) (hi : i ≤ gs.length) (hn : gs.length ≤ 1000) (hB : B ≤ w.heap.size) (hf : Rw w vb (fcs [f]).toArray) (hne : v.ownBlock ≠ some vb) :
    Calls Try.prog 38 #[v, .int .i64 i, .slice (some ⟨vb, 0, none⟩) 1 1] w (InsOk w B v gs f i) := by
  rcases Nat.lt_or_ge i gs.length with hlt | hge
  · obtain ⟨b, cap, cur, rfl, hbB, hR, hc, hm, hs, ht⟩ := h.open_ (by intro e; rw [e] at hlt; simp at hlt)
    rcases Nat.lt_or_ge cap (gs.length + 1) with hcap | hcap
    · exact insert_grow hlt hn hB hR hc hcap ht hf
    · exact insert_room hlt hn hbB hR hcap hm hs ht hf (fun e => hne (by rw [e]; rfl))
  · obtain rfl : i = gs.length := by omega
    exact insert_end h hn hB hf
end Go.Proofs.Ytldhnbohpnkcpaa
