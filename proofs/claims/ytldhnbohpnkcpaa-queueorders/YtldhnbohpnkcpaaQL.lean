/- The contract of insert. -/
import Derived.Test.YtldhnbohpnkcpaaQK
import Derived.Test.YtldhnbohpnkcpaaQM
namespace Go.Proofs.Ytldhnbohpnkcpaa
open Go.RowKit
set_option linter.unusedSimpArgs false

theorem Fown.setq {w : World} {B g : Nat} {u x : Value} {gs : List Fr} (h : Fown w B u gs) (hne : u.ownBlock ≠ some g) (k : Nat) : Fown (w.setCell ⟨g, k, none⟩ x) B u gs := by
  have hg : w.grownBy (w.setCell ⟨g, k, none⟩ x) (some g) := ⟨rfl, rfl, rfl, by simp [World.setCell], fun j _ hj => Below.heap_setCell w ⟨g, k, none⟩ x j (fun e => hj (by rw [e]))⟩
  exact World.ownsRow.kept h hg (.inr hne)
theorem Fown.lt2 {w : World} {B : Nat} {v : Value} {gs : List Fr} (h : Fown w B v gs) : ∀ k, v.ownBlock = some k → k < w.heap.size := fun k hk => (World.ownsRow.lt h k hk).2
/-- What insert's region sees beside the queue. -/
def Side9 (w : World) (gf gr g : Nat) (f : Fr) : Prop := Fb w gf f ∧ w.heap[gr]? = some (.cells #[.pointer (some ⟨g, 0, none⟩)] 62)
theorem Side9.keep {w w' : World} {gf gr g : Nat} {f : Fr} (h : Side9 w gf gr g f) (h1 : w'.heap[gf]? = w.heap[gf]?) (h2 : w'.heap[gr]? = w.heap[gr]?) : Side9 w' gf gr g f := ⟨h1.trans h.1, h2.trans h.2⟩
theorem Side9.lt {w : World} {gf gr g : Nat} {f : Fr} (h : Side9 w gf gr g f) : gf < w.heap.size ∧ gr < w.heap.size := ⟨h.1.lt, (Array.getElem?_eq_some_iff.1 h.2).1⟩
theorem Side9.alloc {w : World} {gf gr g : Nat} {f : Fr} (h : Side9 w gf gr g f) (o : Obj) : Side9 (w.alloc o) gf gr g f := h.keep (heap_alloc_old w o (r := gf) h.lt.1) (heap_alloc_old w o (r := gr) h.lt.2)

/-- Behind the last store. -/
theorem insert_last {w w3 w5 : World} {B g : Nat} {v u : Value} {m : Int} {gs ys : List Fr} {o : Obj} (hq : Que w B g v m gs) (hb3 : Below w.heap.size w w3) (hU : Fown w5 B u ys) (hG : (w3.alloc o).drew.grownBy w5 v.ownBlock) (hL : Lies (w3.alloc o).drew v u) :
    Que (w5.setCell ⟨g, 0, none⟩ u) B g u m ys ∧ Turn g v u w (w5.setCell ⟨g, 0, none⟩ u) := by
  have hgl := hq.lt
  have hsz : (w3.alloc o).drew.heap.size = w3.heap.size + 1 := by show (w3.alloc o).heap.size = _; simp
  have hle := hb3.size
  have hq5 : Qb w5 g v m := by
    refine (hG.block g (by omega) fun e => hq.own.notq hq.q e.symm).trans ?_
    refine (heap_alloc_old w3 o (r := g) (by omega)).trans ?_
    exact (hb3.block g hgl).trans hq.q
  have hnu := hU.notq hq5
  refine ⟨⟨hq5.put u, hU.setq hnu 0, hq.at_⟩, ⟨hG.os.trans hb3.os, hG.tape.trans hb3.tape, hG.output.trans hb3.output, ?_, fun k hk hne hkv => ?_, ?_⟩⟩
  · have h2 := hG.size
    have : (w5.setCell ⟨g, 0, none⟩ u).heap.size = w5.heap.size := by simp [World.setCell]
    omega
  · refine (Below.heap_setCell w5 ⟨g, 0, none⟩ u k hne).trans ?_
    refine (hG.block k (by omega) hkv).trans ?_
    refine (heap_alloc_old w3 o (r := k) (by omega)).trans ?_
    exact hb3.block k hk
  · rcases hL with e | e
    · exact .inl e
    · refine .inr fun k hk => ?_
      rw [e] at hk
      injection hk with hk
      omega

set_option maxHeartbeats 3200000 in
set_option maxRecDepth 100000 in
theorem insert_q {w : World} {B g : Nat} {v : Value} {m : Int} {gs : List Fr} {f : Fr} (hq : Que w B g v m gs) (hok : Okq gs) (hf : f.may = true) (hn : gs.length ≤ 1000) (hB : B ≤ w.heap.size) :
    Calls Try.prog 29 #[.pointer (some ⟨g, 0, none⟩), f.val] w fun e w' => ∃ u, e = .returned (.tuple #[]) ∧ Que w' B g u m (ins f gs) ∧ Turn g v u w w' := by
  obtain ⟨A, c, hv, hfl, hcap⟩ := hq.fl
  subst hv
  have hgl := hq.lt
  have hrl := hq.own.lt2
  have hbel2 : Below w.heap.size w ((w.alloc (.cells #[.pointer (some ⟨g, 0, none⟩)] 62)).alloc (.cells f.cells 34)) := alloc2 w _ _
  have HS2 := Lib.hid (show Sees9 ((w.alloc (.cells #[.pointer (some ⟨g, 0, none⟩)] 62)).alloc (.cells f.cells 34)) (w.heap.size + 1) w.heap.size g f A gs.length c m (fun j => gs.getD j Fr.zero) from
    ⟨by have := fb_new (w.alloc (.cells #[.pointer (some ⟨g, 0, none⟩)] 62)) f; simpa using this,
     (heap_alloc_old _ _ (by simp)).trans (heap_alloc_new w _), hq.q.next hbel2, hfl.below hbel2⟩)
  have HQ := Lib.hid hq; have HOK := Lib.hid hok; have HF := Lib.hid hf; have HN := Lib.hid hn; have HBW := Lib.hid hB; have HRL := Lib.hid hrl
  have HB2 := Lib.hid hbel2
  have HMAY := Lib.hid (show ∀ k, k < gs.length → (gs.getD k Fr.zero).may = true from fun k hk => by rw [getD_get hk]; exact hok.2 _ (List.getElem_mem hk))
  have HUP := Lib.hid (show ∀ a b, a ≤ b → b < gs.length → (gs.getD a Fr.zero).plc ≤ (gs.getD b Fr.zero).plc from fun a b h1 h2 => upq_get hok.1 h1 h2)
  have q2 := HS2.out.q.row
  have hmf : ∀ (fn : Fn) (first cap : Array Value) (w : World), (Instr.makeFunc fn first cap).run Try.prog w = .ok (.func fn first cap) w := fun _ _ _ _ => rfl
  clear hq hfl hok hf hn hB hbel2
  go_enter Try.func29, Try.ntmps29
  go_wp2_with fail
  refine (search_any HS2.out HF.out HMAY.out HUP.out HN.out).mono ?_
  rintro e w3 ⟨r, rfl, hr, hlo, hhi, hb3⟩
  have HI := Lib.hid (show ins f gs = gs.take r ++ f :: gs.drop r by unfold ins; rw [sits_of hr hlo hhi])
  have HS3 := Lib.hid (HS2.out.below hb3)
  have HB3 := Lib.hid (nxt HB2.out hb3)
  have HR := Lib.hid hr
  have hsz3 := hb3.size
  have HSZ := Lib.hid (show w.heap.size + 2 ≤ w3.heap.size by simp at hsz3; omega)
  clear hb3 hlo hhi hr q2 hsz3
  go_wp2_with fail
  refine wp_region_held_drew (S := fun w' => Side9 w' (w.heap.size + 1) w.heap.size g f) (by kernel_rfl) (show Side9 w3.drew _ _ _ _ from ⟨HS3.out.fr, HS3.out.rw_⟩) (fun hHeld => ?_)
  refine takeH (i := 0) (v := .pointer (some ⟨g, 0, none⟩)) rfl (by kernel_rfl) (by kernel_rfl) (by kernel_rfl) (fun _ _ _ h => h) (Or.inl ⟨by rfl, fun w' hSw => ?_⟩) hHeld ?_
  · (have r0 := cell_of_row _ _ 0 _ _ (0, 0) hSw.2; clear hSw; go_simp)
  simp only [Act.put, List.setIfInBounds_toArray, List.set_cons_zero, List.set_cons_succ]
  refine takeH (i := 1) (v := .pointer (some ⟨g, 0, none⟩)) rfl (by kernel_rfl) (by kernel_rfl) (by kernel_rfl) (fun _ _ _ h => h) (Or.inl ⟨by rfl, fun w' hSw => ?_⟩) hHeld ?_
  · (have r0 := cell_of_row _ _ 0 _ _ (0, 0) hSw.2; clear hSw; go_simp)
  simp only [Act.put, List.setIfInBounds_toArray, List.set_cons_zero, List.set_cons_succ]
  refine takeH (i := 2) (v := .pointer (some ⟨g, 0, none⟩)) rfl (by kernel_rfl) (by kernel_rfl) (by kernel_rfl) (fun _ _ _ h => h) (Or.inl ⟨by rfl, fun w' hSw => ?_⟩) hHeld ?_
  · (clear hSw; go_simp)
  simp only [Act.put, List.setIfInBounds_toArray, List.set_cons_zero, List.set_cons_succ]
  refine takeH (i := 3) (v := .pointer (some ⟨g, 0, none⟩)) rfl (by kernel_rfl) (by kernel_rfl) (by kernel_rfl) (fun _ _ _ h => h) (Or.inl ⟨by rfl, fun w' hSw => ?_⟩) hHeld ?_
  · (clear hSw; go_simp)
  simp only [Act.put, List.setIfInBounds_toArray, List.set_cons_zero, List.set_cons_succ]
  refine takeH (i := 5) (v := .int .i64 r) rfl (by kernel_rfl) (by kernel_rfl) (by kernel_rfl) (fun _ _ _ h => h) (Or.inl ⟨by rfl, fun w' hSw => ?_⟩) hHeld ?_
  · (clear hSw; go_simp)
  simp only [Act.put, List.setIfInBounds_toArray, List.set_cons_zero, List.set_cons_succ]
  refine takeH (i := 6) (v := f.val) rfl (by kernel_rfl) (by kernel_rfl) (by kernel_rfl) (fun _ _ _ h => h) (Or.inl ⟨by rfl, fun w' hSw => ?_⟩) hHeld ?_
  · (obtain ⟨c0, c1, c2, c3, c4, c5, c6, c7, c8, c9, c10, c11⟩ := hSw.1.bx; clear hSw; go_simp)
  simp only [Act.put, List.setIfInBounds_toArray, List.set_cons_zero, List.set_cons_succ]
  have q3 := HS3.out.drew.q.row
  refine wpAnyH_ready (rs := [4, 7]) (by kernel_rfl) (by simp) ?_
  have hW4 : (w3.alloc (.cells f.cells 34)).drew.heap.size = w3.heap.size + 1 := by show (w3.alloc _).heap.size = _; simp
  have HO4 := Lib.hid (show Fown (w3.alloc (.cells f.cells 34)).drew B (.slice A gs.length c) gs from Fown.drew (Fown.alloc (Fown.below HQ.out.own HB3.out) _))
  have HB4 := Lib.hid (show B ≤ (w3.alloc (.cells f.cells 34)).drew.heap.size by rw [hW4]; have := HBW.out; have := HSZ.out; omega)
  have HV4 := Lib.hid (show Rw (w3.alloc (.cells f.cells 34)).drew w3.heap.size (fcs [f]).toArray from by rw [fcs_one_]; exact heap_alloc_new w3 _)
  have HNE := Lib.hid (show (Value.slice A gs.length c).ownBlock ≠ some w3.heap.size from fun e => by have h1 := HRL.out _ e; have h2 := HSZ.out; omega)
  have HQ5 : ∀ w5 : World, (w3.alloc (.cells f.cells 34)).drew.grownBy w5 (Value.slice A gs.length c).ownBlock → Qb w5 g (.slice A gs.length c) m := fun w5 hG => by
    have h2 := HSZ.out
    refine (hG.block g (by rw [hW4]; omega) fun e => HQ.out.own.notq HQ.out.q e.symm).trans ?_
    refine (heap_alloc_old w3 _ (r := g) (by omega)).trans ?_
    exact (HB3.out.block g hgl).trans HQ.out.q
  refine AllReadyH.cons rfl (fun K hK => ?_) (AllReadyH.cons rfl (fun K hK => ?_) AllReadyH.nil)
  · go_simp
    refine hK.out _ _ hHeld (fun hHeld => ?_)
    clear hK K
    try simp only [Act.put, List.setIfInBounds_toArray, List.set_cons_zero, List.set_cons_succ]
    refine wpAnyH_ready (rs := [7]) (by kernel_rfl) (by simp) ?_
    refine AllReadyH.cons rfl (fun K hK => ?_) AllReadyH.nil
    go_simp
    refine hK.out _ _ (show Side9 (w3.alloc (.cells f.cells 34)) _ _ _ _ from Side9.alloc (w := w3) hHeld _) (fun hHeld => ?_)
    clear hK K
    try simp only [Act.put, List.setIfInBounds_toArray, List.set_cons_zero, List.set_cons_succ]
    have HSW := Lib.hid hHeld
    refine wpAnyH_ready (rs := [8]) (by kernel_rfl) (by simp) ?_
    refine AllReadyH.cons rfl (fun K hK => ?_) AllReadyH.nil
    go_simp
    refine (insert_any (f := f) (vb := w3.heap.size) (i := r) (gs := gs) (B := B) (v := .slice A gs.length c) HO4.out HR.out HN.out HB4.out HV4.out HNE.out).mono ?_
    rintro e w5 ⟨u, rfl, hu, hg5, hl5⟩
    rw [← HI.out] at hu
    have HU := Lib.hid hu; have HG5 := Lib.hid hg5; have HL5 := Lib.hid hl5
    clear hu hg5 hl5
    have HFIN := Lib.hid (insert_last HQ.out HB3.out HU.out HG5.out HL5.out)
    clear hHeld
    dsimp only
    refine hK.out _ _ (HSW.out.keep (HG5.out.block _ (by have := HSW.out.lt.1; omega) (fun e => by have := HRL.out _ e.symm; omega)) (HG5.out.block _ (by have := HSW.out.lt.2; omega) (fun e => by have := HRL.out _ e.symm; omega))) (fun hHeld => ?_)
    clear hK K
    try simp only [Act.put, List.setIfInBounds_toArray, List.set_cons_zero, List.set_cons_succ]
    obtain ⟨A5, n5, c5, rfl⟩ : ∃ A5 n5 c5, u = .slice A5 n5 c5 := by obtain ⟨A5, c5, e5, _⟩ := HU.out.fl; exact ⟨A5, _, c5, e5⟩
    have hq5 := HFIN.out.1.q
    have k5 : w5.cell? ⟨g, 0, none⟩ = some (.slice A gs.length c) := cell_of_row w5 g 0 _ _ (0, 0) (HQ5 w5 HG5.out)
    have f5 : w5.frozen? ⟨g, 0, none⟩ = false := (show Qb w5 g (.slice A gs.length c) m from HQ5 w5 HG5.out).frozen 0
    refine takeH (i := 9) (v := .pointer (some ⟨g, 0, none⟩)) rfl (by kernel_rfl) (by kernel_rfl) (by kernel_rfl) (fun _ _ _ h => h) (Or.inl ⟨by rfl, fun w' hSw => ?_⟩) hHeld ?_
    · (clear hSw; go_simp)
    simp only [Act.put, List.setIfInBounds_toArray, List.set_cons_zero, List.set_cons_succ]
    refine takeH (i := 10) (v := .pointer (some ⟨g, 0, none⟩)) rfl (by kernel_rfl) (by kernel_rfl) (by kernel_rfl) (fun _ _ _ h => h) (Or.inl ⟨by rfl, fun w' hSw => ?_⟩) hHeld ?_
    · (clear hSw; go_simp)
    simp only [Act.put, List.setIfInBounds_toArray, List.set_cons_zero, List.set_cons_succ]
    have HSV := Lib.hid hHeld
    refine wpAnyH_ready (rs := [11]) (by kernel_rfl) (by simp) ?_
    refine AllReadyH.cons rfl (fun K hK => ?_) AllReadyH.nil
    clear hHeld hq5
    go_simp
    refine hK.out _ _ (HSV.out.keep (Below.heap_setCell w5 ⟨g, 0, none⟩ _ _ (by show w.heap.size + 1 ≠ g; omega)) (Below.heap_setCell w5 ⟨g, 0, none⟩ _ _ (by show w.heap.size ≠ g; omega))) (fun hHeld => ?_)
    clear hK K
    try simp only [Act.put, List.setIfInBounds_toArray, List.set_cons_zero, List.set_cons_succ]
    refine wpAnyH_done (by kernel_rfl) ?_ _
    clear hHeld
    go_wp2
    go_end0
    exact ⟨_, rfl, HFIN.out.1, HFIN.out.2⟩
  · go_simp
    refine hK.out _ _ (show Side9 (w3.alloc (.cells f.cells 34)) _ _ _ _ from Side9.alloc (w := w3) hHeld _) (fun hHeld => ?_)
    clear hK K
    try simp only [Act.put, List.setIfInBounds_toArray, List.set_cons_zero, List.set_cons_succ]
    have q4 : (w3.alloc (.cells f.cells 34)).drew.cell? ⟨g, 0, none⟩ = some (.slice A gs.length c) := (World.cell?_alloc_some w3 _ _ (by rw [show w3.cell? _ = _ from q3]; rfl)).trans q3
    refine wpAnyH_ready (rs := [4]) (by kernel_rfl) (by simp) ?_
    refine AllReadyH.cons rfl (fun K hK => ?_) AllReadyH.nil
    go_simp
    refine hK.out _ _ hHeld (fun hHeld => ?_)
    clear hK K
    try simp only [Act.put, List.setIfInBounds_toArray, List.set_cons_zero, List.set_cons_succ]
    have HSW := Lib.hid hHeld
    refine wpAnyH_ready (rs := [8]) (by kernel_rfl) (by simp) ?_
    refine AllReadyH.cons rfl (fun K hK => ?_) AllReadyH.nil
    go_simp
    refine (insert_any (f := f) (vb := w3.heap.size) (i := r) (gs := gs) (B := B) (v := .slice A gs.length c) HO4.out HR.out HN.out HB4.out HV4.out HNE.out).mono ?_
    rintro e w5 ⟨u, rfl, hu, hg5, hl5⟩
    rw [← HI.out] at hu
    have HU := Lib.hid hu; have HG5 := Lib.hid hg5; have HL5 := Lib.hid hl5
    clear hu hg5 hl5
    have HFIN := Lib.hid (insert_last HQ.out HB3.out HU.out HG5.out HL5.out)
    clear hHeld
    dsimp only
    refine hK.out _ _ (HSW.out.keep (HG5.out.block _ (by have := HSW.out.lt.1; omega) (fun e => by have := HRL.out _ e.symm; omega)) (HG5.out.block _ (by have := HSW.out.lt.2; omega) (fun e => by have := HRL.out _ e.symm; omega))) (fun hHeld => ?_)
    clear hK K
    try simp only [Act.put, List.setIfInBounds_toArray, List.set_cons_zero, List.set_cons_succ]
    obtain ⟨A5, n5, c5, rfl⟩ : ∃ A5 n5 c5, u = .slice A5 n5 c5 := by obtain ⟨A5, c5, e5, _⟩ := HU.out.fl; exact ⟨A5, _, c5, e5⟩
    have hq5 := HFIN.out.1.q
    have k5 : w5.cell? ⟨g, 0, none⟩ = some (.slice A gs.length c) := cell_of_row w5 g 0 _ _ (0, 0) (HQ5 w5 HG5.out)
    have f5 : w5.frozen? ⟨g, 0, none⟩ = false := (show Qb w5 g (.slice A gs.length c) m from HQ5 w5 HG5.out).frozen 0
    refine takeH (i := 9) (v := .pointer (some ⟨g, 0, none⟩)) rfl (by kernel_rfl) (by kernel_rfl) (by kernel_rfl) (fun _ _ _ h => h) (Or.inl ⟨by rfl, fun w' hSw => ?_⟩) hHeld ?_
    · (clear hSw; go_simp)
    simp only [Act.put, List.setIfInBounds_toArray, List.set_cons_zero, List.set_cons_succ]
    refine takeH (i := 10) (v := .pointer (some ⟨g, 0, none⟩)) rfl (by kernel_rfl) (by kernel_rfl) (by kernel_rfl) (fun _ _ _ h => h) (Or.inl ⟨by rfl, fun w' hSw => ?_⟩) hHeld ?_
    · (clear hSw; go_simp)
    simp only [Act.put, List.setIfInBounds_toArray, List.set_cons_zero, List.set_cons_succ]
    have HSV := Lib.hid hHeld
    refine wpAnyH_ready (rs := [11]) (by kernel_rfl) (by simp) ?_
    refine AllReadyH.cons rfl (fun K hK => ?_) AllReadyH.nil
    clear hHeld hq5
    go_simp
    refine hK.out _ _ (HSV.out.keep (Below.heap_setCell w5 ⟨g, 0, none⟩ _ _ (by show w.heap.size + 1 ≠ g; omega)) (Below.heap_setCell w5 ⟨g, 0, none⟩ _ _ (by show w.heap.size ≠ g; omega))) (fun hHeld => ?_)
    clear hK K
    try simp only [Act.put, List.setIfInBounds_toArray, List.set_cons_zero, List.set_cons_succ]
    refine wpAnyH_done (by kernel_rfl) ?_ _
    clear hHeld
    go_wp2
    go_end0
    exact ⟨_, rfl, HFIN.out.1, HFIN.out.2⟩
end Go.Proofs.Ytldhnbohpnkcpaa
