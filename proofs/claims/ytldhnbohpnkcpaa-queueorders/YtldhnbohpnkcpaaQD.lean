/- The contracts of slices.Clone, copied, All, Clone. -/
import Derived.Test.YtldhnbohpnkcpaaQC
import Derived.Lib.SliceRun
namespace Go.Proofs.Ytldhnbohpnkcpaa
open Go.RowKit

theorem undrew {w w' : World} (h : Below w.drew.heap.size w.drew w') : Below w.heap.size w w' := ⟨h.os, h.tape, h.output, h.size, h.block⟩
theorem Fown.fs {w : World} {B : Nat} {A : Option Addr} {n c : Nat} {gs : List Fr} (h : Fown w B (.slice A n c) gs) : Fs w A gs.length gs := by
  refine ⟨rfl, fun hn => ?_⟩
  rcases h.2 with ⟨_, h0⟩ | ⟨g, cap, cur, e, _⟩
  · omega
  · injection e with e1 e2 e3
    subst e1
    exact ⟨_, rfl, fun j u hu => World.ownsRow.cells h (g := g) rfl j u hu⟩

set_option maxHeartbeats 800000 in
theorem sclone_any {w : World} {B : Nat} {v : Value} {gs : List Fr} (h : Fown w B v gs) (hn : gs.length ≤ 1000000) :
    Calls Try.prog 34 #[v] w fun e w' => ∃ u, e = .returned u ∧ Fown w' w.heap.size u gs ∧ Below w.heap.size w w' := by
  rcases h.2 with ⟨rfl, h0⟩ | ⟨g, cap, cur, rfl, hb, hh, hnc, hcm, hcs, hx⟩
  · have hnl : gs = [] := List.eq_nil_of_length_eq_zero h0
    subst hnl
    clear h
    have heq := fun W : World => Go.Lib.run_eql_slice_nil (P := Try.prog) W 29 34 none 0 0 0 0 Try.underlying29
    go_enter Try.func34, Try.ntmps34
    go_wp2
    go_ret
    exact ⟨_, rfl, World.ownsRow_nil _ _ _ _, Below.refl _ _⟩
  · have HO := Lib.hid h
    have hg := (Array.getElem?_eq_some_iff.1 hh).1
    clear h hh hcs hx hcm hb
    have heq := fun W : World => Go.Lib.run_eql_slice_nil (P := Try.prog) W 29 34 (some ⟨g, 0, none⟩) gs.length cap 0 0 Try.underlying29
    have HF := Lib.hid (Fown.nil w w.heap.size (Nat.le_refl _))
    have HS := Lib.hid ((HO.out.below ((Below.refl _ _).alloc (Nat.le_refl _) (.cells #[] 34))).fs)
    have HN := Lib.hid hn
    clear hn
    go_enter Try.func34, Try.ntmps34
    go_wp2_with (first | (at_builtin; refine append_F _ (by rfl) _ _ rfl w.heap.size _ [] rfl HF.out _ _ _ gs rfl HS.out (by have := HN.out; simp; omega) (by simp) ?_; intro v' w' h1 h2 h3) | fail)
    go_wp2
    go_ret
    exact ⟨_, rfl, by simpa using h1, Below.grown ((Below.refl _ _).alloc (Nat.le_refl _) _) h2 (by simp) (fun k hk => by injection hk with hk; have hk : w.heap.size = k := hk; omega)⟩
set_option maxHeartbeats 400000 in
theorem copied_q {w : World} {B g : Nat} {v : Value} {m : Int} {gs : List Fr} (hq : Que w B g v m gs) (hn : gs.length ≤ 1000000) :
    Calls Try.prog 27 #[.pointer (some ⟨g, 0, none⟩)] w fun e w' => ∃ u, e = .returned u ∧ Fown w' w.heap.size u gs ∧ Below w.heap.size w w' := by
  have q0 := hq.q.row
  have HQ := Lib.hid hq
  have HN := Lib.hid hn
  clear hq hn
  go_enter Try.func27, Try.ntmps27
  go_wp2_with fail
  refine (sclone_any HQ.out.own HN.out).mono ?_
  rintro e w1 ⟨u, rfl, h1, h2⟩
  go_wp2
  go_ret
  exact ⟨_, rfl, h1, h2⟩
set_option maxHeartbeats 400000 in
theorem all_q {w : World} {B g : Nat} {v : Value} {m : Int} {gs : List Fr} (hq : Que w B g v m gs) (hn : gs.length ≤ 1000000) :
    Calls Try.prog 14 #[.pointer (some ⟨g, 0, none⟩)] w fun e w' => ∃ u, e = .returned u ∧ Fown w' w.heap.size u gs ∧ Below w.heap.size w w' := by
  have HQ := Lib.hid hq
  have HN := Lib.hid hn
  clear hq hn
  go_enter Try.func14, Try.ntmps14
  go_wp2_with fail
  refine (copied_q HQ.out HN.out).mono ?_
  rintro e w1 ⟨u, rfl, h1, h2⟩
  go_wp2
  go_ret
  exact ⟨_, rfl, h1, h2⟩
theorem all_nil (w : World) : Calls Try.prog 14 #[.pointer none] w fun e w' => e = .returned (.slice none 0 0) ∧ w' = w := by
  go_enter Try.func14, Try.ntmps14
  go_wp2
  go_ret
  exact ⟨rfl, rfl⟩
theorem clone_nil (w : World) : Calls Try.prog 22 #[.pointer none] w fun e w' => e = .returned (.pointer none) ∧ w' = w := by
  go_enter Try.func22, Try.ntmps22
  go_wp2
  go_ret
  exact ⟨rfl, rfl⟩
set_option maxHeartbeats 1600000 in
set_option maxRecDepth 100000 in
theorem clone_q {w : World} {B g : Nat} {v : Value} {m : Int} {gs : List Fr} (hq : Que w B g v m gs) (hn : gs.length ≤ 1000000) :
    Calls Try.prog 22 #[.pointer (some ⟨g, 0, none⟩)] w fun e w' => ∃ g' u, e = .returned (.pointer (some ⟨g', 0, none⟩)) ∧ Que w' w.heap.size g' u m gs ∧ Below w.heap.size w w' := by
  have HQ := Lib.hid hq
  have HN := Lib.hid hn
  clear hq hn
  go_enter Try.func22, Try.ntmps22
  go_wp2_with fail
  refine wp_region_held_drew (S := fun w' => Qb w' g v m) (by kernel_rfl) (HQ.out.q) (fun hHeld => ?_)
  refine takeH (i := 0) (v := .pointer (some ⟨g, 0, none⟩)) rfl (by kernel_rfl) (by kernel_rfl) (by kernel_rfl) (fun _ _ _ h => h) (Or.inl ⟨by rfl, fun w hSw => ?_⟩) hHeld ?_
  · (clear hSw; go_simp)
  simp only [Act.put, List.setIfInBounds_toArray, List.set_cons_zero, List.set_cons_succ]
  refine takeH (i := 1) (v := .pointer (some ⟨g, 0, none⟩)) rfl (by kernel_rfl) (by kernel_rfl) (by kernel_rfl) (fun _ _ _ h => h) (Or.inl ⟨by rfl, fun w hSw => ?_⟩) hHeld ?_
  · (clear hSw; go_simp)
  simp only [Act.put, List.setIfInBounds_toArray, List.set_cons_zero, List.set_cons_succ]
  refine takeH (i := 2) (v := .pointer (some ⟨g, 0, none⟩)) rfl (by kernel_rfl) (by kernel_rfl) (by kernel_rfl) (fun _ _ _ h => h) (Or.inl ⟨by rfl, fun w hSw => ?_⟩) hHeld ?_
  · (clear hSw; go_simp)
  simp only [Act.put, List.setIfInBounds_toArray, List.set_cons_zero, List.set_cons_succ]
  refine takeH (i := 5) (v := .pointer (some ⟨g, 0, none⟩)) rfl (by kernel_rfl) (by kernel_rfl) (by kernel_rfl) (fun _ _ _ h => h) (Or.inl ⟨by rfl, fun w hSw => ?_⟩) hHeld ?_
  · (clear hSw; go_simp)
  simp only [Act.put, List.setIfInBounds_toArray, List.set_cons_zero, List.set_cons_succ]
  refine takeH (i := 6) (v := .pointer (some ⟨g, 0, none⟩)) rfl (by kernel_rfl) (by kernel_rfl) (by kernel_rfl) (fun _ _ _ h => h) (Or.inl ⟨by rfl, fun w hSw => ?_⟩) hHeld ?_
  · (clear hSw; go_simp)
  simp only [Act.put, List.setIfInBounds_toArray, List.set_cons_zero, List.set_cons_succ]
  refine takeH (i := 7) (v := .pointer (some ⟨g, 1, none⟩)) rfl (by kernel_rfl) (by kernel_rfl) (by kernel_rfl) (fun _ _ _ h => h) (Or.inl ⟨by rfl, fun w hSw => ?_⟩) hHeld ?_
  · (clear hSw; go_simp)
  simp only [Act.put, List.setIfInBounds_toArray, List.set_cons_zero, List.set_cons_succ]
  refine takeH (i := 8) (v := .int .i64 m) rfl (by kernel_rfl) (by kernel_rfl) (by kernel_rfl) (fun _ _ _ h => h) (Or.inl ⟨by rfl, fun w hSw => ?_⟩) hHeld ?_
  · (have q1 := hSw.most; clear hSw; go_simp)
  simp only [Act.put, List.setIfInBounds_toArray, List.set_cons_zero, List.set_cons_succ]
  refine wpAnyH_ready (rs := [3]) (by kernel_rfl) (by simp) ?_
  refine AllReadyH.cons rfl (fun K hK => ?_) AllReadyH.nil
  go_simp
  refine (copied_q HQ.out.drew HN.out).mono ?_
  rintro e w1 ⟨u, rfl, hu, hb1⟩
  obtain ⟨A, c, rfl, -, -⟩ := hu.fl
  have HU := Lib.hid hu
  have HB := Lib.hid (undrew hb1)
  clear hu hb1
  clear hHeld
  dsimp only
  refine hK.out _ _ (HQ.out.q.next HB.out) (fun hHeld => ?_)
  clear hK K
  try simp only [Act.put, List.setIfInBounds_toArray, List.set_cons_zero, List.set_cons_succ]
  refine takeH (i := 4) (v := .agg #[.slice A gs.length c]) rfl (by kernel_rfl) (by kernel_rfl) (by kernel_rfl) (fun _ _ _ h => h) (Or.inl ⟨by rfl, fun w hSw => ?_⟩) hHeld ?_
  · (clear hSw; go_simp)
  simp only [Act.put, List.setIfInBounds_toArray, List.set_cons_zero, List.set_cons_succ]
  refine takeH (i := 9) (v := .agg #[.slice A gs.length c, .int .i64 m]) rfl (by kernel_rfl) (by kernel_rfl) (by kernel_rfl) (fun _ _ _ h => h) (Or.inl ⟨by rfl, fun w hSw => ?_⟩) hHeld ?_
  · (clear hSw; go_simp)
  simp only [Act.put, List.setIfInBounds_toArray, List.set_cons_zero, List.set_cons_succ]
  refine wpAnyH_ready (rs := [10]) (by kernel_rfl) (by simp) ?_
  refine AllReadyH.cons rfl (fun K hK => ?_) AllReadyH.nil
  go_simp
  refine hK.out _ _ ((HQ.out.q.next HB.out).next ((Below.refl _ _).alloc (Nat.le_refl _) _)) (fun hHeld => ?_)
  clear hK K
  try simp only [Act.put, List.setIfInBounds_toArray, List.set_cons_zero, List.set_cons_succ]
  refine takeH (i := 11) (v := .pointer (some ⟨w1.heap.size, 0, none⟩)) rfl (by kernel_rfl) (by kernel_rfl) (by kernel_rfl) (fun _ _ _ h => h) (Or.inl ⟨by rfl, fun w hSw => ?_⟩) hHeld ?_
  · (clear hSw; go_simp)
  simp only [Act.put, List.setIfInBounds_toArray, List.set_cons_zero, List.set_cons_succ]
  refine wpAnyH_done (by kernel_rfl) ?_ _
  clear hHeld
  go_wp2
  go_ret
  have hb : Below w.heap.size w (w1.alloc (.cells #[.slice A gs.length c, .int .i64 m] 53)) := Below.alloc HB.out HB.out.size _
  exact ⟨_, .slice A gs.length c, rfl, ⟨qb_new w1 _ m, Fown.alloc HU.out _, HB.out.size⟩, hb⟩
end Go.Proofs.Ytldhnbohpnkcpaa
