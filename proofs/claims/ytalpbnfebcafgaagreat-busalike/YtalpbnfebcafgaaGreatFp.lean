/- The contract of the closure that puts levels. -/
import Derived.Test.YtalpbnfebcafgaaGreatFi
namespace Go.Proofs.YtalpbnfebcafgaaGreat
set_option maxRecDepth 20000
open Go.RowKit

/-- What a put leaves. -/
def PutTo (w : World) (base gl g1 : Nat) (v : Value) (l : List Int) (w' : World) : Prop :=
  ∃ v', PutSt w' base gl g1 v' l ∧ Below base w w' ∧ ∀ b, Safe w gl v b → Safe w' gl v' b ∧ w'.heap[b]? = w.heap[b]?

theorem put_end {w w2 : World} {base gl g1 : Nat} {v v' : Value} {zs ys : List Int} (st : PutSt w base gl g1 v zs) (ho : Own w2 base v' (zs ++ ys)) (hg : w.drew.grownBy w2 v.ownBlock) (hl : Lies w.drew v v') :
    PutTo w base gl g1 v (zs ++ ys) (w2.setCell ⟨gl, 0, none⟩ v') := by
  have hbg : Below base w w2 := (below_drew (Below.refl base w)).grown hg (Nat.le_trans st.hb (Nat.le_of_lt st.lt)) (fun k hk => st.own.row k hk)
  have hsz : w.heap.size ≤ w2.heap.size := hg.size
  have away : ∀ b, b < w.heap.size → v.ownBlock ≠ some b → v'.ownBlock ≠ some b := fun b hb hne => by
    rcases hl with h | h
    · rw [h]; exact hne
    · rw [h]
      have : w.drew.heap.size = w.heap.size := rfl
      rw [this]
      intro e
      injection e with e
      omega
  have blk : ∀ b, b < w.heap.size → v.ownBlock ≠ some b → w2.heap[b]? = w.heap[b]? := fun b hb hne => hg.block b hb (fun e => hne e.symm)
  have ne' : ∀ b, b ≠ gl → (w2.setCell ⟨gl, 0, none⟩ v').heap[b]? = w2.heap[b]? := fun b hb => by
    simp [World.setCell, Array.getElem?_modify, Ne.symm hb]
  refine ⟨v', ⟨?_, ?_, ?_, ?_, away gl st.lt st.nl, away g1 st.lt1 st.n1, st.ne, st.hb, ?_, ?_⟩, hbg.setCell st.hb v', fun b hs => ⟨⟨?_, hs.ne, away b hs.lt hs.no⟩, ?_⟩⟩
  · have e := blk gl st.lt st.nl
    have c := st.cl
    unfold World.cell? at c ⊢
    simp only [World.setCell, Array.getElem?_modify] at c ⊢
    rw [e]
    revert c
    cases hh : w.heap[gl]? with
    | none => simp
    | some o =>
      cases o with
      | cells cs t fr =>
        simp
        intro c
        rcases Nat.eq_zero_or_pos cs.size with h | h
        · rw [Array.getElem?_eq_none (by omega)] at c; cases c
        · simp [h]
      | _ => simp
  · have e := blk gl st.lt st.nl
    have c := st.fl
    unfold World.frozen? at c ⊢
    simp only [World.setCell, Array.getElem?_modify] at c ⊢
    rw [e]
    revert c
    cases hh : w.heap[gl]? with
    | none => simp
    | some o => cases o <;> simp
  · have e := (ne' g1 (Ne.symm st.ne)).trans (blk g1 st.lt1 st.n1)
    have c := st.c1
    unfold World.cell? at c ⊢
    simp only [e]; exact c
  · have := ho
    unfold Own at this ⊢
    refine ⟨this.1, ?_⟩
    rcases this.2 with h | ⟨g, cap, cur, e, hb, hh, rest⟩
    · exact .inl h
    · refine .inr ⟨g, cap, cur, e, hb, ?_, rest⟩
      have hgl : g ≠ gl := by
        have := away gl st.lt st.nl
        rw [e] at this
        intro h
        apply this
        rw [h]; rfl
      rw [ne' g hgl]; exact hh
  · rw [World.size_setCell]; have := st.lt; omega
  · rw [World.size_setCell]; have := st.lt1; omega
  · rw [World.size_setCell]; have := hs.lt; omega
  · exact (ne' b hs.ne).trans (blk b hs.lt hs.no)

set_option linter.unusedSimpArgs false in
set_option maxRecDepth 100000 in
set_option maxHeartbeats 1600000 in
theorem put_any (base gl g1 : Nat) (v : Value) (zs : List Int) (A : Option Addr) (m c : Nat) (ys : List Int) (x : Int) (w : World) (st : PutSt w base gl g1 v zs) (hr : Il w A m ys) (hlen : zs.length + m ≤ 1000000) :
    Calls Tryz.prog 72 #[.slice A m c, .int .i64 x, .pointer (some ⟨g1, 0, none⟩)] w fun e w' => e = .returned (.tuple #[]) ∧ PutTo w base gl g1 v (zs ++ ys) w' := by
  have HS := Lib.hid st
  have h1 := Lib.hid st.c1
  have HR := Lib.hid (show Il w.drew A m ys from hr)
  have hcl : w.drew.cell? ⟨gl, 0, none⟩ = some v := st.cl
  have HCL := Lib.hid hcl
  clear st hr hcl
  go_enter Tryz.func72, Tryz.ntmps72
  go_wp2_with fail
  refine wp_region_held_drew (S := fun w' => w'.cell? ⟨g1, 0, none⟩ = some (.pointer (some ⟨gl, 0, none⟩))) (by kernel_rfl) h1.out (fun hHeld => ?_)
  refine takeH (i := 0) (v := .pointer (some ⟨gl, 0, none⟩)) rfl (by kernel_rfl) (by kernel_rfl) (by kernel_rfl) (fun _ _ _ h => h) (Or.inl ⟨by rfl, fun w hSw => ?_⟩) hHeld ?_
  · go_simp
  simp only [Act.put, List.setIfInBounds_toArray, List.set_cons_zero, List.set_cons_succ]
  refine takeH (i := 1) (v := .pointer (some ⟨gl, 0, none⟩)) rfl (by kernel_rfl) (by kernel_rfl) (by kernel_rfl) (fun _ _ _ h => h) (Or.inl ⟨by rfl, fun w hSw => ?_⟩) hHeld ?_
  · go_simp
  simp only [Act.put, List.setIfInBounds_toArray, List.set_cons_zero, List.set_cons_succ]
  refine takeH (i := 2) (v := .pointer (some ⟨gl, 0, none⟩)) rfl (by kernel_rfl) (by kernel_rfl) (by kernel_rfl) (fun _ _ _ h => h) (Or.inl ⟨by rfl, fun w hSw => ?_⟩) hHeld ?_
  · go_simp
  simp only [Act.put, List.setIfInBounds_toArray, List.set_cons_zero, List.set_cons_succ]
  refine takeH (i := 4) (v := .slice A m c) rfl (by kernel_rfl) (by kernel_rfl) (by kernel_rfl) (fun _ _ _ h => h) (Or.inl ⟨by rfl, fun w hSw => ?_⟩) hHeld ?_
  · go_simp
  simp only [Act.put, List.setIfInBounds_toArray, List.set_cons_zero, List.set_cons_succ]
  refine wpAnyH_ready (rs := [3]) (by kernel_rfl) (by simp) ?_
  refine AllReadyH.cons rfl (fun K hK => ?_) AllReadyH.nil
  have hcl := HCL.out
  go_simp
  clear hHeld hcl
  refine hK.out _ _ h1.out (fun hHeld => ?_)
  clear hK K
  try simp only [Act.put, List.setIfInBounds_toArray, List.set_cons_zero, List.set_cons_succ]
  refine wpAnyH_ready (rs := [5]) (by kernel_rfl) (by simp) ?_
  refine AllReadyH.cons rfl (fun K hK => ?_) AllReadyH.nil
  refine step_append_ints2 _ (by rfl) (.tmp 8) (.tmp 9) (by rfl) base v zs (by rfl) (show Own w.drew base v zs from HS.out.own) A m c ys (by rfl) HR.out hlen (show base ≤ w.drew.heap.size from Nat.le_trans HS.out.hb (Nat.le_of_lt HS.out.lt)) ?_
  intro v' w2 ho hg hl
  obtain ⟨A', cap', rfl, _, _⟩ := ho.il2
  have k1 : w2.cell? ⟨g1, 0, none⟩ = some (.pointer (some ⟨gl, 0, none⟩)) := hg.cell hHeld (fun e => HS.out.n1 e.symm)
  have kl := hg.cell HCL.out (fun e => HS.out.nl e.symm)
  have kf : w2.frozen? ⟨gl, 0, none⟩ = false := by
    have e := hg.block gl HS.out.lt (fun e => HS.out.nl e.symm)
    have f := HS.out.fl
    unfold World.frozen? at f ⊢
    simp only [e]; exact f
  have HE := Lib.hid (put_end HS.out ho hg hl)
  generalize (zs ++ ys).length = n' at *
  clear hHeld ho hg hl
  refine hK.out _ _ k1 (fun hHeld => ?_)
  clear hK K
  try simp only [Act.put, List.setIfInBounds_toArray, List.set_cons_zero, List.set_cons_succ]
  refine takeH (i := 6) (v := .pointer (some ⟨gl, 0, none⟩)) rfl (by kernel_rfl) (by kernel_rfl) (by kernel_rfl) (fun _ _ _ h => h) (Or.inl ⟨by rfl, fun w hSw => ?_⟩) hHeld ?_
  · go_simp
  simp only [Act.put, List.setIfInBounds_toArray, List.set_cons_zero, List.set_cons_succ]
  refine wpAnyH_ready (rs := [7]) (by kernel_rfl) (by simp) ?_
  refine AllReadyH.cons rfl (fun K hK => ?_) AllReadyH.nil
  go_simp
  have k2 : (w2.setCell ⟨gl, 0, none⟩ (.slice A' n' cap')).cell? ⟨g1, 0, none⟩ = some (.pointer (some ⟨gl, 0, none⟩)) := by
    obtain ⟨_, st, _⟩ := HE.out
    exact st.c1
  clear hHeld
  refine hK.out _ _ k2 (fun hHeld => ?_)
  clear hK K
  try simp only [Act.put, List.setIfInBounds_toArray, List.set_cons_zero, List.set_cons_succ]
  refine wpAnyH_done (by kernel_rfl) ?_ _
  clear hHeld
  go_wp2
  go_end0
  exact ⟨rfl, HE.out⟩
end Go.Proofs.YtalpbnfebcafgaaGreat
