/- The cells of rows of frames that are laid anew, and the contract of slices.Delete. -/
import Derived.Test.YtldhnbohpnkcpaaQF
namespace Go.Proofs.Ytldhnbohpnkcpaa
open Go.RowKit
set_option linter.unusedSimpArgs false

section
variable {cur : Array Value} {o k : Nat} {cs : List Value}
theorem laid_lo (hk : k ≤ o) (ho : o ≤ cur.size) : (laid cur o cs).toList.take k = cur.toList.take k := by
  have hl : k ≤ (cur.toList.take o).length := by rw [List.length_take]; simp; omega
  simp only [laid]
  rw [List.append_assoc, List.take_append_of_le_length hl, List.take_take, Nat.min_eq_left hk]
theorem laid_at (ho : o ≤ cur.size) (hk : k = o + cs.length) : (laid cur o cs).toList.take k = cur.toList.take o ++ cs := by
  have hl : k = (cur.toList.take o ++ cs).length := by rw [List.length_append, List.length_take]; simp; omega
  simp only [laid]
  rw [hl, List.take_left']
  rfl
theorem laid_hi (hk : o + cs.length ≤ k) (ho : o ≤ cur.size) : (laid cur o cs).toList.take k = cur.toList.take o ++ cs ++ (cur.toList.take k).drop (o + cs.length) := by
  have hl : (cur.toList.take o ++ cs).length = o + cs.length := by rw [List.length_append, List.length_take]; simp; omega
  simp only [laid]
  rw [List.take_append, hl, List.take_of_length_le (by omega), List.drop_take]
end
theorem fcs_take : ∀ (gs : List Fr) (i : Nat), fcs (gs.take i) = (fcs gs).take (i * 12)
  | [], i => by simp [fcs]
  | g :: gs, 0 => by simp [fcs]
  | g :: gs, i + 1 => by
    have h := fcs_take gs i
    unfold fcs at h ⊢
    have hl : g.cells.toList.length = 12 := rfl
    rw [List.take_succ_cons, List.flatMap_cons, List.flatMap_cons, h]
    generalize g.cells.toList = L at *
    rw [List.take_append, hl, show (i + 1) * 12 - 12 = i * 12 by omega, List.take_of_length_le (l := L) (by omega)]
theorem fcs_drop : ∀ (gs : List Fr) (i : Nat), fcs (gs.drop i) = (fcs gs).drop (i * 12)
  | [], i => by simp [fcs]
  | g :: gs, 0 => by simp
  | g :: gs, i + 1 => by
    have h := fcs_drop gs i
    unfold fcs at h ⊢
    have hl : g.cells.toList.length = 12 := rfl
    rw [List.drop_succ_cons, List.flatMap_cons, h]
    generalize g.cells.toList = L at *
    rw [List.drop_append, hl, show (i + 1) * 12 - 12 = i * 12 by omega, List.drop_of_length_le (l := L) (by omega), List.nil_append]
theorem fcs_one_ (f : Fr) : fcs [f] = f.cells.toList := by simp [fcs]

/-- A row of the call's own, opened. -/
theorem Fown.open_ {w : World} {B : Nat} {v : Value} {gs : List Fr} (h : Fown w B v gs) (h0 : gs ≠ []) : ∃ g cap cur, v = .slice (some ⟨g, 0, none⟩) gs.length cap ∧ B ≤ g ∧ Rw w g cur ∧ gs.length ≤ cap ∧ cap ≤ maxLen ∧ cur.size = cap * 12 ∧ cur.toList.take (gs.length * 12) = fcs gs := by
  rcases h.2 with ⟨_, hn⟩ | ⟨g, cap, cur, hv, h1, h2, h3, h4, h5, h6⟩
  · exact absurd (List.eq_nil_of_length_eq_zero hn) h0
  · exact ⟨g, cap, cur, hv, h1, h2, h3, h4, h5, h6⟩
theorem Fown.mk_ {w : World} {B g n cap : Nat} {cur : Array Value} {gs : List Fr} (hB : B ≤ g) (hw : Rw w g cur) (hn : gs.length = n) (hc : n ≤ cap) (hm : cap ≤ maxLen) (hs : cur.size = cap * 12) (ht : cur.toList.take (n * 12) = fcs gs) :
    Fown w B (.slice (some ⟨g, 0, none⟩) n cap) gs := by
  subst hn
  exact ⟨fcs_len gs, .inr ⟨g, cap, cur, rfl, hB, hw, hc, hm, hs, ht⟩⟩
theorem setRow_drew (w : World) (g : Nat) (cs : Array Value) : (w.setRow g cs).drew = w.drew.setRow g cs := rfl

theorem gundrew {w w' : World} {r : Option Nat} (h : w.drew.grownBy w' r) : w.grownBy w' r := ⟨h.os, h.tape, h.output, h.size, h.block⟩

/-- A step of a drawn region whose run is known. -/
theorem step_append_run {ops : Array Oper} {o : Oper} {a : Act} {w : World} {K : Act → World → Prop} {Q : Exit → Act → World → Prop} {E : Prop}
    (hg : o.guard = none) (d x : Operand) (dT sT : TypeId) (hop : o.op = Op.call { callee := Callee.builtin Builtin.append, args := #[d, x], argTypes := #[dT, sT] })
    (v u : Value) (hd : a.eval d = v) (hx : a.eval x = u) {v' : Value} {w' : World} (hr : (Builtin.append_ #[dT, sT] o.type #[v, u]).run Try.prog w = .ok v' w') (hK : K (a.put o.dst v') w') :
    if Region.wanted o (yielded ops a.tmps) = true then Oper.wp Try.prog o a w K Q else E := by
  have hw : Region.wanted o (yielded ops a.tmps) = true := by simp [Region.wanted, hg]
  rw [if_pos hw]
  unfold Oper.wp
  simp [execOp, hop, resolve, invoke, builtin, hd, hx, hr, Result.andThen]
  exact hK
theorem step_copy_run {ops : Array Oper} {o : Oper} {a : Act} {w : World} {K : Act → World → Prop} {Q : Exit → Act → World → Prop} {E : Prop}
    (hg : o.guard = none) (d x : Operand) (dT sT : TypeId) (hop : o.op = Op.call { callee := Callee.builtin Builtin.copy, args := #[d, x], argTypes := #[dT, sT] })
    (v u : Value) (hd : a.eval d = v) (hx : a.eval x = u) {v' : Value} {w' : World} (hr : (Builtin.copy_ #[dT, sT] o.type #[v, u]).run Try.prog w = .ok v' w') (hK : K (a.put o.dst v') w') :
    if Region.wanted o (yielded ops a.tmps) = true then Oper.wp Try.prog o a w K Q else E := by
  have hw : Region.wanted o (yielded ops a.tmps) = true := by simp [Region.wanted, hg]
  rw [if_pos hw]
  unfold Oper.wp
  simp [execOp, hop, resolve, invoke, builtin, hd, hx, hr, Result.andThen]
  exact hK
theorem wpl_copy_run (w : World) {ops : Array Oper} {rest : List Oper} {o : Oper} {a : Act} {Q : Exit → Act → World → Prop} (hgd : o.guard = none) (d s : Operand) (t t' : TypeId)
    (ho : o.op = .call { callee := .builtin .copy, args := #[d, s], argTypes := #[t, t'] }) (v u : Value) (hd : a.eval d = v) (hs : a.eval s = u) {v' : Value} {w' : World}
    (hr : (Builtin.copy_ #[t, t'] o.type #[v, u]).run Try.prog w = .ok v' w') (h : wpList Try.prog ops Q rest (a.put o.dst v') w') : wpList Try.prog ops Q (o :: rest) a w :=
  wpList_plain hgd fun _ hK => by
    unfold Oper.wp execOp
    simp only [ho, resolve, invoke, builtin, Sem.run_bind, Sem.run_pure, Result.andThen_ok, List.map_toArray, List.map_cons, List.map_nil, hd, hs, hr]
    exact hK _ _ h

theorem wpl_clear_run (w : World) {ops : Array Oper} {rest : List Oper} {o : Oper} {a : Act} {Q : Exit → Act → World → Prop} (hgd : o.guard = none) (d : Operand) (t : TypeId)
    (ho : o.op = .call { callee := .builtin .clear, args := #[d], argTypes := #[t] }) (v : Value) (hd : a.eval d = v) {v' : Value} {w' : World}
    (hr : (Builtin.clear_ #[t] o.type #[v]).run Try.prog w = .ok v' w') (h : wpList Try.prog ops Q rest (a.put o.dst v') w') : wpList Try.prog ops Q (o :: rest) a w :=
  wpList_plain hgd fun _ hK => by
    unfold Oper.wp execOp
    simp only [ho, resolve, invoke, builtin, Sem.run_bind, Sem.run_pure, Result.andThen_ok, List.map_toArray, List.map_cons, List.map_nil, hd, hr]
    exact hK _ _ h

theorem del_row {gs : List Fr} {cur : Array Value} {i cap : Nat} (hi : i < gs.length) (hs : cur.size = cap * 12) (hc : gs.length ≤ cap) (ht : cur.toList.take (gs.length * 12) = fcs gs) :
    (laid (laid cur (i * 12) (fcs (gs.drop (i + 1)))) ((gs.length - 1) * 12) Fr.zero.cells.toList).toList.take ((gs.length - 1) * 12) = fcs (gs.eraseIdx i) ∧
    (laid cur (i * 12) (fcs (gs.drop (i + 1)))).size = cap * 12 ∧ (laid (laid cur (i * 12) (fcs (gs.drop (i + 1)))) ((gs.length - 1) * 12) Fr.zero.cells.toList).size = cap * 12 := by
  have hl : (fcs (gs.drop (i + 1))).length = (gs.length - (i + 1)) * 12 := by rw [fcs_len, List.length_drop]
  have h1 : (laid cur (i * 12) (fcs (gs.drop (i + 1)))).size = cap * 12 := by rw [laid_size (by rw [hl, hs]; omega), hs]
  refine ⟨?_, h1, by rw [laid_size (by rw [h1]; simp; omega), h1]⟩
  rw [laid_lo (Nat.le_refl _) (by rw [h1]; omega), laid_at (by rw [hs]; omega) (by rw [hl]; omega), List.eraseIdx_eq_take_drop_succ, fcs_app, fcs_take, ← ht, List.take_take, Nat.min_eq_left (by omega)]

set_option maxHeartbeats 1600000 in
set_option maxRecDepth 100000 in
theorem delete_any {w : World} {B : Nat} {v : Value} {gs : List Fr} (i : Nat) (h : Fown w B v gs) (hi : i < gs.length) (hn : gs.length ≤ 1000000) :
    Calls Try.prog 41 #[v, .int .i64 i, .int .i64 ((i : Int) + 1)] w fun e w' => ∃ u, e = .returned u ∧ Fown w' B u (gs.eraseIdx i) ∧ w.grownBy w' v.ownBlock ∧ u.ownBlock = v.ownBlock := by
  obtain ⟨b, cap, cur, rfl, hB, hR, hc, hm, hs, ht⟩ := h.open_ (by intro e; rw [e] at hi; simp at hi)
  obtain ⟨D1, D2, D3⟩ := del_row hi hs hc ht
  have HD1 := Lib.hid D1; have HD3 := Lib.hid D3
  have HL := Lib.hid (show (gs.eraseIdx i).length = gs.length - 1 by rw [List.length_eraseIdx]; simp [hi])
  obtain ⟨X, x1, x2⟩ := sF_three b gs.length cap i (i + 1) (by omega) (by omega) hc (i : Int) ((i : Int) + 1) rfl (by simp)
  obtain ⟨y1, y2⟩ := sF_to b gs.length cap i (by omega)
  obtain ⟨z1, z2⟩ := sF_from b gs.length cap (i + 1) (by omega) ((i : Int) + 1) (by simp)
  have hnews : ∀ j u, (fcs (gs.drop (i + 1)))[j]? = some u → w.drew.cell? ((⟨b, if cap = i + 1 then 0 else (i + 1) * 12, none⟩ : Addr).add j) = some u := by
    intro j u hu
    have hj : j < (gs.length - (i + 1)) * 12 := by
      have := (List.getElem?_eq_some_iff.1 hu).1
      rwa [fcs_len, List.length_drop] at this
    rw [if_neg (by omega), Addr.add_lit]
    refine Rw.cell (w := w.drew) hR ?_
    rw [fcs_drop, List.getElem?_drop, ← ht, List.getElem?_take] at hu
    rw [if_pos (by omega)] at hu
    simpa using hu
  have happ := fun ty => run_appendF_room w.drew ty b i cap cur hR ⟨b, if cap = i + 1 then 0 else (i + 1) * 12, none⟩ (gs.length - (i + 1)) (cap - (i + 1)) (fcs (gs.drop (i + 1))) (by rw [fcs_len, List.length_drop]) hnews (fcs_one _) (by omega) (by rw [fcs_len, List.length_drop, hs]; omega)
  clear hnews D1 D3 ht
  obtain ⟨cur1, hcur1⟩ : ∃ c, laid cur (i * 12) (fcs (gs.drop (i + 1))) = c := ⟨_, rfl⟩
  rw [hcur1] at happ HD1 HD3 D2
  obtain ⟨w1, hw1⟩ : ∃ w1, w.drew.setRow b cur1 = w1 := ⟨_, rfl⟩
  rw [hw1] at happ
  have hR1 : Rw w1 b cur1 := by rw [← hw1]; exact Rw.set (w := w.drew) hR cur1
  have hcl := fun ty c => run_clearF w1 ty b ((gs.length - 1) * 12) c cur1 _ hR1 (by rw [D2]; omega)
  obtain ⟨u1, u2⟩ := sF_part b (gs.length - 1) cap (gs.length - 1) gs.length (by omega) hc (by omega) ((gs.length - 1 : Nat) : Int) (gs.length : Int) rfl rfl
  rw [show gs.length - (gs.length - 1) = 1 by omega] at u1 u2
  rw [show i + (gs.length - (i + 1)) = gs.length - 1 by omega] at happ
  have HW := Lib.hid hw1
  have HR1 := Lib.hid hR1
  have HB := Lib.hid hB
  have HM := Lib.hid hm
  have HC := Lib.hid hc
  clear hw1 hR1 hcur1 D2 hs hm hB h hR
  obtain ⟨n1, hn1⟩ : ∃ n1, gs.length = n1 + 1 := ⟨gs.length - 1, by omega⟩
  generalize gs.length = n at *
  subst hn1
  rw [Nat.add_sub_cancel] at *
  obtain ⟨z, hz⟩ : ∃ z, (if cap = i + 1 then 0 else (i + 1) * 12) = z := ⟨_, rfl⟩
  rw [hz] at z1 z2 happ
  clear hz
  have hi1 : (0 : Int) ≤ (i : Int) + 1 := by omega
  have hi2 : (i : Int) + 1 ≤ ((n1 + 1 : Nat) : Int) := by omega
  have hi3 : ¬ (n1 + 1 = i) := by omega
  have hi4 : ¬ ((i : Int) = (i : Int) + 1) := by omega
  go_enter Try.func41, Try.ntmps41
  go_wp2_with fail
  refine wp_region_held_drew (S := fun _ => True) (by kernel_rfl) (trivial) (fun hHeld => ?_)
  refine takeH (i := 0) (v := .slice (some ⟨b, 0, none⟩) (n1 + 1) cap) rfl (by kernel_rfl) (by kernel_rfl) (by kernel_rfl) (fun _ _ _ h => h) (Or.inl ⟨by rfl, fun w hSw => ?_⟩) hHeld ?_
  · (clear hSw; go_simp)
  simp only [Act.put, List.setIfInBounds_toArray, List.set_cons_zero, List.set_cons_succ]
  refine takeH (i := 1) (v := .int .i64 i) rfl (by kernel_rfl) (by kernel_rfl) (by kernel_rfl) (fun _ _ _ h => h) (Or.inl ⟨by rfl, fun w hSw => ?_⟩) hHeld ?_
  · (clear hSw; go_simp)
  simp only [Act.put, List.setIfInBounds_toArray, List.set_cons_zero, List.set_cons_succ]
  refine takeH (i := 2) (v := .slice (some ⟨b, 0, none⟩) i cap) rfl (by kernel_rfl) (by kernel_rfl) (by kernel_rfl) (fun _ _ _ h => h) (Or.inl ⟨by rfl, fun w hSw => ?_⟩) hHeld ?_
  · (clear hSw; go_simp)
  simp only [Act.put, List.setIfInBounds_toArray, List.set_cons_zero, List.set_cons_succ]
  refine takeH (i := 3) (v := .slice (some ⟨b, 0, none⟩) (n1 + 1) cap) rfl (by kernel_rfl) (by kernel_rfl) (by kernel_rfl) (fun _ _ _ h => h) (Or.inl ⟨by rfl, fun w hSw => ?_⟩) hHeld ?_
  · (clear hSw; go_simp)
  simp only [Act.put, List.setIfInBounds_toArray, List.set_cons_zero, List.set_cons_succ]
  refine takeH (i := 4) (v := .int .i64 ((i : Int) + 1)) rfl (by kernel_rfl) (by kernel_rfl) (by kernel_rfl) (fun _ _ _ h => h) (Or.inl ⟨by rfl, fun w hSw => ?_⟩) hHeld ?_
  · (clear hSw; go_simp)
  simp only [Act.put, List.setIfInBounds_toArray, List.set_cons_zero, List.set_cons_succ]
  refine takeH (i := 5) (v := .slice (some ⟨b, z, none⟩) (n1 + 1 - (i + 1)) (cap - (i + 1))) rfl (by kernel_rfl) (by kernel_rfl) (by kernel_rfl) (fun _ _ _ h => h) (Or.inl ⟨by rfl, fun w hSw => ?_⟩) hHeld ?_
  · (clear hSw; go_simp)
  simp only [Act.put, List.setIfInBounds_toArray, List.set_cons_zero, List.set_cons_succ]
  refine wpAnyH_ready (rs := [6]) (by kernel_rfl) (by simp) ?_
  refine AllReadyH.cons rfl (fun K hK => ?_) AllReadyH.nil
  refine step_append_run (by rfl) (.tmp 22) (.tmp 25) 29 29 (by rfl) _ _ (by rfl) (by rfl) (happ _) ?_
  clear hHeld
  refine hK.out _ _ trivial (fun hHeld => ?_)
  clear hK K
  simp only [Act.put, List.setIfInBounds_toArray, List.set_cons_zero, List.set_cons_succ]
  refine takeH (i := 7) (v := .slice (some ⟨b, 0, none⟩) n1 cap) rfl (by kernel_rfl) (by kernel_rfl) (by kernel_rfl) (fun _ _ _ h => h) (Or.inl ⟨by rfl, fun w hSw => ?_⟩) hHeld ?_
  · (clear hSw; go_simp)
  simp only [Act.put, List.setIfInBounds_toArray, List.set_cons_zero, List.set_cons_succ]
  refine wpAnyH_done (by kernel_rfl) ?_ _
  clear hHeld
  go_wp2_with (first | (at_builtin; refine wpl_clear_run _ (by rfl) _ _ rfl _ rfl (hcl _ _) ?_) | fail)
  go_wp2
  go_ret
  refine ⟨_, rfl, ?_, ?_, rfl⟩
  · exact Fown.mk_ HB.out (HR1.out.set _) HL.out (by omega) HM.out HD3.out HD1.out
  · rw [← HW.out, setRow_setRow]
    exact gundrew (grown_set w.drew b _)
end Go.Proofs.Ytldhnbohpnkcpaa
