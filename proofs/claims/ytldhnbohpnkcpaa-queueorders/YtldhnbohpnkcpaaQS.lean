/- For the law QueueDrops: counts of what is the same, parts of a row appended, two queues and a row beside each other. -/
import Derived.Test.YtldhnbohpnkcpaaL9d
namespace Go.Proofs.Ytldhnbohpnkcpaa
open Go.RowKit
set_option linter.unusedSimpArgs false

/-- How many of the first i are f. -/
def cn (f : Fr) (gs : List Fr) (i : Nat) : Nat := (gs.take i).countP f.same
theorem take_one {gs : List Fr} {i : Nat} (h : i < gs.length) : gs.take (i + 1) = gs.take i ++ [gs.getD i Fr.zero] := by
  rw [getD_get h, List.take_add_one, List.getElem?_eq_getElem h]; rfl
theorem cn_yes {f : Fr} {gs : List Fr} {i : Nat} (h : i < gs.length) (hs : f.same (gs.getD i Fr.zero) = true) : cn f gs (i + 1) = cn f gs i + 1 := by
  unfold cn
  rw [take_one h, List.countP_append, List.countP_cons_of_pos hs]; rfl
theorem cn_no {f : Fr} {gs : List Fr} {i : Nat} (h : i < gs.length) (hs : f.same (gs.getD i Fr.zero) = false) : cn f gs (i + 1) = cn f gs i := by
  unfold cn
  rw [take_one h, List.countP_append, List.countP_cons_of_neg (by rw [hs]; simp)]; rfl
theorem cn_le (f : Fr) (gs : List Fr) (i : Nat) : cn f gs i ≤ gs.length := by
  unfold cn
  exact Nat.le_trans List.countP_le_length (by rw [List.length_take]; omega)
theorem cn_all (f : Fr) (gs : List Fr) : cn f gs gs.length = gs.countP f.same := by unfold cn; rw [List.take_length]
theorem found_no {f : Fr} {fs : Nat → Fr} {i : Nat} {r : Int} (h : Found f fs i r) (hs : f.same (fs i) = false) : Found f fs (i + 1) r := by
  rcases h with ⟨k, hk, h1, h2, h3⟩ | ⟨h1, h2⟩
  · exact .inl ⟨k, by omega, h1, h2, h3⟩
  · refine .inr ⟨h1, fun j hj => ?_⟩
    rcases Nat.lt_or_ge j i with h | h
    · exact h2 j h
    · rw [show j = i by omega]; exact hs
theorem found_yes {f : Fr} {fs : Nat → Fr} {i : Nat} (h : Found f fs i (-1)) (hs : f.same (fs i) = true) : Found f fs (i + 1) i := by
  rcases h with ⟨k, hk, h1, h2, h3⟩ | ⟨h1, h2⟩
  · omega
  · exact .inl ⟨i, by omega, rfl, hs, h2⟩
theorem found_up {f : Fr} {fs : Nat → Fr} {i : Nat} {r : Int} (h : Found f fs i r) (hr : ¬ r < 0) : Found f fs (i + 1) r := by
  rcases h with ⟨k, hk, h1, h2, h3⟩ | ⟨h1, h2⟩
  · exact .inl ⟨k, by omega, h1, h2, h3⟩
  · omega
theorem found_neg {f : Fr} {fs : Nat → Fr} {i : Nat} {r : Int} (h : Found f fs i r) (hr : r < 0) : r = -1 := by
  rcases h with ⟨k, hk, h1, h2, h3⟩ | ⟨h1, h2⟩
  · omega
  · exact h1
theorem cn_pos {f : Fr} {gs : List Fr} (h : dE f gs = 0) : 0 < gs.countP f.same := by
  unfold dE at h
  split at h
  · rename_i hs
    rw [List.countP_pos_iff]
    obtain ⟨g, h1, h2⟩ := List.any_eq_true.1 hs
    exact ⟨g, h1, h2⟩
  · cases h
theorem cn_zero {f : Fr} {gs : List Fr} (h : dE f gs = 16) : gs.countP f.same = 0 := by
  unfold dE at h
  split at h
  · cases h
  · rename_i hs
    rw [List.countP_eq_zero]
    intro g hg h1
    exact hs (List.any_eq_true.2 ⟨g, hg, h1⟩)
theorem dE_pos {f : Fr} {gs : List Fr} (h : 0 < gs.countP f.same) : dE f gs = 0 := by
  rcases dE_cases f gs with h1 | h1
  · exact h1
  · have := cn_zero h1; omega
theorem dE_none {f : Fr} {gs : List Fr} (h : gs.countP f.same = 0) : dE f gs = 16 := by
  rcases dE_cases f gs with h1 | h1
  · have := cn_pos h1; omega
  · exact h1
theorem drp_count (f : Fr) : ∀ gs : List Fr, (drp f gs).countP f.same = gs.countP f.same - 1
  | [] => rfl
  | g :: gs => by
    cases h : f.same g
    · have := drp_count f gs
      unfold drp at this ⊢
      rw [List.eraseP_cons_of_neg (by rw [h]; simp), List.countP_cons_of_neg (by rw [h]; simp), List.countP_cons_of_neg (by rw [h]; simp), this]
    · unfold drp
      rw [List.eraseP_cons_of_pos h, List.countP_cons_of_pos h]; rfl
theorem drp_rest (f : Fr) : ∀ gs : List Fr, (drp f gs).filter (fun g => !f.same g) = gs.filter fun g => !f.same g
  | [] => rfl
  | g :: gs => by
    cases h : f.same g
    · have := drp_rest f gs
      unfold drp at this ⊢
      rw [List.eraseP_cons_of_neg (by rw [h]; simp), List.filter_cons_of_pos (by rw [h]; rfl), List.filter_cons_of_pos (by rw [h]; rfl), this]
    · unfold drp
      rw [List.eraseP_cons_of_pos h, List.filter_cons_of_neg (by rw [h]; simp)]
theorem rest_all {f : Fr} {gs : List Fr} (h : gs.countP f.same = 0) : gs.filter (fun g => !f.same g) = gs := by
  rw [List.filter_eq_self]
  intro g hg
  have := List.countP_eq_zero.1 h g hg
  simpa using this
theorem ins_count (f : Fr) (gs : List Fr) : (ins f gs).countP f.same = gs.countP f.same + 1 := by
  unfold ins
  rw [List.countP_append, List.countP_cons_of_pos (same_refl f), ← Nat.add_assoc, ← List.countP_append, List.take_append_drop]
theorem ins_rest (f : Fr) (gs : List Fr) : (ins f gs).filter (fun g => !f.same g) = gs.filter fun g => !f.same g := by
  unfold ins
  rw [List.filter_append, List.filter_cons_of_neg (by rw [same_refl]; simp), ← List.filter_append, List.take_append_drop]
theorem filt_yes {f : Fr} {gs : List Fr} {i : Nat} (h : i < gs.length) (hs : f.same (gs.getD i Fr.zero) = true) : (gs.take (i + 1)).filter (fun g => !f.same g) = (gs.take i).filter fun g => !f.same g := by
  rw [take_one h, List.filter_append, List.filter_cons_of_neg (by rw [hs]; simp)]; simp
theorem filt_no {f : Fr} {gs : List Fr} {i : Nat} (h : i < gs.length) (hs : f.same (gs.getD i Fr.zero) = false) : (gs.take (i + 1)).filter (fun g => !f.same g) = ((gs.take i).filter fun g => !f.same g) ++ [gs.getD i Fr.zero] := by
  rw [take_one h, List.filter_append, List.filter_cons_of_pos (by rw [hs]; rfl)]; simp

/-- append onto a row of the call's own, as a step of a drawn region. -/
theorem step_append_F9 (w : World) {ops : Array Oper} {o : Oper} {a : Act} {K : Act → World → Prop} {Q : Exit → Act → World → Prop} {E : Prop} (hgd : o.guard = none) (s x : Operand)
    (ho : o.op = .call { callee := .builtin .append, args := #[s, x], argTypes := #[29, 29] })
    (base : Nat) (v : Value) (gs : List Fr) (hs : a.eval s = v) (hown : Fown w base v gs) (A : Option Addr) (m c : Nat) (ys : List Fr) (hx : a.eval x = .slice A m c) (hr : Fs w A m ys)
    (hlen : gs.length + m ≤ 1000000) (hbase : base ≤ w.heap.size)
    (h : ∀ v' w', Fown w' base v' (gs ++ ys) → w.grownBy w' v.ownBlock → Lies w v v' → K (a.put o.dst v') w') :
    if Region.wanted o (yielded ops a.tmps) = true then Oper.wp Try.prog o a w K Q else E := by
  have hw : Region.wanted o (yielded ops a.tmps) = true := by simp [Region.wanted, hgd]
  rw [if_pos hw]
  obtain ⟨v', w', hrun, h1, h2, h3⟩ := append_runF w o.type base v gs hown A m c ys hr hlen hbase
  unfold Oper.wp execOp
  simp only [ho, resolve, invoke, builtin, Sem.run_bind, Sem.run_pure, Result.andThen_ok, List.map_toArray, List.map_cons, List.map_nil, hs, hx, hrun]
  exact h v' w' h1 h2 h3
/-- The parts of a row. -/
theorem Fown.parts {w : World} {B b cap : Nat} {cur : Array Value} {gs : List Fr} (hR : Rw w b cur) (ht : cur.toList.take (gs.length * 12) = fcs gs) (_hB : B ≤ b) (a : Nat) (ha : a < gs.length) (hc : gs.length ≤ cap) :
    Fs w (some ⟨b, 0, none⟩) a (gs.take a) ∧ Fs w (some ⟨b, if cap = a + 1 then 0 else (a + 1) * 12, none⟩) (gs.length - (a + 1)) (gs.drop (a + 1)) := by
  have hg : ∀ j u, (fcs gs)[j]? = some u → w.cell? ⟨b, j, none⟩ = some u := fun j u hu => by
    refine hR.cell ?_
    rw [← ht, List.getElem?_take] at hu
    split at hu
    · simpa using hu
    · cases hu
  refine ⟨⟨by rw [List.length_take]; omega, fun h0 => ⟨_, rfl, fun j u hu => ?_⟩⟩, ⟨by rw [List.length_drop], fun h0 => ⟨_, rfl, fun j u hu => ?_⟩⟩⟩
  · rw [add0]
    refine hg j u ?_
    rw [fcs_take, List.getElem?_take] at hu
    split at hu
    · exact hu
    · cases hu
  · rw [if_neg (by omega), Addr.add_lit]
    refine hg _ u ?_
    rwa [fcs_drop, List.getElem?_drop] at hu

/-- A frame's block, two queues and a row, apart. -/
structure Dr (w0 w : World) (f : Fr) (gq : Nat) (vq : Value) (qs : List Fr) (gp : Nat) (vp : Value) (ps : List Fr) (u : Value) (us : List Fr) (m : Int) : Prop where
  fb : Fb w w0.heap.size f
  q : Que w (w0.heap.size + 1) gq vq m qs
  p : Que w (w0.heap.size + 1) gp vp m ps
  ur : Fown w (w0.heap.size + 1) u us
  s1 : Sep vq vp
  s2 : Sep u vq
  s3 : Sep u vp
  ne : gq ≠ gp
  bel : Below w0.heap.size w0 w
section
variable {w0 w w' : World} {f : Fr} {gq gp : Nat} {vq vp v' u : Value} {qs ps us ys : List Fr} {m : Int}
theorem Dr.size (h : Dr w0 w f gq vq qs gp vp ps u us m) : w0.heap.size + 1 ≤ w.heap.size := by have := h.q.at_; have := h.q.lt; omega
theorem Dr.next (h : Dr w0 w f gq vq qs gp vp ps u us m) (hb : Below w.heap.size w w') : Dr w0 w' f gq vq qs gp vp ps u us m :=
  ⟨h.fb.below hb h.fb.lt, h.q.next hb, h.p.next hb, h.ur.below hb, h.s1, h.s2, h.s3, h.ne, nxt h.bel hb⟩
theorem Dr.turnq (h : Dr w0 w f gq vq qs gp vp ps u us m) (hq : Que w' (w0.heap.size + 1) gq v' m ys) (ht : Turn gq vq v' w w') : Dr w0 w' f gq v' ys gp vp ps u us m := by
  have hb := ht.que h.q h.size
  obtain ⟨h1, h2⟩ := ht.other h.q h.p h.ne.symm h.s1.symm
  obtain ⟨h3, h4⟩ := ht.row h.q.q h.ur h.s2
  exact ⟨h.fb.below hb (by omega), hq, h1, h3, h2.symm, h4, h.s3, h.ne, h.bel.trans (hb.mono (by omega))⟩
theorem Dr.turnp (h : Dr w0 w f gq vq qs gp vp ps u us m) (hq : Que w' (w0.heap.size + 1) gp v' m ys) (ht : Turn gp vp v' w w') : Dr w0 w' f gq vq qs gp v' ys u us m := by
  have hb := ht.que h.p h.size
  obtain ⟨h1, h2⟩ := ht.other h.p h.q h.ne h.s1
  obtain ⟨h3, h4⟩ := ht.row h.p.q h.ur h.s3
  exact ⟨h.fb.below hb (by omega), h1, hq, h3, h2, h.s2, h4, h.ne, h.bel.trans (hb.mono (by omega))⟩
theorem sep_new {w : World} {B : Nat} {u v : Value} {us : List Fr} (hu : Fown w B u us) (hv : ∀ k, v.ownBlock = some k → w.heap.size ≤ k) : Sep u v := by
  rcases hx : u.ownBlock with _ | j
  · exact .inl hx
  · refine .inr fun e => ?_
    have h1 := hu.lt2 j hx
    have h2 := hv j (by rw [← e]; exact hx)
    omega
end
end Go.Proofs.Ytldhnbohpnkcpaa
