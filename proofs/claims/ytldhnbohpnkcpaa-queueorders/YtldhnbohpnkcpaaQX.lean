/- For the law QueueOrders: queues and rows beside each other, turned rows, places in order. -/
import Derived.Test.YtldhnbohpnkcpaaQW
import Derived.Test.YtldhnbohpnkcpaaQT
namespace Go.Proofs.Ytldhnbohpnkcpaa
open Go.RowKit
set_option linter.unusedSimpArgs false

/-- Two queues and a row, apart. -/
structure Od (w0 w : World) (ga : Nat) (va : Value) (xs : List Fr) (gb : Nat) (vb : Value) (ys : List Fr) (u : Value) (us : List Fr) (m : Int) : Prop where
  ab : T2 w0 w ga va xs gb vb ys m
  ur : Fown w w0.heap.size u us
  s2 : Sep u va
  s3 : Sep u vb
section
variable {w0 w w' : World} {ga gb : Nat} {va vb v' u u' z : Value} {xs ys us ts zs : List Fr} {m : Int}
theorem Od.next (h : Od w0 w ga va xs gb vb ys u us m) (hb : Below w.heap.size w w') : Od w0 w' ga va xs gb vb ys u us m := ⟨h.ab.next hb, h.ur.below hb, h.s2, h.s3⟩
theorem Od.turna (h : Od w0 w ga va xs gb vb ys u us m) (hq : Que w' w0.heap.size ga v' m ts) (ht : Turn ga va v' w w') : Od w0 w' ga v' ts gb vb ys u us m := by
  obtain ⟨h1, h2⟩ := ht.row h.ab.a.q h.ur h.s2
  exact ⟨h.ab.turna hq ht, h1, h2, h.s3⟩
theorem Od.turnb (h : Od w0 w ga va xs gb vb ys u us m) (hq : Que w' w0.heap.size gb v' m ts) (ht : Turn gb vb v' w w') : Od w0 w' ga va xs gb v' ts u us m := by
  obtain ⟨h1, h2⟩ := ht.row h.ab.b.q h.ur h.s3
  exact ⟨h.ab.turnb hq ht, h1, h.s2, h2⟩
theorem lies_sep {w : World} {o : Obj} {u u' v : Value} {B C : Nat} {us vs : List Fr} (hs : Sep u v) (hv : Fown w C v vs) (hl : Lies (w.alloc o) u u') (_hu : Fown w B u us) : Sep u' v := by
  rcases hl with e | e
  · unfold Sep; rw [e]; exact hs
  · refine .inr fun he => ?_
    rw [e] at he
    have := hv.lt2 _ he.symm
    simp at this
    omega
theorem que_grown {w w' : World} {o : Obj} {B C g : Nat} {v u : Value} {m : Int} {gs us : List Fr} (hq : Que w B g v m gs) (hu : Fown w C u us) (hg : (w.alloc o).grownBy w' u.ownBlock) (hs : Sep v u) : Que w' B g v m gs := by
  refine ⟨?_, Fown.kept (hq.own.alloc o) hg hs, hq.at_⟩
  refine (hg.block g (by have := hq.lt; simp; omega) fun e => hu.notq hq.q e.symm).trans ?_
  exact (heap_alloc_old w o (r := g) hq.lt).trans hq.q
/-- The row grows. -/
theorem Od.push (h : Od w0 w ga va xs gb vb ys u us m) {o : Obj} (hu : Fown w' w0.heap.size u' ts) (hg : (w.alloc o).grownBy w' u.ownBlock) (hl : Lies (w.alloc o) u u') : Od w0 w' ga va xs gb vb ys u' ts m := by
  refine ⟨⟨que_grown h.ab.a h.ur hg h.s2.symm, que_grown h.ab.b h.ur hg h.s3.symm, h.ab.s, h.ab.ne, ?_⟩, hu, lies_sep h.s2 h.ab.a.own hl h.ur, lies_sep h.s3 h.ab.b.own hl h.ur⟩
  exact Below.grown (h.ab.bel.alloc h.ab.bel.size o) hg (by have := h.ab.bel.size; simp; omega) h.ur.row
/-- .. and another row. -/
structure Oe (w0 w : World) (ga : Nat) (va : Value) (xs : List Fr) (gb : Nat) (vb : Value) (ys : List Fr) (u : Value) (us : List Fr) (z : Value) (zs : List Fr) (m : Int) : Prop where
  od : Od w0 w ga va xs gb vb ys u us m
  zr : Fown w w0.heap.size z zs
  s4 : Sep z vb
theorem Oe.next (h : Oe w0 w ga va xs gb vb ys u us z zs m) (hb : Below w.heap.size w w') : Oe w0 w' ga va xs gb vb ys u us z zs m := ⟨h.od.next hb, h.zr.below hb, h.s4⟩
theorem Oe.turnb (h : Oe w0 w ga va xs gb vb ys u us z zs m) (hq : Que w' w0.heap.size gb v' m ts) (ht : Turn gb vb v' w w') : Oe w0 w' ga va xs gb v' ts u us z zs m := by
  obtain ⟨h1, h2⟩ := ht.row h.od.ab.b.q h.zr h.s4
  exact ⟨h.od.turnb hq ht, h1, h2⟩
theorem Oe.bel (h : Oe w0 w ga va xs gb vb ys u us z zs m) : Below w0.heap.size w0 w := h.od.ab.bel
end

/-- A row turned by p places. -/
def trn (I : List Fr) (p : Nat) : List Fr := I.drop p ++ I.take p
theorem trn_len (I : List Fr) (p : Nat) : (trn I p).length = I.length := by
  unfold trn
  rw [List.length_append, List.length_drop, List.length_take]; omega
theorem trn_get {I : List Fr} {p j : Nat} (hp : p < I.length) (hj : j < I.length) : (trn I p).getD j Fr.zero = I.getD ((j + p) % I.length) Fr.zero := by
  have hm := Nat.mod_lt (j + p) (show I.length > 0 by omega)
  rw [List.getD, List.getD]
  congr 1
  unfold trn
  rcases Nat.lt_or_ge j (I.length - p) with h | h
  · rw [List.getElem?_append_left (by rw [List.length_drop]; omega), List.getElem?_drop, Nat.mod_eq_of_lt (by omega), Nat.add_comm]
  · have e : (j + p) % I.length = j - (I.length - p) := by
      rw [show j + p = (j - (I.length - p)) + I.length by omega, Nat.add_mod_right, Nat.mod_eq_of_lt (by omega)]
    rw [List.getElem?_append_right (by rw [List.length_drop]; omega), List.length_drop, List.getElem?_take_of_lt (by omega), e]
theorem trn_cls (I : List Fr) (p q : Nat) : (ofp q (trn I p)).length = (ofp q I).length := by
  unfold trn
  have e1 : ofp q (I.drop p ++ I.take p) = ofp q (I.drop p) ++ ofp q (I.take p) := List.filter_append ..
  have e2 : ofp q I = ofp q (I.take p) ++ ofp q (I.drop p) := by rw [ofp, ofp, ofp, ← List.filter_append, List.take_append_drop]
  rw [e1, e2, List.length_append, List.length_append]; omega
/-- Two rows in order with as many of each place have the same places. -/
theorem plc_alike {xs ys : List Fr} (hx : Upq xs) (hy : Upq ys) (h : ∀ p, (ofp p xs).length = (ofp p ys).length) : xs.map Fr.plc = ys.map Fr.plc := by
  refine List.Perm.eq_of_pairwise (le := fun a b => a ≤ b) (fun a b _ _ h1 h2 => Nat.le_antisymm h1 h2) ?_ ?_ ?_
  · exact List.pairwise_map.2 hx
  · exact List.pairwise_map.2 hy
  · rw [List.perm_iff_count]
    intro p
    have h1 := h p
    simp only [ofp, ← List.countP_eq_length_filter] at h1
    show (xs.map Fr.plc).countP (· == p) = (ys.map Fr.plc).countP (· == p)
    rw [List.countP_map, List.countP_map]
    exact h1
theorem plc_at {xs ys : List Fr} (h : xs.map Fr.plc = ys.map Fr.plc) {j : Nat} (hj : j < xs.length) : (xs.getD j Fr.zero).plc = (ys.getD j Fr.zero).plc ∧ ys.length = xs.length := by
  have hl : ys.length = xs.length := by
    have := congrArg List.length h
    simpa using this.symm
  refine ⟨?_, hl⟩
  have h1 : (xs.map Fr.plc)[j]? = (ys.map Fr.plc)[j]? := by rw [h]
  rw [List.getElem?_map, List.getElem?_map, List.getElem?_eq_getElem hj, List.getElem?_eq_getElem (by omega)] at h1
  rw [getD_get hj, getD_get (by omega)]
  simpa using h1
theorem ofp_yes {p : Nat} {gs : List Fr} {i : Nat} (h : i < gs.length) (hs : (gs.getD i Fr.zero).plc = p) : ofp p (gs.take (i + 1)) = ofp p (gs.take i) ++ [gs.getD i Fr.zero] := by
  rw [take_one h]
  simp only [ofp]
  rw [List.filter_append, List.filter_cons_of_pos (by simpa using hs)]; rfl
theorem ofp_no {p : Nat} {gs : List Fr} {i : Nat} (h : i < gs.length) (hs : ¬ (gs.getD i Fr.zero).plc = p) : ofp p (gs.take (i + 1)) = ofp p (gs.take i) := by
  rw [take_one h]
  simp only [ofp]
  rw [List.filter_append, List.filter_cons_of_neg (by simpa using hs)]; simp
theorem rival_q {f g : Fr} {w : World} (hf : f.may = true) (hg : g.may = true) (b : Bool) (hb : (f.plc == g.plc) = b) :
    Calls Try.prog 21 #[f.val, g.val] w fun e w' => e = .returned (.bool b) ∧ Below w.heap.size w w' := by
  rw [← hb]; exact rival_yes f g w hf hg
theorem err_zero {f : Fr} (h : f.may = true) : f.err = 0 := err_ok h
end Go.Proofs.Ytldhnbohpnkcpaa
