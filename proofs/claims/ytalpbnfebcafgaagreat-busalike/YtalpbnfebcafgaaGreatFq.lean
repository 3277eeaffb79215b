/- The contract of field's Bits. -/
import Derived.Test.YtalpbnfebcafgaaGreatFp
namespace Go.Proofs.YtalpbnfebcafgaaGreat
set_option maxRecDepth 20000
open Go.RowKit

/-- The levels of the first k bytes. -/
def datB (d : Nat → Int) : Nat → List Int
  | 0 => []
  | k + 1 => datB d k ++ ofB (d k).toNat 8
def nDat (f : Fr) : Nat := if f.rtr then 0 else f.len.toNat
def ctlB (f : Fr) : List Int := [0] ++ ofB f.num f.wid ++ ofB f.len.toNat (cW f.ext)
/-- A frame's levels ahead of its sum. -/
def bts (f : Fr) : List Int := ctlB f ++ datB f.d (nDat f)
theorem datB_len (d : Nat → Int) : ∀ k, (datB d k).length = 8 * k := by
  intro k
  induction k with
  | zero => rfl
  | succ k ih => rw [datB, List.length_append, ih, ofB_len]; omega
theorem wid_eq (f : Fr) : f.wid = aW f.ext := by unfold Fr.wid aW; cases f.ext <;> rfl
theorem ctlB_len (f : Fr) : (ctlB f).length = hEnd f.ext := by
  unfold ctlB
  rw [List.length_append, List.length_append, ofB_len, ofB_len, wid_eq, ← hEnd_eq]; rfl
theorem nDat_le {f : Fr} (h : f.may = true) : nDat f ≤ 8 := by
  obtain ⟨_, _, h2, h3, _⟩ := may_parts h
  unfold nDat; split <;> omega
theorem bts_len (f : Fr) : (bts f).length = hEnd f.ext + 8 * nDat f := by
  unfold bts; rw [List.length_append, ctlB_len, datB_len]
theorem dW_div (f : Fr) : dW f.rtr f.len.toNat / 8 = nDat f := by
  unfold dW nDat; split <;> omega

/-- Block g is just the widths. -/
def Wb (w : World) (g a c d : Nat) : Prop := w.heap[g]? = some (.cells (W9c a c d) 119)
theorem Wb.wx {w : World} {g a c d : Nat} (h : Wb w g a c d) : Wx w g a c d := wx_of h
theorem Wb.lt {w : World} {g a c d : Nat} (h : Wb w g a c d) : g < w.heap.size := World.block_lt_of_cell? w ⟨g, 0, none⟩ h.wx.1

/-- A row of the call's own, with what error there was. -/
def OwnTo (zs : List Int) (w : World) (e : Ending) (w' : World) : Prop :=
  ∃ v, e = .returned (.tuple #[v, .int .i64 0]) ∧ Own w' w.heap.size v zs ∧ Below w.heap.size w w'

set_option maxHeartbeats 400000 in
theorem fbits_bad (f : Fr) (w : World) (h : f.may = false) :
    Calls Tryz.prog 54 #[f.val] w fun e w' => e = .returned (.tuple #[.slice none 0 0, .int .i64 14]) ∧ Below w.heap.size w w' := by
  go_enter Tryz.func54, Tryz.ntmps54
  go_wp2_with fail
  refine (fcheck_any f _).mono ?_
  rintro e w1 ⟨rfl, hb1⟩
  rw [err_no h]
  go_wp2
  go_ret2
  exact ⟨rfl, nxt (boxed f w) hb1⟩

/-- The state while levels are put: the frame's box, the row. -/
structure Puts (f : Fr) (w wr : World) (gl g1 : Nat) (v : Value) (l : List Int) : Prop where
  st : PutSt wr w.heap.size gl g1 v l
  fb : Fb wr w.heap.size f
  sf : Safe wr gl v w.heap.size
  bl : Below w.heap.size w wr
theorem Puts.below {f : Fr} {w wr w' : World} {gl g1 : Nat} {v : Value} {l : List Int} (h : Puts f w wr gl g1 v l) (hb : Below wr.heap.size wr w') : Puts f w w' gl g1 v l :=
  ⟨h.st.below hb, h.fb.below hb h.sf.lt, h.sf.below hb, nxt h.bl hb⟩
theorem Puts.put {f : Fr} {w wr w' : World} {gl g1 : Nat} {v : Value} {l l' : List Int} (h : Puts f w wr gl g1 v l) (hp : PutTo wr w.heap.size gl g1 v l' w') :
    ∃ v', Puts f w w' gl g1 v' l' ∧ ∀ b, Safe wr gl v b → Safe w' gl v' b ∧ w'.heap[b]? = wr.heap[b]? := by
  obtain ⟨v', st, hb, hs⟩ := hp
  have := hs _ h.sf
  exact ⟨v', ⟨st, this.2.trans h.fb, this.1, h.bl.trans hb⟩, hs⟩

theorem put_start (f : Fr) (w w1 : World) (hb : Below w.heap.size (w.alloc (.cells f.cells 31)) w1) (hf : Fb w1 w.heap.size f) (hlt : w.heap.size < w1.heap.size) :
    Puts f w ((w1.alloc (.cells #[.slice none 0 0] 23)).alloc (.cells #[.pointer (some ⟨w1.heap.size, 0, none⟩)] 117)) w1.heap.size (w1.heap.size + 1) (.slice none 0 0) [] := by
  have h1 : (w1.alloc (.cells #[.slice none 0 0] 23)).heap.size = w1.heap.size + 1 := by simp
  have e1 : ((w1.alloc (.cells #[.slice none 0 0] 23)).alloc (.cells #[.pointer (some ⟨w1.heap.size, 0, none⟩)] 117)).heap[w1.heap.size]? = some (.cells #[.slice none 0 0] 23) := by
    rw [Below.heap_alloc _ _ _ (by simp)]; exact heap_alloc_new _ _
  have e2 : ((w1.alloc (.cells #[.slice none 0 0] 23)).alloc (.cells #[.pointer (some ⟨w1.heap.size, 0, none⟩)] 117)).heap[w1.heap.size + 1]? = some (.cells #[.pointer (some ⟨w1.heap.size, 0, none⟩)] 117) := by
    rw [← h1]; exact heap_alloc_new _ _
  refine ⟨⟨?_, ?_, ?_, Own.nil _ _, by simp [Value.ownBlock], by simp [Value.ownBlock], by omega, Nat.le_of_lt hlt, by simp; omega, by simp⟩, ?_, ⟨by simp; omega, by omega, by simp [Value.ownBlock]⟩, ?_⟩
  · simp only [World.cell?, e1]; rfl
  · simp only [World.frozen?, e1]; rfl
  · simp only [World.cell?, e2]; rfl
  · exact hf.below (B := w1.heap.size) (alloc2 _ _ _) hlt
  · exact nxt ((boxed f w).trans hb) (alloc2 _ _ _)
end Go.Proofs.YtalpbnfebcafgaaGreat
