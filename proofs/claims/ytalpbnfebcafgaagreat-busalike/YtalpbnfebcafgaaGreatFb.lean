/- Blocks that are frames. -/
import Derived.Test.YtalpbnfebcafgaaGreatAr
import Derived.Laws.ResultCell
import Derived.Deep.RegionHeld3
namespace Go.Proofs.YtalpbnfebcafgaaGreat
set_option maxRecDepth 20000
open Go.RowKit

/-- The data of a frame are bytes. -/
def Fr.wf (f : Fr) : Prop := ∀ k, k < 8 → 0 ≤ f.d k ∧ f.d k ≤ 255
theorem Bx.lt {w : World} {g : Nat} {f : Fr} (h : Bx w g f) : g < w.heap.size := World.block_lt_of_cell? w ⟨g, 0, none⟩ h.1
theorem Bx.data {w : World} {g : Nat} {f : Fr} (h : Bx w g f) (k : Nat) (hk : k < 8) : w.cell? ⟨g, 4 + k, none⟩ = some (.int .u8 (f.d k)) := by
  obtain ⟨c0, c1, c2, c3, c4, c5, c6, c7, c8, c9, c10, c11⟩ := h
  match k, hk with
  | 0, _ => exact c4
  | 1, _ => exact c5
  | 2, _ => exact c6
  | 3, _ => exact c7
  | 4, _ => exact c8
  | 5, _ => exact c9
  | 6, _ => exact c10
  | 7, _ => exact c11
def Fr.zero : Fr := ⟨0, false, false, 0, fun _ => 0⟩
/-- The frame f with byte k turned. -/
def Fr.put (f : Fr) (k : Nat) (z : Int) : Fr := { f with d := fun j => if j = k then z else f.d j }
/-- Block g is just the frame f, not frozen. -/
def Fb (w : World) (g : Nat) (f : Fr) : Prop := w.heap[g]? = some (.cells f.cells 31)
theorem Fb.bx {w : World} {g : Nat} {f : Fr} (h : Fb w g f) : Bx w g f := bx_of h
theorem Fb.frozen {w : World} {g : Nat} {f : Fr} (h : Fb w g f) (i : Nat) : w.frozen? ⟨g, i, none⟩ = false := by
  unfold Fb at h
  simp [World.frozen?, h]
theorem Fb.lt {w : World} {g : Nat} {f : Fr} (h : Fb w g f) : g < w.heap.size := h.bx.lt
theorem Fb.below {w w' : World} {B g : Nat} {f : Fr} (h : Fb w g f) (hb : Below B w w') (hg : g < B) : Fb w' g f := (hb.block g hg).trans h
theorem Fb.put {w : World} {g : Nat} {f : Fr} (h : Fb w g f) (k : Nat) (hk : k < 8) (z : Int) : Fb (w.setCell ⟨g, 4 + k, none⟩ (.int .u8 z)) g (f.put k z) := by
  have e : f.cells.setIfInBounds (4 + k) (.int .u8 z) = (f.put k z).cells := by
    match k, hk with
    | 0, _ | 1, _ | 2, _ | 3, _ | 4, _ | 5, _ | 6, _ | 7, _ => rfl
  unfold Fb at h ⊢
  rw [← e]
  generalize f.cells = cs at *
  simp [World.setCell, Array.getElem?_modify, h]
theorem Fb.away {w : World} {g g' i : Nat} {v : Value} {f : Fr} (h : Fb w g f) (hne : g' ≠ g) : Fb (w.setCell ⟨g', i, none⟩ v) g f := by
  unfold Fb at h ⊢
  simp [World.setCell, Array.getElem?_modify, h, hne]
theorem fb_new (w : World) (f : Fr) : Fb (w.alloc (.cells f.cells 31)) w.heap.size f := heap_alloc_new w _
theorem fb_two1 (w : World) (f g : Fr) : Fb ((w.alloc (.cells f.cells 31)).alloc (.cells g.cells 31)) w.heap.size f :=
  (fb_new w f).below (B := w.heap.size + 1) (((Below.refl _ _).alloc (by simp) _)) (by omega)
theorem fb_two2 (w : World) (f g : Fr) : Fb ((w.alloc (.cells f.cells 31)).alloc (.cells g.cells 31)) (w.heap.size + 1) g := by
  have h := fb_new (w.alloc (.cells f.cells 31)) g
  simpa using h
theorem alloc2 (w : World) (a b : Obj) : Below w.heap.size w ((w.alloc a).alloc b) := ((Below.refl _ _).alloc (Nat.le_refl _) _).alloc (by simp) _
theorem set12 {w wr : World} {B g : Nat} (h : Below B w wr) (hg : B ≤ g) (v0 v1 v2 v3 v4 v5 v6 v7 v8 v9 v10 v11 : Value) : Below B w ((((((((((((wr.setCell ⟨g, 0, none⟩ v0).setCell ⟨g, 1, none⟩ v1).setCell ⟨g, 2, none⟩ v2).setCell ⟨g, 3, none⟩ v3).setCell ⟨g, 4, none⟩ v4).setCell ⟨g, 5, none⟩ v5).setCell ⟨g, 6, none⟩ v6).setCell ⟨g, 7, none⟩ v7).setCell ⟨g, 8, none⟩ v8).setCell ⟨g, 9, none⟩ v9).setCell ⟨g, 10, none⟩ v10).setCell ⟨g, 11, none⟩ v11) :=
  (Below.setCell (Below.setCell (Below.setCell (Below.setCell (Below.setCell (Below.setCell (Below.setCell (Below.setCell (Below.setCell (Below.setCell (Below.setCell (Below.setCell h (p := ⟨g, 0, none⟩) hg v0) (p := ⟨g, 1, none⟩) hg v1) (p := ⟨g, 2, none⟩) hg v2) (p := ⟨g, 3, none⟩) hg v3) (p := ⟨g, 4, none⟩) hg v4) (p := ⟨g, 5, none⟩) hg v5) (p := ⟨g, 6, none⟩) hg v6) (p := ⟨g, 7, none⟩) hg v7) (p := ⟨g, 8, none⟩) hg v8) (p := ⟨g, 9, none⟩) hg v9) (p := ⟨g, 10, none⟩) hg v10) (p := ⟨g, 11, none⟩) hg v11)
theorem takeH {P : Program} {md : Region.Mode} {l : List Oper} {Q : Exit → Act → World → Prop} {S : World → Prop} {i : Nat} {oi : Oper} {v : Value} {fuel : Nat} {listed : Array Bool} {a : Act} {w : World} (hi : l[i]? = some oi)
    (hs : Region.noSelect l.toArray = true) (hf : Region.free md l.toArray listed i = true) (hr : (Region.ready md l.toArray listed).contains i = true)
    (hQ : ∀ c a w, Q (.panic c) (a.put oi.dst v) w → Q (.panic c) a w) (hy : YieldsIf P l.toArray S oi v a) (hS : S w)
    (h : wpAnyH P md l.toArray Q S fuel (listed.setIfInBounds i true) (a.put oi.dst v) w) : wpAnyH P md l.toArray Q S (fuel + 1) listed a w :=
  wpAnyH_take (by simpa using hi) hs hf hr hQ hy hS h
end Go.Proofs.YtalpbnfebcafgaaGreat
