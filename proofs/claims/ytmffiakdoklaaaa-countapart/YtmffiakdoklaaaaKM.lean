/- Counts of errors as values, and what comes to them. -/
import Derived.Test.YtmffiakdoklaaaaRows
import Derived.WalkKit
import Derived.WalkSpells
import Derived.WalkLawsBesides
import Derived.Lib.Hide
import Derived.Deep.QuietTactic
import Derived.BigQuiet
import Derived.Laws.ResultCell
import Derived.Deep.RegionHeld3
import Derived.Below
namespace Go.Proofs.Ytmffiakdoklaaaa
open Go.RowKit

/-- Counts. -/
structure Ct where
  t : Int
  r : Int
  o : Bool

abbrev Ct.cells (c : Ct) : Array Value := #[.int .i64 c.t, .int .i64 c.r, .bool c.o]
abbrev Ct.val (c : Ct) : Value := .agg c.cells

theorem ct_ext {c d : Ct} (h1 : c.t = d.t) (h2 : c.r = d.r) (h3 : c.o = d.o) : c = d := by cases c; cases d; simp_all

def wth (n : Int) : Bool := decide (0 ≤ n) && decide (n ≤ 255)
/-- Counts are right. -/
def Ct.right (c : Ct) : Bool := (if c.o then c.t == 256 else wth c.t) && wth c.r
/-- They run. -/
def Ct.run (c : Ct) : Bool := c.right && !c.o
def Ct.st (c : Ct) : Int := if c.o then 2 else if 127 < c.t ∨ 127 < c.r then 1 else 0
def Ct.err (c : Ct) : Int := if c.right then 0 else 10
def Ct.zero : Ct := ⟨0, 0, false⟩
def Ct.snt (c : Ct) : Ct := if c.run then ⟨max (c.t - 1) 0, c.r, c.o⟩ else c
def Ct.rcv (c : Ct) : Ct := if c.run then ⟨c.t, if 127 < c.r then 119 else max (c.r - 1) 0, c.o⟩ else c
def Ct.txx (c : Ct) : Ct := if c.run then (if 255 < c.t + 8 then ⟨256, c.r, true⟩ else ⟨c.t + 8, c.r, c.o⟩) else c
def Ct.rxx (c : Ct) (x : Int) : Ct := if c.run && (x == 1 || x == 8) then ⟨c.t, min (c.r + x) 255, c.o⟩ else c
/-- Counts behind what comes. -/
def Ct.come (c : Ct) (k x : Int) : Ct := if k = 0 then c.snt else if k = 1 then c.rcv else if k = 2 then c.txx else if k = 3 then c.rxx x else if k = 4 then .zero else c

theorem run_iff {c : Ct} : c.run = true ↔ c.o = false ∧ 0 ≤ c.t ∧ c.t ≤ 255 ∧ 0 ≤ c.r ∧ c.r ≤ 255 := by
  obtain ⟨t, r, o⟩ := c
  cases o <;> simp [Ct.run, Ct.right, wth] <;> omega
theorem right_iff {c : Ct} : c.right = true ↔ (c.o = true ∧ c.t = 256 ∨ c.o = false ∧ 0 ≤ c.t ∧ c.t ≤ 255) ∧ 0 ≤ c.r ∧ c.r ≤ 255 := by
  obtain ⟨t, r, o⟩ := c
  cases o <;> simp [Ct.right, wth] <;> omega

theorem results_cell1 {fn : Func} {p : Tmp} {ty : TypeId} (h : fn.results = #[.cell p ty]) (tmps : Array Value) (P : Program) (w : World) :
    (results fn tmps).run P w = ((asAddr (tmps.getD p undef)).run P w).andThen fun a w₁ => (loadVar ty a).run P w₁ := by
  simp only [results, h]
  simp [Sem.run_bind, Result.andThen]
theorem nxt {w w1 w2 : World} (h : Below w.heap.size w w1) (h2 : Below w1.heap.size w1 w2) : Below w.heap.size w w2 := h.trans (h2.mono h.size)
theorem ret_int {k : IntKind} {a b : Int} (h : a = b) : Ending.returned (.int k a) = .returned (.int k b) := by rw [h]
theorem ret_bool {a b : Bool} (h : a = b) : Ending.returned (.bool a) = .returned (.bool b) := by rw [h]
theorem ret_ct {a b : Ct} (h : a = b) : Ending.returned a.val = .returned b.val := by rw [h]
theorem below1 (w : World) (a : Obj) : Below w.heap.size w (w.alloc a) := (Below.refl _ _).alloc (Nat.le_refl _) _
theorem below2 (w : World) (a b : Obj) : Below w.heap.size w ((w.alloc a).alloc b) := (below1 w a).alloc (by simp) _
theorem below3 (w : World) (a b c : Obj) : Below w.heap.size w (((w.alloc a).alloc b).alloc c) := (below2 w a b).alloc (by simp; omega) _

/-- Block g is just the counts c, not frozen. -/
def Cb (w : World) (g : Nat) (c : Ct) : Prop := w.heap[g]? = some (.cells c.cells 23)
/-- Block g holds the counts c. -/
def Cx (w : World) (g : Nat) (c : Ct) : Prop := w.cell? ⟨g, 0, none⟩ = some (.int .i64 c.t) ∧ w.cell? ⟨g, 1, none⟩ = some (.int .i64 c.r) ∧ w.cell? ⟨g, 2, none⟩ = some (.bool c.o)
theorem Cb.cx {w : World} {g : Nat} {c : Ct} (h : Cb w g c) : Cx w g c := by
  unfold Cb at h
  exact ⟨cell_of_row w g 0 _ _ (0, 0) h, cell_of_row w g 1 _ _ (0, 0) h, cell_of_row w g 2 _ _ (0, 0) h⟩
theorem Cb.frozen {w : World} {g : Nat} {c : Ct} (h : Cb w g c) (i : Nat) : w.frozen? ⟨g, i, none⟩ = false := by
  unfold Cb at h
  simp [World.frozen?, h]
theorem Cb.lt {w : World} {g : Nat} {c : Ct} (h : Cb w g c) : g < w.heap.size := World.block_lt_of_cell? w ⟨g, 0, none⟩ h.cx.1
theorem Cb.below {w w' : World} {B g : Nat} {c : Ct} (h : Cb w g c) (hb : Below B w w') (hg : g < B) : Cb w' g c := (hb.block g hg).trans h
theorem cb_new (w : World) (c : Ct) : Cb (w.alloc (.cells c.cells 23)) w.heap.size c := heap_alloc_new w _
theorem cb_next (w : World) (o : Obj) (c : Ct) : Cb ((w.alloc o).alloc (.cells c.cells 23)) (w.heap.size + 1) c := by
  have h := cb_new (w.alloc o) c
  simpa using h
theorem cb_next2 (w : World) (o p : Obj) (c : Ct) : Cb (((w.alloc o).alloc p).alloc (.cells c.cells 23)) (w.heap.size + 1 + 1) c := by
  have h := cb_new ((w.alloc o).alloc p) c
  simpa using h
theorem cb_first (w : World) (c : Ct) (o : Obj) : Cb ((w.alloc (.cells c.cells 23)).alloc o) w.heap.size c :=
  (cb_new w c).below (B := w.heap.size + 1) ((Below.refl _ _).alloc (by simp) _) (by omega)
theorem set3 {w wr : World} {B g : Nat} (h : Below B w wr) (hg : B ≤ g) (v0 v1 v2 : Value) : Below B w (((wr.setCell ⟨g, 0, none⟩ v0).setCell ⟨g, 1, none⟩ v1).setCell ⟨g, 2, none⟩ v2) :=
  Below.setCell (Below.setCell (Below.setCell h (p := ⟨g, 0, none⟩) hg v0) (p := ⟨g, 1, none⟩) hg v1) (p := ⟨g, 2, none⟩) hg v2
end Go.Proofs.Ytmffiakdoklaaaa
