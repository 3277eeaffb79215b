/- Three frames in a row. -/
import Derived.Test.YtjjfkakjkkpgaaaAw
import Derived.Test.YtjjfkakjkkpgaaaOp
namespace Go.Proofs.Ytjjfkakjkkpgaaa
open Go.ChangeShapes Go.WideShapes Go.ChangeAt Go.RowKit

def B12 (w : World) (g : Nat) (f : Fr) : Prop := w.cell? ⟨g, 12, none⟩ = some (.int .i64 f.id) ∧ w.cell? ⟨g, 13, none⟩ = some (.bool f.ext) ∧ w.cell? ⟨g, 14, none⟩ = some (.bool f.rtr) ∧ w.cell? ⟨g, 15, none⟩ = some (.int .i64 f.len) ∧ w.cell? ⟨g, 16, none⟩ = some (.int .u8 (f.d 0)) ∧ w.cell? ⟨g, 17, none⟩ = some (.int .u8 (f.d 1)) ∧ w.cell? ⟨g, 18, none⟩ = some (.int .u8 (f.d 2)) ∧ w.cell? ⟨g, 19, none⟩ = some (.int .u8 (f.d 3)) ∧ w.cell? ⟨g, 20, none⟩ = some (.int .u8 (f.d 4)) ∧ w.cell? ⟨g, 21, none⟩ = some (.int .u8 (f.d 5)) ∧ w.cell? ⟨g, 22, none⟩ = some (.int .u8 (f.d 6)) ∧ w.cell? ⟨g, 23, none⟩ = some (.int .u8 (f.d 7))
theorem B12.below {w w' : World} {g : Nat} {f : Fr} (h : B12 w g f) (hb : Below w.heap.size w w') (hg : g < w.heap.size) : B12 w' g f := by
  unfold B12 at h ⊢
  have e : ∀ k, w'.cell? ⟨g, k, none⟩ = w.cell? ⟨g, k, none⟩ := fun k => hb.cell hg
  simp only [e]
  exact h
def B24 (w : World) (g : Nat) (f : Fr) : Prop := w.cell? ⟨g, 24, none⟩ = some (.int .i64 f.id) ∧ w.cell? ⟨g, 25, none⟩ = some (.bool f.ext) ∧ w.cell? ⟨g, 26, none⟩ = some (.bool f.rtr) ∧ w.cell? ⟨g, 27, none⟩ = some (.int .i64 f.len) ∧ w.cell? ⟨g, 28, none⟩ = some (.int .u8 (f.d 0)) ∧ w.cell? ⟨g, 29, none⟩ = some (.int .u8 (f.d 1)) ∧ w.cell? ⟨g, 30, none⟩ = some (.int .u8 (f.d 2)) ∧ w.cell? ⟨g, 31, none⟩ = some (.int .u8 (f.d 3)) ∧ w.cell? ⟨g, 32, none⟩ = some (.int .u8 (f.d 4)) ∧ w.cell? ⟨g, 33, none⟩ = some (.int .u8 (f.d 5)) ∧ w.cell? ⟨g, 34, none⟩ = some (.int .u8 (f.d 6)) ∧ w.cell? ⟨g, 35, none⟩ = some (.int .u8 (f.d 7))
theorem B24.below {w w' : World} {g : Nat} {f : Fr} (h : B24 w g f) (hb : Below w.heap.size w w') (hg : g < w.heap.size) : B24 w' g f := by
  unfold B24 at h ⊢
  have e : ∀ k, w'.cell? ⟨g, k, none⟩ = w.cell? ⟨g, k, none⟩ := fun k => hb.cell hg
  simp only [e]
  exact h
abbrev cells3 (f g h : Fr) : Array Value := #[.int .i64 f.id, .bool f.ext, .bool f.rtr, .int .i64 f.len, .int .u8 (f.d 0), .int .u8 (f.d 1), .int .u8 (f.d 2), .int .u8 (f.d 3), .int .u8 (f.d 4), .int .u8 (f.d 5), .int .u8 (f.d 6), .int .u8 (f.d 7), .int .i64 g.id, .bool g.ext, .bool g.rtr, .int .i64 g.len, .int .u8 (g.d 0), .int .u8 (g.d 1), .int .u8 (g.d 2), .int .u8 (g.d 3), .int .u8 (g.d 4), .int .u8 (g.d 5), .int .u8 (g.d 6), .int .u8 (g.d 7), .int .i64 h.id, .bool h.ext, .bool h.rtr, .int .i64 h.len, .int .u8 (h.d 0), .int .u8 (h.d 1), .int .u8 (h.d 2), .int .u8 (h.d 3), .int .u8 (h.d 4), .int .u8 (h.d 5), .int .u8 (h.d 6), .int .u8 (h.d 7)]
/-- Three frames lie in the block behind w0. -/
def Trio (w0 : World) (f g h : Fr) (w : World) : Prop := Bx w w0.heap.size f ∧ B12 w w0.heap.size g ∧ B24 w w0.heap.size h
theorem Trio.lt {w0 w : World} {f g h : Fr} (t : Trio w0 f g h w) : w0.heap.size < w.heap.size := t.1.lt
theorem Trio.below {w0 w w' : World} {f g h : Fr} (t : Trio w0 f g h w) (hb : Below w.heap.size w w') : Trio w0 f g h w' :=
  ⟨t.1.below hb t.lt, t.2.1.below hb t.lt, t.2.2.below hb t.lt⟩
theorem trio_new (w : World) (f g h : Fr) : Trio w f g h (w.alloc (.cells (cells3 f g h) 45)) := by
  have e := heap_alloc_new w (.cells (cells3 f g h) 45)
  refine ⟨?_, ?_, ?_⟩
  · unfold Bx
    simp only [World.cell?, e]
    exact ⟨rfl, rfl, rfl, rfl, rfl, rfl, rfl, rfl, rfl, rfl, rfl, rfl⟩
  · unfold B12
    simp only [World.cell?, e]
    exact ⟨rfl, rfl, rfl, rfl, rfl, rfl, rfl, rfl, rfl, rfl, rfl, rfl⟩
  · unfold B24
    simp only [World.cell?, e]
    exact ⟨rfl, rfl, rfl, rfl, rfl, rfl, rfl, rfl, rfl, rfl, rfl, rfl⟩
/-- Two frames lie in the blocks behind w0. -/
def Duo (w0 : World) (f g : Fr) (w : World) : Prop := (Bx w w0.heap.size f ∧ Bx w (w0.heap.size + 1) g) ∧ w0.heap.size + 1 < w.heap.size
theorem Duo.below {w0 w w' : World} {f g : Fr} (h : Duo w0 f g w) (hb : Below w.heap.size w w') : Duo w0 f g w' :=
  ⟨⟨h.1.1.below hb h.1.1.lt, h.1.2.below hb h.1.2.lt⟩, Nat.lt_of_lt_of_le h.2 hb.size⟩
theorem duo_new (w : World) (f g : Fr) : Duo w f g ((w.alloc (.cells f.cells 24)).alloc (.cells g.cells 24)) := ⟨⟨bx_two1 w f g, bx_two2 w f g⟩, by simp⟩
theorem boxed3 (w : World) (f g h : Fr) : Below w.heap.size w (w.alloc (.cells (cells3 f g h) 45)) := (Below.refl _ _).alloc (Nat.le_refl _) _

theorem list36 {l a b c : List Value} (h : l.length = 36) (ha : (l.drop 0).take 12 = a) (hb : (l.drop 12).take 12 = b) (hc : (l.drop 24).take 12 = c) : l = a ++ b ++ c := by
  rw [← ha, ← hb, ← hc]
  have e1 : l = l.take 12 ++ l.drop 12 := (List.take_append_drop 12 l).symm
  have e2 : l.drop 12 = (l.drop 12).take 12 ++ l.drop 24 := by
    have := (List.take_append_drop 12 (l.drop 12)).symm
    rwa [List.drop_drop] at this
  have e3 : (l.drop 24).take 12 = l.drop 24 := List.take_of_length_le (by rw [List.length_drop]; omega)
  rw [e3, List.drop_zero, List.append_assoc, ← e2, ← e1]
theorem frames_in {H : Type} {enc : TypeId × Value → H} {W : World} {v : Value} {d : DataW H} {p : List MemPlace} {base : Nat} (hv : Value.okWide Try.prog W .any base 45 v) (h : DataW.Trod enc Try.prog W 0 (fun _ => true) true 45 v d p) :
    ∃ f g h : Fr, v = .agg (cells3 f g h) ∧ f.wf ∧ g.wf ∧ h.wf := by
  obtain ⟨cs, rfl⟩ := agg_in Try.underlying45 hv
  obtain ⟨fuel, hf⟩ := h
  obtain ⟨xs, m, _, _, hl, hxl, hi⟩ := DataW.trod_array Try.underlying45 hf
  rw [show Try.prog.cellsOf 45 = 36 by kernel_rfl] at hl
  have t0 := hi 0 (by omega)
  have t1 := hi 1 (by omega)
  have t2 := hi 2 (by omega)
  rw [show Try.prog.cellsOf 24 = 12 by kernel_rfl, List.getElem?_eq_getElem (by omega)] at t0 t1 t2
  obtain ⟨f, hf', wf⟩ := frame_cells t0
  obtain ⟨g, hg', wg⟩ := frame_cells t1
  obtain ⟨h, hh', wh⟩ := frame_cells t2
  refine ⟨f, g, h, ?_, wf, wg, wh⟩
  have e := list36 hl hf' hg' hh'
  have : cs = cells3 f g h := Array.toList_inj.1 e
  rw [this]
end Go.Proofs.Ytjjfkakjkkpgaaa
