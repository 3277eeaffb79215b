/- How counts, rows of what comes and rows of bools that came in are opened. -/
import Derived.Test.YtmffiakdoklaaaaOpn
import Derived.Test.YtmffiakdoklaaaaSl
import Derived.Test.YtmffiakdoklaaaaKM
import Derived.Deep.Slices
namespace Go.Proofs.Ytmffiakdoklaaaa
open Go.ChangeShapes Go.WideShapes Go.ChangeAt Go.RowKit

/-- The slice value '.slice A n c' holds what comes. -/
def Cl (w : World) (A : Option Addr) (n : Nat) (f : Nat → Int × Int) : Prop :=
  0 < n → ∃ ad, A = some ad ∧ ad.block < w.heap.size ∧ ∀ j, j < n → w.cell? (ad.add (j * 2)) = some (.int .i64 (f j).1) ∧ w.cell? ((ad.add (j * 2)).add 1) = some (.int .i64 (f j).2)
theorem Cl.below {w w' : World} {A : Option Addr} {n : Nat} {f : Nat → Int × Int} (h : Cl w A n f) (hb : Below w.heap.size w w') : Cl w' A n f := fun hn => by
  obtain ⟨ad, e, hl, hc⟩ := h hn
  exact ⟨ad, e, Nat.lt_of_lt_of_le hl hb.size, fun j hj => ⟨(hb.cell (by rw [block_of_add]; exact hl)).trans (hc j hj).1, (hb.cell (by rw [block_of_add, block_of_add]; exact hl)).trans (hc j hj).2⟩⟩
theorem Cl.at_ {w : World} {A : Option Addr} {n k : Nat} {f : Nat → Int × Int} (h : Cl w A n f) (hk : k < n) : ∃ ad, A = some ad ∧ ad.block < w.heap.size ∧
    w.cell? (ad.add (k * 2)) = some (.int .i64 (f k).1) ∧ w.cell? ⟨(ad.add (k * 2)).block, (ad.add (k * 2)).off + 1, none⟩ = some (.int .i64 (f k).2) := by
  obtain ⟨ad, e, hl, hc⟩ := h (by omega)
  exact ⟨ad, e, hl, (hc k hk).1, by rw [← add_pos _ (by omega)]; exact (hc k hk).2⟩
/-- The slice value '.slice A n c' holds bools. -/
def Bl (w : World) (A : Option Addr) (n : Nat) (f : Nat → Bool) : Prop :=
  0 < n → ∃ ad, A = some ad ∧ ad.block < w.heap.size ∧ ∀ j, j < n → w.cell? (ad.add j) = some (.bool (f j))
theorem Bl.below {w w' : World} {A : Option Addr} {n : Nat} {f : Nat → Bool} (h : Bl w A n f) (hb : Below w.heap.size w w') : Bl w' A n f := fun hn => by
  obtain ⟨ad, e, hl, hc⟩ := h hn
  exact ⟨ad, e, Nat.lt_of_lt_of_le hl hb.size, fun j hj => (hb.cell (by rw [block_of_add]; exact hl)).trans (hc j hj)⟩
theorem Bl.at_ {w : World} {A : Option Addr} {n k : Nat} {f : Nat → Bool} (h : Bl w A n f) (hk : k < n) : ∃ ad, A = some ad ∧ ad.block < w.heap.size ∧ w.cell? (ad.add k) = some (.bool (f k)) := by
  obtain ⟨ad, e, hl, hc⟩ := h (by omega)
  exact ⟨ad, e, hl, hc k hk⟩

section
variable {H : Type} {enc : TypeId × Value → H} {W : World} {m : Nat} {x : DataW H × List MemPlace}
theorem counts_cells {cs : List Value} (hf : DataW.trod enc Try.prog W 0 (fun _ => true) true m 23 cs = some x) : ∃ c : Ct, cs = c.cells.toList := by
  obtain ⟨xs, n, _, _, hl, hxl, hg⟩ := DataW.trod_struct Try.underlying23 hf
  rw [show Try.prog.cellsOf 23 = 3 by kernel_rfl] at hl
  have hxl' : xs.length = 3 := hxl
  match cs, hl with
  | [c0, c1, c2], _ =>
    have t0 : DataW.trod enc Try.prog W 0 (fun _ => true) true n 3 (List.take (Try.prog.cellsOf 3) (List.drop 0 [c0, c1, c2])) = xs[0]? := hg 0 _ rfl
    have t1 : DataW.trod enc Try.prog W 0 (fun _ => true) true n 3 (List.take (Try.prog.cellsOf 3) (List.drop 1 [c0, c1, c2])) = xs[1]? := hg 1 _ rfl
    have t2 : DataW.trod enc Try.prog W 0 (fun _ => true) true n 4 (List.take (Try.prog.cellsOf 4) (List.drop 2 [c0, c1, c2])) = xs[2]? := hg 2 _ rfl
    rw [List.getElem?_eq_getElem (by omega)] at t0 t1 t2
    simp only [show Try.prog.cellsOf 3 = 1 by kernel_rfl, List.drop_zero, List.drop_succ_cons, List.take_succ_cons, List.take_zero] at t0 t1
    simp only [show Try.prog.cellsOf 4 = 1 by kernel_rfl, List.drop_zero, List.drop_succ_cons, List.take_succ_cons, List.take_zero] at t2
    obtain ⟨i, hi, _⟩ := DataW.trod_int Try.underlying3 t0
    obtain ⟨e, he, _⟩ := DataW.trod_int Try.underlying3 t1
    obtain ⟨r, hr, _⟩ := DataW.trod_bool Try.underlying4 t2
    simp at hi he hr
    exact ⟨⟨i, e, r⟩, by rw [hi, he, hr]⟩
theorem come_cells {cs : List Value} (hf : DataW.trod enc Try.prog W 0 (fun _ => true) true m 25 cs = some x) : ∃ p : Int × Int, cs = [.int .i64 p.1, .int .i64 p.2] := by
  obtain ⟨xs, n, _, _, hl, hxl, hg⟩ := DataW.trod_struct Try.underlying25 hf
  rw [show Try.prog.cellsOf 25 = 2 by kernel_rfl] at hl
  have hxl' : xs.length = 2 := hxl
  match cs, hl with
  | [c0, c1], _ =>
    have t0 : DataW.trod enc Try.prog W 0 (fun _ => true) true n 3 (List.take (Try.prog.cellsOf 3) (List.drop 0 [c0, c1])) = xs[0]? := hg 0 _ rfl
    have t1 : DataW.trod enc Try.prog W 0 (fun _ => true) true n 3 (List.take (Try.prog.cellsOf 3) (List.drop 1 [c0, c1])) = xs[1]? := hg 1 _ rfl
    rw [List.getElem?_eq_getElem (by omega)] at t0 t1
    simp only [show Try.prog.cellsOf 3 = 1 by kernel_rfl, List.drop_zero, List.drop_succ_cons, List.take_succ_cons, List.take_zero] at t0 t1
    obtain ⟨i, hi, _⟩ := DataW.trod_int Try.underlying3 t0
    obtain ⟨e, he, _⟩ := DataW.trod_int Try.underlying3 t1
    simp at hi he
    exact ⟨⟨i, e⟩, by rw [hi, he]⟩
theorem counts_in {v : Value} {d : DataW H} {p : List MemPlace} {base : Nat} (hv : Value.okWide Try.prog W .any base 23 v) (h : DataW.Trod enc Try.prog W 0 (fun _ => true) true 23 v d p) : ∃ c : Ct, v = c.val := by
  obtain ⟨cs, rfl, _⟩ := okWide_struct Try.underlying23 hv
  obtain ⟨fuel, hf⟩ := h
  obtain ⟨c, hc⟩ := counts_cells hf
  have : cs = c.cells := Array.toList_inj.1 hc
  exact ⟨c, by rw [this]⟩
theorem come_in {v : Value} {d : DataW H} {p : List MemPlace} {base : Nat} (hv : Value.okWide Try.prog W .any base 25 v) (h : DataW.Trod enc Try.prog W 0 (fun _ => true) true 25 v d p) : ∃ q : Int × Int, v = .agg #[.int .i64 q.1, .int .i64 q.2] := by
  obtain ⟨cs, rfl, _⟩ := okWide_struct Try.underlying25 hv
  obtain ⟨fuel, hf⟩ := h
  obtain ⟨q, hc⟩ := come_cells hf
  have : cs = #[.int .i64 q.1, .int .i64 q.2] := Array.toList_inj.1 hc
  exact ⟨q, by rw [this]⟩
theorem comes_in {c : Value} (hf : DataW.trod enc Try.prog W 0 (fun _ => true) true m 37 [c] = some x) : ∃ a len cap f, c = .slice a len cap ∧ Cl W a len f := by
  rcases Go.Deep.open_slice Try.underlying37 hf with ⟨hcs, _⟩ | ⟨ad, l, c', m', n, D, Pl, hcs, _, hl, hm, hmm, _, hel⟩
  · simp at hcs
    exact ⟨none, 0, 0, fun _ => (0, 0), hcs, fun h => by omega⟩
  · simp at hcs
    have hlm : l ≤ m' := by rw [hmm]; split <;> omega
    obtain ⟨f, hf⟩ := Go.Deep.choose_lt (α := Int × Int) (n := l) (p := fun i q => W.cells? 0 (ad.add (i * 2)) 2 = some [.int .i64 q.1, .int .i64 q.2]) (fun i hi => by
      obtain ⟨cs', h1, h2⟩ := hel i (by omega)
      rw [show Try.prog.cellsOf 25 = 2 by kernel_rfl] at h1
      obtain ⟨q, hc⟩ := come_cells h2
      exact ⟨q, by rw [h1, hc]⟩)
    refine ⟨some ad, l, c', f, hcs, fun hn => ⟨ad, rfl, ?_, fun j hj => ?_⟩⟩
    · obtain ⟨_, _, hc⟩ := World.cells?_some (hf 0 hn)
      have hb := World.block_lt_of_cell? W _ (hc 0 (by omega))
      rwa [block_of_add, block_of_add] at hb
    · obtain ⟨_, _, hc⟩ := World.cells?_some (hf j hj)
      have h0 := hc 0 (by omega)
      have h1 := hc 1 (by omega)
      rw [at_zero] at h0
      exact ⟨h0, h1⟩
theorem boolrow_in {c : Value} (hf : DataW.trod enc Try.prog W 0 (fun _ => true) true m 40 [c] = some x) : ∃ a len cap f, c = .slice a len cap ∧ Bl W a len f := by
  rcases Go.Deep.open_slice Try.underlying40 hf with ⟨hcs, _⟩ | ⟨ad, l, c', m', n, D, Pl, hcs, _, hl, hm, hmm, _, hel⟩
  · simp at hcs
    exact ⟨none, 0, 0, fun _ => false, hcs, fun h => by omega⟩
  · simp at hcs
    have hlm : l ≤ m' := by rw [hmm]; split <;> omega
    obtain ⟨f, hf⟩ := Go.Deep.choose_lt (α := Bool) (n := l) (p := fun i q => W.cell? (ad.add i) = some (.bool q)) (fun i hi => by
      obtain ⟨cs', h1, h2⟩ := hel i (by omega)
      rw [show Try.prog.cellsOf 4 = 1 by kernel_rfl, Nat.mul_one] at h1
      obtain ⟨_, hl1, hc⟩ := World.cells?_some h1
      match cs', hl1 with
      | [u], _ =>
        obtain ⟨b, hb, _⟩ := DataW.trod_bool Try.underlying4 h2
        simp at hb
        have h0 := hc 0 (by omega)
        rw [at_zero, hb] at h0
        exact ⟨b, h0⟩)
    refine ⟨some ad, l, c', f, hcs, fun hn => ⟨ad, rfl, ?_, fun j hj => hf j hj⟩⟩
    have hb := World.block_lt_of_cell? W _ (hf 0 hn)
    rwa [block_of_add] at hb
end
end Go.Proofs.Ytmffiakdoklaaaa
