/- How frames, rows of frames and rows of bytes that came in are opened. -/
import Derived.Test.YtldhnbohpnkcpaaOpn
import Derived.Test.YtldhnbohpnkcpaaFb
namespace Go.Proofs.Ytldhnbohpnkcpaa
open Go.ChangeShapes Go.WideShapes Go.ChangeAt Go.RowKit

section
variable {H : Type} {enc : TypeId × Value → H} {W : World} {m : Nat} {x : DataW H × List MemPlace}
theorem frame_cells {cs : List Value} (hf : DataW.trod enc Try.prog W 0 (fun _ => true) true m 34 cs = some x) : ∃ f : Fr, cs = f.cells.toList ∧ f.wf := by
  obtain ⟨xs, n, _, _, hl, hxl, hg⟩ := DataW.trod_struct Try.underlying34 hf
  rw [show Try.prog.cellsOf 34 = 12 by kernel_rfl] at hl
  have hxl' : xs.length = 5 := hxl
  match cs, hl with
  | [c0, c1, c2, c3, c4, c5, c6, c7, c8, c9, c10, c11], _ =>
    have t0 : DataW.trod enc Try.prog W 0 (fun _ => true) true n 3 (List.take (Try.prog.cellsOf 3) (List.drop 0 [c0, c1, c2, c3, c4, c5, c6, c7, c8, c9, c10, c11])) = xs[0]? := hg 0 _ rfl
    have t1 : DataW.trod enc Try.prog W 0 (fun _ => true) true n 4 (List.take (Try.prog.cellsOf 4) (List.drop 1 [c0, c1, c2, c3, c4, c5, c6, c7, c8, c9, c10, c11])) = xs[1]? := hg 1 _ rfl
    have t2 : DataW.trod enc Try.prog W 0 (fun _ => true) true n 4 (List.take (Try.prog.cellsOf 4) (List.drop 2 [c0, c1, c2, c3, c4, c5, c6, c7, c8, c9, c10, c11])) = xs[2]? := hg 2 _ rfl
    have t3 : DataW.trod enc Try.prog W 0 (fun _ => true) true n 3 (List.take (Try.prog.cellsOf 3) (List.drop 3 [c0, c1, c2, c3, c4, c5, c6, c7, c8, c9, c10, c11])) = xs[3]? := hg 3 _ rfl
    have t4 : DataW.trod enc Try.prog W 0 (fun _ => true) true n 32 (List.take (Try.prog.cellsOf 32) (List.drop 4 [c0, c1, c2, c3, c4, c5, c6, c7, c8, c9, c10, c11])) = xs[4]? := hg 4 _ rfl
    rw [List.getElem?_eq_getElem (by omega)] at t0 t1 t2 t3 t4
    simp only [show Try.prog.cellsOf 3 = 1 by kernel_rfl, List.drop_zero, List.drop_succ_cons, List.take_succ_cons, List.take_zero] at t0 t3
    simp only [show Try.prog.cellsOf 4 = 1 by kernel_rfl, List.drop_zero, List.drop_succ_cons, List.take_succ_cons, List.take_zero] at t1 t2
    simp only [show Try.prog.cellsOf 32 = 8 by kernel_rfl, List.drop_zero, List.drop_succ_cons, List.take_succ_cons, List.take_zero] at t4
    obtain ⟨i, hi, _⟩ := DataW.trod_int Try.underlying3 t0
    obtain ⟨e, he, _⟩ := DataW.trod_bool Try.underlying4 t1
    obtain ⟨r, hr, _⟩ := DataW.trod_bool Try.underlying4 t2
    obtain ⟨l, hl, _⟩ := DataW.trod_int Try.underlying3 t3
    obtain ⟨_, hc⟩ := cells_in Try.underlying32 (by kernel_rfl) (by kernel_rfl) t4
    have hb : ∀ k, k < 8 → ∃ z : Int, [c4, c5, c6, c7, c8, c9, c10, c11][k]? = some (Value.int .u8 z) ∧ 0 ≤ z ∧ z ≤ 255 := fun k hk => by
      obtain ⟨v, m', x', hv, ht⟩ := hc k hk
      obtain ⟨z, hz, _, hw⟩ := DataW.trod_int Try.underlying5 ht
      simp at hz
      subst hz
      exact ⟨z, hv, bounds_u8 hw⟩
    simp at hi he hr hl
    obtain ⟨z0, q0, w0⟩ := hb 0 (by omega)
    obtain ⟨z1, q1, w1⟩ := hb 1 (by omega)
    obtain ⟨z2, q2, w2⟩ := hb 2 (by omega)
    obtain ⟨z3, q3, w3⟩ := hb 3 (by omega)
    obtain ⟨z4, q4, w4⟩ := hb 4 (by omega)
    obtain ⟨z5, q5, w5⟩ := hb 5 (by omega)
    obtain ⟨z6, q6, w6⟩ := hb 6 (by omega)
    obtain ⟨z7, q7, w7⟩ := hb 7 (by omega)
    simp at q0 q1 q2 q3 q4 q5 q6 q7
    refine ⟨⟨i, e, r, l, fun k => [z0, z1, z2, z3, z4, z5, z6, z7].getD k 0⟩, ?_, ?_⟩
    · rw [hi, he, hr, hl, q0, q1, q2, q3, q4, q5, q6, q7]; rfl
    · intro k hk
      match k, hk with
      | 0, _ => exact w0
      | 1, _ => exact w1
      | 2, _ => exact w2
      | 3, _ => exact w3
      | 4, _ => exact w4
      | 5, _ => exact w5
      | 6, _ => exact w6
      | 7, _ => exact w7
theorem frame_in {v : Value} {d : DataW H} {p : List MemPlace} {base : Nat} (hv : Value.okWide Try.prog W .any base 34 v) (h : DataW.Trod enc Try.prog W 0 (fun _ => true) true 34 v d p) : ∃ f : Fr, v = f.val ∧ f.wf := by
  obtain ⟨cs, rfl, _⟩ := okWide_struct Try.underlying34 hv
  obtain ⟨fuel, hf⟩ := h
  obtain ⟨f, hc, hw⟩ := frame_cells hf
  refine ⟨f, ?_, hw⟩
  have : cs = f.cells := Array.toList_inj.1 hc
  rw [this]
end
end Go.Proofs.Ytldhnbohpnkcpaa
