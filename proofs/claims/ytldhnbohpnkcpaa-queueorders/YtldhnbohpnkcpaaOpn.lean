/- How arguments that came in are opened: slices of ints, arrays of ints and of bools. -/
import Derived.Test.YtldhnbohpnkcpaaW2
import Derived.WalkKit
import Derived.ProofKit
import Derived.OpenShut
import Derived.ShutString
import Derived.ChangeOld
import Derived.Below
namespace Go.Proofs.Ytldhnbohpnkcpaa
open Go.ChangeShapes Go.WideShapes Go.ChangeAt Go.RowKit

theorem ownKn : ownKnob Try.prog.godebug = none := by kernel_rfl
theorem laidOut : laidOutB Try.prog = true := by kernel_rfl

/-- What is known of a slice of ints that came in. -/
def InRow (w : World) (a : Option Addr) (len cap : Nat) (zs : List Int) : Prop :=
  Il w a len zs ∧ len ≤ cap ∧ ∀ z ∈ zs, -9223372036854775808 ≤ z ∧ z ≤ 9223372036854775807

theorem wf_i64 {z : Int} (h : (Lit.int .i64 z).wf = true) : -9223372036854775808 ≤ z ∧ z ≤ 9223372036854775807 := bounds_i64 h

section
variable {H : Type} {enc : TypeId × Value → H} {W : World} {m : Nat} {x : DataW H × List MemPlace}
theorem row_in {c : Value} (hf : DataW.trod enc Try.prog W 0 (fun _ => true) true m 64 [c] = some x) : ∃ a len cap zs, c = .slice a len cap ∧ InRow W a len cap zs := by
  rcases open_ints Try.underlying64 Try.underlying3 (by kernel_rfl) hf with ⟨hcs, _⟩ | ⟨ad, l, c', zs, hcs, _, hl, hm, hz, _, hcell, hwz⟩
  · simp at hcs
    exact ⟨none, 0, 0, [], hcs, ⟨rfl, fun h => by omega⟩, Nat.le_refl _, fun z hz => by cases hz⟩
  · simp at hcs
    have hzl : zs.length = c' := by simpa using hz
    refine ⟨some ad, l, c', zs.take l, hcs, ⟨by rw [List.length_take]; omega, fun hn => ⟨ad, rfl, ?_, fun j hj => ?_⟩⟩, hl, fun z hz => wf_i64 (hwz z (List.mem_of_mem_take hz))⟩
    · have h0 := hcell 0 (by omega)
      rcases Nat.lt_or_ge ad.block W.heap.size with h | h
      · exact h
      · have hb : (ad.add 0).block = ad.block := block_of_add ad 0
        rw [World.cell?, hb, Array.getElem?_eq_none h] at h0
        cases h0
    · rw [hcell j (by omega)]
      simp [List.getD, List.getElem?_take_of_lt hj]
/-- An array of cells: each reads as its element type does. -/
theorem cells_in {t e : TypeId} {n : Nat} {cs : List Value} (ht : Try.prog.underlying t = some (.array n e)) (he : Try.prog.cellsOf e = 1) (hc : Try.prog.cellsOf t = n) (hf : DataW.trod enc Try.prog W 0 (fun _ => true) true m t cs = some x) :
    cs.length = n ∧ ∀ i, i < n → ∃ v m' x', cs[i]? = some v ∧ DataW.trod enc Try.prog W 0 (fun _ => true) true m' e [v] = some x' := by
  obtain ⟨xs, m', _, _, hl0, hl, hi⟩ := DataW.trod_array ht hf
  rw [hc] at hl0
  refine ⟨hl0, fun i h => ?_⟩
  have h1 := hi i h
  rw [he, Nat.mul_one, List.getElem?_eq_getElem (by omega)] at h1
  have hlt : i < cs.length := by omega
  rw [List.drop_eq_getElem_cons hlt, List.take_succ_cons, List.take_zero] at h1
  exact ⟨_, m', _, List.getElem?_eq_getElem hlt, h1⟩
theorem list_of {α : Type} (f : α → Value) (cs : List Value) (h : ∀ i, i < cs.length → ∃ a, cs[i]? = some (f a)) : ∃ ps : List α, cs = ps.map f := by
  induction cs with
  | nil => exact ⟨[], rfl⟩
  | cons c cs ih =>
    obtain ⟨a, ha⟩ := h 0 (by simp)
    obtain ⟨ps, hps⟩ := ih (fun i hi => by simpa using h (i + 1) (by simp; exact hi))
    simp at ha
    exact ⟨a :: ps, by rw [ha, hps]; rfl⟩
theorem bools_in {t : TypeId} {n : Nat} {cs : List Value} (ht : Try.prog.underlying t = some (.array n 4)) (hc : Try.prog.cellsOf t = n) (hf : DataW.trod enc Try.prog W 0 (fun _ => true) true m t cs = some x) : ∃ bs : List Bool, cs = bs.map Value.bool ∧ bs.length = n := by
  obtain ⟨hl, h⟩ := cells_in ht (by kernel_rfl) hc hf
  obtain ⟨ps, hps⟩ := list_of Value.bool cs (fun i hi => by
    obtain ⟨v, m', x', hv, hr⟩ := h i (by omega)
    obtain ⟨b, hb, _⟩ := DataW.trod_bool Try.underlying4 hr
    simp at hb
    exact ⟨b, by rw [hv, hb]⟩)
  exact ⟨ps, hps, by rw [← hl, hps, List.length_map]⟩
theorem ints_in {t : TypeId} {n : Nat} {cs : List Value} (ht : Try.prog.underlying t = some (.array n 3)) (hc : Try.prog.cellsOf t = n) (hf : DataW.trod enc Try.prog W 0 (fun _ => true) true m t cs = some x) : ∃ zs : List Int, cs = zs.map (Value.int .i64) ∧ zs.length = n := by
  obtain ⟨hl, h⟩ := cells_in ht (by kernel_rfl) hc hf
  obtain ⟨ps, hps⟩ := list_of (Value.int .i64) cs (fun i hi => by
    obtain ⟨v, m', x', hv, hr⟩ := h i (by omega)
    obtain ⟨b, hb, _⟩ := DataW.trod_int Try.underlying3 hr
    simp at hb
    exact ⟨b, by rw [hv, hb]⟩)
  exact ⟨ps, hps, by rw [← hl, hps, List.length_map]⟩
theorem rows_in {t : TypeId} {n : Nat} {cs : List Value} (ht : Try.prog.underlying t = some (.array n 64)) (hc : Try.prog.cellsOf t = n) (hf : DataW.trod enc Try.prog W 0 (fun _ => true) true m t cs = some x) : cs.length = n ∧ ∀ i, i < n → ∃ a len cap zs, cs[i]? = some (.slice a len cap) ∧ InRow W a len cap zs := by
  obtain ⟨hl, h⟩ := cells_in ht (by kernel_rfl) hc hf
  refine ⟨hl, fun i hi => ?_⟩
  obtain ⟨v, m', x', hv, hr⟩ := h i hi
  obtain ⟨a, len, cap, zs, rfl, hin⟩ := row_in hr
  exact ⟨a, len, cap, zs, hv, hin⟩
end
theorem two_cells {cs : Array Value} {u v : Value} (hl : cs.toList.length = 2) (h0 : cs.toList[0]? = some u) (h1 : cs.toList[1]? = some v) : cs = #[u, v] := by
  obtain ⟨l⟩ := cs
  match l, hl with
  | [a, b], _ =>
    simp at h0 h1
    rw [h0, h1]
/-- An array, or a struct, is its cells. -/
theorem agg_in {W : World} {base : Nat} {t : TypeId} {n : Nat} {e : TypeId} {v : Value} (ht : Try.prog.underlying t = some (.array n e)) (h : Value.okWide Try.prog W .any base t v) : ∃ cs : Array Value, v = .agg cs := by
  simp only [Value.okWide, ht] at h
  obtain ⟨cs, rfl, _⟩ := h
  exact ⟨cs, rfl⟩
end Go.Proofs.Ytldhnbohpnkcpaa
