/- How rows of bytes that came in are opened. -/
import Derived.Test.YtjjfkakjkkpgaaaOp
import Derived.Test.YtjjfkakjkkpgaaaOf
namespace Go.Proofs.Ytjjfkakjkkpgaaa
open Go.ChangeShapes Go.WideShapes Go.ChangeAt Go.RowKit

/-- What is known of a slice of bytes that came in. -/
def InBytes (w : World) (a : Option Addr) (len cap : Nat) (zs : List Int) : Prop :=
  Bl w a len zs ∧ len ≤ cap ∧ ∀ z ∈ zs, 0 ≤ z ∧ z ≤ 255
theorem bytes_in {H : Type} {enc : TypeId × Value → H} {W : World} {m : Nat} {x : DataW H × List MemPlace} {c : Value} (hf : DataW.trod enc Try.prog W 0 (fun _ => true) true m 42 [c] = some x) : ∃ a len cap zs, c = .slice a len cap ∧ InBytes W a len cap zs := by
  rcases open_ints Try.underlying42 Try.underlying5 (by kernel_rfl) hf with ⟨hcs, _⟩ | ⟨ad, l, c', zs, hcs, _, hl, hm, hz, _, hcell, hwz⟩
  · simp at hcs
    exact ⟨none, 0, 0, [], hcs, ⟨rfl, fun h => by omega⟩, Nat.le_refl _, fun z hz => by cases hz⟩
  · simp at hcs
    have hzl : zs.length = c' := by simpa using hz
    refine ⟨some ad, l, c', zs.take l, hcs, ⟨by rw [List.length_take]; omega, fun hn => ⟨ad, rfl, ?_, fun j hj => ?_⟩⟩, hl, fun z hz => bounds_u8 (hwz z (List.mem_of_mem_take hz))⟩
    · have h0 := hcell 0 (by omega)
      rcases Nat.lt_or_ge ad.block W.heap.size with h | h
      · exact h
      · have hb : (ad.add 0).block = ad.block := block_of_add ad 0
        rw [World.cell?, hb, Array.getElem?_eq_none h] at h0
        cases h0
    · rw [hcell j (by omega)]
      simp [List.getD, List.getElem?_take_of_lt hj]
end Go.Proofs.Ytjjfkakjkkpgaaa
