/- How rows of frames that came in are opened. -/
import Derived.Test.YtldhnbohpnkcpaaOp
import Derived.Test.YtldhnbohpnkcpaaFw
import Derived.Deep.Slices
namespace Go.Proofs.Ytldhnbohpnkcpaa
open Go.ChangeShapes Go.WideShapes Go.ChangeAt Go.RowKit

instance : Inhabited Fr := ⟨Fr.zero⟩
/-- What is known of a slice of frames that came in. -/
def InFrames (w : World) (a : Option Addr) (len cap : Nat) (fs : Nat → Fr) : Prop := Fl w a len fs ∧ len ≤ cap ∧ ∀ i, i < len → (fs i).wf
theorem frow_in {H : Type} {enc : TypeId × Value → H} {W : World} {m : Nat} {x : DataW H × List MemPlace} {c : Value} (hf : DataW.trod enc Try.prog W 0 (fun _ => true) true m 29 [c] = some x) : ∃ a len cap fs, c = .slice a len cap ∧ InFrames W a len cap fs := by
  rcases Go.Deep.open_slice Try.underlying29 hf with ⟨hcs, _⟩ | ⟨ad, l, c', m', n, D, Pl, hcs, _, hl, hm, hmm, _, hel⟩
  · simp at hcs
    exact ⟨none, 0, 0, fun _ => Fr.zero, hcs, fun h => by omega, Nat.le_refl _, fun i hi => by omega⟩
  · simp at hcs
    have hlm : l ≤ m' := by rw [hmm]; split <;> omega
    obtain ⟨fs, hfs⟩ := Go.Deep.choose_lt (α := Fr) (n := l) (p := fun i f => f.wf ∧ W.cells? 0 (ad.add (i * 12)) 12 = some f.cells.toList) (fun i hi => by
      obtain ⟨cs', h1, h2⟩ := hel i (by omega)
      rw [show Try.prog.cellsOf 34 = 12 by kernel_rfl] at h1
      obtain ⟨f, hc, hw⟩ := frame_cells h2
      exact ⟨f, hw, by rw [h1, hc]⟩)
    refine ⟨some ad, l, c', fs, hcs, fun hn => ⟨ad, rfl, ?_, fun j hj c v hv => ?_⟩, hl, fun i hi => (hfs i hi).1⟩
    · obtain ⟨_, _, hc⟩ := World.cells?_some (hfs 0 hn).2
      have h0 : W.cell? ((ad.add (0 * 12)).add 0) = some (.int .i64 (fs 0).id) := hc 0 (by omega)
      have hb := World.block_lt_of_cell? W _ h0
      rwa [block_of_add, block_of_add] at hb
    · obtain ⟨_, hln, hc⟩ := World.cells?_some (hfs j hj).2
      have hlt : c < 12 := by
        rcases Nat.lt_or_ge c 12 with h | h
        · exact h
        · rw [Array.getElem?_eq_none (by simpa using h)] at hv; cases hv
      have h1 := hc c hlt
      rw [add_add] at h1
      rw [h1, Array.getElem?_toList]
      exact hv
end Go.Proofs.Ytldhnbohpnkcpaa
