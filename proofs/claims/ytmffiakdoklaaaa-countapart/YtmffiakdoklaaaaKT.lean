/- Small things for the laws: what a drawn region takes first, where a state leads. -/
import Derived.Test.YtmffiakdoklaaaaKS
namespace Go.Proofs.Ytmffiakdoklaaaa
open Go.RowKit

theorem takeH {P : Program} {md : Region.Mode} {l : List Oper} {Q : Exit → Act → World → Prop} {S : World → Prop} {i : Nat} {oi : Oper} {v : Value} {fuel : Nat} {listed : Array Bool} {a : Act} {w : World} (hi : l[i]? = some oi)
    (hs : Region.noSelect l.toArray = true) (hf : Region.free md l.toArray listed i = true) (hr : (Region.ready md l.toArray listed).contains i = true)
    (hQ : ∀ c a w, Q (.panic c) (a.put oi.dst v) w → Q (.panic c) a w) (hy : YieldsIf P l.toArray S oi v a) (hS : S w)
    (h : wpAnyH P md l.toArray Q S fuel (listed.setIfInBounds i true) (a.put oi.dst v) w) : wpAnyH P md l.toArray Q S (fuel + 1) listed a w :=
  wpAnyH_take (by simpa using hi) hs hf hr hQ hy hS h
theorem Cb.next {w w' : World} {g : Nat} {c : Ct} (h : Cb w g c) (hb : Below w.heap.size w w') : Cb w' g c := h.below hb h.lt
theorem Rb.lt {w : World} {g : Nat} {c : Ct} (h : Rb w g c) : g < w.heap.size := World.block_lt_of_cell? w ⟨g, 0, none⟩ h.cx.1
theorem Rb.next {w w' : World} {g : Nat} {c : Ct} (h : Rb w g c) (hb : Below w.heap.size w w') : Rb w' g c := h.below hb h.lt
theorem Cb.put {w : World} {g : Nat} {c : Ct} (h : Cb w g c) (d : Ct) : Cb (((w.setCell ⟨g, 0, none⟩ (.int .i64 d.t)).setCell ⟨g, 1, none⟩ (.int .i64 d.r)).setCell ⟨g, 2, none⟩ (.bool d.o)) g d := by
  unfold Cb at h ⊢
  simp [World.setCell, Array.getElem?_modify, h]
theorem Rb.put {w : World} {g : Nat} {c : Ct} (h : Rb w g c) (d : Ct) : Rb (((w.setCell ⟨g, 0, none⟩ (.int .i64 d.t)).setCell ⟨g, 1, none⟩ (.int .i64 d.r)).setCell ⟨g, 2, none⟩ (.bool d.o)) g d := by
  unfold Rb at h ⊢
  simp [World.setCell, Array.getElem?_modify, h]
theorem Cb.away {w : World} {g g' : Nat} {c : Ct} (h : Cb w g c) (hne : g' ≠ g) (u v x : Value) : Cb (((w.setCell ⟨g', 0, none⟩ u).setCell ⟨g', 1, none⟩ v).setCell ⟨g', 2, none⟩ x) g c := by
  unfold Cb at h ⊢
  simp [World.setCell, Array.getElem?_modify, h, hne]
theorem Rb.away {w : World} {g g' : Nat} {c : Ct} (h : Rb w g c) (hne : g' ≠ g) (u v x : Value) : Rb (((w.setCell ⟨g', 0, none⟩ u).setCell ⟨g', 1, none⟩ v).setCell ⟨g', 2, none⟩ x) g c := by
  unfold Rb at h ⊢
  simp [World.setCell, Array.getElem?_modify, h, hne]
theorem err_eq (c : Ct) : (c.err != 0) = !c.right := by unfold Ct.err; cases c.right <;> rfl
theorem st_cases (c : Ct) : c.st = 0 ∨ c.st = 1 ∨ c.st = 2 := by unfold Ct.st; split <;> (try split) <;> simp
theorem st_one {c : Ct} : c.st = 1 ↔ c.o = false ∧ (127 < c.t ∨ 127 < c.r) := by
  obtain ⟨t, r, o⟩ := c
  cases o <;> simp [Ct.st] <;> omega
theorem st_zero {c : Ct} : c.st = 0 ↔ c.o = false ∧ c.t ≤ 127 ∧ c.r ≤ 127 := by
  obtain ⟨t, r, o⟩ := c
  cases o <;> simp [Ct.st] <;> omega
theorem st_two {c : Ct} : c.st = 2 ↔ c.o = true := by
  obtain ⟨t, r, o⟩ := c
  cases o <;> simp [Ct.st] <;> omega
theorem st_snt {c : Ct} (h : c.st ≠ 1) : c.snt.st = c.st := by
  rcases st_cases c with h0 | h1 | h2
  · rw [h0, st_zero]
    obtain ⟨a, b, d⟩ := st_zero.1 h0
    unfold Ct.snt
    split
    · exact ⟨a, by simp; omega, d⟩
    · exact ⟨a, b, d⟩
  · exact absurd h1 h
  · have ho := st_two.1 h2
    rw [snt_not (by unfold Ct.run; rw [ho]; simp)]
end Go.Proofs.Ytmffiakdoklaaaa
