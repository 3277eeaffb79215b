/- Rows of frames; a part of a row, from a place on. -/
import Derived.Test.YtldhnbohpnkcpaaFb
import Derived.Test.YtldhnbohpnkcpaaSl
namespace Go.Proofs.Ytldhnbohpnkcpaa
open Go.RowKit

/-- The slice value '.slice A n c' holds the frames fs. -/
def Fl (w : World) (A : Option Addr) (n : Nat) (fs : Nat → Fr) : Prop :=
  0 < n → ∃ ad, A = some ad ∧ ad.block < w.heap.size ∧ ∀ j, j < n → ∀ c v, (fs j).cells[c]? = some v → w.cell? (ad.add (j * 12 + c)) = some v
theorem Fl.below {w w' : World} {A : Option Addr} {n : Nat} {fs : Nat → Fr} (h : Fl w A n fs) (hb : Below w.heap.size w w') : Fl w' A n fs := fun hn => by
  obtain ⟨ad, e, hl, hc⟩ := h hn
  exact ⟨ad, e, Nat.lt_of_lt_of_le hl hb.size, fun j hj c v hv => (hb.cell (by rw [block_of_add]; exact hl)).trans (hc j hj c v hv)⟩

/-- A frame lies at p. -/
def Bxa (w : World) (p : Addr) (f : Fr) : Prop := w.cell? p = some (.int .i64 f.id) ∧ w.cell? ⟨p.block, p.off + 1, none⟩ = some (.bool f.ext) ∧ w.cell? ⟨p.block, p.off + 2, none⟩ = some (.bool f.rtr) ∧ w.cell? ⟨p.block, p.off + 3, none⟩ = some (.int .i64 f.len) ∧ w.cell? ⟨p.block, p.off + 4, none⟩ = some (.int .u8 (f.d 0)) ∧ w.cell? ⟨p.block, p.off + 5, none⟩ = some (.int .u8 (f.d 1)) ∧ w.cell? ⟨p.block, p.off + 6, none⟩ = some (.int .u8 (f.d 2)) ∧ w.cell? ⟨p.block, p.off + 7, none⟩ = some (.int .u8 (f.d 3)) ∧ w.cell? ⟨p.block, p.off + 8, none⟩ = some (.int .u8 (f.d 4)) ∧ w.cell? ⟨p.block, p.off + 9, none⟩ = some (.int .u8 (f.d 5)) ∧ w.cell? ⟨p.block, p.off + 10, none⟩ = some (.int .u8 (f.d 6)) ∧ w.cell? ⟨p.block, p.off + 11, none⟩ = some (.int .u8 (f.d 7))
theorem Fl.at_ {w : World} {A : Option Addr} {n k : Nat} {fs : Nat → Fr} (h : Fl w A n fs) (hk : k < n) : ∃ ad, A = some ad ∧ ad.block < w.heap.size ∧ Bxa w (ad.add (k * 12)) (fs k) := by
  obtain ⟨ad, e, hl, hc⟩ := h (by omega)
  have h0 := hc k hk
  have g : ∀ c v, 0 < c → (fs k).cells[c]? = some v → w.cell? ⟨(ad.add (k * 12)).block, (ad.add (k * 12)).off + c, none⟩ = some v := fun c v hc hv => by
    rw [← add_pos _ hc, add_add]; exact h0 c v hv
  exact ⟨ad, e, hl, h0 0 _ rfl, g 1 _ (by omega) rfl, g 2 _ (by omega) rfl, g 3 _ (by omega) rfl, g 4 _ (by omega) rfl, g 5 _ (by omega) rfl, g 6 _ (by omega) rfl, g 7 _ (by omega) rfl, g 8 _ (by omega) rfl, g 9 _ (by omega) rfl, g 10 _ (by omega) rfl, g 11 _ (by omega) rfl⟩

set_option maxRecDepth 100000 in
/-- A part of a row, from a place on. -/
theorem slice_lo (A : Option Addr) (L cap p : Nat) (hp : p ≤ L) (hc : L ≤ cap) : ∃ X, (∀ (w : World) (zs : List Int), Il w A L zs → Il w X (L - p) (zs.drop p)) ∧
    (∀ w : World, (Instr.sliceAt 64 (.slice A L cap) (some (.int .i64 (p : Int))) none none).run Try.prog w = .ok (.slice X (L - p) (cap - p)) w) ∧
    ∀ w : World, (Instr.slice 64 (.slice A L cap) (some (.int .i64 (p : Int))) none none).run Try.prog w = .ok (.slice X (L - p) (cap - p)) w := by
  obtain ⟨i, hi, -, hsz, -⟩ := info3
  have h : ∀ w : World, (Instr.slice 64 (.slice A L cap) (some (.int .i64 (p : Int))) none none).run Try.prog w = .ok (.slice (if cap = p then A else A.map (·.add p)) (L - p) (cap - p)) w := by
    intro w
    rw [run_slice_l _ _ _ _ _ Try.underlying64 _ _ (by omega) (by omega)]
    show ((sizeOf 3).run Try.prog w).andThen _ = _
    simp [sizeOf, typeInfo, hi, sliced, hsz]
  refine ⟨_, fun w zs hz => ?_, fun w => by rw [run_sliceAt_slice _ _ _ _ _ _ Try.underlying64]; exact h w, h⟩
  rcases Nat.lt_or_ge p L with hlt | hge
  · obtain ⟨ad, rfl, _, _⟩ := hz.2 (by omega)
    rw [if_neg (by omega)]
    exact hz.drop p (by omega)
  · rw [show L - p = 0 by omega, List.drop_eq_nil_of_le (by rw [hz.1]; omega)]
    exact ⟨rfl, fun h => by omega⟩

end Go.Proofs.Ytldhnbohpnkcpaa
