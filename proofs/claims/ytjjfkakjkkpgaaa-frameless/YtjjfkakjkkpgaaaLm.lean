/- How the places of frames stand. -/
import Derived.Test.YtjjfkakjkkpgaaaAw
namespace Go.Proofs.Ytjjfkakjkkpgaaa

/-- Two frames have the same levels of arbitration. -/
def alike (f g : Fr) : Bool := (f.id == g.id) && (f.ext == g.ext) && (f.rtr == g.rtr)
theorem plc_nat {f : Fr} (h : f.may = true) : ∃ i r : Nat, f.id = (i : Int) ∧ r = f.rtr.toNat ∧ r ≤ 1 ∧ (f.ext = false → i ≤ 2047 ∧ f.plc = (i * 4 + r * 2) * 524288) ∧ (f.ext = true → i ≤ 536870911 ∧ f.plc = (i / 262144 * 4 + 3) * 524288 + i % 262144 * 2 + r) := by
  obtain ⟨h0, h1, _⟩ := may_parts h
  obtain ⟨i, hi⟩ := Int.eq_ofNat_of_zero_le h0
  refine ⟨i, f.rtr.toNat, hi, rfl, by cases f.rtr <;> decide, fun hx => ?_, fun hx => ?_⟩
  · simp only [Fr.most, hx] at h1
    simp only [Fr.plc, Fr.num, hx, hi]
    simp at h1 ⊢
    omega
  · simp only [Fr.most, hx] at h1
    simp only [Fr.plc, Fr.num, hx, hi]
    simp at h1 ⊢
    omega
theorem rtr_eq {a b : Bool} : (a == b) = decide (a.toNat = b.toNat) := by cases a <;> cases b <;> rfl
theorem alike_plc {f g : Fr} (hf : f.may = true) (hg : g.may = true) : (f.plc == g.plc) = alike f g := by
  obtain ⟨i, r, hi, hr, hr1, a1, a2⟩ := plc_nat hf
  obtain ⟨j, q, hj, hq, hq1, b1, b2⟩ := plc_nat hg
  unfold alike
  rw [rtr_eq (a := f.rtr), ← hr, ← hq, hi, hj, Bool.eq_iff_iff]
  simp only [Bool.and_eq_true, beq_iff_eq, decide_eq_true_eq]
  cases hx : f.ext <;> cases hy : g.ext <;> simp [hx, hy] at a1 a2 b1 b2 ⊢ <;> omega
theorem less_id {f g : Fr} (hf : f.may = true) (hg : g.may = true) (hx : f.ext = g.ext) (h : f.id < g.id) : f.plc < g.plc := by
  obtain ⟨i, r, hi, hr, hr1, a1, a2⟩ := plc_nat hf
  obtain ⟨j, q, hj, hq, hq1, b1, b2⟩ := plc_nat hg
  cases hy : g.ext <;> rw [hy] at hx <;> simp [hx, hy] at a1 a2 b1 b2 <;> omega
theorem less_rtr {f g : Fr} (hf : f.may = true) (hg : g.may = true) (hx : f.ext = g.ext) (h : f.id = g.id) (h1 : f.rtr = false) (h2 : g.rtr = true) : f.plc < g.plc := by
  obtain ⟨i, r, hi, hr, hr1, a1, a2⟩ := plc_nat hf
  obtain ⟨j, q, hj, hq, hq1, b1, b2⟩ := plc_nat hg
  rw [h1] at hr
  rw [h2] at hq
  simp at hr hq
  cases hy : g.ext <;> rw [hy] at hx <;> simp [hx, hy] at a1 a2 b1 b2 <;> omega
theorem less_ext {f g : Fr} (hf : f.may = true) (hg : g.may = true) (hx : f.ext = false) (hy : g.ext = true) (h : f.id ≤ g.id / 262144) : f.plc < g.plc := by
  obtain ⟨i, r, hi, hr, hr1, a1, a2⟩ := plc_nat hf
  obtain ⟨j, q, hj, hq, hq1, b1, b2⟩ := plc_nat hg
  simp [hx, hy] at a1 a2 b1 b2
  omega
end Go.Proofs.Ytjjfkakjkkpgaaa
