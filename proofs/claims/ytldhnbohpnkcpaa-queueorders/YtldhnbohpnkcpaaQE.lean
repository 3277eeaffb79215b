/- When two frames are the same, as the program tells them. -/
import Derived.Test.YtldhnbohpnkcpaaEq
import Derived.Test.YtldhnbohpnkcpaaFb
namespace Go.Proofs.Ytldhnbohpnkcpaa
open Go.RowKit

/-- Two frames are the same. -/
def Fr.same (f g : Fr) : Bool := f.id == g.id && (f.ext == g.ext && (f.rtr == g.rtr && (f.len == g.len && [f.d 0, f.d 1, f.d 2, f.d 3, f.d 4, f.d 5, f.d 6, f.d 7] == [g.d 0, g.d 1, g.d 2, g.d 3, g.d 4, g.d 5, g.d 6, g.d 7])))
theorem same_iff {f g : Fr} : f.same g = true ↔ f.id = g.id ∧ f.ext = g.ext ∧ f.rtr = g.rtr ∧ f.len = g.len ∧ ∀ k, k < 8 → f.d k = g.d k := by
  simp only [Fr.same, Bool.and_eq_true, beq_iff_eq, List.cons.injEq, and_true]
  refine and_congr Iff.rfl (and_congr Iff.rfl (and_congr Iff.rfl (and_congr Iff.rfl ⟨?_, fun h => ⟨h 0 (by omega), h 1 (by omega), h 2 (by omega), h 3 (by omega), h 4 (by omega), h 5 (by omega), h 6 (by omega), h 7 (by omega)⟩⟩)))
  rintro ⟨h0, h1, h2, h3, h4, h5, h6, h7⟩ k hk
  match k, hk with
  | 0, _ => exact h0
  | 1, _ => exact h1
  | 2, _ => exact h2
  | 3, _ => exact h3
  | 4, _ => exact h4
  | 5, _ => exact h5
  | 6, _ => exact h6
  | 7, _ => exact h7
theorem same_refl (f : Fr) : f.same f = true := same_iff.2 ⟨rfl, rfl, rfl, rfl, fun _ _ => rfl⟩
theorem same_symm {f g : Fr} (h : f.same g = true) : g.same f = true := by
  obtain ⟨a, b, c, d, e⟩ := same_iff.1 h
  exact same_iff.2 ⟨a.symm, b.symm, c.symm, d.symm, fun k hk => (e k hk).symm⟩
theorem same_comm (f g : Fr) : f.same g = g.same f := by
  cases h : f.same g
  · cases h2 : g.same f
    · rfl
    · rw [same_symm h2] at h; cases h
  · exact (same_symm h).symm
theorem same_trans {f g h : Fr} (h1 : f.same g = true) (h2 : g.same h = true) : f.same h = true := by
  obtain ⟨a, b, c, d, e⟩ := same_iff.1 h1
  obtain ⟨a', b', c', d', e'⟩ := same_iff.1 h2
  exact same_iff.2 ⟨a.trans a', b.trans b', c.trans c', d.trans d', fun k hk => (e k hk).trans (e' k hk)⟩
theorem same_val {f g : Fr} : f.same g = true ↔ f.val = g.val := by
  rw [same_iff]
  constructor
  · rintro ⟨a, b, c, d, e⟩
    simp only [a, b, c, d, e 0 (by omega), e 1 (by omega), e 2 (by omega), e 3 (by omega), e 4 (by omega), e 5 (by omega), e 6 (by omega), e 7 (by omega), Fr.val, Fr.cells]
  · intro h
    simp only [Fr.val, Fr.cells, Value.agg.injEq, Array.mk.injEq, List.cons.injEq, Value.int.injEq, Value.bool.injEq, true_and, and_true] at h
    obtain ⟨a, b, c, d, h0, h1, h2, h3, h4, h5, h6, h7⟩ := h
    refine ⟨a, b, c, d, fun k hk => ?_⟩
    match k, hk with
    | 0, _ => exact h0
    | 1, _ => exact h1
    | 2, _ => exact h2
    | 3, _ => exact h3
    | 4, _ => exact h4
    | 5, _ => exact h5
    | 6, _ => exact h6
    | 7, _ => exact h7
theorem same_plc {f g : Fr} (h : f.same g = true) : f.plc = g.plc := by
  obtain ⟨a, b, c, d, e⟩ := same_iff.1 h
  simp only [Fr.plc, Fr.num, a, b, c]
theorem same_may {f g : Fr} (h : f.same g = true) : f.may = g.may := by
  obtain ⟨a, b, c, d, e⟩ := same_iff.1 h
  have hx : f.most = g.most := by simp only [Fr.most, b]
  simp only [Fr.may, a, hx, c, d]
  congr 1
  rw [Bool.eq_iff_iff, List.all_eq_true, List.all_eq_true]
  constructor
  · intro h k hk
    have := h k hk
    rwa [e k (List.mem_range.1 hk)] at this
  · intro h k hk
    have := h k hk
    rwa [← e k (List.mem_range.1 hk)] at this

theorem feqIn (f g : Fr) (w : World) : (Op.equalIn 10000 34 f.val g.val).run Try.prog w = .ok (f.same g) w := by
  have h22 := eq22
  go_simp
  by_cases h1 : f.id = g.id
  · by_cases h2 : f.ext = g.ext
    · by_cases h3 : f.rtr = g.rtr
      · by_cases h4 : f.len = g.len
        · rw [if_pos h1, if_pos h2, if_pos h3, if_pos h4]
          unfold Fr.same
          simp only [h1, h2, h3, h4, BEq.rfl, Bool.true_and, List.cons_beq_cons, Bool.and_true]
          split <;> simp_all
        · have : f.same g = false := by unfold Fr.same; simp [h4]
          rw [if_pos h1, if_pos h2, if_pos h3, if_neg h4, this]
      · have : f.same g = false := by unfold Fr.same; simp [h3]
        rw [if_pos h1, if_pos h2, if_neg h3, this]
    · have : f.same g = false := by unfold Fr.same; simp [h2]
      rw [if_pos h1, if_neg h2, this]
  · have : f.same g = false := by unfold Fr.same; simp [h1]
    rw [if_neg h1, this]
theorem feq (f g : Fr) (w : World) : (binOp .eql 34 f.val g.val).run Try.prog w = .ok (.bool (f.same g)) w := by
  rw [run_eql_struct, feqIn]; rfl
theorem fneq (f g : Fr) (w : World) : (binOp .neq 34 f.val g.val).run Try.prog w = .ok (.bool (!f.same g)) w := by
  rw [run_neq_struct, feqIn]; rfl
end Go.Proofs.Ytldhnbohpnkcpaa
