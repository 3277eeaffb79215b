/- Queues as lists: where a frame comes, what is dropped. -/
import Derived.Test.YtldhnbohpnkcpaaQE
import Derived.Test.YtldhnbohpnkcpaaQI
namespace Go.Proofs.Ytldhnbohpnkcpaa
open Go.RowKit

/-- Frames lie in order. -/
def Upq (gs : List Fr) : Prop := gs.Pairwise fun a b => a.plc ≤ b.plc
/-- Where f comes. -/
def sits (f : Fr) (gs : List Fr) : Nat := gs.findIdx fun g => decide (f.plc < g.plc)
def ins (f : Fr) (gs : List Fr) : List Fr := gs.take (sits f gs) ++ f :: gs.drop (sits f gs)
/-- f taken out, where it is first. -/
def drp (f : Fr) (gs : List Fr) : List Fr := gs.eraseP f.same
/-- A queue's frames. -/
def Okq (gs : List Fr) : Prop := Upq gs ∧ ∀ g ∈ gs, g.may = true

theorem sits_le (f : Fr) (gs : List Fr) : sits f gs ≤ gs.length := List.findIdx_le_length
theorem ins_len1 (f : Fr) (gs : List Fr) : (ins f gs).length = gs.length + 1 := by
  have := sits_le f gs
  unfold ins
  rw [List.length_append, List.length_take, List.length_cons, List.length_drop]; omega
theorem getD_get {gs : List Fr} {j : Nat} (h : j < gs.length) : gs.getD j Fr.zero = gs[j] := by simp [h]
theorem sits_of {f : Fr} {gs : List Fr} {r : Nat} (hr : r ≤ gs.length) (h1 : ∀ j, j < r → (gs.getD j Fr.zero).plc ≤ f.plc) (h2 : ∀ j, r ≤ j → j < gs.length → f.plc < (gs.getD j Fr.zero).plc) : sits f gs = r := by
  unfold sits
  rcases Nat.lt_or_ge r gs.length with h | h
  · refine (List.findIdx_eq h).2 ⟨?_, fun j hj => ?_⟩
    · have := h2 r (Nat.le_refl _) h
      rw [getD_get h] at this
      simpa using this
    · have := h1 j hj
      rw [getD_get (by omega)] at this
      simpa using this
  · have e : r = gs.length := by omega
    subst e
    rw [List.findIdx_eq_length]
    intro x hx
    obtain ⟨j, hj, rfl⟩ := List.getElem_of_mem hx
    have := h1 j hj
    rw [getD_get hj] at this
    simpa using this
theorem upq_get {gs : List Fr} (h : Upq gs) {a b : Nat} (hab : a ≤ b) (hb : b < gs.length) : (gs.getD a Fr.zero).plc ≤ (gs.getD b Fr.zero).plc := by
  rw [getD_get hb, getD_get (by omega)]
  rcases Nat.lt_or_ge a b with h1 | h1
  · exact List.pairwise_iff_getElem.1 h a b (by omega) hb h1
  · have : a = b := by omega
    subst this; exact Nat.le_refl _
theorem ins_mem {f g : Fr} {gs : List Fr} : g ∈ ins f gs ↔ g = f ∨ g ∈ gs := by
  unfold ins
  rw [List.mem_append, List.mem_cons, or_left_comm, ← List.mem_append, List.take_append_drop]
theorem ins_up {f : Fr} {gs : List Fr} (h : Upq gs) : Upq (ins f gs) := by
  have hlo : ∀ g ∈ gs.take (sits f gs), g.plc ≤ f.plc := by
    intro g hg
    obtain ⟨j, hj, rfl⟩ := List.getElem_of_mem hg
    rw [List.length_take] at hj
    have := List.not_of_lt_findIdx (show j < gs.findIdx (fun g => decide (f.plc < g.plc)) from by unfold sits at hj; omega)
    rw [List.getElem_take]
    simpa using this
  have hhi : ∀ g ∈ gs.drop (sits f gs), f.plc ≤ g.plc := by
    intro g hg
    obtain ⟨j, hj, rfl⟩ := List.getElem_of_mem hg
    rw [List.length_drop] at hj
    rw [List.getElem_drop]
    have hs : sits f gs < gs.length := by omega
    have h1 : f.plc < (gs[sits f gs]).plc := by
      have := List.findIdx_getElem (w := (show gs.findIdx (fun g => decide (f.plc < g.plc)) < gs.length from hs))
      simpa [sits] using this
    have h2 := upq_get h (show sits f gs ≤ sits f gs + j by omega) (by omega)
    rw [getD_get hs, getD_get (by omega)] at h2
    omega
  unfold ins Upq
  unfold Upq at h
  rw [List.pairwise_append]
  refine ⟨h.sublist (List.take_sublist _ _), List.pairwise_cons.2 ⟨hhi, h.sublist (List.drop_sublist _ _)⟩, fun a ha b hb => ?_⟩
  rcases List.mem_cons.1 hb with rfl | hb
  · exact hlo a ha
  · exact Nat.le_trans (hlo a ha) (hhi b hb)
theorem ins_ok {f : Fr} {gs : List Fr} (h : Okq gs) (hf : f.may = true) : Okq (ins f gs) :=
  ⟨ins_up h.1, fun g hg => by
    rcases ins_mem.1 hg with rfl | h1
    · exact hf
    · exact h.2 g h1⟩
theorem drp_sub (f : Fr) (gs : List Fr) : (drp f gs).Sublist gs := List.eraseP_sublist
theorem drp_ok {f : Fr} {gs : List Fr} (h : Okq gs) : Okq (drp f gs) :=
  ⟨h.1.sublist (drp_sub f gs), fun g hg => h.2 g ((drp_sub f gs).subset hg)⟩
theorem drp_le (f : Fr) (gs : List Fr) : (drp f gs).length ≤ gs.length := (drp_sub f gs).length_le
theorem ok_nil : Okq [] := ⟨List.Pairwise.nil, fun g hg => by cases hg⟩

/-- What Put answers, and leaves. -/
def pE (m : Int) (f : Fr) (gs : List Fr) : Int := if f.may = false then 14 else if m ≤ gs.length then 15 else 0
def pL (m : Int) (f : Fr) (gs : List Fr) : List Fr := if f.may = false ∨ m ≤ gs.length then gs else ins f gs
/-- What Drop answers. -/
def dE (f : Fr) (gs : List Fr) : Int := if gs.any f.same then 0 else 16
theorem pL_ok {m : Int} {f : Fr} {gs : List Fr} (h : Okq gs) : Okq (pL m f gs) := by
  unfold pL
  split
  · exact h
  · rename_i hn
    exact ins_ok h (by cases hm : f.may <;> simp_all)
theorem pL_le {m : Int} {f : Fr} {gs : List Fr} (h : (gs.length : Int) ≤ m) : ((pL m f gs).length : Int) ≤ m := by
  unfold pL
  split
  · exact h
  · rw [ins_len1]; simp_all; omega

/-- Where f is found, and that it is dropped there. -/
theorem found_drp {f : Fr} {gs : List Fr} {r : Int} (h : Found f (fun j => gs.getD j Fr.zero) gs.length r) : (∃ k : Nat, r = k ∧ k < gs.length ∧ dE f gs = 0 ∧ gs.eraseIdx k = drp f gs) ∨ (r = -1 ∧ dE f gs = 16 ∧ drp f gs = gs) := by
  rcases h with ⟨k, hk, hr, hs, hz⟩ | ⟨hr, hz⟩
  · left
    have hs' : f.same gs[k] = true := by have := hs; dsimp only at this; rwa [getD_get hk] at this
    refine ⟨k, hr, hk, ?_, ?_⟩
    · unfold dE
      rw [if_pos]
      exact List.any_eq_true.2 ⟨gs[k], List.getElem_mem hk, hs'⟩
    · have hfi : gs.findIdx f.same = k := (List.findIdx_eq hk).2 ⟨hs', fun j hj => by have := hz j hj; dsimp only at this; rwa [getD_get (by omega)] at this⟩
      unfold drp
      rw [List.eraseP_eq_eraseIdx]
      have : gs.findIdx? f.same = some k := by
        rw [List.findIdx?_eq_some_iff_findIdx_eq]
        exact ⟨hk, hfi⟩
      rw [this]
  · right
    have hall : ∀ g ∈ gs, f.same g = false := by
      intro g hg
      obtain ⟨j, hj, rfl⟩ := List.getElem_of_mem hg
      have := hz j hj
      dsimp only at this
      rwa [getD_get hj] at this
    refine ⟨hr, ?_, List.eraseP_of_forall_not fun g hg => by rw [hall g hg]; simp⟩
    unfold dE
    rw [if_neg]
    rw [List.any_eq_true]
    rintro ⟨g, hg, h1⟩
    rw [hall g hg] at h1; cases h1
end Go.Proofs.Ytldhnbohpnkcpaa
