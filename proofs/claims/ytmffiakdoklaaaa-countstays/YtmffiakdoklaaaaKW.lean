/- What comes turns counts that are right into such: mathematics of the law CountStays. -/
import Derived.Test.YtmffiakdoklaaaaKT
namespace Go.Proofs.Ytmffiakdoklaaaa
open Go.RowKit

theorem come_else' {c : Ct} {k x : Int} (h0 : k ≠ 0) (h1 : k ≠ 1) (h2 : k ≠ 2) (h3 : k ≠ 3) (h4 : k ≠ 4) : c.come k x = c := by
  unfold Ct.come
  rw [if_neg h0, if_neg h1, if_neg h2, if_neg h3, if_neg h4]
theorem come_off {c : Ct} {k : Int} (h : c.o = true) (h4 : k ≠ 4) (x : Int) : c.come k x = c := come_not (by unfold Ct.run; rw [h]; simp) h4 x
/-- What running counts become. -/
theorem come_on {c : Ct} (k x : Int) (hr : c.right = true) (ho : c.o = false) : (c.come k x).right = true ∧
    (k = 0 → (c.come k x).r = c.r ∧ (c.come k x).t ≤ c.t) ∧ (k = 2 → (c.come k x).r = c.r ∧ c.t ≤ (c.come k x).t) ∧
    (k ≠ 0 → k ≠ 2 → k ≠ 4 → (c.come k x).t = c.t ∧ (c.come k x).o = false ∧ (k = 1 → (c.come k x).r ≤ c.r) ∧ (k = 3 → c.r ≤ (c.come k x).r)) := by
  obtain ⟨hb, g2, g3⟩ := right_iff.1 hr
  obtain ⟨t, r, o⟩ := c
  simp only at ho hb g2 g3
  subst ho
  have h0 : 0 ≤ t := by rcases hb with ⟨h, _⟩ | ⟨_, h, _⟩; cases h; exact h
  have h1 : t ≤ 255 := by rcases hb with ⟨h, _⟩ | ⟨_, _, h⟩; cases h; exact h
  have hrun : Ct.run ⟨t, r, false⟩ = true := run_iff.2 ⟨rfl, h0, h1, g2, g3⟩
  by_cases k0 : k = 0
  · subst k0
    have e : Ct.come ⟨t, r, false⟩ 0 x = ⟨max (t - 1) 0, r, false⟩ := by show Ct.snt _ = _; unfold Ct.snt; rw [if_pos hrun]
    rw [e]
    exact ⟨right_iff.2 ⟨.inr ⟨rfl, by show 0 ≤ max (t - 1) 0; omega, by show max (t - 1) 0 ≤ 255; omega⟩, g2, g3⟩, fun _ => ⟨rfl, by show max (t - 1) 0 ≤ t; omega⟩, fun h => by omega, fun h => by omega⟩
  by_cases k1 : k = 1
  · subst k1
    have e : Ct.come ⟨t, r, false⟩ 1 x = ⟨t, if 127 < r then 119 else max (r - 1) 0, false⟩ := by show Ct.rcv _ = _; unfold Ct.rcv; rw [if_pos hrun]
    rw [e]
    refine ⟨right_iff.2 ⟨.inr ⟨rfl, h0, h1⟩, ?_, ?_⟩, fun h => by omega, fun h => by omega, fun _ _ _ => ⟨rfl, rfl, fun _ => ?_, fun h => by omega⟩⟩
    · show 0 ≤ (if 127 < r then 119 else max (r - 1) 0); split <;> omega
    · show (if 127 < r then 119 else max (r - 1) 0) ≤ 255; split <;> omega
    · show (if 127 < r then 119 else max (r - 1) 0) ≤ r; split <;> omega
  by_cases k2 : k = 2
  · subst k2
    have e : Ct.come ⟨t, r, false⟩ 2 x = if 255 < t + 8 then ⟨256, r, true⟩ else ⟨t + 8, r, false⟩ := by show Ct.txx _ = _; unfold Ct.txx; rw [if_pos hrun]
    rw [e]
    by_cases hh : 255 < t + 8
    · rw [if_pos hh]
      exact ⟨right_iff.2 ⟨.inl ⟨rfl, rfl⟩, g2, g3⟩, fun h => by omega, fun _ => ⟨rfl, by show t ≤ 256; omega⟩, fun _ h => by omega⟩
    · rw [if_neg hh]
      exact ⟨right_iff.2 ⟨.inr ⟨rfl, by show 0 ≤ t + 8; omega, by show t + 8 ≤ 255; omega⟩, g2, g3⟩, fun h => by omega, fun _ => ⟨rfl, by show t ≤ t + 8; omega⟩, fun _ h => by omega⟩
  by_cases k3 : k = 3
  · subst k3
    have e : Ct.come ⟨t, r, false⟩ 3 x = if (x == 1 || x == 8) then ⟨t, min (r + x) 255, false⟩ else ⟨t, r, false⟩ := by show Ct.rxx _ _ = _; unfold Ct.rxx; rw [hrun]; rfl
    rw [e]
    by_cases hh : (x == 1 || x == 8) = true
    · rw [if_pos hh]
      have hx : x = 1 ∨ x = 8 := by simpa using hh
      exact ⟨right_iff.2 ⟨.inr ⟨rfl, h0, h1⟩, by show 0 ≤ min (r + x) 255; omega, by show min (r + x) 255 ≤ 255; omega⟩, fun h => by omega, fun h => by omega, fun _ _ _ => ⟨rfl, rfl, fun h => by omega, fun _ => by show r ≤ min (r + x) 255; omega⟩⟩
    · rw [if_neg hh]
      exact ⟨hr, fun h => by omega, fun h => by omega, fun _ _ _ => ⟨rfl, rfl, fun h => by omega, fun _ => Int.le_refl _⟩⟩
  by_cases k4 : k = 4
  · subst k4
    exact ⟨rfl, fun h => by omega, fun h => by omega, fun _ _ h => by omega⟩
  · rw [come_else' k0 k1 k2 k3 k4]
    exact ⟨hr, fun h => absurd h k0, fun h => absurd h k2, fun _ _ _ => ⟨rfl, rfl, fun h => absurd h k1, fun h => absurd h k3⟩⟩
theorem come_right {c : Ct} (k x : Int) (hr : c.right = true) : (c.come k x).right = true := by
  cases ho : c.o
  · exact (come_on k x hr ho).1
  · by_cases h4 : k = 4
    · subst h4; rfl
    · rw [come_off ho h4]; exact hr
theorem st_off (c : Ct) : (c.st == 2) = c.o := by
  obtain ⟨t, r, o⟩ := c
  cases o
  · unfold Ct.st
    split <;> simp_all
    split <;> simp_all
  · rfl
end Go.Proofs.Ytmffiakdoklaaaa
