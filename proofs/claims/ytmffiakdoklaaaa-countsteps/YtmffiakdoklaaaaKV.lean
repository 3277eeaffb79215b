/- Errors as one sends, and as one receives, one behind the other: mathematics of the law CountSteps. -/
import Derived.Test.YtmffiakdoklaaaaKT
namespace Go.Proofs.Ytmffiakdoklaaaa
open Go.RowKit

/-- Counts behind k errors as one sends. -/
def Stp (c : Ct) (k : Nat) : Prop := c.r = 0 ∧ (c.o = false ∧ 0 ≤ c.t ∧ c.t ≤ 255 ∧ c.t ≤ 8 * (k : Int) ∨ c.o = true ∧ c.t = 256 ∧ 32 ≤ k)
/-- Counts behind k errors of weight 8 as one receives. -/
def rcd (k : Nat) : Ct := ⟨0, min (8 * (k : Int)) 255, false⟩

theorem stp_zero : Stp Ct.zero 0 := ⟨rfl, .inl ⟨rfl, Int.le_refl _, by decide, by decide⟩⟩
theorem stp_tx {c : Ct} {k : Nat} (h : Stp c k) : Stp c.txx (k + 1) := by
  obtain ⟨t, r, o⟩ := c
  obtain ⟨hr, ⟨ho, h0, h1, h2⟩ | ⟨ho, ht, hk⟩⟩ := h
  · simp only at hr ho h0 h1 h2
    subst ho; subst hr
    have hrun : Ct.run ⟨t, 0, false⟩ = true := run_iff.2 ⟨rfl, h0, h1, by simp, by simp⟩
    unfold Ct.txx
    rw [if_pos hrun]
    by_cases h : 255 < t + 8
    · rw [if_pos (show 255 < (Ct.mk t 0 false).t + 8 from h)]
      exact ⟨rfl, .inr ⟨rfl, rfl, by omega⟩⟩
    · rw [if_neg (show ¬ 255 < (Ct.mk t 0 false).t + 8 from h)]
      exact ⟨rfl, .inl ⟨rfl, by show 0 ≤ t + 8; omega, by show t + 8 ≤ 255; omega, by show t + 8 ≤ 8 * ((k + 1 : Nat) : Int); omega⟩⟩
  · simp only at hr ho ht
    subst ho
    rw [txx_not (by simp [Ct.run])]
    exact ⟨hr, .inr ⟨rfl, ht, by omega⟩⟩
theorem stp_snt {c : Ct} {k : Nat} (h : Stp c k) : Stp c.snt k := by
  obtain ⟨t, r, o⟩ := c
  obtain ⟨hr, ⟨ho, h0, h1, h2⟩ | ⟨ho, ht, hk⟩⟩ := h
  · simp only at hr ho h0 h1 h2
    subst ho; subst hr
    have hrun : Ct.run ⟨t, 0, false⟩ = true := run_iff.2 ⟨rfl, h0, h1, by simp, by simp⟩
    unfold Ct.snt
    rw [if_pos hrun]
    exact ⟨rfl, .inl ⟨rfl, by show 0 ≤ max (t - 1) 0; omega, by show max (t - 1) 0 ≤ 255; omega, by show max (t - 1) 0 ≤ 8 * (k : Int); omega⟩⟩
  · simp only at hr ho ht
    subst ho
    rw [snt_not (by simp [Ct.run])]
    exact ⟨hr, .inr ⟨rfl, ht, hk⟩⟩
theorem stp_off {c : Ct} (h : c.o = true) : c.txx = c ∧ c.snt = c ∧ c.rcv = c ∧ c.rxx 1 = c ∧ c.st = 2 := by
  have hr : c.run = false := by unfold Ct.run; rw [h]; simp
  exact ⟨txx_not hr, snt_not hr, rcv_not hr, rxx_not hr 1, st_two.2 h⟩
theorem stp_snt_o {c : Ct} : c.snt.o = c.o := by
  unfold Ct.snt
  split <;> rfl
theorem stp_late {c : Ct} {k : Nat} (h : Stp c k) (ho : c.o = true) : 32 ≤ k := by
  obtain ⟨-, ⟨h', -⟩ | ⟨-, -, hk⟩⟩ := h
  · rw [ho] at h'; cases h'
  · exact hk
theorem stp_early {c : Ct} {k : Nat} (h : Stp c (k + 1)) (hk : k < 15) : c.o = false ∧ c.st = 0 := by
  obtain ⟨hr, ⟨ho, h0, h1, h2⟩ | ⟨-, -, hk'⟩⟩ := h
  · exact ⟨ho, st_zero.2 ⟨ho, by omega, by omega⟩⟩
  · omega
theorem rcd_next (k : Nat) : (rcd k).rxx 8 = rcd (k + 1) := by
  have hrun : (rcd k).run = true := run_iff.2 ⟨rfl, by simp [rcd], by simp [rcd], by simp [rcd]; omega, by simp [rcd]; omega⟩
  unfold Ct.rxx
  rw [hrun]
  exact ct_ext rfl (by simp [rcd]; omega) rfl
theorem rcd_lo {k : Nat} (h : k < 15) : (rcd (k + 1)).st = 0 := st_zero.2 ⟨rfl, by simp [rcd], by simp [rcd]; omega⟩
theorem rcd_hi {k : Nat} (h : 15 ≤ k) : (rcd (k + 1)).st = 1 := st_one.2 ⟨rfl, .inr (by simp [rcd]; omega)⟩
end Go.Proofs.Ytmffiakdoklaaaa
