/- A node that sends a frame, somebody acknowledges it, and the pause passes. -/
import Derived.Test.YtenfcbmeokenaaaGreatX05
namespace Go.Proofs.YtenfcbmeokenaaaGreat
set_option maxRecDepth 20000

/-- Idle, with frames; b: it was the sender last. -/
def idt (gs : List Fr) (b : Bool) : Nd := { idl gs with tx := b }
theorem idt_no (gs : List Fr) : idt gs false = idl gs := rfl
theorem idt_fit {gs : List Fr} {b : Bool} (hq : Okfs gs) (hl : gs.length ≤ 16) : Fit (idt gs b) := fit_of2 1 0 0 rfl rfl rfl (by omega) hq hl
theorem drp_hd (f : Fr) (gs : List Fr) : drp f (f :: gs) = gs := by
  unfold drp
  rw [List.eraseP_cons_of_pos (same_refl f)]
/-- A frame, and three levels 1. -/
def TxS (f : Fr) (gs : List Fr) (b : Bool) (k : Nat) (n : Nd) : Prop :=
  (k < sl_ f + 10 ∧ TxAt (idt (f :: gs) b) f true k n) ∨ (sl_ f + 10 ≤ k ∧ k < sl_ f + 13 ∧ n = pz (idt gs true) (k - (sl_ f + 10))) ∨ (k = sl_ f + 13 ∧ n = idt gs true)
section
variable {f : Fr} (hm : f.may = true) {gs : List Fr} {b : Bool} {k : Nat} {n : Nd}
include hm
theorem txs_step (hq : Okfs (f :: gs)) (hl : (f :: gs).length ≤ 16) (h : TxS f gs b k n) (hk : k < sl_ f + 13) : (lv3 f k = 0 ∨ lv3 f k = 1) ∧ Fit n ∧ n.drv = (if k < sl_ f + 10 then (enc f false).getD k 0 else 1) ∧
    ∃ es n', n.stp (lv3 f k) = (es, n') ∧ TxS f gs b (k + 1) n' ∧ (k ≠ sl_ f + 9 → es = []) ∧ (k = sl_ f + 9 → es = [(1, f)]) := by
  have hq2 : Okfs gs := fun g hg => hq g (List.mem_cons_of_mem _ hg)
  have hl2 : gs.length ≤ 16 := by rw [List.length_cons] at hl; omega
  rcases h with ⟨h1, h2⟩ | ⟨h1, h2, rfl⟩ | ⟨h1, _⟩
  · have hlv : lv3 f k = (enc f true).getD k 0 := if_pos h1
    rw [hlv, if_pos h1]
    refine ⟨lvl_01 (way_lvl h1), tx_fit hm h2 h1 (idt_fit hq hl), tx_drive hm rfl rfl h2 h1, ?_⟩
    by_cases h9 : k = sl_ f + 9
    · refine ⟨_, _, tx_sent hm h2 h9, .inr (.inl ⟨by omega, by omega, ?_⟩), fun h => absurd h9 h, fun _ => rfl⟩
      rw [show k + 1 - (sl_ f + 10) = 0 by omega, pz_zero, show (idt (f :: gs) b).q = f :: gs from rfl, drp_hd]
      rfl
    · obtain ⟨n', a, c⟩ := tx_step hm rfl rfl h2 (by omega) (fun _ => rfl)
      exact ⟨[], n', a, .inl ⟨by omega, c⟩, fun _ => rfl, fun h => absurd h h9⟩
  · have hlv : lv3 f k = 1 := if_neg (by omega)
    rw [hlv, if_neg (by omega)]
    refine ⟨.inr rfl, pz_fit (by omega) hq2 hl2, pz_drv _ _, ?_⟩
    by_cases h2' : k - (sl_ f + 10) < 2
    · refine ⟨_, _, pz_step _ h2', .inr (.inl ⟨by omega, by omega, ?_⟩), fun _ => rfl, fun h => by omega⟩
      rw [show k + 1 - (sl_ f + 10) = k - (sl_ f + 10) + 1 by omega]
    · rw [show k - (sl_ f + 10) = 2 by omega]
      exact ⟨_, _, pz_end _, .inr (.inr ⟨by omega, rfl⟩), fun _ => rfl, fun h => by omega⟩
  · omega
end
end Go.Proofs.YtenfcbmeokenaaaGreat
