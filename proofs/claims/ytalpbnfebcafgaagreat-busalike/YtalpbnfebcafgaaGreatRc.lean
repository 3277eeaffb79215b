/- The contract of the reference's Check. -/
import Derived.Test.YtalpbnfebcafgaaGreatAr
namespace Go.Proofs.YtalpbnfebcafgaaGreat
set_option maxRecDepth 20000
open Go.RowKit

def DataOk (d : Nat → Int) (r : Bool) (n : Int) (j : Nat) : Prop := d j = 0 ∨ (r = false ∧ (j : Int) < n)
theorem rerr_stop {f : Fr} {k : Nat} (hk : k < 8) (hd : f.d k ≠ 0) (h : f.rtr = true ∨ f.len ≤ k) : f.err = 14 := by
  unfold Fr.err
  rw [if_neg]
  intro hm
  obtain ⟨_, _, _, _, h'⟩ := may_parts hm
  rcases h' k hk with h1 | ⟨h1, h2⟩
  · exact hd h1
  · rcases h with h | h
    · rw [h] at h1; cases h1
    · omega
theorem rerr_end {f : Fr} (h0 : 0 ≤ f.id) (h1 : f.id ≤ f.most) (h2 : 0 ≤ f.len) (h3 : f.len ≤ 8) (hd : ∀ j, j < 8 → DataOk f.d f.rtr f.len j) : f.err = 0 := by
  unfold Fr.err
  rw [if_pos (may_of h0 h1 h2 h3 hd)]

end Go.Proofs.YtalpbnfebcafgaaGreat
