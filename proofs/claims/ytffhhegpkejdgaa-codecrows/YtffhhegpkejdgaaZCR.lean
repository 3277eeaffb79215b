/- Frames' levels one behind the other. -/
import Derived.Test.YtffhhegpkejdgaaX610
import Derived.Test.YtffhhegpkejdgaaZFw
namespace Go.Proofs.Ytffhhegpkejdgaa
open Go.RowKit

/-- The levels of the first k frames, one behind the other. -/
def encs (fs : Nat → Fr) (b : Bool) : Nat → List Int
  | 0 => []
  | k + 1 => encs fs b k ++ enc (fs k) b
theorem encs_from (fs : Nat → Fr) (b : Bool) {k n : Nat} (h : k < n) : ∃ s, encs fs b n = encs fs b k ++ (enc (fs k) b ++ s) := by
  induction n with
  | zero => omega
  | succ n ih =>
    rcases Nat.lt_or_ge k n with h1 | h1
    · obtain ⟨s, e⟩ := ih h1
      exact ⟨s ++ enc (fs n) b, by rw [encs, e]; simp⟩
    · have : k = n := by omega
      subst this
      exact ⟨[], by rw [encs]; simp⟩
theorem encs_len (fs : Nat → Fr) (b : Bool) (k : Nat) (h : ∀ i, i < k → (fs i).may = true) : (encs fs b k).length ≤ 310 * k := by
  induction k with
  | zero => simp [encs]
  | succ k ih =>
    have h1 := ih (fun i hi => h i (by omega))
    have h2 := stf_raw_le (h k (by omega))
    rw [encs, List.length_append, enc_len]
    omega
theorem dV_nil : dV [] = .tuple #[Fr.zero.val, .int .i64 0, .int .i64 13] := rfl

end Go.Proofs.Ytffhhegpkejdgaa
