/- The contracts of the reference's Runs, of bits.Runs and bits.Longest. -/
import Derived.Test.YtaamklfedcbccaaM
import Derived.Test.YtaamklfedcbccaaRunsMath
import Derived.Deep.LoopGhost
import Derived.WalkMore
namespace Go.Proofs.Ytaamklfedcbccaa
open Go.RowKit

theorem rcut_at {zs rs : List Int} {i f : Nat} {x y : Int} (h1 : 1 ≤ i) (h : stt zs (i - 1) = (rs, f)) (hx : zs[i]? = some x) (hy : zs[f]? = some y) (he : (x != y) = true) : stt zs i = (rs ++ [(i : Int) - (f : Int)], i) := by
  have := stt_cut h (by rw [show i - 1 + 1 = i by omega]; simp only [List.getD, hx, hy]; simpa using he)
  rwa [show i - 1 + 1 = i by omega] at this
theorem stay_at {zs rs : List Int} {i f : Nat} {x y : Int} (h1 : 1 ≤ i) (h : stt zs (i - 1) = (rs, f)) (hi : i < zs.length) (hx : zs[i]? = some x) (hy : zs[f]? = some y) (he : (x != y) = false) : stt zs i = (rs, f) := by
  have := stt_stay h (by omega) (by rw [show i - 1 + 1 = i by omega]; simp only [List.getD, hx, hy]; simpa using he)
  rwa [show i - 1 + 1 = i by omega] at this
theorem last_at {zs rs : List Int} {i f : Nat} (h1 : 1 ≤ i) (h : stt zs (i - 1) = (rs, f)) (hi : i = zs.length) : stt zs i = (rs ++ [(i : Int) - (f : Int)], i) := by
  have := stt_last h (by omega)
  rwa [show i - 1 + 1 = i by omega] at this
theorem from_le {zs rs : List Int} {i f : Nat} (h : stt zs i = (rs, f)) (hi : i < zs.length) : f ≤ i := by
  have := (stt_inv zs i hi).1; rw [h] at this; exact this
theorem runs_small (zs : List Int) (i : Nat) (h : i < zs.length) : (stt zs i).1.length ≤ i := by
  induction i with
  | zero => simp [stt]
  | succ i ih =>
    have := ih (by omega)
    simp only [stt, rstp]
    split <;> simp <;> omega

end Go.Proofs.Ytaamklfedcbccaa
