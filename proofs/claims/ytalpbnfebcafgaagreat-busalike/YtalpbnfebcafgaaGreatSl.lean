/- Parts of slices. -/
import Derived.Test.YtalpbnfebcafgaaGreatA
namespace Go.Proofs.YtalpbnfebcafgaaGreat
set_option maxRecDepth 20000
open Go.RowKit

theorem Il.take {w : World} {A : Option Addr} {n : Nat} {zs : List Int} (h : Il w A n zs) (k : Nat) (hk : k ≤ n) : Il w A k (zs.take k) :=
  ⟨by rw [List.length_take, h.1]; omega, fun h0 => by
    obtain ⟨ad, e, hl, hc⟩ := h.2 (by omega)
    refine ⟨ad, e, hl, fun j hj => ?_⟩
    rw [hc j (by omega)]
    simp [List.getD, List.getElem?_take_of_lt hj]⟩
theorem add_add (a : Addr) (i j : Nat) : (a.add i).add j = a.add (i + j) := by
  rcases a with ⟨b, o, c⟩
  cases c <;> simp [Addr.add] <;> (repeat' split) <;> simp_all <;> omega
theorem Il.drop {w : World} {ad : Addr} {n : Nat} {zs : List Int} (h : Il w (some ad) n zs) (k : Nat) (hk : k ≤ n) : Il w (some (ad.add k)) (n - k) (zs.drop k) :=
  ⟨by rw [List.length_drop, h.1], fun h0 => by
    obtain ⟨ad', e, hl, hc⟩ := h.2 (by omega)
    injection e with e
    subst e
    refine ⟨_, rfl, by rw [block_of_add]; exact hl, fun j hj => ?_⟩
    rw [add_add, hc (k + j) (by omega)]
    simp [List.getD, List.getElem?_drop]⟩
theorem add_pos (ad : Addr) {n : Nat} (h : 0 < n) : ad.add n = ⟨ad.block, ad.off + n, none⟩ := by
  unfold Addr.add; rw [if_neg (by omega)]
theorem at_zero (ad : Addr) : ad.add 0 = ad := by unfold Addr.add; split <;> simp_all
end Go.Proofs.YtalpbnfebcafgaaGreat
