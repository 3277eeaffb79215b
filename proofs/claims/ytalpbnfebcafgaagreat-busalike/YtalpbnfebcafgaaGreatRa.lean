/- The contract of the reference's Arb. -/
import Derived.Test.YtalpbnfebcafgaaGreatRd
import Derived.Deep.RegionHeld3
namespace Go.Proofs.YtalpbnfebcafgaaGreat
set_option maxRecDepth 20000
open Go.RowKit

def RowOk (zs : List Int) (w : World) (e : Ending) (w' : World) : Prop :=
  ∃ A cap, e = .returned (.slice A zs.length cap) ∧ Il w' A zs.length zs ∧ Below w.heap.size w w'

theorem arb_short {f : Fr} {i : Nat} (hx : f.ext = false) (hi : f.id = (i : Int)) : ofB i 11 ++ [(f.rtr.toNat : Int), 0] = ofB f.num f.wid := by
  have e1 : f.num = i * 4 + f.rtr.toNat * 2 := by simp [Fr.num, hx, hi]
  have e2 : f.wid = 11 + 2 := by simp [Fr.wid, hx]
  rw [e1, e2, ofB_split]
  have hr : f.rtr.toNat ≤ 1 := by cases f.rtr <;> decide
  rw [show (i * 4 + f.rtr.toNat * 2) / 2 ^ 2 = i by omega]
  congr 1
  rw [ofB_snoc, ofB_snoc, ofB_zero]
  simp
  omega
theorem arb_long {f : Fr} {i : Nat} (hx : f.ext = true) (hi : f.id = (i : Int)) : ofB (i / 262144) 11 ++ [1, 1] ++ ofB (i % 262144) 18 ++ [(f.rtr.toNat : Int)] = ofB f.num f.wid := by
  have e1 : f.num = (i / 262144 * 4 + 3) * 524288 + i % 262144 * 2 + f.rtr.toNat := by simp [Fr.num, hx, hi]
  have e2 : f.wid = (11 + 2) + (18 + 1) := by simp [Fr.wid, hx]
  have hr : f.rtr.toNat ≤ 1 := by cases f.rtr <;> decide
  rw [e1, e2, ofB_split]
  rw [show ((i / 262144 * 4 + 3) * 524288 + i % 262144 * 2 + f.rtr.toNat) / 2 ^ (18 + 1) = i / 262144 * 4 + 3 by omega]
  rw [ofB_split (i / 262144 * 4 + 3) 11 2, show (i / 262144 * 4 + 3) / 2 ^ 2 = i / 262144 by omega]
  rw [ofB_snoc ((i / 262144 * 4 + 3) * 524288 + i % 262144 * 2 + f.rtr.toNat) 18]
  have e3 : ofB (i / 262144 * 4 + 3) 2 = [1, 1] := by
    rw [ofB_snoc, ofB_snoc, ofB_zero]; simp; omega
  have e4 : ofB (((i / 262144 * 4 + 3) * 524288 + i % 262144 * 2 + f.rtr.toNat) / 2) 18 = ofB (i % 262144) 18 := by
    rw [show ((i / 262144 * 4 + 3) * 524288 + i % 262144 * 2 + f.rtr.toNat) / 2 = (i / 262144 * 4 + 3) * 2 ^ 18 + i % 262144 by omega]
    unfold ofB
    apply List.map_congr_left
    intro j hj
    rw [List.mem_range] at hj
    unfold bit
    generalize i / 262144 * 4 + 3 = A
    obtain ⟨q, hq⟩ : ∃ q, 18 - 1 - j = q ∧ q < 18 := ⟨_, rfl, by omega⟩
    rw [hq.1]
    rw [show A * 2 ^ 18 = A * 2 ^ (17 - q) * 2 * 2 ^ q by
      rw [Nat.mul_assoc A, Nat.mul_assoc A, ← Nat.pow_succ, ← Nat.pow_add]; congr 2; omega]
    rw [Nat.add_comm, Nat.add_mul_div_right _ _ (Nat.two_pow_pos q), Nat.add_mul_mod_self_right]
  rw [e3, e4]
  rw [show ((i / 262144 * 4 + 3) * 524288 + i % 262144 * 2 + f.rtr.toNat) % 2 = f.rtr.toNat by omega]
  simp

theorem cell_alloc {w : World} {p : Addr} {v : Value} (h : w.cell? p = some v) (o : Obj) : (w.alloc o).cell? p = some v := (World.cell?_alloc_some w p o (by rw [h]; rfl)).trans h

end Go.Proofs.YtalpbnfebcafgaaGreat
