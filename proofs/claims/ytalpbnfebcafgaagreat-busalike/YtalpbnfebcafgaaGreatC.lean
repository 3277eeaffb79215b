/- The contracts of bits.Of, and of the reference's Of. -/
import Derived.Test.YtalpbnfebcafgaaGreatW
namespace Go.Proofs.YtalpbnfebcafgaaGreat
set_option maxRecDepth 20000
open Go.RowKit

/-- Bit i of n. -/
def bit (n i : Nat) : Int := ((n / 2 ^ i % 2 : Nat) : Int)
/-- The width lowest bits of n, the greatest one first. -/
def ofB (n width : Nat) : List Int := (List.range width).map fun j => bit n (width - 1 - j)
theorem ofB_len (n width : Nat) : (ofB n width).length = width := by simp [ofB]

def Fill (n width k : Nat) (zs : List Int) : Prop := zs.length = width ∧ ∀ j, width - k ≤ j → j < width → zs.getD j 0 = bit n (width - 1 - j)
theorem Fill.step {n width k : Nat} {zs : List Int} (h : Fill n width k zs) (hk : k < width) : Fill n width (k + 1) (zs.set (width - 1 - k) (bit n k)) := by
  refine ⟨by rw [List.length_set]; exact h.1, fun j h1 h2 => ?_⟩
  have hl := h.1
  rcases Nat.lt_or_ge (width - 1 - k) j with hlt | hge
  · have := h.2 j (by omega) h2
    rw [← this]
    simp [List.getD, List.getElem?_set_ne (show width - 1 - k ≠ j by omega)]
  · have e : j = width - 1 - k := by omega
    subst e
    simp [List.getD, List.getElem?_set_self (show width - 1 - k < zs.length by omega)]
    congr 1; omega
theorem Fill.all {n width k : Nat} {zs : List Int} (h : Fill n width k zs) (hk : width ≤ k) : zs = ofB n width := by
  apply List.ext_getElem
  · rw [h.1, ofB_len]
  · intro j h1 h2
    have := h.2 j (by omega) (by rw [← h.1]; exact h1)
    simp [h1] at this
    simp [ofB, this]

theorem and_bit (n k : Nat) (h : n < 18446744073709551616) : wrap64 (bits BinOp.and IntKind.u64 ((n : Int) / 2 ^ k) 1) = bit n k := by
  have e : (n : Int) / 2 ^ k = ((n / 2 ^ k : Nat) : Int) := by simp
  have hlt : n / 2 ^ k < 18446744073709551616 := Nat.lt_of_le_of_lt (Nat.div_le_self _ _) h
  rw [e, show (1 : Int) = ((1 : Nat) : Int) from rfl, u64_and_nat _ _ hlt (by omega), nat_mask1]
  unfold bit wrap64
  have := Nat.mod_lt (n / 2 ^ k) (show 2 > 0 by omega)
  omega

def SlOk (zs : List Int) (w : World) (e : Ending) (w' : World) : Prop :=
  ∃ A cap, e = .returned (.tuple #[.slice A zs.length cap, .int .i64 0]) ∧ Il w' A zs.length zs ∧ Below w.heap.size w w'

set_option maxHeartbeats 400000 in
theorem of_ok (n width : Nat) (w : World) (hn : n < 18446744073709551616) (hw : width ≤ 64) :
    Calls Tryz.prog 69 #[.int .u64 n, .int .i64 width] w (SlOk (ofB n width) w) := by
  have hmk := make22 width (by omega)
  have HB := Lib.hid (Arr.new w .i64 3 (List.replicate width 0))
  have HN := Lib.hid hn
  clear hn
  generalize ((List.replicate width 0).map (Value.int .i64)).toArray = cs at hmk HB
  have h0 : decide ((width : Int) < 0) = false := by simp
  have h1 : decide ((64 : Int) < (width : Int)) = false := by simp; omega
  go_enter Tryz.func69, Tryz.ntmps69
  go_wp2
  go_loopw [17] (fun i wr => ∃ (k : Nat) (zs : List Int), k ≤ width ∧ i = .int .i64 k ∧ Arr .i64 3 wr w.heap.size zs ∧ Fill n width k zs ∧ Below w.heap.size w wr) (fun i _ => width - (intOf i).toNat)
  case atStart => exact ⟨0, List.replicate width 0, Nat.zero_le _, rfl, HB.out, ⟨by simp, fun j h1 h2 => by omega⟩, (Below.refl _ _).alloc (Nat.le_refl _) _⟩
  case round =>
    obtain ⟨k, zs, hk, rfl, ha, hf, hbel⟩ := hrel
    by_cases hlt : k < width
    · have hc := ha.cell (i := width - 1 - k) (by have := hf.1; omega)
      have hz := ha.frozen (width - 1 - k)
      have HA := Lib.hid ha; have HF := Lib.hid hf
      clear ha hf
      generalize zs.getD (width - 1 - k) 0 = x at hc
      go_wp2
      go_roundw
      case rel =>
        rw [and_bit n k HN.out]
        exact ⟨k + 1, _, by omega, by go_num, HA.out.put _ _, HF.out.step hlt, hbel.setCell (Nat.le_refl _) _⟩
      case measure => simp [intOf]; omega
    · go_wp2
      go_ret2
      have e := hf.all (show width ≤ k by omega)
      subst e
      have hi := ha.il
      refine ⟨some ⟨w.heap.size, 0, none⟩, width, ?_, hi, hbel⟩
      rw [ofB_len]; rfl

set_option maxHeartbeats 400000 in
theorem of_bad (n width : Int) (w : World) (hw : width < 0 ∨ 64 < width) :
    Calls Tryz.prog 69 #[.int .u64 n, .int .i64 width] w fun e w' => e = .returned (.tuple #[.slice none 0 0, .int .i64 10]) ∧ w = w' := by
  rcases hw with hw | hw
  · go_enter Tryz.func69, Tryz.ntmps69
    go_wp2
    go_ret2
    exact ⟨rfl, rfl⟩
  · have h0 : decide (width < 0) = false := by simp; omega
    go_enter Tryz.func69, Tryz.ntmps69
    go_wp2
    go_ret2
    exact ⟨rfl, rfl⟩
end Go.Proofs.YtalpbnfebcafgaaGreat
