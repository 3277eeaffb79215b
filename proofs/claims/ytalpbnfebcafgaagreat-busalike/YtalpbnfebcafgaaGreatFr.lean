/- Frames as values, and what of them the program reads. -/
import Derived.Test.YtalpbnfebcafgaaGreatW2
namespace Go.Proofs.YtalpbnfebcafgaaGreat
set_option maxRecDepth 20000
open Go.RowKit

/-- A frame. -/
structure Fr where
  id : Int
  ext : Bool
  rtr : Bool
  len : Int
  d : Nat → Int

abbrev Fr.cells (f : Fr) : Array Value := #[.int .i64 f.id, .bool f.ext, .bool f.rtr, .int .i64 f.len, .int .u8 (f.d 0), .int .u8 (f.d 1), .int .u8 (f.d 2), .int .u8 (f.d 3), .int .u8 (f.d 4), .int .u8 (f.d 5), .int .u8 (f.d 6), .int .u8 (f.d 7)]
abbrev Fr.val (f : Fr) : Value := .agg f.cells

def Fr.most (f : Fr) : Int := if f.ext then 536870911 else 2047
/-- A frame may be. -/
def Fr.may (f : Fr) : Bool := decide (0 ≤ f.id) && decide (f.id ≤ f.most) && decide (0 ≤ f.len) && decide (f.len ≤ 8) && (List.range 8).all fun k => f.d k == 0 || (!f.rtr && decide ((k : Int) < f.len))
def Fr.num (f : Fr) : Nat := if f.ext then (f.id.toNat / 262144 * 4 + 3) * 524288 + f.id.toNat % 262144 * 2 + f.rtr.toNat else f.id.toNat * 4 + f.rtr.toNat * 2
def Fr.wid (f : Fr) : Nat := if f.ext then 32 else 13

theorem great_any (b : Bool) (w : World) : Calls Tryz.prog 26 #[.bool b] w fun e w' => e = .returned (.int .i64 (if b then 536870911 else 2047)) ∧ w = w' := by
  cases b <;> (go_enter Tryz.func26, Tryz.ntmps26; go_wp2; go_ret; exact ⟨rfl, rfl⟩)


theorem may_parts {f : Fr} (h : f.may = true) : 0 ≤ f.id ∧ f.id ≤ f.most ∧ 0 ≤ f.len ∧ f.len ≤ 8 ∧ ∀ k, k < 8 → f.d k = 0 ∨ (f.rtr = false ∧ (k : Int) < f.len) := by
  simp only [Fr.may, Bool.and_eq_true, decide_eq_true_eq, List.all_eq_true, List.mem_range, Bool.or_eq_true, beq_iff_eq, Bool.not_eq_true'] at h
  exact ⟨h.1.1.1.1, h.1.1.1.2, h.1.1.2, h.1.2, h.2⟩

theorem or_low (a b k : Nat) (hb : b < 2 ^ k) (ha : a * 2 ^ k < 18446744073709551616) (hk : b < 18446744073709551616 := by omega) : bits .or .u64 ((a * 2 ^ k : Nat) : Int) (b : Int) = ((a * 2 ^ k + b : Nat) : Int) := by
  rw [u64_or_nat _ _ ha hk, Nat.mul_comm a, Nat.two_pow_add_eq_or_of_lt hb]
theorem num_short (i n : Int) (r : Bool) (d : Nat → Int) : Fr.num ⟨i, false, r, n, d⟩ = i.toNat * 4 + r.toNat * 2 := rfl
theorem num_long (i n : Int) (r : Bool) (d : Nat → Int) : Fr.num ⟨i, true, r, n, d⟩ = (i.toNat / 262144 * 4 + 3) * 524288 + i.toNat % 262144 * 2 + r.toNat := rfl

theorem long_facts (i : Nat) (r : Bool) (hi : i ≤ 536870911) : ∃ A B C D : Nat, (A : Int) ≤ 8191 ∧ (B : Int) < 262144 ∧ (C : Int) ≤ 4294967295 ∧
    bits .or .u64 ((i : Int) / 262144 * 4) 3 = (A : Int) ∧ bits .and .u64 (i : Int) 262143 = (B : Int) ∧ bits .or .u64 ((A : Int) * 524288) ((B : Int) * 2) = (C : Int) ∧ bits .or .u64 (C : Int) (r.toNat : Int) = (D : Int) ∧
    (i / 262144 * 4 + 3) * 524288 + i % 262144 * 2 + r.toNat = D := by
  obtain ⟨A, hA⟩ : ∃ A, A = i / 262144 * 4 + 3 := ⟨_, rfl⟩
  obtain ⟨B, hB⟩ : ∃ B, B = i % 262144 := ⟨_, rfl⟩
  obtain ⟨C, hC⟩ : ∃ C, C = A * 524288 + B * 2 := ⟨_, rfl⟩
  have hrb : r.toNat < 2 ^ 1 := by cases r <;> decide
  have ho1 : bits .or .u64 ((i : Int) / 262144 * 4) 3 = (A : Int) := by
    have := or_low (i / 262144) 3 2 (by omega) (by omega)
    rw [hA]; simpa using this
  have ho2 : bits .and .u64 (i : Int) 262143 = (B : Int) := by
    rw [hB, ← nat_mask18]; exact u64_and_nat i 262143 (by omega) (by omega)
  have ho3 : bits .or .u64 ((A : Int) * 524288) ((B : Int) * 2) = (C : Int) := by
    have := or_low A (B * 2) 19 (by omega) (by omega)
    rw [hC]; simpa using this
  have ho4 : bits .or .u64 (C : Int) (r.toNat : Int) = ((C + r.toNat : Nat) : Int) := by
    have := or_low (A * 262144 + B) r.toNat 1 hrb (by omega)
    rw [show (A * 262144 + B) * 2 ^ 1 = C by omega] at this
    exact this
  exact ⟨A, B, C, C + r.toNat, by omega, by omega, by omega, ho1, ho2, ho3, ho4, by rw [← hA, ← hB, ← hC]⟩

set_option maxHeartbeats 400000 in
theorem levels_ok (f : Fr) (w : World) (hm : f.may = true) :
    Calls Tryz.prog 43 #[f.val] w fun e w' => e = .returned (.tuple #[.int .u64 f.num, .int .i64 f.wid]) ∧ Below w.heap.size w w' := by
  obtain ⟨h0, h1, _⟩ := may_parts hm
  obtain ⟨i, x, r, n, d⟩ := f
  obtain ⟨i, rfl⟩ := Int.eq_ofNat_of_zero_le h0
  have hi : (i : Int) ≤ 536870911 := by
    revert h1; simp only [Fr.most]; split <;> omega
  have hb : Below w.heap.size w (w.alloc (.cells (Fr.cells ⟨i, x, r, n, d⟩) 31)) := (Below.refl _ _).alloc (Nat.le_refl _) _
  have HB := Lib.hid hb
  have HN := Lib.hid (num_short (i : Int) n r d)
  have HL := Lib.hid (num_long (i : Int) n r d)
  rw [Int.toNat_natCast] at HN HL
  clear h0 hm hb
  cases x
  · simp [Fr.most] at h1
    have hrb : (r.toNat * 2) < 2 ^ 2 := by cases r <;> decide
    have ho : bits .or .u64 ((i : Int) * 4) (r.toNat * 2 : Nat) = ((i * 4 + r.toNat * 2 : Nat) : Int) := by
      have := or_low i (r.toNat * 2) 2 hrb (by omega)
      simpa using this
    rw [HN.out]
    generalize hc : i * 4 + r.toNat * 2 = c at *
    cases r
    · have ho2 : bits .or .u64 ((i : Int) * 4) 0 = (c : Int) := ho
      go_enter Tryz.func43, Tryz.ntmps43
      go_wp2
      go_ret2
      exact ⟨rfl, HB.out⟩
    · have ho2 : bits .or .u64 ((i : Int) * 4) 2 = (c : Int) := ho
      go_enter Tryz.func43, Tryz.ntmps43
      go_wp2
      go_ret2
      exact ⟨rfl, HB.out⟩
  · rw [HL.out]
    obtain ⟨A, B, C, D, hA', hB', hC', ho1, ho2, ho3, ho4, hD⟩ := long_facts i r (by omega)
    rw [hD]
    clear hD
    cases r
    · have ho5 : bits .or .u64 (C : Int) 0 = (D : Int) := ho4
      clear ho4
      go_enter Tryz.func43, Tryz.ntmps43
      go_wp2
      go_ret2
      exact ⟨rfl, HB.out⟩
    · have ho5 : bits .or .u64 (C : Int) 1 = (D : Int) := ho4
      clear ho4
      go_enter Tryz.func43, Tryz.ntmps43
      go_wp2
      go_ret2
      exact ⟨rfl, HB.out⟩
end Go.Proofs.YtalpbnfebcafgaaGreat
