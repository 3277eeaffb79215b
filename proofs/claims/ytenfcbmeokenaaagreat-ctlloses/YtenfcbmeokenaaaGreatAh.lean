/- How levels come ahead of others; the contract of the reference's Ahead. -/
import Derived.Test.YtenfcbmeokenaaaGreatRa
import Derived.Deep.QuietTactic
import Derived.BigQuiet
namespace Go.Proofs.YtenfcbmeokenaaaGreat
set_option maxRecDepth 20000
open Go.RowKit

/-- -1, 0 or 1, as levels come ahead of others, are the same, or come behind. -/
def ahd : List Int → List Int → Int
  | [], [] => 0
  | [], _ :: _ => -1
  | _ :: _, [] => 1
  | x :: xs, y :: ys => if x < y then -1 else if y < x then 1 else ahd xs ys
def sgn (x y : Nat) : Int := if x < y then -1 else if y < x then 1 else 0

theorem ofB_front (n k : Nat) : ofB n (k + 1) = ((n / 2 ^ k % 2 : Nat) : Int) :: ofB n k := by
  rw [Nat.add_comm, ofB_split n 1 k, ofB_snoc, ofB_zero]; rfl
theorem ahd_ofB : ∀ k m n, ahd (ofB m k) (ofB n k) = sgn (m % 2 ^ k) (n % 2 ^ k) := by
  intro k
  induction k with
  | zero => intro m n; simp [ofB_zero, ahd, sgn, Nat.mod_one]
  | succ k ih =>
    intro m n
    rw [ofB_front, ofB_front, ahd, ih]
    have h1 := Nat.mod_lt (m / 2 ^ k) (show 2 > 0 by omega)
    have h2 := Nat.mod_lt (n / 2 ^ k) (show 2 > 0 by omega)
    have h3 := Nat.mod_lt m (Nat.two_pow_pos k)
    have h4 := Nat.mod_lt n (Nat.two_pow_pos k)
    rw [Nat.mod_pow_succ (x := m), Nat.mod_pow_succ (x := n)]
    generalize m / 2 ^ k % 2 = a at *
    generalize n / 2 ^ k % 2 = b at *
    generalize m % 2 ^ k = x at *
    generalize n % 2 ^ k = y at *
    generalize 2 ^ k = p at *
    unfold sgn
    rcases (show a = 0 ∨ a = 1 by omega) with rfl | rfl <;> rcases (show b = 0 ∨ b = 1 by omega) with rfl | rfl <;> simp <;> (repeat' split) <;> omega
theorem ahd_app : ∀ (xs ys zs : List Int), xs.length = ys.length → ahd xs ys ≠ 0 → ahd xs (ys ++ zs) = ahd xs ys := by
  intro xs
  induction xs with
  | nil => intro ys zs h h0; cases ys with
    | nil => exact absurd rfl h0
    | cons y ys => simp at h
  | cons x xs ih =>
    intro ys zs h h0
    cases ys with
    | nil => simp at h
    | cons y ys =>
      simp only [List.cons_append, ahd] at h0 ⊢
      by_cases h1 : x < y
      · rw [if_pos h1, if_pos h1]
      · rw [if_neg h1] at h0 ⊢
        rw [if_neg h1]
        by_cases h2 : y < x
        · rw [if_pos h2, if_pos h2]
        · rw [if_neg h2] at h0 ⊢
          rw [if_neg h2]
          exact ih ys zs (by simpa using h) h0
theorem ahd_neg : ∀ (xs ys : List Int), ahd ys xs = - ahd xs ys := by
  intro xs
  induction xs with
  | nil => intro ys; cases ys <;> rfl
  | cons x xs ih =>
    intro ys
    cases ys with
    | nil => rfl
    | cons y ys =>
      simp only [ahd, ih ys]
      by_cases h1 : x < y
      · rw [if_neg (by omega), if_pos h1, if_pos h1]; rfl
      · by_cases h2 : y < x
        · rw [if_pos h2, if_neg h1, if_pos h2]
        · rw [if_neg h2, if_neg h1, if_neg h1, if_neg h2]
theorem sgn_neg (x y : Nat) : sgn y x = - sgn x y := by
  unfold sgn; (repeat' split) <;> omega
theorem plc_apart {f g : Fr} (hf : f.may = true) (hg : g.may = true) (hx : f.ext = false) (hy : g.ext = true) : ahd (ofB f.num f.wid) (ofB g.num g.wid) = sgn f.plc g.plc := by
  have h1 := num_short_lt hf hx
  have e1 : f.wid = 13 := by simp [Fr.wid, hx]
  have e2 : g.wid = 13 + 19 := by simp [Fr.wid, hy]
  have e3 : f.plc = f.num * 524288 := by simp [Fr.plc, hx]
  have e4 : g.plc = g.num := by simp [Fr.plc, hy]
  have o1 : f.num % 2 = 0 := by simp [Fr.num, hx]; omega
  have h2 := num_lt hg
  have o2 : g.num / 524288 % 2 = 1 := by
    have hr : g.rtr.toNat ≤ 1 := by cases g.rtr <;> decide
    simp only [Fr.num, hy, if_true]
    omega
  rw [e1, e2, e3, e4, ofB_split g.num 13 19]
  generalize g.num = N at *
  have hne : f.num ≠ N / 524288 := by intro h; rw [← h] at o2; omega
  have e5 : ahd (ofB f.num 13) (ofB (N / 2 ^ 19) 13) = sgn f.num (N / 524288) := by
    rw [ahd_ofB, show (2 : Nat) ^ 13 = 8192 from rfl, show (2 : Nat) ^ 19 = 524288 from rfl, Nat.mod_eq_of_lt h1, Nat.mod_eq_of_lt (by omega)]
  rw [ahd_app _ _ _ (by rw [ofB_len, ofB_len]) (by rw [e5]; unfold sgn; (repeat' split) <;> omega), e5]
  unfold sgn
  (repeat' split) <;> omega

/-- The order by levels is the order by places. -/
theorem ahd_plc {f g : Fr} (hf : f.may = true) (hg : g.may = true) : ahd (ofB f.num f.wid) (ofB g.num g.wid) = sgn f.plc g.plc := by
  cases hx : f.ext <;> cases hy : g.ext
  · have h1 := num_short_lt hf hx
    have h2 := num_short_lt hg hy
    have e1 : f.wid = 13 := by simp [Fr.wid, hx]
    have e2 : g.wid = 13 := by simp [Fr.wid, hy]
    have e3 : f.plc = f.num * 524288 := by simp [Fr.plc, hx]
    have e4 : g.plc = g.num * 524288 := by simp [Fr.plc, hy]
    rw [e1, e2, e3, e4, ahd_ofB, show (2 : Nat) ^ 13 = 8192 from rfl, Nat.mod_eq_of_lt h1, Nat.mod_eq_of_lt h2]
    unfold sgn
    (repeat' split) <;> omega
  · exact plc_apart hf hg hx hy
  · have := plc_apart hg hf hy hx
    rw [ahd_neg, this, sgn_neg, Int.neg_neg]
  · have h1 := num_lt hf
    have h2 := num_lt hg
    have e1 : f.wid = 32 := by simp [Fr.wid, hx]
    have e2 : g.wid = 32 := by simp [Fr.wid, hy]
    have e3 : f.plc = f.num := by simp [Fr.plc, hx]
    have e4 : g.plc = g.num := by simp [Fr.plc, hy]
    rw [e1, e2, e3, e4, ahd_ofB, show (2 : Nat) ^ 32 = 4294967296 from rfl, Nat.mod_eq_of_lt h1, Nat.mod_eq_of_lt h2]

theorem ahd_drop {xs ys : List Int} {k : Nat} {x y : Int} (hx : xs[k]? = some x) (hy : ys[k]? = some y) : ahd (xs.drop k) (ys.drop k) = if x < y then -1 else if y < x then 1 else ahd (xs.drop (k + 1)) (ys.drop (k + 1)) := by
  have h1 : k < xs.length := (List.getElem?_eq_some_iff.1 hx).1
  have h2 : k < ys.length := (List.getElem?_eq_some_iff.1 hy).1
  have e1 := (List.getElem?_eq_some_iff.1 hx).2
  have e2 := (List.getElem?_eq_some_iff.1 hy).2
  rw [List.drop_eq_getElem_cons h1, List.drop_eq_getElem_cons h2, e1, e2]
  rfl
theorem ahd_end : ∀ {xs ys : List Int}, xs.length = 0 ∨ ys.length = 0 → ahd xs ys = ((decide (ys.length < xs.length)).toNat : Int) - ((decide (xs.length < ys.length)).toNat : Int) := by
  intro xs ys h
  cases xs <;> cases ys <;> simp at h ⊢ <;> rfl

end Go.Proofs.YtenfcbmeokenaaaGreat
