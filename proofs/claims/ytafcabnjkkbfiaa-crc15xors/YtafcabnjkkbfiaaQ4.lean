/- The walk of the law Crc15Turns. -/
import Derived.Test.YtafcabnjkkbfiaaQ3
namespace Go.Proofs.Ytafcabnjkkbfiaa
open Go.RowKit

/-- xs are the levels ws, of which some of the k from p on were turned: t: whether one was, a: whether one of the first L was. -/
structure Turned (ws : List Int) (L p k : Nat) (xs : List Int) (t a : Bool) : Prop where
  len : xs.length = ws.length
  all : ∀ z ∈ xs, lvl z = true
  front : xs.take p = ws.take p
  rest : xs.drop (p + k) = ws.drop (p + k)
  one : t = false ↔ xs = ws
  ahead : a = false ↔ xs.take L = ws.take L
theorem Turned.start {ws : List Int} (L p : Nat) (h : ∀ z ∈ ws, lvl z = true) : Turned ws L p 0 ws false false := ⟨rfl, h, rfl, rfl, by simp, by simp⟩
theorem Turned.skip {ws xs : List Int} {L p k : Nat} {t a : Bool} (h : Turned ws L p k xs t a) : Turned ws L p (k + 1) xs t a := by
  refine ⟨h.len, h.all, h.front, ?_, h.one, h.ahead⟩
  have e := congrArg (List.drop 1) h.rest
  rwa [List.drop_drop, List.drop_drop, Nat.add_assoc] at e
theorem Turned.at_ {ws xs : List Int} {L p k : Nat} {t a : Bool} (h : Turned ws L p k xs t a) : xs[p + k]? = ws[p + k]? := by
  have e := congrArg (fun l => l[0]?) h.rest
  simpa [List.getElem?_drop] using e
theorem Turned.turn {ws xs : List Int} {L p k : Nat} {t a : Bool} {z : Int} (h : Turned ws L p k xs t a) (hz : xs[p + k]? = some z) : Turned ws L p (k + 1) (xs.set (p + k) (1 - z)) true (a || decide (p + k < L)) := by
  have hk : p + k < xs.length := by
    rcases Nat.lt_or_ge (p + k) xs.length with h | h
    · exact h
    · rw [List.getElem?_eq_none h] at hz; cases hz
  have hl := lvl_01 (h.all z (List.mem_of_getElem? hz))
  have hw : ws[p + k]? = some z := by rw [← h.at_]; exact hz
  have hne : ∀ l : List Int, l[p + k]? = some z → (xs.set (p + k) (1 - z))[p + k]? ≠ l[p + k]? := by
    intro l e
    rw [e, List.getElem?_set_self hk]
    intro e
    injection e with e
    omega
  refine ⟨by rw [List.length_set, h.len], ?_, ?_, ?_, ?_, ?_⟩
  · intro y hy
    rcases List.mem_or_eq_of_mem_set hy with h1 | h1
    · exact h.all y h1
    · rw [h1]; unfold lvl; rcases hl with rfl | rfl <;> rfl
  · rw [List.take_set, List.set_eq_of_length_le (by rw [List.length_take]; omega), h.front]
  · rw [List.drop_set, if_pos (by omega), (h.skip).rest]
  · constructor
    · intro e; cases e
    · intro e; exact absurd (by rw [e]) (hne ws hw)
  · by_cases hL : p + k < L
    · rw [decide_eq_true hL, Bool.or_true]
      constructor
      · intro e; cases e
      · intro e
        refine absurd ?_ (hne ws hw)
        have e2 := congrArg (fun l => l[p + k]?) e
        simpa [List.getElem?_take_of_lt hL] using e2
    · rw [decide_eq_false hL, Bool.or_false, List.take_set, List.set_eq_of_length_le (by rw [List.length_take]; omega)]
      exact h.ahead
theorem Turned.last {ws xs : List Int} {L p k : Nat} {t a : Bool} (h : Turned ws L p k xs t a) (hk : k = 15 ∨ ws.length ≤ p + k) (hk15 : k ≤ 15) : xs.drop (p + 15) = ws.drop (p + 15) := by
  rcases hk with rfl | hk
  · exact h.rest
  · rw [List.drop_eq_nil_of_le (by rw [h.len]; omega), List.drop_eq_nil_of_le (by omega)]
theorem Turned.right {ws xs : List Int} {L p k : Nat} {t a : Bool} (h : Turned ws L p k xs t a) (hw : ∀ z ∈ ws, lvl z = true) (hl : 15 ≤ ws.length) (h0 : csum ws = 0) (hk : k = 15 ∨ ws.length ≤ p + k) (hk15 : k ≤ 15) : rgt xs = !t := by
  rw [rgt_sum xs h.all (by rw [h.len]; exact hl)]
  have hb := csum_burst h.len h.all hw h.front (h.last hk hk15)
  cases t with
  | false => rw [h.one.1 rfl, h0]; rfl
  | true =>
    have : ¬ csum xs = 0 := fun e => by
      have := h.one.2 (hb (by rw [e, h0]))
      cases this
    rw [beq_eq_false_iff_ne.2 this]; rfl
theorem Turned.sums {ws xs : List Int} {L p k : Nat} {t a : Bool} (h : Turned ws L p k xs t a) (hw : ∀ z ∈ ws, lvl z = true) (hk : k = 15 ∨ ws.length ≤ p + k) (hk15 : k ≤ 15) : (((csum (xs.take L) : Nat) : Int) != ((csum (ws.take L) : Nat) : Int)) = a := by
  have hlast := h.last hk hk15
  have hb : csum (xs.take L) = csum (ws.take L) → xs.take L = ws.take L := by
    refine csum_burst (p := p) (by rw [List.length_take, List.length_take, h.len]) (all_take h.all L) (all_take hw L) ?_ ?_
    · rw [List.take_take, List.take_take, Nat.min_comm, ← List.take_take, ← List.take_take, h.front]
    · rw [List.drop_take, List.drop_take, hlast]
  cases a with
  | false => rw [h.ahead.1 rfl]; simp
  | true =>
    have : ¬ csum (xs.take L) = csum (ws.take L) := fun e => by
      have := h.ahead.2 (hb e)
      cases this
    rw [bne_iff_ne]; omega
end Go.Proofs.Ytafcabnjkkbfiaa
