/- Plain mathematics of layer 4: the fields of levels, and the levels of a frame. -/
import Derived.Test.YtalpbnfebcafgaaGreatRa
import Derived.Test.YtalpbnfebcafgaaGreatK2
import Derived.Test.YtalpbnfebcafgaaGreatFb
namespace Go.Proofs.YtalpbnfebcafgaaGreat
set_option maxRecDepth 20000

/-- The level at a place has come, and is 1. -/
def one (zs : List Int) (k : Nat) : Bool := zs[k]? == some 1
def hEx (zs : List Int) : Bool := one zs 13
def hRt (zs : List Int) : Bool := one zs (if hEx zs then 32 else 12)
def aW (x : Bool) : Nat := if x then 32 else 13
def cW (x : Bool) : Nat := if x then 6 else 5
def hEnd (x : Bool) : Nat := if x then 39 else 19
/-- Levels from a place on, so many. -/
def cutL (zs : List Int) (a n : Nat) : List Int := (zs.take (a + n)).drop a
def hLn (zs : List Int) : Nat := if hEnd (hEx zs) ≤ zs.length then min (val (cutL zs (hEnd (hEx zs) - 4) 4)) 8 else 0
def hDat (zs : List Int) : Nat := if hRt zs then 0 else hLn zs * 8
def hd (zs : List Int) : Fr := ⟨0, hEx zs, hRt zs, (hLn zs : Int), fun _ => 0⟩
def ahead (zs : List Int) : Nat := hEnd (hEx zs) + hDat zs
def wds (a c d : Nat) : List Nat := [1, a, c, d, 15, 1, 1, 1, 7]
def hW (zs : List Int) : List Nat := wds (aW (hEx zs)) (cW (hEx zs)) (hDat zs)
theorem hEnd_eq (x : Bool) : 1 + aW x + cW x = hEnd x := by cases x <;> rfl
theorem cutL_len {zs : List Int} {a n : Nat} (h : a + n ≤ zs.length) : (cutL zs a n).length = n := by
  unfold cutL; rw [List.length_drop, List.length_take]; omega
theorem hLn_le (zs : List Int) : hLn zs ≤ 8 := by unfold hLn; split <;> omega
theorem hDat_le (zs : List Int) : hDat zs ≤ 64 := by
  have := hLn_le zs
  unfold hDat; split <;> omega
theorem all_cut {zs : List Int} (h : ∀ z ∈ zs, lvl z = true) (a n : Nat) : ∀ z ∈ cutL zs a n, lvl z = true := all_drop (all_take h _) _

/-- The field, and the place in it, behind n levels. -/
def nx : List Nat → Nat → Nat → Nat × Nat
  | [], _, k => (k, 0)
  | w :: ws, n, k => if n < w then (k, n) else nx ws (n - w) (k + 1)
def sumW : List Nat → Nat
  | [] => 0
  | w :: ws => w + sumW ws
/-- How many of each field there are ahead of n. -/
def cnt : List Nat → Nat → List Nat
  | [], _ => []
  | w :: ws, n => min w n :: cnt ws (n - w)
theorem cnt_len : ∀ (ws : List Nat) (n : Nat), (cnt ws n).length = ws.length := by
  intro ws
  induction ws with
  | nil => intro n; rfl
  | cons w ws ih => intro n; simp [cnt, ih]
theorem cnt_zero : ∀ (ws : List Nat), cnt ws 0 = List.replicate ws.length 0 := by
  intro ws
  induction ws with
  | nil => rfl
  | cons w ws ih => simp [cnt, ih, List.replicate_succ]
theorem cnt_full : ∀ (ws : List Nat) (n : Nat), sumW ws ≤ n → cnt ws n = ws := by
  intro ws
  induction ws with
  | nil => intro n _; rfl
  | cons w ws ih => intro n h; simp only [sumW] at h; simp only [cnt]; rw [ih _ (by omega), Nat.min_eq_left (by omega)]
theorem nx_lt : ∀ (ws : List Nat) (n k : Nat), n < sumW ws → k ≤ (nx ws n k).1 ∧ (nx ws n k).1 < k + ws.length := by
  intro ws
  induction ws with
  | nil => intro n k h; simp [sumW] at h
  | cons w ws ih =>
    intro n k h
    simp only [sumW] at h
    unfold nx
    split
    · simp
    · have := ih (n - w) (k + 1) (by omega)
      simp; omega
theorem nx_end : ∀ (ws : List Nat) (n k : Nat), sumW ws ≤ n → nx ws n k = (k + ws.length, 0) := by
  intro ws
  induction ws with
  | nil => intro n k _; simp [nx]
  | cons w ws ih =>
    intro n k h
    simp only [sumW] at h
    unfold nx
    rw [if_neg (by omega), ih _ _ (by omega)]
    simp; omega
theorem nx_cnt : ∀ (ws : List Nat) (n k : Nat), n < sumW ws → (cnt ws n)[(nx ws n k).1 - k]? = some (nx ws n k).2 ∧ cnt ws (n + 1) = (cnt ws n).set ((nx ws n k).1 - k) ((nx ws n k).2 + 1) := by
  intro ws
  induction ws with
  | nil => intro n k h; simp [sumW] at h
  | cons w ws ih =>
    intro n k h
    simp only [sumW] at h
    unfold nx cnt
    split
    · next hn =>
      simp
      constructor
      · omega
      · constructor
        · omega
        · rw [show n + 1 - w = 0 by omega, show n - w = 0 by omega]
    · next hn =>
      have hl := nx_lt ws (n - w) (k + 1) (by omega)
      have := ih (n - w) (k + 1) (by omega)
      obtain ⟨j, hj⟩ : ∃ j, (nx ws (n - w) (k + 1)).1 = k + 1 + j := ⟨(nx ws (n - w) (k + 1)).1 - (k + 1), by omega⟩
      rw [hj] at this ⊢
      rw [show k + 1 + j - (k + 1) = j by omega] at this
      rw [show k + 1 + j - k = j + 1 by omega, List.getElem?_cons_succ, List.set_cons_succ, show n + 1 - w = n - w + 1 by omega, Nat.min_eq_left (by omega : w ≤ n + 1), Nat.min_eq_left (by omega : w ≤ n)]
      exact ⟨this.1, by rw [this.2]⟩
theorem nx_mono : ∀ (ws : List Nat) (n k : Nat), (nx ws n k).1 ≤ (nx ws (n + 1) k).1 := by
  intro ws
  induction ws with
  | nil => intro n k; simp [nx]
  | cons w ws ih =>
    intro n k
    unfold nx
    split
    · split
      · simp
      · rcases Nat.lt_or_ge (n + 1 - w) (sumW ws) with h | h
        · have := nx_lt ws (n + 1 - w) (k + 1) h
          simp; omega
        · rw [nx_end _ _ _ h]; simp; omega
    · split
      · omega
      · rw [show n + 1 - w = n - w + 1 by omega]
        exact ih _ _
end Go.Proofs.YtalpbnfebcafgaaGreat
