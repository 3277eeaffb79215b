/- Plain mathematics of layer 1: levels, their first fault, their number, their bits, their runs. It imports nothing of the program. -/
namespace Go.Proofs.YtalpbnfebcafgaaGreat
set_option maxRecDepth 20000

section
variable {α : Type} (p : α → Bool)
/-- How many stand ahead of the first one that does not meet p. -/
def led (l : List α) : Nat := (l.takeWhile p).length
/-- The place of the first one that does not meet p; -1: all do. -/
def fst (l : List α) : Int := if led p l < l.length then (led p l : Int) else -1

theorem led_le (l : List α) : led p l ≤ l.length := by
  unfold led; exact (List.takeWhile_prefix p).length_le
theorem led_cons (z : α) (l : List α) : led p (z :: l) = if p z then led p l + 1 else 0 := by
  unfold led; by_cases h : p z <;> simp [h]
theorem led_succ : ∀ (l : List α) (k : Nat) (z : α), k ≤ led p l → l[k]? = some z → p z = true → k + 1 ≤ led p l := by
  intro l
  induction l with
  | nil => intro k z _ h; simp at h
  | cons y l ih =>
    intro k z hk hl hv
    rw [led_cons] at hk ⊢
    cases k with
    | zero => simp at hl; subst hl; simp [hv]
    | succ k =>
      by_cases h : p y
      · simp only [h, if_true] at hk ⊢
        have := ih k z (by omega) (by simpa using hl) hv
        omega
      · simp [h] at hk
theorem led_stop : ∀ (l : List α) (k : Nat) (z : α), k ≤ led p l → l[k]? = some z → p z = false → led p l = k := by
  intro l
  induction l with
  | nil => intro k z _ h; simp at h
  | cons y l ih =>
    intro k z hk hl hv
    rw [led_cons] at hk ⊢
    cases k with
    | zero => simp at hl; subst hl; simp [hv]
    | succ k =>
      by_cases h : p y
      · simp only [h, if_true] at hk ⊢
        rw [ih k z (by omega) (by simpa using hl) hv]
      · simp [h] at hk
theorem led_all : ∀ (l : List α), l.length ≤ led p l → ∀ z ∈ l, p z = true := by
  intro l
  induction l with
  | nil => intro _ z h; cases h
  | cons y l ih =>
    intro hl z hz
    rw [led_cons] at hl
    by_cases h : p y
    · simp [h] at hl
      cases hz with
      | head => exact h
      | tail _ hz => exact ih hl z hz
    · simp [h] at hl
theorem led_of_all : ∀ (l : List α), (∀ z ∈ l, p z = true) → led p l = l.length := by
  intro l
  induction l with
  | nil => intro _; rfl
  | cons y l ih =>
    intro h
    rw [led_cons, if_pos (h y (by simp)), ih (fun z hz => h z (by simp [hz]))]; rfl
theorem fst_stop (l : List α) (k : Nat) (z : α) (h : k ≤ led p l) (hl : l[k]? = some z) (hv : p z = false) : fst p l = k := by
  have e := led_stop p l k z h hl hv
  have hk : k < l.length := by
    rcases Nat.lt_or_ge k l.length with h | h
    · exact h
    · rw [List.getElem?_eq_none h] at hl; cases hl
  unfold fst; rw [if_pos (by omega), e]
theorem fst_end (l : List α) (h : l.length ≤ led p l) : fst p l = -1 := by
  unfold fst; rw [if_neg (by omega)]
theorem fst_of_all (l : List α) (h : ∀ z ∈ l, p z = true) : fst p l = -1 := fst_end p l (by rw [led_of_all p l h]; exact Nat.le_refl _)
theorem fst_neg (l : List α) (h : fst p l < 0) : ∀ z ∈ l, p z = true := by
  apply led_all
  unfold fst at h; split at h <;> omega
theorem fst_range (l : List α) : -1 ≤ fst p l ∧ fst p l ≤ l.length ∧ (l.length = 0 → fst p l = -1) := by
  have := led_le p l
  unfold fst; split <;> omega
theorem fst_nonneg (l : List α) (h : 0 ≤ fst p l) : ∃ z, z ∈ l ∧ p z = false := by
  rcases Classical.em (∀ z ∈ l, p z = true) with h' | h'
  · rw [fst_of_all p l h'] at h; omega
  · rcases Classical.em (∃ z, z ∈ l ∧ p z = false) with h2 | h2
    · exact h2
    · exact absurd (fun z hz => by
        cases hp : p z with
        | true => rfl
        | false => exact absurd ⟨z, hz, hp⟩ h2) h'
end

def lvl (z : Int) : Bool := z == 0 || z == 1
def chk (zs : List Int) : Int := fst lvl zs
def lvb (c : UInt8) : Bool := c == 48 || c == 49
def mis (bs : List UInt8) : Int := fst lvb bs
theorem lvl_01 {z : Int} (h : lvl z = true) : z = 0 ∨ z = 1 := by
  unfold lvl at h; simpa using h
theorem lvb_01 {c : UInt8} (h : lvb c = true) : c = 48 ∨ c = 49 := by
  unfold lvb at h; simpa using h
theorem getD_some (zs : List Int) (k : Nat) (h : k < zs.length) : zs[k]? = some (zs.getD k 0) := by simp [h]

/-- The number of levels, the greatest one first. -/
def val (zs : List Int) : Nat := zs.foldl (fun a z => 2 * a + z.toNat) 0
theorem val_snoc (zs : List Int) (z : Int) : val (zs ++ [z]) = 2 * val zs + z.toNat := by simp [val]
theorem val_step (zs : List Int) (k : Nat) (z : Int) (h : zs[k]? = some z) : val (zs.take (k + 1)) = 2 * val (zs.take k) + z.toNat := by
  rw [List.take_add_one, h]; exact val_snoc _ _
theorem val_lt_rev : ∀ l : List Int, (∀ z ∈ l, lvl z = true) → val l.reverse < 2 ^ l.length := by
  intro l
  induction l with
  | nil => intro _; simp [val]
  | cons z l ih =>
    intro h
    have h1 := ih (fun y hy => h y (by simp [hy]))
    have h2 := lvl_01 (h z (by simp))
    rw [List.reverse_cons, val_snoc, List.length_cons, Nat.pow_succ]
    omega
theorem val_lt (zs : List Int) (h : ∀ z ∈ zs, lvl z = true) : val zs < 2 ^ zs.length := by
  have := val_lt_rev zs.reverse (fun z hz => h z (by simpa using hz))
  simpa using this
theorem val_take_lt (zs : List Int) (h : ∀ z ∈ zs, lvl z = true) (k : Nat) (hk : k ≤ 63) : val (zs.take k) < 9223372036854775808 := by
  have h1 := val_lt (zs.take k) (fun z hz => h z (List.mem_of_mem_take hz))
  have h2 : 2 ^ (zs.take k).length ≤ 2 ^ 63 := Nat.pow_le_pow_right (by omega) (by rw [List.length_take]; omega)
  omega

/-- Go's '(x%m + m) % m'. -/
theorem mod_in (x : Int) (m : Nat) (hm : 0 < m) : ∃ k : Nat, k < m ∧ ((x.tmod m + m).tmod m) = (k : Int) ∧ (x.tmod m + m) % m = (k : Int) ∧ -(m : Int) < x.tmod m ∧ x.tmod m < m := by
  have h1 : -(m : Int) < x.tmod m := by
    have := Int.lt_tmod_of_pos x (show (0 : Int) < m by omega)
    omega
  have h2 : x.tmod m < m := Int.tmod_lt_of_pos x (by omega)
  have h3 : 0 ≤ x.tmod m + m := by omega
  refine ⟨((x.tmod m + m) % m).toNat, ?_, ?_, ?_, h1, h2⟩
  · have := Int.emod_lt_of_pos (x.tmod m + m) (show (0 : Int) < m by omega)
    have := Int.emod_nonneg (x.tmod m + m) (show (m : Int) ≠ 0 by omega)
    omega
  · rw [Int.tmod_eq_emod_of_nonneg h3]
    have := Int.emod_nonneg (x.tmod m + m) (show (m : Int) ≠ 0 by omega)
    omega
  · have := Int.emod_nonneg (x.tmod m + m) (show (m : Int) ≠ 0 by omega)
    omega
end Go.Proofs.YtalpbnfebcafgaaGreat
