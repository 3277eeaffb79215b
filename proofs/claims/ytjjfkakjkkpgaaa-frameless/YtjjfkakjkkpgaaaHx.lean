/- Plain mathematics of texts: bytes as lists, digits of sixteen. -/
import Derived.Test.YtjjfkakjkkpgaaaW2
import Derived.Laws.StandIn
namespace Go.Proofs.Ytjjfkakjkkpgaaa

theorem bytes_loop (s : ByteArray) : ∀ (n i : Nat) (r : List UInt8), s.size - i = n → ByteArray.toList.loop s i r = r.reverse ++ s.data.toList.drop i := by
  intro n
  induction n with
  | zero =>
    intro i r h
    unfold ByteArray.toList.loop
    have h1 : ¬ i < s.size := by omega
    rw [if_neg h1, List.drop_eq_nil_of_le (by show s.data.size ≤ i; exact Nat.le_of_not_lt h1), List.append_nil]
  | succ n ih =>
    intro i r h
    unfold ByteArray.toList.loop
    have h1 : i < s.size := by omega
    have h2 : i < s.data.toList.length := h1
    rw [if_pos h1, ih (i + 1) _ (by omega), List.drop_eq_getElem_cons h2, List.reverse_cons, List.append_assoc]
    congr 2
    have : s.get! i = s.data[i]! := rfl
    rw [this, getElem!_pos s.data i h1]
    simp
theorem bytes_list (s : ByteArray) : s.toList = s.data.toList := by
  show ByteArray.toList.loop s 0 [] = _
  rw [bytes_loop s s.size 0 [] rfl]
  rfl

/-- The text of bytes. -/
def str (l : List UInt8) : ByteArray := ⟨l.toArray⟩
theorem str_data (l : List UInt8) : (str l).data.toList = l := by simp [str]
theorem str_list (l : List UInt8) : (str l).toList = l := by rw [bytes_list, str_data]
theorem str_size (l : List UInt8) : (str l).size = l.length := by simp [str, ByteArray.size]
theorem str_of (s : ByteArray) : s = str s.data.toList := by simp [str]
theorem str_append (a b : List UInt8) : str a ++ str b = str (a ++ b) := by
  apply ByteArray.ext; simp [str]
theorem str_extract (l : List UInt8) (a b : Nat) : (str l).extract a b = str ((l.take b).drop a) := by
  apply ByteArray.ext
  simp only [str, ByteArray.data_extract, List.extract_toArray, List.extract_eq_take_drop]
  rw [List.drop_take]
theorem str_inj {a b : List UInt8} (h : str a = str b) : a = b := by
  have := congrArg (fun s => s.data.toList) h
  simpa [str] using this
theorem str_at (l : List UInt8) (k : Nat) (h : k < (str l).size) : l[k]? = some (str l)[k] := by
  have := byte_some (str l) k h
  rwa [str_data] at this

theorem find_congr {α : Type} {p q : α → Bool} : ∀ l : List α, (∀ a ∈ l, p a = q a) → l.find? p = l.find? q := by
  intro l
  induction l with
  | nil => intro _; rfl
  | cons a l ih =>
    intro h
    rw [List.find?_cons, List.find?_cons, h a (by simp), ih (fun b hb => h b (by simp [hb]))]
theorem find_fst (p : UInt8 → Bool) : ∀ (l : List UInt8) (b : Nat), (match ((List.range' b l.length).find? fun i => !p (l.getD (i - b) 0)) with | some i => (i : Int) | none => -1) = if led p l < l.length then ((b + led p l : Nat) : Int) else -1 := by
  intro l
  induction l with
  | nil => intro b; rfl
  | cons c l ih =>
    intro b
    rw [List.length_cons, List.range'_succ, List.find?_cons]
    have h0 : (c :: l).getD (b - b) 0 = c := by simp
    rw [h0, led_cons]
    cases hp : p c
    · simp
    · simp only [Bool.not_true, if_true]
      have e : (List.range' (b + 1) l.length).find? (fun i => !p ((c :: l).getD (i - b) 0)) = (List.range' (b + 1) l.length).find? (fun i => !p (l.getD (i - (b + 1)) 0)) := by
        apply find_congr
        intro i hi
        rw [List.mem_range'_1] at hi
        rw [show i - b = (i - (b + 1)) + 1 by omega, List.getD_cons_succ]
      rw [e, ih (b + 1)]
      by_cases h : led p l < l.length
      · rw [if_pos h, if_pos (by omega)]; congr 1; omega
      · rw [if_neg h, if_neg (by omega)]
theorem fidx_fst (l : List UInt8) (c : UInt8) : firstIdx (str l) c = fst (fun x => !(x == c)) l := by
  have h := find_fst (fun x => !(x == c)) l 0
  unfold firstIdx fst
  rw [str_size, List.range_eq_range']
  have e : (List.range' 0 l.length).find? (fun i => (str l)[i]! == c) = (List.range' 0 l.length).find? (fun i => !(!(l.getD (i - 0) 0 == c))) := by
    apply find_congr
    intro i hi
    rw [List.mem_range'_1] at hi
    have hi' : i < (str l).size := by rw [str_size]; omega
    have := str_at l i hi'
    rw [getElem!_pos (str l) i hi', Nat.sub_zero, List.getD_eq_getElem?_getD, this]
    simp
  rw [Nat.zero_add] at h
  rw [e]
  exact h

/-- What a digit of sixteen is worth; -1: it is none. -/
def hv (c : UInt8) : Int := if 48 ≤ c.toNat ∧ c.toNat ≤ 57 then (c.toNat : Int) - 48 else if 65 ≤ c.toNat ∧ c.toNat ≤ 70 then (c.toNat : Int) - 55 else -1
def hok (c : UInt8) : Bool := decide (0 ≤ hv c)
/-- The digit of a number. -/
def hd (n : Nat) : UInt8 := if n < 10 then UInt8.ofNat (48 + n) else UInt8.ofNat (55 + n)
abbrev dgs : ByteArray := ⟨#[48, 49, 50, 51, 52, 53, 54, 55, 56, 57, 65, 66, 67, 68, 69, 70]⟩
theorem byte_cases {p : UInt8 → Prop} (h : ∀ n, n < 256 → p (UInt8.ofNat n)) (c : UInt8) : p c := by
  have := h c.toNat c.toNat_lt
  rwa [UInt8.ofNat_toNat] at this
theorem fidx_digits (c : UInt8) : firstIdx dgs c = hv c := byte_cases (p := fun c => firstIdx dgs c = hv c) (by decide +kernel) c
theorem hv_range (c : UInt8) : -1 ≤ hv c ∧ hv c ≤ 15 := byte_cases (p := fun c => -1 ≤ hv c ∧ hv c ≤ 15) (by decide +kernel) c
theorem hd_hv (c : UInt8) (h : hok c = true) : hd (hv c).toNat = c := byte_cases (p := fun c => hok c = true → hd (hv c).toNat = c) (by decide +kernel) c h
theorem hv_hd (n : Nat) (h : n < 16) : hv (hd n) = n := by
  have : ∀ n, n < 16 → hv (hd n) = n := by decide +kernel
  exact this n h
theorem hok_hd (n : Nat) (h : n < 16) : hok (hd n) = true := by simp [hok, hv_hd n h]
theorem dgs_at (n : Nat) (h : n < 16) (hs : n < dgs.size) : dgs[n] = hd n := by
  have : ∀ n : Fin 16, dgs[n.val]'(by have := n.isLt; exact this) = hd n.val := by decide +kernel
  exact this ⟨n, h⟩
theorem hok_35 : hok 35 = false := by decide +kernel
theorem hok_82 : hok 82 = false := by decide +kernel

/-- What digits are worth. -/
def hval (l : List UInt8) : Nat := l.foldl (fun a c => 16 * a + (hv c).toNat) 0
theorem hval_snoc (l : List UInt8) (c : UInt8) : hval (l ++ [c]) = 16 * hval l + (hv c).toNat := by simp [hval]
theorem hval_step (l : List UInt8) (k : Nat) (c : UInt8) (h : l[k]? = some c) : hval (l.take (k + 1)) = 16 * hval (l.take k) + (hv c).toNat := by
  rw [List.take_add_one, h]; exact hval_snoc _ _
theorem hval_lt_rev : ∀ l : List UInt8, hval l.reverse < 16 ^ l.length := by
  intro l
  induction l with
  | nil => simp [hval]
  | cons c l ih =>
    have h2 := hv_range c
    rw [List.reverse_cons, hval_snoc, List.length_cons, Nat.pow_succ]
    omega
theorem hval_lt (l : List UInt8) : hval l < 16 ^ l.length := by
  have := hval_lt_rev l.reverse
  simpa using this
theorem hval_take_lt (l : List UInt8) (k n : Nat) (hk : k ≤ n) : hval (l.take k) < 16 ^ n := by
  refine Nat.lt_of_lt_of_le (hval_lt _) (Nat.pow_le_pow_right (by omega) ?_)
  rw [List.length_take]; omega

/-- The digits of a number, so many of them. -/
def hx : Nat → Nat → List UInt8
  | 0, _ => []
  | w + 1, n => hx w (n / 16) ++ [hd (n % 16)]
theorem hx_len : ∀ w n, (hx w n).length = w := by
  intro w
  induction w with
  | zero => intro n; rfl
  | succ w ih => intro n; simp [hx, ih]
theorem hx_hok : ∀ w n, ∀ c ∈ hx w n, hok c = true := by
  intro w
  induction w with
  | zero => intro n c h; cases h
  | succ w ih =>
    intro n c h
    simp only [hx, List.mem_append, List.mem_singleton] at h
    rcases h with h | rfl
    · exact ih _ c h
    · exact hok_hd _ (Nat.mod_lt _ (by omega))
theorem hval_hx : ∀ w n, n < 16 ^ w → hval (hx w n) = n := by
  intro w
  induction w with
  | zero => intro n h; simp at h; subst h; rfl
  | succ w ih =>
    intro n h
    rw [hx, hval_snoc, ih _ (by rw [Nat.pow_succ] at h; omega), hv_hd _ (Nat.mod_lt _ (by omega))]
    simp; omega
theorem hx_hval_rev : ∀ l : List UInt8, (∀ c ∈ l, hok c = true) → hx l.length (hval l.reverse) = l.reverse := by
  intro l
  induction l with
  | nil => intro _; rfl
  | cons c l ih =>
    intro h
    have h1 := ih (fun y hy => h y (by simp [hy]))
    have h2 := hv_range c
    have h3 := h c (by simp)
    have h4 : 0 ≤ hv c := by simpa [hok] using h3
    rw [List.reverse_cons, hval_snoc, List.length_cons, hx]
    have e1 : (16 * hval l.reverse + (hv c).toNat) / 16 = hval l.reverse := by omega
    have e2 : (16 * hval l.reverse + (hv c).toNat) % 16 = (hv c).toNat := by omega
    rw [e1, e2, h1, hd_hv c h3]
theorem hx_hval (l : List UInt8) (h : ∀ c ∈ l, hok c = true) : hx l.length (hval l) = l := by
  have := hx_hval_rev l.reverse (fun z hz => h z (by simpa using hz))
  simpa using this
end Go.Proofs.Ytjjfkakjkkpgaaa
