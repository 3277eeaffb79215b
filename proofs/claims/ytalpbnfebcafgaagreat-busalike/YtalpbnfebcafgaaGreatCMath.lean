/- Plain mathematics of layer 2: the sum of levels (CRC-15), that it is linear, that nothing of it is lost, and what turned levels make of it. -/
import Derived.Test.YtalpbnfebcafgaaGreatM
namespace Go.Proofs.YtalpbnfebcafgaaGreat
set_option maxRecDepth 20000

/-- The sum behind a sum. -/
def stp (s : Nat) (z : Int) : Nat := 2 * s % 32768 ^^^ (if ((s / 16384 : Nat) : Int) = z then 0 else 17817)
/-- The sum behind a sum and a row. -/
def run (s : Nat) (zs : List Int) : Nat := zs.foldl stp s
/-- The sum of levels. -/
def csum (zs : List Int) : Nat := run 0 zs
/-- One level xor another. -/
def xr (z y : Int) : Int := if z = y then 0 else 1

theorem stp_lt (s : Nat) (z : Int) : stp s z < 32768 := by
  unfold stp
  refine Nat.xor_lt_two_pow (n := 15) (Nat.mod_lt _ (by omega)) ?_
  split <;> omega
theorem run_nil (s : Nat) : run s [] = s := rfl
theorem run_cons (s : Nat) (z : Int) (zs : List Int) : run s (z :: zs) = run (stp s z) zs := rfl
theorem run_append (s : Nat) (xs ys : List Int) : run s (xs ++ ys) = run (run s xs) ys := by simp [run]
theorem run_snoc (s : Nat) (xs : List Int) (z : Int) : run s (xs ++ [z]) = stp (run s xs) z := by simp [run]
theorem run_lt : ∀ (zs : List Int) (s : Nat), s < 32768 → run s zs < 32768 := by
  intro zs
  induction zs with
  | nil => intro s h; exact h
  | cons z zs ih => intro s _; exact ih _ (stp_lt s z)
theorem csum_lt (zs : List Int) : csum zs < 32768 := run_lt zs 0 (by omega)
theorem csum_step (zs : List Int) (k : Nat) (z : Int) (h : zs[k]? = some z) : csum (zs.take (k + 1)) = stp (csum (zs.take k)) z := by
  rw [List.take_add_one, h]; exact run_snoc _ _ _

theorem xor_eq {s t : Nat} (h : s ^^^ t = 0) : s = t := by
  have e := congrArg (· ^^^ t) h
  simpa [Nat.xor_assoc] using e
theorem dbl_xor (s t : Nat) : 2 * (s ^^^ t) % 32768 = (2 * s % 32768) ^^^ (2 * t % 32768) := by
  have e : 2 * (s ^^^ t) = 2 * s ^^^ 2 * t := by
    apply Nat.eq_of_testBit_eq
    intro i
    cases i with
    | zero => simp
    | succ i =>
      rw [Nat.testBit_xor, Nat.testBit_succ, Nat.testBit_succ, Nat.testBit_succ, Nat.mul_div_cancel_left _ (by omega), Nat.mul_div_cancel_left _ (by omega), Nat.mul_div_cancel_left _ (by omega), Nat.testBit_xor]
  rw [e]
  exact Nat.xor_mod_two_pow (n := 15)
theorem top_xor (s t : Nat) : (s ^^^ t) / 16384 = s / 16384 ^^^ t / 16384 := Nat.xor_div_two_pow (n := 14)
theorem stp_xor {s t : Nat} {z y : Int} (hs : s < 32768) (ht : t < 32768) (hz : z = 0 ∨ z = 1) (hy : y = 0 ∨ y = 1) : stp s z ^^^ stp t y = stp (s ^^^ t) (xr z y) := by
  unfold stp xr
  rw [dbl_xor, top_xor]
  generalize 2 * s % 32768 = a
  generalize 2 * t % 32768 = b
  have h1 : s / 16384 = 0 ∨ s / 16384 = 1 := by omega
  have h2 : t / 16384 = 0 ∨ t / 16384 = 1 := by omega
  have c1 : a ^^^ 17817 ^^^ b = a ^^^ b ^^^ 17817 := by rw [Nat.xor_assoc, Nat.xor_comm 17817 b, Nat.xor_assoc]
  have c2 : a ^^^ (b ^^^ 17817) = a ^^^ b ^^^ 17817 := by rw [Nat.xor_assoc]
  have c3 : a ^^^ 17817 ^^^ (b ^^^ 17817) = a ^^^ b := by rw [← Nat.xor_assoc, c1, Nat.xor_assoc, Nat.xor_self, Nat.xor_zero]
  rcases h1 with h1 | h1 <;> rcases h2 with h2 | h2 <;> rcases hz with rfl | rfl <;> rcases hy with rfl | rfl <;> simp [h1, h2, c1, c2, c3]
theorem run_xor : ∀ (xs ys : List Int) (s t : Nat), s < 32768 → t < 32768 → xs.length = ys.length → (∀ z ∈ xs, lvl z = true) → (∀ z ∈ ys, lvl z = true) →
    run s xs ^^^ run t ys = run (s ^^^ t) (List.zipWith xr xs ys) := by
  intro xs
  induction xs with
  | nil =>
    intro ys s t _ _ hl _ _
    cases ys with
    | nil => rfl
    | cons y ys => simp at hl
  | cons x xs ih =>
    intro ys s t hs ht hl hx hy
    cases ys with
    | nil => simp at hl
    | cons y ys =>
      rw [run_cons, run_cons, List.zipWith_cons_cons, run_cons, ← stp_xor hs ht (lvl_01 (hx x (by simp))) (lvl_01 (hy y (by simp)))]
      exact ih ys _ _ (stp_lt _ _) (stp_lt _ _) (by simpa using hl) (fun z hz => hx z (by simp [hz])) (fun z hz => hy z (by simp [hz]))

theorem stp_inj {s t : Nat} {z : Int} (hs : s < 32768) (ht : t < 32768) (hz : z = 0 ∨ z = 1) (h : stp s z = stp t z) : s = t := by
  have h0 : stp (s ^^^ t) 0 = 0 := by
    have e := stp_xor hs ht hz hz
    rw [h, Nat.xor_self] at e
    rw [show xr z z = 0 from by simp [xr]] at e
    exact e.symm
  have hu : s ^^^ t < 32768 := Nat.xor_lt_two_pow (n := 15) hs ht
  have hz0 : s ^^^ t = 0 := by
    generalize s ^^^ t = u at *
    unfold stp at h0
    have h2 : 2 * u % 32768 % 2 = 0 := by omega
    by_cases hc : ((u / 16384 : Nat) : Int) = 0
    · rw [if_pos hc, Nat.xor_zero] at h0; omega
    · rw [if_neg hc] at h0
      have h3 := xor_eq h0
      omega
  exact xor_eq hz0
theorem run_inj : ∀ (zs : List Int) (s t : Nat), s < 32768 → t < 32768 → (∀ z ∈ zs, lvl z = true) → run s zs = run t zs → s = t := by
  intro zs
  induction zs with
  | nil => intro s t _ _ _ h; exact h
  | cons z zs ih =>
    intro s t hs ht hl h
    exact stp_inj hs ht (lvl_01 (hl z (by simp))) (ih _ _ (stp_lt _ _) (stp_lt _ _) (fun y hy => hl y (by simp [hy])) h)

/-- A sum goes out by its own bits: each one that is pushed out is the level. -/
theorem run_own : ∀ (k s : Nat), s < 32768 → k ≤ 15 → run s (ofB (s / 2 ^ (15 - k)) k) = s * 2 ^ k % 32768 := by
  intro k
  induction k with
  | zero => intro s h _; simp [ofB, run]; omega
  | succ k ih =>
    intro s h hk
    have hh : stp s (bit (s / 2 ^ (15 - (k + 1))) k) = 2 * s % 32768 := by
      unfold stp bit
      rw [if_pos, Nat.xor_zero]
      rw [Nat.div_div_eq_div_mul, ← Nat.pow_add, show 15 - (k + 1) + k = 14 by omega, show (2 : Nat) ^ 14 = 16384 by decide]
      omega
    rw [ofB_cons, run_cons, hh]
    have e : ofB (s / 2 ^ (15 - (k + 1))) k = ofB (2 * s % 32768 / 2 ^ (15 - k)) k := by
      apply List.map_congr_left
      intro j hj
      have hj := List.mem_range.1 hj
      have hx : 2 ^ (15 - (k + 1)) * 2 = 2 ^ (15 - k) := by rw [show 15 - k = 15 - (k + 1) + 1 by omega, Nat.pow_succ]
      have e1 : 2 * s % 32768 = 2 * (s % 16384) := by omega
      have e2 : 2 * (s % 16384) / 2 ^ (15 - k) = s % 16384 / 2 ^ (15 - (k + 1)) := by rw [← hx, Nat.mul_comm 2, Nat.mul_div_mul_right _ _ (by omega)]
      rw [e1, e2]
      unfold bit
      rw [Nat.div_div_eq_div_mul, Nat.div_div_eq_div_mul, ← Nat.pow_add]
      congr 1
      have e3 : (s % 16384) / 2 ^ (15 - (k + 1) + (k - 1 - j)) % 2 = s / 2 ^ (15 - (k + 1) + (k - 1 - j)) % 2 := by
        generalize hm : 15 - (k + 1) + (k - 1 - j) = m
        have hm' : m < 14 := by omega
        have a1 := Nat.testBit_mod_two_pow s 14 m
        simp only [hm', decide_true, Bool.true_and] at a1
        rw [Nat.testBit_eq_decide_div_mod_eq, Nat.testBit_eq_decide_div_mod_eq] at a1
        have a2 : (s % 2 ^ 14 / 2 ^ m % 2 = 1) ↔ (s / 2 ^ m % 2 = 1) := by
          constructor
          · intro h; exact of_decide_eq_true (by rw [← a1]; exact decide_eq_true h)
          · intro h; exact of_decide_eq_true (by rw [a1]; exact decide_eq_true h)
        rw [show (16384 : Nat) = 2 ^ 14 by decide]
        omega
      rw [e3]
    rw [e, ih _ (by omega) (by omega), Nat.pow_succ]
    rw [Nat.mod_mul_mod, Nat.mul_comm 2 s, Nat.mul_assoc, Nat.mul_comm 2]

theorem run_self {s : Nat} (h : s < 32768) : run s (ofB s 15) = 0 := by
  have e := run_own 15 s h (Nat.le_refl _)
  rw [show 15 - 15 = 0 from rfl, Nat.pow_zero, Nat.div_one] at e
  rw [e]; omega
theorem run_zero {s t : Nat} (hs : s < 32768) (ht : t < 32768) : run s (ofB t 15) = 0 ↔ s = t := by
  constructor
  · intro h; exact run_inj (ofB t 15) s t hs ht (ofB_all t 15) (by rw [h, run_self ht])
  · rintro rfl; exact run_self hs
theorem csum_own (zs : List Int) {n : Nat} (hn : n < 32768) : csum (zs ++ ofB n 15) = 0 ↔ n = csum zs := by
  unfold csum
  rw [run_append, show run 0 zs = csum zs from rfl, run_zero (csum_lt zs) hn]
  exact eq_comm
theorem ofB_inj {a b : Nat} (ha : a < 32768) (hb : b < 32768) (h : ofB a 15 = ofB b 15) : a = b := by
  have e := congrArg val h
  rw [val_ofB, val_ofB] at e
  omega
theorem run_nought : ∀ k : Nat, run 0 (List.replicate k 0) = 0 := by
  intro k
  induction k with
  | zero => rfl
  | succ k ih => rw [List.replicate_succ, run_cons]; exact ih
theorem csum_nought (k : Nat) (zs : List Int) : csum (List.replicate k 0 ++ zs) = csum zs := by
  unfold csum
  rw [run_append, run_nought]
theorem all_append {xs ys : List Int} (hx : ∀ z ∈ xs, lvl z = true) (hy : ∀ z ∈ ys, lvl z = true) : ∀ z ∈ xs ++ ys, lvl z = true := by
  intro z hz
  rcases List.mem_append.1 hz with h | h
  · exact hx z h
  · exact hy z h
theorem all_nought (k : Nat) : ∀ z ∈ List.replicate k (0 : Int), lvl z = true := by
  intro z hz
  rw [(List.mem_replicate.1 hz).2]; rfl
theorem xr_lvl (z y : Int) : lvl (xr z y) = true := by unfold xr; split <;> rfl
theorem xrs_lvl : ∀ (xs ys : List Int), ∀ z ∈ List.zipWith xr xs ys, lvl z = true := by
  intro xs
  induction xs with
  | nil => intro ys z hz; simp at hz
  | cons x xs ih =>
    intro ys z hz
    cases ys with
    | nil => simp at hz
    | cons y ys =>
      rw [List.zipWith_cons_cons] at hz
      cases hz with
      | head => exact xr_lvl _ _
      | tail _ hz => exact ih ys z hz
theorem xrs_zero : ∀ (xs ys : List Int), xs.length = ys.length → (∀ z ∈ List.zipWith xr xs ys, z = 0) → xs = ys := by
  intro xs
  induction xs with
  | nil => intro ys hl _; exact (List.eq_nil_of_length_eq_zero hl.symm).symm
  | cons x xs ih =>
    intro ys hl h
    cases ys with
    | nil => simp at hl
    | cons y ys =>
      rw [List.zipWith_cons_cons] at h
      have h1 := h (xr x y) (by simp)
      have e : x = y := by
        unfold xr at h1
        by_cases hc : x = y
        · exact hc
        · rw [if_neg hc] at h1; cases h1
      rw [e, ih ys (by simpa using hl) (fun z hz => h z (by simp [hz]))]
theorem ofB_nought (k : Nat) : ofB 0 k = List.replicate k 0 := by
  apply List.ext_getElem
  · simp [ofB]
  · intro j h1 h2; simp [ofB, bit]
/-- Up to 15 levels that make nothing of nothing are noughts. -/
theorem run_short {ds : List Int} (hd : ∀ z ∈ ds, lvl z = true) (hl : ds.length ≤ 15) (h : run 0 ds = 0) : ∀ z ∈ ds, z = 0 := by
  have h2 : run 0 (List.replicate (15 - ds.length) 0 ++ ds) = 0 := by rw [run_append, run_nought, h]
  have ha := all_append (all_nought (15 - ds.length)) hd
  have hlen : (List.replicate (15 - ds.length) 0 ++ ds).length = 15 := by simp; omega
  have e := ofB_val ha
  have hv := val_lt _ ha
  rw [hlen] at e hv
  rw [← e] at h2
  have hz := (run_zero (by omega) hv).1 h2
  rw [← hz, ofB_nought] at e
  intro z hz'
  have : z ∈ List.replicate 15 (0 : Int) := by rw [e]; exact List.mem_append_right _ hz'
  exact (List.mem_replicate.1 this).2
theorem run_burst {s : Nat} {xs ys : List Int} (hs : s < 32768) (hl : xs.length = ys.length) (h15 : xs.length ≤ 15) (hx : ∀ z ∈ xs, lvl z = true) (hy : ∀ z ∈ ys, lvl z = true)
    (h : run s xs = run s ys) : xs = ys := by
  have e := run_xor xs ys s s hs hs hl hx hy
  rw [h, Nat.xor_self, Nat.xor_self] at e
  exact xrs_zero xs ys hl (run_short (xrs_lvl xs ys) (by rw [List.length_zipWith]; omega) e.symm)
theorem all_take {zs : List Int} (h : ∀ z ∈ zs, lvl z = true) (k : Nat) : ∀ z ∈ zs.take k, lvl z = true := fun z hz => h z (List.mem_of_mem_take hz)
theorem all_drop {zs : List Int} (h : ∀ z ∈ zs, lvl z = true) (k : Nat) : ∀ z ∈ zs.drop k, lvl z = true := fun z hz => h z (List.mem_of_mem_drop hz)
/-- Two rows that differ within 15 levels side by side have two sums. -/
theorem csum_burst {xs ys : List Int} {p : Nat} (hl : xs.length = ys.length) (hx : ∀ z ∈ xs, lvl z = true) (hy : ∀ z ∈ ys, lvl z = true)
    (h1 : xs.take p = ys.take p) (h2 : xs.drop (p + 15) = ys.drop (p + 15)) (h : csum xs = csum ys) : xs = ys := by
  have cut : ∀ zs : List Int, zs = zs.take p ++ ((zs.drop p).take 15 ++ zs.drop (p + 15)) := by
    intro zs
    rw [← List.drop_drop, List.take_append_drop, List.take_append_drop]
  have hx' := cut xs
  have hy' := cut ys
  unfold csum at h
  rw [hx', hy', run_append, run_append, run_append, run_append, h1, h2] at h
  have hq := run_lt (ys.take p) 0 (by omega)
  have e1 := run_inj _ _ _ (run_lt _ _ hq) (run_lt _ _ hq) (all_drop hy (p + 15)) h
  have e2 := run_burst hq (by simp only [List.length_take, List.length_drop]; omega) (by simp only [List.length_take]; omega) (all_take (all_drop hx p) 15) (all_take (all_drop hy p) 15) e1
  rw [hx', hy', h1, h2, e2]

/-- Whether levels, with their sum behind them, are right. -/
def rgt (zs : List Int) : Bool := decide (15 ≤ zs.length) && (chk zs < 0 && zs.drop (zs.length - 15) == ofB (csum (zs.take (zs.length - 15))) 15)
theorem rgt_own (zs : List Int) (hz : ∀ z ∈ zs, lvl z = true) {n : Nat} (hn : n < 32768) : rgt (zs ++ ofB n 15) = (n == csum zs) := by
  have ha := all_append hz (ofB_all n 15)
  have hl : (zs ++ ofB n 15).length = zs.length + 15 := by rw [List.length_append, ofB_len]
  unfold rgt
  rw [chk, fst_of_all lvl _ ha, hl, Nat.add_sub_cancel, List.drop_left, List.take_left, decide_eq_true (by omega : 15 ≤ zs.length + 15)]
  simp only [Bool.true_and]
  by_cases h : n = csum zs
  · rw [← h]; simp
  · have h1 : (ofB n 15 == ofB (csum zs) 15) = false := by
      rw [beq_eq_false_iff_ne]; exact fun e => h (ofB_inj hn (csum_lt zs) e)
    rw [h1]; simp [h]
theorem rgt_sum (zs : List Int) (hz : ∀ z ∈ zs, lvl z = true) (hl : 15 ≤ zs.length) : rgt zs = (csum zs == 0) := by
  have hf := all_take hz (zs.length - 15)
  have hb := all_drop hz (zs.length - 15)
  have hbl : (zs.drop (zs.length - 15)).length = 15 := by rw [List.length_drop]; omega
  have e := ofB_val hb
  have hv := val_lt _ hb
  rw [hbl] at e hv
  have ez : zs = zs.take (zs.length - 15) ++ ofB (val (zs.drop (zs.length - 15))) 15 := by rw [e, List.take_append_drop]
  have h1 := rgt_own _ hf hv
  have h2 := csum_own (zs.take (zs.length - 15)) hv
  rw [← ez] at h1 h2
  rw [h1]
  by_cases h : csum zs = 0
  · rw [h2.1 h]; simp [h]
  · have : ¬ val (zs.drop (zs.length - 15)) = csum (zs.take (zs.length - 15)) := fun e => h (h2.2 e)
    rw [beq_eq_false_iff_ne.2 this, beq_eq_false_iff_ne.2 h]
theorem rgt_bad {zs : List Int} (h : 0 ≤ chk zs) : rgt zs = false := by
  unfold rgt
  have : decide (chk zs < 0) = false := by simp; omega
  simp [this]
theorem rgt_short {zs : List Int} (h : zs.length < 15) : rgt zs = false := by
  unfold rgt
  simp [show ¬ 15 ≤ zs.length by omega]

/-! The reference: 15 bits of a sum, behind a level. -/
def poly : List Int := [1, 0, 0, 0, 1, 0, 1, 1, 0, 0, 1, 1, 0, 0, 1]
theorem bit_test (n i : Nat) : bit n i = ((n.testBit i).toNat : Int) := by
  unfold bit
  rw [Nat.testBit_eq_decide_div_mod_eq]
  have := Nat.mod_lt (n / 2 ^ i) (show 2 > 0 by omega)
  rcases (show n / 2 ^ i % 2 = 0 ∨ n / 2 ^ i % 2 = 1 by omega) with h | h <;> rw [h] <;> rfl
theorem bit_xor (a b i : Nat) : bit (a ^^^ b) i = (bit a i + bit b i) % 2 := by
  rw [bit_test, bit_test, bit_test, Nat.testBit_xor]
  cases a.testBit i <;> cases b.testBit i <;> rfl
theorem bit_dbl (s i : Nat) (hi : i < 14) : bit (2 * s % 32768) (i + 1) = bit s i := by
  rw [bit_test, bit_test]
  have e := Nat.testBit_mod_two_pow (2 * s) 15 (i + 1)
  rw [show (2 : Nat) ^ 15 = 32768 by decide] at e
  rw [e, Nat.testBit_succ, Nat.mul_div_cancel_left _ (by omega)]
  simp [show i + 1 < 15 by omega]
theorem bit_dbl0 (s : Nat) : bit (2 * s % 32768) 0 = 0 := by unfold bit; omega
theorem bit_poly : ∀ k : Nat, k < 15 → bit 17817 (14 - k) = poly.getD k 0 := by decide
/-- What the reference reckons of one bit. -/
theorem bit_stp {s k : Nat} {z : Int} (hs : s < 32768) (hz : z = 0 ∨ z = 1) (hk : k < 15) :
    bit (stp s z) (14 - k) = ((if k < 14 then bit s (13 - k) else 0) + (bit s 14 + z) % 2 * poly.getD k 0) % 2 := by
  have h14 : bit s 14 = ((s / 16384 : Nat) : Int) := by unfold bit; rw [show (2 : Nat) ^ 14 = 16384 by decide]; omega
  have hd : bit (2 * s % 32768) (14 - k) = if k < 14 then bit s (13 - k) else 0 := by
    by_cases h : k < 14
    · rw [if_pos h, show 14 - k = (13 - k) + 1 by omega]; exact bit_dbl s _ (by omega)
    · rw [if_neg h, show 14 - k = 0 by omega]; exact bit_dbl0 s
  unfold stp
  rw [bit_xor, hd, h14]
  by_cases hc : ((s / 16384 : Nat) : Int) = z
  · rw [if_pos hc, show ((s / 16384 : Nat) : Int) + z = 2 * z by omega, show bit 0 (14 - k) = 0 by simp [bit]]
    simp
  · rw [if_neg hc, bit_poly k hk, show ((s / 16384 : Nat) : Int) + z = 1 by omega]
    simp
end Go.Proofs.YtalpbnfebcafgaaGreat
