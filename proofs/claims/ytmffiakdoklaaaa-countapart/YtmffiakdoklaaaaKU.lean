/- What turns TEC, and what turns REC, one behind the other: mathematics of the law CountApart. -/
import Derived.Test.YtmffiakdoklaaaaKT
namespace Go.Proofs.Ytmffiakdoklaaaa
open Go.RowKit

/-- Counts behind k sends, wrong or not. -/
def Ct.ones (c : Ct) (b : Nat → Bool) : Nat → Ct
  | 0 => c
  | k + 1 => (c.ones b k).one (b k)
/-- Counts behind one that is received, wrong or not. -/
def Ct.rx1 (c : Ct) (p : Int × Int) : Ct := if p.1 = 1 then c.come 1 0 else c.come 3 p.2
def Ct.rxs (c : Ct) (f : Nat → Int × Int) : Nat → Ct
  | 0 => c
  | k + 1 => (c.rxs f k).rx1 (f k)

/-- TEC behind k sends. -/
def gT (b : Nat → Bool) (t : Int) : Nat → Int
  | 0 => t
  | k + 1 => if b k then gT b t k + 8 else max (gT b t k - 1) 0
theorem gT_succ (b : Nat → Bool) (t : Int) (k : Nat) : gT b t (k + 1) = if b k then gT b t k + 8 else max (gT b t k - 1) 0 := rfl
theorem gT_pos {b : Nat → Bool} {t : Int} (h : 0 ≤ t) : ∀ k, 0 ≤ gT b t k
  | 0 => h
  | k + 1 => by
    have := gT_pos (b := b) h k
    rw [gT_succ]
    split <;> omega
theorem one_not {c : Ct} (h : c.run = false) (b : Bool) : c.one b = c := by
  unfold Ct.one
  rw [snt_not h, txx_not h]
  simp
theorem ones_not {c : Ct} (h : c.run = false) (b : Nat → Bool) : ∀ k, c.ones b k = c
  | 0 => rfl
  | k + 1 => by
    show (c.ones b k).one (b k) = c
    rw [ones_not h b k, one_not h]
theorem rx1_not {c : Ct} (h : c.run = false) (p : Int × Int) : c.rx1 p = c := by
  unfold Ct.rx1
  rw [come_not h (by decide), come_not h (by decide)]
  simp
theorem rxs_not {c : Ct} (h : c.run = false) (f : Nat → Int × Int) : ∀ k, c.rxs f k = c
  | 0 => rfl
  | k + 1 => by
    show (c.rxs f k).rx1 (f k) = c
    rw [rxs_not h f k, rx1_not h]
theorem run_lit {t r : Int} (h0 : 0 ≤ t) (h1 : t ≤ 255) (h2 : 0 ≤ r) (h3 : r ≤ 255) : Ct.run ⟨t, r, false⟩ = true := run_iff.2 ⟨rfl, h0, h1, h2, h3⟩
theorem one_lit {t r : Int} (h0 : 0 ≤ t) (h1 : t ≤ 255) (h2 : 0 ≤ r) (h3 : r ≤ 255) (b : Bool) :
    Ct.one ⟨t, r, false⟩ b = if b then (if 255 < t + 8 then ⟨256, r, true⟩ else ⟨t + 8, r, false⟩) else ⟨max (t - 1) 0, r, false⟩ := by
  unfold Ct.one Ct.txx Ct.snt
  rw [run_lit h0 h1 h2 h3]
  rfl
/-- So far as none goes off. -/
theorem ones_lit {t r : Int} (b : Nat → Bool) (h0 : 0 ≤ t) (h2 : 0 ≤ r) (h3 : r ≤ 255) : ∀ k, (∀ j, j ≤ k → gT b t j ≤ 255) → Ct.ones ⟨t, r, false⟩ b k = ⟨gT b t k, r, false⟩
  | 0, _ => rfl
  | k + 1, h => by
    show (Ct.ones ⟨t, r, false⟩ b k).one (b k) = _
    rw [ones_lit b h0 h2 h3 k (fun j hj => h j (by omega)), one_lit (gT_pos h0 k) (h k (by omega)) h2 h3]
    have hk := h (k + 1) (Nat.le_refl _)
    rw [gT_succ] at hk ⊢
    cases hb : b k
    · rfl
    · rw [hb] at hk
      simp only [if_true] at hk ⊢
      rw [if_neg (by omega)]
/-- One that is not off behind k sends was not earlier. -/
theorem ones_on {t r : Int} (b : Nat → Bool) (h0 : 0 ≤ t) (h1 : t ≤ 255) (h2 : 0 ≤ r) (h3 : r ≤ 255) : ∀ k, (Ct.ones ⟨t, r, false⟩ b k).o = false → ∀ j, j ≤ k → gT b t j ≤ 255
  | 0, _, j, hj => by obtain rfl : j = 0 := by omega
                      exact h1
  | k + 1, h, j, hj => by
    have hk : (Ct.ones ⟨t, r, false⟩ b k).o = false := by
      cases ho : (Ct.ones ⟨t, r, false⟩ b k).o
      · rfl
      · have : Ct.ones ⟨t, r, false⟩ b (k + 1) = Ct.ones ⟨t, r, false⟩ b k := one_not (by unfold Ct.run; rw [ho]; simp) _
        rw [this, ho] at h
        cases h
    have ih := ones_on b h0 h1 h2 h3 k hk
    rcases Nat.lt_or_ge j (k + 1) with hlt | hge
    · exact ih j (by omega)
    · obtain rfl : j = k + 1 := by omega
      have he : Ct.ones ⟨t, r, false⟩ b (k + 1) = (Ct.ones ⟨t, r, false⟩ b k).one (b k) := rfl
      rw [he, ones_lit b h0 h2 h3 k ih, one_lit (gT_pos h0 k) (ih k (Nat.le_refl _)) h2 h3] at h
      have hp := gT_pos (b := b) h0 k
      have hq := ih k (Nat.le_refl _)
      rw [gT_succ]
      cases hb : b k
      · simp only [Bool.false_eq_true, if_false]; omega
      · rw [hb] at h
        simp only [if_true] at h ⊢
        by_cases hx : 255 < gT b t k + 8
        · rw [if_pos hx] at h; cases h
        · omega
/-- REC behind what is received. -/
def gR (f : Nat → Int × Int) (r : Int) : Nat → Int
  | 0 => r
  | k + 1 => if (f k).1 = 1 then (if 127 < gR f r k then 119 else max (gR f r k - 1) 0) else if (f k).2 = 1 ∨ (f k).2 = 8 then min (gR f r k + (f k).2) 255 else gR f r k
theorem gR_succ (f : Nat → Int × Int) (r : Int) (k : Nat) : gR f r (k + 1) = if (f k).1 = 1 then (if 127 < gR f r k then 119 else max (gR f r k - 1) 0) else if (f k).2 = 1 ∨ (f k).2 = 8 then min (gR f r k + (f k).2) 255 else gR f r k := rfl
theorem gR_in {f : Nat → Int × Int} {r : Int} (h2 : 0 ≤ r) (h3 : r ≤ 255) : ∀ k, 0 ≤ gR f r k ∧ gR f r k ≤ 255
  | 0 => ⟨h2, h3⟩
  | k + 1 => by
    have := gR_in (f := f) h2 h3 k
    rw [gR_succ]
    split
    · split <;> omega
    · split
      · rename_i h; rcases h with h | h <;> rw [h] <;> omega
      · exact this
theorem rxs_lit {t r : Int} (f : Nat → Int × Int) (h0 : 0 ≤ t) (h1 : t ≤ 255) (h2 : 0 ≤ r) (h3 : r ≤ 255) : ∀ k, Ct.rxs ⟨t, r, false⟩ f k = ⟨t, gR f r k, false⟩
  | 0 => rfl
  | k + 1 => by
    obtain ⟨g2, g3⟩ := gR_in (f := f) h2 h3 k
    show (Ct.rxs ⟨t, r, false⟩ f k).rx1 (f k) = _
    rw [rxs_lit f h0 h1 h2 h3 k]
    rw [gR_succ]
    unfold Ct.rx1
    by_cases h : (f k).1 = 1
    · rw [if_pos h, if_pos h]
      show Ct.rcv _ = _
      unfold Ct.rcv
      rw [run_lit h0 h1 g2 g3]
      rfl
    · rw [if_neg h, if_neg h]
      show Ct.rxx _ _ = _
      unfold Ct.rxx
      rw [run_lit h0 h1 g2 g3]
      by_cases hx : (f k).2 = 1 ∨ (f k).2 = 8
      · rw [if_pos hx]
        have : ((f k).2 == 1 || (f k).2 == 8) = true := by rcases hx with hx | hx <;> rw [hx] <;> rfl
        rw [this]
        rfl
      · rw [if_neg hx]
        have : ((f k).2 == 1 || (f k).2 == 8) = false := by simpa using hx
        rw [this]
        rfl
/-- In either order. -/
theorem apart_same (c : Ct) (b : Nat → Bool) (f : Nat → Int × Int) (n m : Nat) (h : (c.ones b n).o = c.o) : (c.ones b n).rxs f m = (c.rxs f m).ones b n := by
  cases hr : c.run
  · rw [ones_not hr, rxs_not hr, ones_not hr]
  · obtain ⟨ho, h0, h1, h2, h3⟩ := run_iff.1 hr
    obtain ⟨t, r, o⟩ := c
    simp only at ho h0 h1 h2 h3
    subst ho
    have hg := ones_on b h0 h1 h2 h3 n h
    obtain ⟨g2, g3⟩ := gR_in (f := f) h2 h3 m
    rw [ones_lit b h0 h2 h3 n hg, rxs_lit f h0 h1 h2 h3 m, ones_lit b h0 g2 g3 n hg, rxs_lit f (gT_pos h0 n) (hg n (Nat.le_refl _)) h2 h3 m]
/-- One that went off. -/
theorem apart_off (c : Ct) (b : Nat → Bool) (n : Nat) (h : (c.ones b n).o ≠ c.o) : c.o = false ∧ (c.ones b n).o = true := by
  cases hr : c.run
  · rw [ones_not hr] at h
    exact absurd rfl h
  · obtain ⟨ho, -⟩ := run_iff.1 hr
    rw [ho] at h
    exact ⟨ho, by simpa using h⟩
end Go.Proofs.Ytmffiakdoklaaaa
