/- Plain mathematics: the header of beginnings, and of rows with levels turned behind it. -/
import Derived.Test.YtalpbnfebcafgaaGreatFz
namespace Go.Proofs.YtalpbnfebcafgaaGreat
set_option maxRecDepth 20000

theorem get_take {zs ys : List Int} {k j : Nat} (h : zs.take k = ys.take k) (hj : j < k) : zs[j]? = ys[j]? := by
  have := congrArg (fun l : List Int => l[j]?) h
  simpa [List.getElem?_take_of_lt hj] using this
theorem one_take {zs ys : List Int} {k j : Nat} (h : zs.take k = ys.take k) (hj : j < k) : one zs j = one ys j := by
  unfold one; rw [get_take h hj]
theorem hEx_take {zs ys : List Int} {k : Nat} (h : zs.take k = ys.take k) (hk : 13 < k) : hEx zs = hEx ys := one_take h hk
theorem cut_take {zs ys : List Int} {k a n : Nat} (h : zs.take k = ys.take k) (hk : a + n ≤ k) : cutL zs a n = cutL ys a n := by
  unfold cutL
  have := congrArg (List.take (a + n)) h
  rw [List.take_take, List.take_take, Nat.min_eq_left hk] at this
  rw [this]
theorem hEnd_13 (x : Bool) : 13 < hEnd x := by cases x <;> decide
theorem hRt_take {zs ys : List Int} {k : Nat} (h : zs.take k = ys.take k) (hk : hEnd (hEx zs) ≤ k) : hRt zs = hRt ys := by
  have hx := hEx_take h (Nat.lt_of_lt_of_le (hEnd_13 _) hk)
  unfold hRt
  rw [← hx]
  apply one_take h
  revert hk
  cases hEx zs <;> simp [hEnd] <;> omega
theorem hLn_take {zs ys : List Int} {k : Nat} (h : zs.take k = ys.take k) (hk : hEnd (hEx zs) ≤ k) (hz : k ≤ zs.length) (hy : k ≤ ys.length) : hLn zs = hLn ys := by
  have hx := hEx_take h (Nat.lt_of_lt_of_le (hEnd_13 _) hk)
  unfold hLn
  rw [← hx, if_pos (by omega), if_pos (by omega), cut_take h (by have := hEnd_13 (hEx zs); omega)]
theorem hDat_take {zs ys : List Int} {k : Nat} (h : zs.take k = ys.take k) (hk : hEnd (hEx zs) ≤ k) (hz : k ≤ zs.length) (hy : k ≤ ys.length) : hDat zs = hDat ys := by
  unfold hDat
  rw [hRt_take h hk, hLn_take h hk hz hy]
theorem ahead_take {zs ys : List Int} {k : Nat} (h : zs.take k = ys.take k) (hk : hEnd (hEx zs) ≤ k) (hz : k ≤ zs.length) (hy : k ≤ ys.length) : ahead zs = ahead ys := by
  unfold ahead
  rw [hEx_take h (Nat.lt_of_lt_of_le (hEnd_13 _) hk), hDat_take h hk hz hy]
/-- A beginning that ends ahead of the sum is too short. -/
theorem fout_short {zs : List Int} {k : Nat} (hk : k < ahead zs) (hz : k ≤ zs.length) : fout (zs.take k) = .tuple #[Fr.zero.val, .int .i64 13] := by
  unfold fout
  have hl : (zs.take k).length = k := by rw [List.length_take]; omega
  rw [hl]
  have e : (zs.take k).take k = zs.take k := by rw [List.take_take, Nat.min_self]
  rw [if_pos]
  rcases Nat.lt_or_ge k (hEnd (hEx (zs.take k))) with h | h
  · exact .inl h
  · rw [ahead_take e h (by omega) hz]
    exact .inr hk
/-- What Next tells of a beginning is told by the whole's fields. -/
theorem nout_take {zs : List Int} {k : Nat} (hz : k ≤ zs.length) : nout (hW (zs.take k)) k 0 = nout (hW zs) k 0 := by
  have hl : (zs.take k).length = k := by rw [List.length_take]; omega
  have e : (zs.take k).take k = zs.take k := by rw [List.take_take, Nat.min_self]
  rcases Nat.lt_or_ge k 14 with h | h
  · have hx : hEx (zs.take k) = false := one_far (by omega)
    unfold hW wds
    rw [hx]
    have ha : k < 1 ∨ (¬ k < 1 ∧ k - 1 < aW (hEx zs) ∧ k - 1 < aW false) := by
      have : 13 ≤ aW (hEx zs) := by cases hEx zs <;> decide
      have : aW false = 13 := rfl
      omega
    rcases ha with ha | ⟨h1, h2, h3⟩
    · rw [nx_hit _ _ ha, nx_hit _ _ ha]
    · rw [nx_miss _ _ h1, nx_miss _ _ h1, nx_hit _ _ h2, nx_hit _ _ h3]
  · have hx : hEx (zs.take k) = hEx zs := hEx_take e (by omega)
    rcases Nat.lt_or_ge k (hEnd (hEx (zs.take k))) with h2 | h2
    · unfold hW wds
      rw [hx] at h2 ⊢
      have h1 : ¬ k < 1 := by omega
      rw [nx_miss _ _ h1, nx_miss _ _ h1]
      rcases Nat.lt_or_ge (k - 1) (aW (hEx zs)) with h3 | h3
      · rw [nx_hit _ _ h3, nx_hit _ _ h3]
      · have := hEnd_eq (hEx zs)
        have h4 : ¬ k - 1 < aW (hEx zs) := by omega
        have h5 : k - 1 - aW (hEx zs) < cW (hEx zs) := by omega
        rw [nx_miss _ _ h4, nx_miss _ _ h4, nx_hit _ _ h5, nx_hit _ _ h5]
    · unfold hW
      rw [hx, hDat_take e h2 (by omega) hz]

/-- nout, by nx. -/
theorem nout_nx : ∀ (ws : List Nat) (n k : Nat), n ≤ sumW ws → nout ws n k = .tuple #[.int .i64 ((nx ws n k).1 : Int), .int .i64 ((nx ws n k).2 : Int), .int .i64 0] := by
  intro ws
  induction ws with
  | nil => intro n k h; simp [sumW] at h; subst h; rfl
  | cons w ws ih =>
    intro n k h
    simp only [sumW] at h
    unfold nout nx
    split
    · rfl
    · exact ih _ _ (by omega)
theorem nout_long : ∀ (ws : List Nat) (n k : Nat), sumW ws < n → nout ws n k = .tuple #[.int .i64 0, .int .i64 0, .int .i64 12] := by
  intro ws
  induction ws with
  | nil => intro n k h; simp [sumW] at h; simp [nout, h]
  | cons w ws ih =>
    intro n k h
    simp only [sumW] at h
    unfold nout
    rw [if_neg (by omega)]
    exact ih _ _ (by omega)
end Go.Proofs.YtalpbnfebcafgaaGreat
