/- Plain mathematics for the reference's Decode of layer 6. -/
import Derived.Test.YtffhhegpkejdgaaX610
import Derived.Test.YtffhhegpkejdgaaX614
namespace Go.Proofs.Ytffhhegpkejdgaa
open Go.RowKit

theorem rkd {o : List Int} (h : o.length ≤ sumW (hW o)) : ∃ m : Nat, rnx (decide ((rW o).length = 1)) (rW o) o.length 0 = .tuple #[.int .i64 (kd o : Nat), .int .i64 (m : Nat)] := by
  have e := nout_nx (hW o) o.length 0 h
  rcases rn_link o with ⟨j, m, hj, h1, h2⟩ | ⟨h1, h2⟩
  · rw [e] at h1
    have := (tup3 h1).1
    injection this with _ this
    refine ⟨m, ?_⟩
    rw [h2]
    unfold kd
    rw [this]
  · rw [e] at h1
    have := (tup3 h1).2.2
    injection this with _ this
    omega
theorem ahead_sum (o : List Int) : 1 + aW (hEx o) + cW (hEx o) + hDat o = ahead o := by
  unfold ahead; have := hEnd_eq (hEx o); omega
/-- Where levels end, and the field that comes next. -/
theorem kd_form {o : List Int} (h : o.length ≤ sumW (hW o)) : (o.length < ahead o + 15 ∧ kd o ≤ 4) ∨ ∃ j, j ≤ 10 ∧ o.length = ahead o + 15 + j ∧ kd o = tl j := by
  have hs := sumW_hW o
  have ha := ahead_sum o
  rcases Nat.lt_or_ge o.length (ahead o + 15) with h1 | h1
  · refine .inl ⟨h1, ?_⟩
    unfold kd hW
    exact nx_lo _ _ _ _ (by omega)
  · refine .inr ⟨o.length - (ahead o + 15), by omega, by omega, ?_⟩
    have e := nx_hi (aW (hEx o)) (cW (hEx o)) (hDat o) (o.length - (ahead o + 15)) (by omega)
    unfold kd hW
    rw [← e]
    congr 2
    omega
theorem tl_five {j : Nat} (h : tl j = 5) : j = 0 := by
  unfold tl at h
  split at h
  · omega
  · split at h <;> omega
theorem tl_low (j : Nat) : 5 ≤ tl j := by
  unfold tl
  split
  · omega
  · split <;> omega
theorem kd_five {o : List Int} (h : kd o = 5) : o.length = ahead o + 15 := by
  have h1 := kd_lt (show kd o < 9 by omega)
  rcases kd_form (Nat.le_of_lt h1) with ⟨_, h2⟩ | ⟨j, _, h2, h3⟩
  · omega
  · rw [h] at h3
    have := tl_five h3.symm
    omega
theorem kd_step {o : List Int} {z : Int} (h : kd o < 9) : (kd o ≤ 4 → kd (o ++ [z]) ≤ 5) ∧ (5 ≤ kd o → 6 ≤ kd (o ++ [z])) := by
  have h1 := kd_next (z := z) h
  have e := kd_take (zs := o ++ [z]) (k := o.length) (by simp) (by omega)
  rw [List.take_append_of_le_length (Nat.le_refl _), List.take_length] at e
  have e2 : kd (o ++ [z]) = (nx (hW (o ++ [z])) (o.length + 1) 0).1 := by unfold kd; rw [List.length_append, List.length_singleton]
  have hs := sumW_hW (o ++ [z])
  have ha := ahead_sum (o ++ [z])
  rw [e, e2]
  unfold hW
  rcases Nat.lt_or_ge o.length (ahead (o ++ [z]) + 15) with h2 | h2
  · have h3 := nx_lo (aW (hEx (o ++ [z]))) (cW (hEx (o ++ [z]))) (hDat (o ++ [z])) o.length (by omega)
    refine ⟨fun _ => ?_, fun h5 => by omega⟩
    rcases Nat.lt_or_ge (o.length + 1) (ahead (o ++ [z]) + 15) with h4 | h4
    · have := nx_lo (aW (hEx (o ++ [z]))) (cW (hEx (o ++ [z]))) (hDat (o ++ [z])) (o.length + 1) (by omega); omega
    · have := nx_hi (aW (hEx (o ++ [z]))) (cW (hEx (o ++ [z]))) (hDat (o ++ [z])) 0 (by omega)
      rw [show 1 + aW (hEx (o ++ [z])) + cW (hEx (o ++ [z])) + hDat (o ++ [z]) + 15 + 0 = o.length + 1 by omega] at this
      rw [this]; decide
  · obtain ⟨j, hj⟩ : ∃ j, o.length = ahead (o ++ [z]) + 15 + j := ⟨o.length - (ahead (o ++ [z]) + 15), by omega⟩
    have h3 := nx_hi (aW (hEx (o ++ [z]))) (cW (hEx (o ++ [z]))) (hDat (o ++ [z])) j (by omega)
    have h4 := nx_hi (aW (hEx (o ++ [z]))) (cW (hEx (o ++ [z]))) (hDat (o ++ [z])) (j + 1) (by omega)
    rw [show 1 + aW (hEx (o ++ [z])) + cW (hEx (o ++ [z])) + hDat (o ++ [z]) + 15 + j = o.length by omega] at h3
    rw [show 1 + aW (hEx (o ++ [z])) + cW (hEx (o ++ [z])) + hDat (o ++ [z]) + 15 + (j + 1) = o.length + 1 by omega] at h4
    have h5 := tl_low j
    refine ⟨fun h6 => by omega, fun _ => ?_⟩
    rw [h4]
    unfold tl
    split
    · omega
    · split <;> omega
/-- The sum, level by level. -/
theorem rok_five {o : List Int} (h : kd o = 5) (hl : ∀ z ∈ o, lvl z = true) : rok o = (o.drop (ahead o) == ofB (csum (o.take (ahead o))) 15) := by
  have h1 := kd_five h
  have h2 : hEnd (hEx o) ≤ ahead o := by unfold ahead; omega
  have hc : decide (chk o < 0) = true := by rw [show chk o = -1 from fst_of_all lvl o hl]; rfl
  unfold rok
  rw [decide_eq_false (by omega), List.take_of_length_le (by omega)]
  unfold rgt
  rw [show o.length - 15 = ahead o by omega, hc, decide_eq_true (show 15 ≤ o.length by omega)]
  simp
theorem dV_err {zs : List Int} {er : Int} {k : Nat} {o : List Int} (h : dcd zs 0 [] [] = (er, k, o)) (he : er ≠ 0) : dV zs = .tuple #[Fr.zero.val, .int .i64 (k : Nat), .int .i64 er] := by
  unfold dV dF dE dN dO
  rw [h]
  simp only [if_neg he]
theorem dV_fin {zs : List Int} {k : Nat} {o : List Int} (h : dcd zs 0 [] [] = (0, k, o)) : dV zs = .tuple #[(frm o).val, .int .i64 (k : Nat), .int .i64 0] := by
  unfold dV dF dE dN dO
  rw [h]
  rfl
/-- What the reference's loop has behind k rounds. -/
structure Rgo (zs : List Int) (k : Nat) (o : List Int) (rn : Nat) : Prop where
  go : Gone zs k (zs.take k) o
  run : rn = if kd o ≤ 5 then alk (zs.take k) else 0
  five : kd o ≤ 5 → alk (zs.take k) ≤ 5
  own : 0 < k → 0 < o.length
theorem Rgo.start (zs : List Int) : Rgo zs 0 [] 0 := ⟨Gone.start zs, by rw [List.take_zero, kd_nil, alk_nil]; rfl, fun _ => by rw [List.take_zero, alk_nil]; omega, fun h => by omega⟩
section
variable {zs o : List Int} {k rn : Nat} {z : Int}
theorem Rgo.six (h : Rgo zs k o rn) : rn ≤ 5 := by
  rw [h.run]; split
  · next h5 => exact h.five h5
  · omega
theorem Rgo.bad (h : Rgo zs k o rn) (hz : zs[k]? = some z) (hl : lvl z = false) : dcd zs 0 [] [] = (10, k, o) := by
  have e := stq_bad (t := zs.take k) (o := o) hl
  have := h.go.err hz (by rw [e]; simp)
  rwa [e] at this
theorem Rgo.first (h : Rgo zs 0 o rn) (hz : zs[0]? = some 1) : dcd zs 0 [] [] = (11, 0, o) := by
  have ho : o = [] := by
    have := h.go.leno
    exact List.eq_nil_of_length_eq_zero (by omega)
  subst ho
  have hw : wr [] 1 = 11 := by unfold wr; rw [if_pos kd_nil]; rfl
  have e := stq_wr (t := zs.take 0) (o := []) (z := 1) rfl (by rw [List.take_zero, alk_nil]; omega) (by rw [hw]; decide)
  have := h.go.err hz (by rw [e, hw]; simp)
  rwa [e, hw] at this
/-- Five alike: it is one that is added. -/
theorem Rgo.added (h : Rgo zs k o 5) : kd o ≤ 5 ∧ 5 ≤ alk (zs.take k) ∧ 0 < k := by
  have hr := h.run
  by_cases h5 : kd o ≤ 5
  · rw [if_pos h5] at hr
    refine ⟨h5, by omega, ?_⟩
    rcases Nat.eq_zero_or_pos k with h0 | h0
    · subst h0; rw [List.take_zero, alk_nil] at hr; omega
    · exact h0
  · rw [if_neg h5] at hr; omega
theorem Rgo.stuff (h : Rgo zs k o 5) (hz : zs[k]? = some z) (hl : lvl z = true) (hs : z = lst (zs.take k)) : dcd zs 0 [] [] = (17, k, o) := by
  obtain ⟨h1, h2, _⟩ := h.added
  have e := stq_six (t := zs.take k) (o := o) hl h1 h2 hs
  have := h.go.err hz (by rw [e]; simp)
  rwa [e] at this
theorem Rgo.plus (h : Rgo zs k o 5) (hz : zs[k]? = some z) (hl : lvl z = true) (hs : ¬ z = lst (zs.take k)) : Rgo zs (k + 1) o 1 := by
  obtain ⟨h1, h2, h3⟩ := h.added
  have e := stq_add (t := zs.take k) (o := o) hl h1 h2 hs
  rw [← take_snoc zs k z hz] at e
  have h4 := h.go.kd9
  have ha : alk (zs.take (k + 1)) = 1 := by rw [take_snoc zs k z hz]; exact alk_other hs
  exact ⟨h.go.next hz e (by omega), by rw [if_pos h1, ha], fun _ => by rw [ha]; omega, fun _ => h.own h3⟩
theorem Rgo.not (h : Rgo zs k o rn) (hr : rn ≠ 5) : ¬ (kd o ≤ 5 ∧ 5 ≤ alk (zs.take k)) := by
  rintro ⟨h1, h2⟩
  have h3 := h.run
  have h4 := h.five h1
  rw [if_pos h1] at h3
  omega
/-- One more up to the sum. -/
theorem Rgo.low (h : Rgo zs k o rn) (hr : rn ≠ 5) (hk : kd o ≤ 4) (hz : zs[k]? = some z) (hl : lvl z = true) (h0 : k = 0 → z = 0) : Rgo zs (k + 1) (o ++ [z]) (alk (zs.take (k + 1))) := by
  have hw : wr o z = 0 := wr_low hk fun e => h0 (by
    rcases Nat.eq_zero_or_pos k with h1 | h1
    · exact h1
    · have := h.own h1
      exact absurd e (kd_pos (by intro e; rw [e] at this; simp at this)))
  have e := stq_own (t := zs.take k) (o := o) hl (h.not hr) hw
  rw [← take_snoc zs k z hz] at e
  have h5 := (kd_step (o := o) (z := z) h.go.kd9).1 hk
  have hal : alk (zs.take k) ≤ 4 := by
    have h1 := h.run
    have h2 := h.five (by omega)
    rw [if_pos (by omega)] at h1
    omega
  have hup : alk (zs.take (k + 1)) ≤ 5 := by rw [take_snoc zs k z hz]; have := alk_up (zs.take k) z; omega
  exact ⟨h.go.next hz e (by omega), by rw [if_pos h5], fun _ => hup, fun _ => by simp⟩
theorem Rgo.runlow (h : Rgo zs k o rn) (hk : kd o ≤ 4) : rn = alk (zs.take k) := by
  rw [h.run, if_pos (by omega)]
/-- One that is wrong behind the sum. -/
theorem Rgo.wrong (h : Rgo zs k o rn) (hr : rn ≠ 5) (hz : zs[k]? = some z) (hl : lvl z = true) {er : Int} (hw : wr o z = er) (he : er ≠ 0) : dcd zs 0 [] [] = (er, k, o) := by
  have e := stq_wr (t := zs.take k) (o := o) hl (h.not hr) (by rw [hw]; exact he)
  have := h.go.err hz (by rw [e, hw]; exact he)
  rwa [e, hw] at this
theorem Rgo.high (h : Rgo zs k o rn) (hr : rn ≠ 5) (h5 : 5 ≤ kd o) (hz : zs[k]? = some z) (hl : lvl z = true) (hw : wr o z = 0) (h9 : ¬ kd (o ++ [z]) = 9) : Rgo zs (k + 1) (o ++ [z]) 0 := by
  have e := stq_own (t := zs.take k) (o := o) hl (h.not hr) hw
  rw [← take_snoc zs k z hz] at e
  have h6 := (kd_step (o := o) (z := z) h.go.kd9).2 h5
  exact ⟨h.go.next hz e h9, by rw [if_neg (by omega)], fun _ => by omega, fun _ => by simp⟩
theorem Rgo.fin (h : Rgo zs k o rn) (hr : rn ≠ 5) (hz : zs[k]? = some z) (hl : lvl z = true) (hw : wr o z = 0) (h9 : kd (o ++ [z]) = 9) : dcd zs 0 [] [] = (0, k + 1, o ++ [z]) := by
  have e := stq_own (t := zs.take k) (o := o) hl (h.not hr) hw
  exact h.go.fin hz e h9
theorem Rgo.last (h : Rgo zs k o rn) (hk : zs.length ≤ k) : dcd zs 0 [] [] = (13, k, o) := h.go.last hk
end
theorem kd_up {o : List Int} {z : Int} (h : kd o < 9) (h5 : 5 ≤ kd o) (h7 : kd o ≤ 7) : kd (o ++ [z]) = kd o + 1 := by
  have h1 := kd_next (z := z) h
  have e := kd_take (zs := o ++ [z]) (k := o.length) (by simp) (by omega)
  rw [List.take_append_of_le_length (Nat.le_refl _), List.take_length] at e
  have e2 : kd (o ++ [z]) = (nx (hW (o ++ [z])) (o.length + 1) 0).1 := by unfold kd; rw [List.length_append, List.length_singleton]
  have hs := sumW_hW (o ++ [z])
  have ha := ahead_sum (o ++ [z])
  rw [e] at h5 h7 ⊢
  rw [e2]
  unfold hW at h5 h7 ⊢
  rcases Nat.lt_or_ge o.length (ahead (o ++ [z]) + 15) with h2 | h2
  · have h3 := nx_lo (aW (hEx (o ++ [z]))) (cW (hEx (o ++ [z]))) (hDat (o ++ [z])) o.length (by omega)
    omega
  · obtain ⟨j, hj⟩ : ∃ j, o.length = ahead (o ++ [z]) + 15 + j := ⟨o.length - (ahead (o ++ [z]) + 15), by omega⟩
    have h3 := nx_hi (aW (hEx (o ++ [z]))) (cW (hEx (o ++ [z]))) (hDat (o ++ [z])) j (by omega)
    have h4 := nx_hi (aW (hEx (o ++ [z]))) (cW (hEx (o ++ [z]))) (hDat (o ++ [z])) (j + 1) (by omega)
    rw [show 1 + aW (hEx (o ++ [z])) + cW (hEx (o ++ [z])) + hDat (o ++ [z]) + 15 + j = o.length by omega] at h3
    rw [show 1 + aW (hEx (o ++ [z])) + cW (hEx (o ++ [z])) + hDat (o ++ [z]) + 15 + (j + 1) = o.length + 1 by omega] at h4
    rw [h3] at h7 ⊢
    rw [h4]
    have hj3 : j < 3 := by
      unfold tl at h7
      split at h7
      · assumption
      · split at h7 <;> omega
    have : j = 0 ∨ j = 1 ∨ j = 2 := by omega
    rcases this with rfl | rfl | rfl <;> rfl
theorem wr_five {o : List Int} {z : Int} (h : kd o = 5) : wr o z = if rok o then nrc z else 18 := by
  unfold wr; rw [h, if_neg (by omega), if_pos rfl]
theorem wr_sum {o : List Int} {z : Int} (h : kd o = 5) (hr : rok o = false) : wr o z = 18 := by rw [wr_five h, hr]; rfl
theorem wr_del0 {o : List Int} (h : kd o = 5) (hr : rok o = true) : wr o 0 = 11 := by rw [wr_five h, hr]; rfl
theorem wr_del1 {o : List Int} (h : kd o = 5) (hr : rok o = true) : wr o 1 = 0 := by rw [wr_five h, hr]; rfl
theorem wr_six {o : List Int} {z : Int} (h : kd o = 6) : wr o z = 0 := by
  unfold wr; rw [h, if_neg (by omega), if_neg (by omega), if_neg (by omega)]
theorem wr_end {o : List Int} {z : Int} (h : kd o = 7 ∨ kd o = 8) : wr o z = nrc z := by
  unfold wr; rw [if_neg (by omega), if_neg (by omega), if_pos h]
theorem wr_end0 {o : List Int} (h : kd o = 7 ∨ kd o = 8) : wr o 0 = 11 := wr_end h
theorem wr_end1 {o : List Int} (h : kd o = 7 ∨ kd o = 8) : wr o 1 = 0 := wr_end h
end Go.Proofs.Ytffhhegpkejdgaa
