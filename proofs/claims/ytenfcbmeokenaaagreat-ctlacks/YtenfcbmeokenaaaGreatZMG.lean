/- A node that sends a frame that nobody acknowledges, and the time behind it. -/
import Derived.Test.YtenfcbmeokenaaaGreatZMF
namespace Go.Proofs.YtenfcbmeokenaaaGreat
set_option maxRecDepth 20000

/-- Idle, with one frame and the count t. -/
def idk (f : Fr) (b : Bool) (t : Int) : Nd := { idl [f] with tx := b, ct := ⟨t, 0, false⟩ }
/-- The count ahead of try i + 1. -/
def tk (i : Nat) : Int := if i < 16 then 8 * (i : Int) else 128
/-- Behind the failure of a try, and k more levels; p: its flag is passive. -/
def erN (f : Fr) (t : Int) (p : Bool) (k : Nat) : Nd :=
  if k < 6 then (if p then { (idk f true t).enter 4 with owed := true, sl := if k = 0 then 0 else 1, sn := (k : Nat) } else { (idk f true t).enter 3 with sn := (k : Nat) })
  else if k = 6 then { (idk f true t).enter 6 with erred := true }
  else if k < 14 then { (idk f true t).enter 7 with sl := 1, sn := (k - 6 : Nat) }
  else if k < 17 then pz (idk f true t) (k - 14)
  else if k < 25 then { (idk f true t).enter 9 with sl := if k = 17 then 0 else 1, sn := (k - 17 : Nat) }
  else idk f true t
section
variable {f : Fr} {t : Int} {p : Bool} {k : Nat}
theorem erN_low (h : k < 17) : (erN f t p k).stp (if k < 6 ∧ p = false then 0 else 1) = ([], if k = 16 then (if (idk f true t).back then (idk f true t).enter 9 else (idk f true t).enter 1) else erN f t p (k + 1)) := by
  have : k = 0 ∨ k = 1 ∨ k = 2 ∨ k = 3 ∨ k = 4 ∨ k = 5 ∨ k = 6 ∨ k = 7 ∨ k = 8 ∨ k = 9 ∨ k = 10 ∨ k = 11 ∨ k = 12 ∨ k = 13 ∨ k = 14 ∨ k = 15 ∨ k = 16 := by omega
  rcases this with rfl | rfl | rfl | rfl | rfl | rfl | rfl | rfl | rfl | rfl | rfl | rfl | rfl | rfl | rfl | rfl | rfl
  all_goals first | exact pz_end _ | exact pz_step _ (by omega) | rfl | (cases p <;> rfl)
theorem erN_high (h : 17 ≤ k) (h2 : k < 25) : (erN f t p k).stp 1 = ([], erN f t p (k + 1)) := by
  have : k = 17 ∨ k = 18 ∨ k = 19 ∨ k = 20 ∨ k = 21 ∨ k = 22 ∨ k = 23 ∨ k = 24 := by omega
  rcases this with rfl | rfl | rfl | rfl | rfl | rfl | rfl | rfl
  all_goals rfl
theorem idk_back : (idk f true t).back = decide (127 < t) := by
  unfold Nd.back Nd.pas
  show ((if false = true then 2 else if 127 < t ∨ (127 : Int) < 0 then 1 else 0 : Int) == 1 && true) = _
  by_cases h : 127 < t
  · simp [h]
  · simp [h]
theorem erN_16 : erN f t p 17 = (idk f true t).enter 9 := rfl
theorem erN_25 : erN f t p 25 = idk f true t := rfl
theorem idk_enter : (idk f true t).enter 1 = idk f true t := rfl
/-- One level more, of all that come. -/
theorem erN_step {K : Nat} (hK : K = if 127 < t then 25 else 17) (h : k < K) : (erN f t p k).stp (if k < 6 ∧ p = false then 0 else 1) = ([], if k + 1 = K then idk f true t else erN f t p (k + 1)) := by
  by_cases h17 : k < 17
  · rw [erN_low h17]
    by_cases h16 : k = 16
    · subst h16
      rw [if_pos rfl, idk_back]
      by_cases ht : 127 < t
      · rw [if_pos ht] at hK
        rw [if_pos (by simpa using ht), if_neg (by omega), erN_16]
      · rw [if_neg ht] at hK
        rw [if_neg (by simpa using ht), if_pos (by omega), idk_enter]
    · rw [if_neg h16, if_neg (by split at hK <;> omega)]
  · rw [if_neg (by omega), erN_high (by omega) (by split at hK <;> omega)]
    by_cases h25 : k + 1 = K
    · rw [if_pos h25]
      split at hK
      · rw [show k + 1 = 25 by omega, erN_25]
      · omega
    · rw [if_neg h25]
theorem erN_drv (h : k < 25) : (erN f t p k).drv = if k < 6 ∧ p = false then 0 else 1 := by
  unfold erN
  by_cases h6 : k < 6
  · rw [if_pos h6]
    cases p
    · show (0 : Int) = _
      rw [if_pos ⟨h6, rfl⟩]
    · show (1 : Int) = _
      rw [if_neg (by simp)]
  · rw [if_neg h6, if_neg (show ¬ (k < 6 ∧ p = false) by omega)]
    split
    · rfl
    · split
      · rfl
      · split
        · rfl
        · rfl
theorem erN_mode (h : k < 25) : (erN f t p k).mode ≠ 2 := by
  unfold erN
  split
  · split <;> exact fun e => by cases e
  · split
    · exact fun e => by cases e
    · split
      · exact fun e => by cases e
      · split
        · exact fun e => by cases e
        · exact fun e => by cases e
theorem erN_fit (h : k < 25) (hq : Okfs [f]) : Fit (erN f t p k) := by
  have hl : [f].length ≤ 16 := by show 1 ≤ 16; omega
  unfold erN
  split
  · split
    · exact fit_of2 4 (k : Nat) 0 rfl rfl rfl (by omega) hq hl
    · exact fit_of2 3 (k : Nat) 0 rfl rfl rfl (by omega) hq hl
  · split
    · exact fit_of2 6 0 0 rfl rfl rfl (by omega) hq hl
    · split
      · exact fit_of2 7 (k - 6 : Nat) 0 rfl rfl rfl (by omega) hq hl
      · split
        · exact pz_fit (by omega) hq hl
        · exact fit_of2 9 (k - 17 : Nat) 0 rfl rfl rfl (by omega) hq hl
theorem idk_fit {b : Bool} (hq : Okfs [f]) : Fit (idk f b t) := fit_of2 1 0 0 rfl rfl rfl (by omega) hq (show [f].length ≤ 16 by show 1 ≤ 16; omega)
end

/-- The slot in which nobody answers. -/
theorem tx_none {f : Fr} (hm : f.may = true) {b : Bool} {t : Int} {n : Nd} {k : Nat} (h : TxAt (idk f b t) f false k n) (hk : k = sl_ f + 1) (h0 : 0 ≤ t) (ht : t ≤ 128) :
    n.stp 1 = ([ev 8], erN f (if 127 < t then t else t + 8) (decide (127 < t)) 0) := by
  have hp := sl_pos (f := f)
  rcases h with ⟨h1, _⟩ | ⟨h1, o, hw, rfl⟩
  · omega
  have h6 := (way_six hm hw (by omega)).2 hk
  have e6 : ((idk f b t).at_ o ((enc f false).take k) true f (alls f)).kind = 6 := by show ((kd o : Nat) : Int) = 6; omega
  have hlo : ((idk f b t).at_ o ((enc f false).take k) true f (alls f)).loses 1 = false := by
    unfold Nd.loses
    rw [show (((idk f b t).at_ o ((enc f false).take k) true f (alls f)).kind == 1) = false from by rw [e6]; rfl]
    simp
  rw [stp_two rfl]
  unfold Nd.inF
  rw [hlo, if_neg (by simp)]
  show ((idk f b t).at_ o ((enc f false).take k) true f (alls f)).send 1 = _
  unfold Nd.send
  rw [if_pos e6, if_neg (by omega)]
  unfold Nd.unheard
  have hpas : ((idk f b t).at_ o ((enc f false).take k) true f (alls f)).pas = decide (127 < t) := by
    unfold Nd.pas
    show ((if false = true then 2 else if 127 < t ∨ (127 : Int) < 0 then 1 else 0 : Int) == 1) = _
    by_cases h : 127 < t
    · simp [h]
    · simp [h]
  by_cases h : 127 < t
  · rw [hpas, if_pos (by simpa using h)]
    unfold Nd.flg
    rw [hpas, if_pos (by simpa using h), if_pos h, decide_eq_true h]
    rfl
  · rw [hpas, if_neg (by simpa using h)]
    unfold Nd.fail Nd.flg
    rw [hpas, if_neg (by simpa using h), if_neg h, decide_eq_false h]
    have hc : (((idk f b t).at_ o ((enc f false).take k) true f (alls f)).enter 3).cnt 1 = erN f (t + 8) false 0 := by
      unfold Nd.cnt
      show ({ ((idk f b t).at_ o ((enc f false).take k) true f (alls f)).enter 3 with ct := (⟨t, 0, false⟩ : Ct).txx } : Nd) = _
      unfold Ct.txx
      rw [if_pos (run_iff.2 ⟨rfl, h0, by show t ≤ 255; omega, Int.le_refl 0, by show (0 : Int) ≤ 255; omega⟩), if_neg (by show ¬ 255 < t + 8; omega)]
      rfl
    have hs : (erN f (t + 8) false 0).ct.st ≠ 2 := by
      show (if false = true then 2 else if 127 < t + 8 ∨ (127 : Int) < 0 then 1 else 0 : Int) ≠ 2
      rw [if_neg (by simp)]
      split <;> omega
    unfold Nd.casE Nd.casN
    rw [hc, if_neg hs, if_neg hs]
theorem tk_next (i : Nat) : (if 127 < tk i then tk i else tk i + 8) = tk (i + 1) := by
  unfold tk
  by_cases h : i < 16
  · rw [if_pos h, if_neg (by omega)]
    by_cases h2 : i + 1 < 16
    · rw [if_pos h2]; omega
    · rw [if_neg h2]; omega
  · rw [if_neg h, if_pos (by omega), if_neg (by omega)]
theorem tk_pas (i : Nat) : (127 < tk i) ↔ 16 ≤ i := by
  unfold tk
  split <;> omega
theorem tk_le (i : Nat) : 0 ≤ tk i ∧ tk i ≤ 128 := by
  unfold tk
  split <;> omega
end Go.Proofs.YtenfcbmeokenaaaGreat
