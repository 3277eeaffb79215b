/- A node that overloads. -/
import Derived.Test.YtenfcbmeokenaaaGreatX05
namespace Go.Proofs.YtenfcbmeokenaaaGreat
set_option maxRecDepth 20000

/-- Behind an overload, and k levels 0. -/
def ovn (k : Nat) : Nd := if k < 6 then { (idl []).enter 5 with sn := (k : Nat) } else { (idl []).enter 6 with sn := (k - 6 : Nat) }
theorem ovn_step {k : Nat} (h : k < 13) : (ovn k).stp 0 = ([], ovn (k + 1)) := by
  have : k = 0 ∨ k = 1 ∨ k = 2 ∨ k = 3 ∨ k = 4 ∨ k = 5 ∨ k = 6 ∨ k = 7 ∨ k = 8 ∨ k = 9 ∨ k = 10 ∨ k = 11 ∨ k = 12 := by omega
  rcases this with rfl | rfl | rfl | rfl | rfl | rfl | rfl | rfl | rfl | rfl | rfl | rfl | rfl <;> rfl
theorem ovn_drv (k : Nat) : (ovn k).drv = if k < 6 then 0 else 1 := by
  unfold ovn
  split <;> rfl
theorem ovn_fit {k : Nat} (h : k ≤ 13) : Fit (ovn k) := by
  unfold ovn
  split
  · exact fit_of2 5 (k : Nat) 0 rfl rfl rfl (by omega) okfs_nil (Nat.zero_le 16)
  · exact fit_of2 6 (k - 6 : Nat) 0 rfl rfl rfl (by omega) okfs_nil (Nat.zero_le 16)
/-- .. and k levels 1. -/
def cln (m k : Nat) : Nd := if k = 0 then ovn (6 + m) else if k < 8 then { (idl []).enter 7 with sl := 1, sn := (k : Nat) } else if k < 11 then pz (idl []) (k - 8) else idl []
theorem cln_step {m k : Nat} (h : k < 11) : (cln m k).stp 1 = ([], cln m (k + 1)) := by
  have : k = 0 ∨ k = 1 ∨ k = 2 ∨ k = 3 ∨ k = 4 ∨ k = 5 ∨ k = 6 ∨ k = 7 ∨ k = 8 ∨ k = 9 ∨ k = 10 := by omega
  rcases this with rfl | rfl | rfl | rfl | rfl | rfl | rfl | rfl | rfl | rfl | rfl
  · unfold cln ovn
    rw [if_pos rfl, if_neg (by omega)]
    rfl
  all_goals rfl
theorem cln_drv {m k : Nat} : (cln m k).drv = 1 := by
  unfold cln
  split
  · rw [ovn_drv, if_neg (by omega)]
  · split
    · rfl
    · split <;> rfl
theorem cln_fit {m k : Nat} (hm : m ≤ 7) (h : k ≤ 11) : Fit (cln m k) := by
  unfold cln
  split
  · exact ovn_fit (by omega)
  · split
    · exact fit_of2 7 (k : Nat) 0 rfl rfl rfl (by omega) okfs_nil (Nat.zero_le 16)
    · split
      · exact pz_fit (by omega) okfs_nil (Nat.zero_le 16)
      · exact idl_fit okfs_nil (Nat.zero_le 16)
/-- The mode behind k + 1 levels 1. -/
theorem cln_mode {m k : Nat} (h : k < 11) : (cln m (k + 1)).mode = if k < 7 then 7 else if k < 10 then 8 else 1 := by
  unfold cln
  rw [if_neg (by omega)]
  by_cases h7 : k < 7
  · rw [if_pos (by omega), if_pos h7]; rfl
  · rw [if_neg (by omega), if_neg h7]
    by_cases h10 : k < 10
    · rw [if_pos (by omega), if_pos h10]; rfl
    · rw [if_neg (by omega), if_neg h10]; rfl
theorem cln_ct {m k : Nat} : (cln m k).ct = Ct.zero ∧ (cln m k).tx = false ∧ (cln m k).q = [] := by
  unfold cln ovn
  split
  · split <;> exact ⟨rfl, rfl, rfl⟩
  · split
    · exact ⟨rfl, rfl, rfl⟩
    · split <;> exact ⟨rfl, rfl, rfl⟩
/-- A pause, behind a frame, at which a level 0 comes. -/
theorem pz_over {a : Nat} (h : a < 2) : (pz (idl []) a).stp 0 = ([ev 9], ovn 0) := by
  have : a = 0 ∨ a = 1 := by omega
  rcases this with rfl | rfl <;> rfl
theorem pz_begin : (pz (idl []) 2).stp 0 = ([], (idl []).at_ [0] [0] false Fr.zero []) := rfl
theorem at_one_drv : ((idl []).at_ [0] [0] false Fr.zero []).drv = 1 := by decide
theorem at_one_okf : Okf ((idl []).at_ [0] [0] false Fr.zero []) := ⟨fun z hz => by rw [List.mem_singleton.1 hz]; rfl, by decide, fun h => by cases h⟩
end Go.Proofs.YtenfcbmeokenaaaGreat
