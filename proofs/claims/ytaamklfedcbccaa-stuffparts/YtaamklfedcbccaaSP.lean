/- Plain mathematics: the row to which the most are added. -/
import Derived.Test.YtaamklfedcbccaaSM
namespace Go.Proofs.Ytaamklfedcbccaa

def pel (i : Nat) : Int := if i < 5 then 0 else ((i : Int) - 1) / 4 % 2
/-- Five alike, and then four of the other one, again and again. -/
def prow (n : Nat) : List Int := (List.range n).map pel
theorem prow_succ (n : Nat) : prow (n + 1) = prow n ++ [pel n] := by simp [prow, List.range_succ]
theorem prow_len (n : Nat) : (prow n).length = n := by simp [prow]
theorem pel_lvl (i : Nat) : lvl (pel i) = true := by
  unfold pel lvl
  split
  · rfl
  · simp; omega
theorem prow_lvl (n : Nat) : ∀ z ∈ prow n, lvl z = true := by
  intro z hz
  obtain ⟨i, _, rfl⟩ := List.mem_map.1 hz
  exact pel_lvl i
/-- How many are added, level by level. -/
def cst (s : (Int × Nat) × Nat) (z : Int) : (Int × Nat) × Nat := if (tel s.1 z).2 = 5 then ((1 - z, 1), s.2 + 1) else (tel s.1 z, s.2)
theorem cst_stf : ∀ l : List Int, l.foldl cst ((0, 0), 0) = (endr (stf l), (stf l).length - l.length) := by
  refine snoc_ind rfl ?_
  intro l z ih
  have hl := (stf_few l).2
  rw [List.foldl_append, ih, stf_snoc]
  show cst _ z = _
  unfold cst
  rw [show tel (endr (stf l), (stf l).length - l.length).1 z = endr (stf l ++ [z]) from (endr_snoc _ _).symm]
  rcases Classical.em (alk (stf l ++ [z]) = 5) with h | h
  · rw [if_pos (show (endr (stf l ++ [z])).2 = 5 from h), sput_five h]
    have e : endr (stf l ++ [z] ++ [1 - z]) = (1 - z, 1) := by
      rw [endr_snoc]; unfold tel
      rw [if_neg]
      rw [show (endr (stf l ++ [z])).1 = z from lst_snoc _ _]; exact flip_ne z
    rw [e]
    simp; omega
  · rw [if_neg (show ¬ (endr (stf l ++ [z])).2 = 5 from h), sput_else h]
    simp
theorem prow_cst : ∀ n, n < 201 → ((prow n).foldl cst ((0, 0), 0)).2 = (n - 1) / 4 := by decide +kernel
theorem prow_most (n : Nat) (h : n ≤ 200) : (stf (prow n)).length - n = (n - 1) / 4 := by
  have e := prow_cst n (by omega)
  rw [cst_stf, prow_len] at e
  exact e
theorem flp_take (l : List Int) (k : Nat) (z : Int) (h : l[k]? = some z) : flp (l.take (k + 1)) = flp (l.take k) ++ [1 - z] := by rw [take_snoc l k z h, flp_snoc]
theorem flp_len (l : List Int) : (flp l).length = l.length := by simp [flp]
theorem flp_getD {l : List Int} {k : Nat} (h : k < l.length) : (flp l).getD k 0 = 1 - l.getD k 0 := by simp [flp, List.getD, h]
theorem flp_lvl {l : List Int} (h : ∀ z ∈ l, lvl z = true) : ∀ z ∈ flp l, lvl z = true := by
  intro z hz
  obtain ⟨y, hy, rfl⟩ := List.mem_map.1 hz
  rcases lvl_01 (h y hy) with rfl | rfl <;> rfl
end Go.Proofs.Ytaamklfedcbccaa
