/- The contract of field's Frame. -/
import Derived.Test.YtalpbnfebcafgaaGreatFn
import Derived.StillTailTactics
namespace Go.Proofs.YtalpbnfebcafgaaGreat
set_option maxRecDepth 20000
open Go.RowKit

def fid (zs : List Int) : Nat := if hEx zs then val (cutL zs 1 11) * 262144 + val (cutL zs 14 18) else val (cutL zs 1 11)
/-- Byte j of the levels' data. -/
def byt (zs : List Int) (j : Nat) : Nat := val (cutL zs (hEnd (hEx zs) + j * 8) 8)
/-- The frame of levels, with its first k bytes. -/
def frk (zs : List Int) (k : Nat) : Fr := ⟨(fid zs : Int), hEx zs, hRt zs, (hLn zs : Int), fun j => if j < k then (byt zs j : Int) else 0⟩
def frm (zs : List Int) : Fr := frk zs (hDat zs / 8)
/-- What Frame answers of levels. -/
def fout (zs : List Int) : Value :=
  if zs.length < hEnd (hEx zs) ∨ zs.length < ahead zs then .tuple #[Fr.zero.val, .int .i64 13]
  else if one zs 0 then .tuple #[Fr.zero.val, .int .i64 11]
  else .tuple #[(frm zs).val, .int .i64 0]
theorem frk_step (zs : List Int) (k : Nat) : (frk zs k).put k (byt zs k) = frk zs (k + 1) := by
  unfold Fr.put frk
  simp only [Fr.mk.injEq, true_and]
  funext j
  rcases Nat.lt_trichotomy j k with h | h | h
  · rw [if_neg (by omega), if_pos h, if_pos (by omega)]
  · subst h; rw [if_pos rfl, if_pos (by omega)]
  · rw [if_neg (by omega), if_neg (by omega), if_neg (by omega)]

set_option maxHeartbeats 400000 in
theorem frame_bad (A : Option Addr) (n cap : Nat) (zs : List Int) (w : World) (hr : Il w A n zs) (hn : n ≤ 100000) (hl : 0 ≤ chk zs) :
    Calls Tryz.prog 135 #[.slice A n cap] w fun e w' => e = .returned (.tuple #[Fr.zero.val, .int .i64 10]) ∧ Below w.heap.size w w' := by
  go_enter Tryz.func135, Tryz.ntmps135
  go_wp2_with fail
  refine (ahead_bad _ _ _ _ _ (hr.below ((Below.refl _ _).alloc (Nat.le_refl _) _)) (by omega) hl).mono ?_
  rintro e w' ⟨rfl, rfl⟩
  go_wp2
  refine bodyPost_ret (v := .tuple #[Fr.zero.val, .int .i64 10]) (by rw [results_cell_tmp rfl]; go_simp; decide) rfl ⟨rfl, (Below.refl _ _).alloc (Nat.le_refl _) _⟩

set_option maxHeartbeats 400000 in
theorem frame_short (A : Option Addr) (n cap : Nat) (zs : List Int) (w : World) (hr : Il w A n zs) (hn : n ≤ 100000) (hcap : n ≤ cap) (hl : ∀ z ∈ zs, lvl z = true) (hs : zs.length < hEnd (hEx zs) ∨ zs.length < ahead zs) :
    Calls Tryz.prog 135 #[.slice A n cap] w fun e w' => e = .returned (.tuple #[Fr.zero.val, .int .i64 13]) ∧ Below w.heap.size w w' := by
  have HZ := Lib.hid hr.1
  have hle := ahead_le zs
  have A0 := Lib.hid (fb_new w Fr.zero)
  go_enter Tryz.func135, Tryz.ntmps135
  go_wp2_with fail
  refine (ahead_any _ _ _ _ _ (hr.below ((Below.refl _ _).alloc (Nat.le_refl _) _)) (by omega) hcap hl).mono ?_
  rintro e w1 ⟨rfl, hb1⟩
  have HB1 := Lib.hid (nxt ((Below.refl _ _).alloc (Nat.le_refl _) _) hb1)
  have B0 := A0.out.below hb1 (by simp)
  have fz := fun i => B0.frozen i
  obtain ⟨c0, c1, c2, c3, c4, c5, c6, c7, c8, c9, c10, c11⟩ := B0.bx
  clear hb1 A0 B0
  unfold aout
  by_cases h1 : zs.length < hEnd (hEx zs)
  · rw [if_pos h1]
    clear h1 hs hr hl
    go_wp2
    refine bodyPost_ret (v := .tuple #[Fr.zero.val, .int .i64 13]) (by rw [results_cell_tmp rfl]; go_simp; decide) rfl ⟨rfl, ?_⟩
    exact set12 HB1.out (Nat.le_refl _) _ _ _ _ _ _ _ _ _ _ _ _
  · rw [if_neg h1]
    have h2 : n < ahead zs := by
      rw [← HZ.out]
      rcases hs with h | h
      · exact absurd h h1
      · exact h
    clear h1 hs hr hl
    generalize ahead zs = q at *
    go_wp2
    refine bodyPost_ret (v := .tuple #[Fr.zero.val, .int .i64 13]) (by rw [results_cell_tmp rfl]; go_simp; decide) rfl ⟨rfl, ?_⟩
    exact set12 HB1.out (Nat.le_refl _) _ _ _ _ _ _ _ _ _ _ _ _
end Go.Proofs.YtalpbnfebcafgaaGreat
