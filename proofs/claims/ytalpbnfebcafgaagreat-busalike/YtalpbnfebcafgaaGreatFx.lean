/- The contract of field's Next. -/
import Derived.Test.YtalpbnfebcafgaaGreatFn
namespace Go.Proofs.YtalpbnfebcafgaaGreat
set_option maxRecDepth 20000
open Go.RowKit

/-- What Next answers of n levels, with these fields. -/
def nout (ws : List Nat) (n k : Nat) : Value :=
  match ws with
  | [] => if 0 < n then .tuple #[.int .i64 0, .int .i64 0, .int .i64 12] else .tuple #[.int .i64 (k : Int), .int .i64 0, .int .i64 0]
  | w :: ws => if n < w then .tuple #[.int .i64 (k : Int), .int .i64 (n : Int), .int .i64 0] else nout ws (n - w) (k + 1)
theorem nx_hit {w n : Nat} (ws : List Nat) (k : Nat) (h : n < w) : nout (w :: ws) n k = .tuple #[.int .i64 (k : Int), .int .i64 (n : Int), .int .i64 0] := by simp [nout, h]
theorem nx_miss {w n : Nat} (ws : List Nat) (k : Nat) (h : ¬ n < w) : nout (w :: ws) n k = nout ws (n - w) (k + 1) := by simp [nout, h]

theorem ix9 (a c d k : Nat) (hk : k < 9) (v : Value) (e : (W9c a c d)[k]? = some v) (w : World) : (Instr.index 119 (W9 a c d) (.int .i64 (k : Int))).run Tryz.prog w = .ok v w := by
  have h1 : (0 : Int) ≤ (k : Int) ∧ (k : Int) < 9 := by omega
  have e2 := e
  rw [← Array.getElem?_toList] at e2
  simp [Instr.index, run_underlying Tryz.underlying119, asIntOf, h1, part, isAgg, run_underlying Tryz.underlying3]
  rw [if_pos hk, e2]
  rfl

set_option maxHeartbeats 400000 in
theorem next_bad (A : Option Addr) (n cap : Nat) (zs : List Int) (w : World) (hr : Il w A n zs) (hn : n ≤ 100000) (hl : 0 ≤ chk zs) :
    Calls Tryz.prog 132 #[.slice A n cap] w fun e w' => e = .returned (.tuple #[.int .i64 0, .int .i64 0, .int .i64 10]) ∧ w = w' := by
  go_enter Tryz.func132, Tryz.ntmps132
  go_wp2_with fail
  refine (check_any _ _ _ _ _ hr (by omega)).mono ?_
  rintro e w' ⟨rfl, rfl⟩
  go_wp2
  go_ret3
  exact ⟨rfl, rfl⟩

set_option maxHeartbeats 3200000 in
theorem next_any_row (A : Option Addr) (n cap : Nat) (zs : List Int) (w : World) (hr : Il w A n zs) (hn : n ≤ 100000) (hcap : n ≤ cap) (hl : ∀ z ∈ zs, lvl z = true) :
    Calls Tryz.prog 132 #[.slice A n cap] w fun e w' => e = .returned (nout (hW zs) n 0) ∧ Below w.heap.size w w' := by
  have HC := Lib.hid (show chk zs = -1 from fst_of_all lvl zs hl)
  have HR := Lib.hid hr; have HL := Lib.hid hl
  have ha := aW_le (hEx zs); have hc := cW_le (hEx zs); have hdd := hDat_le zs
  have HQ := Lib.hid (show hW zs = wds (aW (hEx zs)) (cW (hEx zs)) (hDat zs) from rfl)
  clear hr hl
  go_enter Tryz.func132, Tryz.ntmps132
  go_wp2_with fail
  refine (check_any _ _ _ _ _ HR.out (by omega)).mono ?_
  rintro e w' ⟨rfl, rfl⟩
  rw [HC.out]
  go_wp2_with fail
  refine (head_ok _ _ _ _ _ HR.out hn hcap HL.out).mono ?_
  rintro e w1 ⟨rfl, hb1⟩
  go_wp2_with fail
  refine (widths_any (hd zs) (hLn zs) (by have := hLn_le zs; omega) rfl _).mono ?_
  rintro e w2 ⟨rfl, hb2⟩
  rw [dW_hd, show (hd zs).ext = hEx zs from rfl]
  have HB := Lib.hid (nxt hb1 hb2)
  clear hb1 hb2
  generalize aW (hEx zs) = a at *
  generalize cW (hEx zs) = c at *
  obtain ⟨d, hd0⟩ : ∃ d, hDat zs = d := ⟨_, rfl⟩
  rw [hd0] at hdd HQ ⊢
  clear hd0
  go_wp2
  go_loop [5, 16] (fun v i => ∃ k m : Nat, k ≤ 9 ∧ m ≤ 100000 ∧ i = .int .i64 k ∧ v = .int .i64 m ∧ nout (hW zs) n 0 = nout ((wds a c d).drop k) m k) (fun _ i => 9 - (intOf i).toNat)
  case atStart => exact ⟨0, n, Nat.zero_le _, hn, rfl, rfl, by rw [HQ.out]; rfl⟩
  case round =>
    obtain ⟨k, m, hk, hm, rfl, rfl, hnx⟩ := hrel
    rcases (show k = 0 ∨ k = 1 ∨ k = 2 ∨ k = 3 ∨ k = 4 ∨ k = 5 ∨ k = 6 ∨ k = 7 ∨ k = 8 ∨ k = 9 by omega) with rfl | rfl | rfl | rfl | rfl | rfl | rfl | rfl | rfl | rfl
    all_goals clear hk
    · have HN := Lib.hid hnx
      clear hnx
      have hix : ∀ u : World, (Instr.index 119 (W9 a c d) (.int .i64 0)).run Tryz.prog u = .ok (.int .i64 1) u := ix9 a c d 0 (by omega) (.int .i64 1) rfl
      by_cases hlt : m < 1
      · go_wp2
        go_ret3
        exact ⟨congrArg Ending.returned (HN.out.trans (nx_hit _ _ hlt)).symm, HB.out⟩
      · go_wp2
        go_round
        case rel => exact ⟨1, m - 1, by omega, by omega, by go_num, by go_num, HN.out.trans (nx_miss _ _ hlt)⟩
        case measure => simp [intOf]
    · have HN := Lib.hid hnx
      clear hnx
      have hix : ∀ u : World, (Instr.index 119 (W9 a c d) (.int .i64 1)).run Tryz.prog u = .ok (.int .i64 (a : Int)) u := ix9 a c d 1 (by omega) (.int .i64 (a : Int)) rfl
      by_cases hlt : m < a
      · go_wp2
        go_ret3
        exact ⟨congrArg Ending.returned (HN.out.trans (nx_hit _ _ hlt)).symm, HB.out⟩
      · go_wp2
        go_round
        case rel => exact ⟨2, m - a, by omega, by omega, by go_num, by go_num, HN.out.trans (nx_miss _ _ hlt)⟩
        case measure => simp [intOf]
    · have HN := Lib.hid hnx
      clear hnx
      have hix : ∀ u : World, (Instr.index 119 (W9 a c d) (.int .i64 2)).run Tryz.prog u = .ok (.int .i64 (c : Int)) u := ix9 a c d 2 (by omega) (.int .i64 (c : Int)) rfl
      by_cases hlt : m < c
      · go_wp2
        go_ret3
        exact ⟨congrArg Ending.returned (HN.out.trans (nx_hit _ _ hlt)).symm, HB.out⟩
      · go_wp2
        go_round
        case rel => exact ⟨3, m - c, by omega, by omega, by go_num, by go_num, HN.out.trans (nx_miss _ _ hlt)⟩
        case measure => simp [intOf]
    · have HN := Lib.hid hnx
      clear hnx
      have hix : ∀ u : World, (Instr.index 119 (W9 a c d) (.int .i64 3)).run Tryz.prog u = .ok (.int .i64 (d : Int)) u := ix9 a c d 3 (by omega) (.int .i64 (d : Int)) rfl
      by_cases hlt : m < d
      · go_wp2
        go_ret3
        exact ⟨congrArg Ending.returned (HN.out.trans (nx_hit _ _ hlt)).symm, HB.out⟩
      · go_wp2
        go_round
        case rel => exact ⟨4, m - d, by omega, by omega, by go_num, by go_num, HN.out.trans (nx_miss _ _ hlt)⟩
        case measure => simp [intOf]
    · have HN := Lib.hid hnx
      clear hnx
      have hix : ∀ u : World, (Instr.index 119 (W9 a c d) (.int .i64 4)).run Tryz.prog u = .ok (.int .i64 15) u := ix9 a c d 4 (by omega) (.int .i64 15) rfl
      by_cases hlt : m < 15
      · go_wp2
        go_ret3
        exact ⟨congrArg Ending.returned (HN.out.trans (nx_hit _ _ hlt)).symm, HB.out⟩
      · go_wp2
        go_round
        case rel => exact ⟨5, m - 15, by omega, by omega, by go_num, by go_num, HN.out.trans (nx_miss _ _ hlt)⟩
        case measure => simp [intOf]
    · have HN := Lib.hid hnx
      clear hnx
      have hix : ∀ u : World, (Instr.index 119 (W9 a c d) (.int .i64 5)).run Tryz.prog u = .ok (.int .i64 1) u := ix9 a c d 5 (by omega) (.int .i64 1) rfl
      by_cases hlt : m < 1
      · go_wp2
        go_ret3
        exact ⟨congrArg Ending.returned (HN.out.trans (nx_hit _ _ hlt)).symm, HB.out⟩
      · go_wp2
        go_round
        case rel => exact ⟨6, m - 1, by omega, by omega, by go_num, by go_num, HN.out.trans (nx_miss _ _ hlt)⟩
        case measure => simp [intOf]
    · have HN := Lib.hid hnx
      clear hnx
      have hix : ∀ u : World, (Instr.index 119 (W9 a c d) (.int .i64 6)).run Tryz.prog u = .ok (.int .i64 1) u := ix9 a c d 6 (by omega) (.int .i64 1) rfl
      by_cases hlt : m < 1
      · go_wp2
        go_ret3
        exact ⟨congrArg Ending.returned (HN.out.trans (nx_hit _ _ hlt)).symm, HB.out⟩
      · go_wp2
        go_round
        case rel => exact ⟨7, m - 1, by omega, by omega, by go_num, by go_num, HN.out.trans (nx_miss _ _ hlt)⟩
        case measure => simp [intOf]
    · have HN := Lib.hid hnx
      clear hnx
      have hix : ∀ u : World, (Instr.index 119 (W9 a c d) (.int .i64 7)).run Tryz.prog u = .ok (.int .i64 1) u := ix9 a c d 7 (by omega) (.int .i64 1) rfl
      by_cases hlt : m < 1
      · go_wp2
        go_ret3
        exact ⟨congrArg Ending.returned (HN.out.trans (nx_hit _ _ hlt)).symm, HB.out⟩
      · go_wp2
        go_round
        case rel => exact ⟨8, m - 1, by omega, by omega, by go_num, by go_num, HN.out.trans (nx_miss _ _ hlt)⟩
        case measure => simp [intOf]
    · have HN := Lib.hid hnx
      clear hnx
      have hix : ∀ u : World, (Instr.index 119 (W9 a c d) (.int .i64 8)).run Tryz.prog u = .ok (.int .i64 7) u := ix9 a c d 8 (by omega) (.int .i64 7) rfl
      by_cases hlt : m < 7
      · go_wp2
        go_ret3
        exact ⟨congrArg Ending.returned (HN.out.trans (nx_hit _ _ hlt)).symm, HB.out⟩
      · go_wp2
        go_round
        case rel => exact ⟨9, m - 7, by omega, by omega, by go_num, by go_num, HN.out.trans (nx_miss _ _ hlt)⟩
        case measure => simp [intOf]
    · have HN := Lib.hid hnx
      clear hnx
      by_cases hlt : 0 < m
      · go_wp2
        go_ret3
        exact ⟨by rw [HN.out]; simp [nout, wds, hlt], HB.out⟩
      · go_wp2
        go_ret3
        exact ⟨by rw [HN.out]; simp [nout, wds, hlt], HB.out⟩
end Go.Proofs.YtalpbnfebcafgaaGreat
