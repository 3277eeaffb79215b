/- The contracts of frame.Check and of the reference's Check. -/
import Derived.Test.YtalpbnfebcafgaaGreatFr
import Derived.Deep.QuietTactic
import Derived.BigQuiet
namespace Go.Proofs.YtalpbnfebcafgaaGreat
set_option maxRecDepth 20000
open Go.RowKit

def Fr.err (f : Fr) : Int := if f.may then 0 else 14
theorem may_of {f : Fr} (h0 : 0 ≤ f.id) (h1 : f.id ≤ f.most) (h2 : 0 ≤ f.len) (h3 : f.len ≤ 8) (h : ∀ k, k < 8 → f.d k = 0 ∨ (f.rtr = false ∧ (k : Int) < f.len)) : f.may = true := by
  simp only [Fr.may, Bool.and_eq_true, decide_eq_true_eq, List.all_eq_true, List.mem_range, Bool.or_eq_true, beq_iff_eq, Bool.not_eq_true']
  exact ⟨⟨⟨⟨h0, h1⟩, h2⟩, h3⟩, h⟩
theorem err_bad {f : Fr} (h : ¬ (0 ≤ f.id ∧ f.id ≤ f.most ∧ 0 ≤ f.len ∧ f.len ≤ 8)) : f.err = 14 := by
  unfold Fr.err
  rw [if_neg]
  intro hm
  obtain ⟨h0, h1, h2, h3, _⟩ := may_parts hm
  exact h ⟨h0, h1, h2, h3⟩
theorem data_cell (f : Fr) (w : World) (k : Nat) (hk : k < 8) : (w.alloc (.cells f.cells 31)).cell? ⟨w.heap.size, 4 + k, none⟩ = some (.int .u8 (f.d k)) := by
  have h : f.cells[4 + k]? = some (.int .u8 (f.d k)) := by
    match k, hk with
    | 0, _ | 1, _ | 2, _ | 3, _ | 4, _ | 5, _ | 6, _ | 7, _ => rfl
  rw [← h]
  generalize f.cells = cs
  simp only [World.cell?, heap_alloc_new]
  rfl

set_option maxHeartbeats 800000 in
theorem check_bad (f : Fr) (w : World) (hm : ¬ (0 ≤ f.id ∧ f.id ≤ f.most ∧ 0 ≤ f.len ∧ f.len ≤ 8)) :
    Calls Tryz.prog 8 #[f.val] w fun e w' => e = .returned (.int .i64 14) ∧ Below w.heap.size w w' := by
  have hb : Below w.heap.size w (w.alloc (.cells f.cells 31)) := (Below.refl _ _).alloc (Nat.le_refl _) _
  have HB := Lib.hid hb
  obtain ⟨i, x, r, n, d⟩ := f
  unfold Fr.most at hm
  simp only at hm
  clear hb
  generalize hmo : (if x = true then (536870911 : Int) else 2047) = mo at hm
  have hg : ∀ w0 : World, Calls Tryz.prog 26 #[.bool x] w0 fun e w' => e = .returned (.int .i64 mo) ∧ w' = w0 := fun w0 => by
    rw [← hmo]; exact (great_any x w0).mono fun _ _ ⟨h1, h2⟩ => ⟨h1, h2.symm⟩
  clear hmo
  by_cases c0 : i < 0
  · clear hm
    go_enter Tryz.func8, Tryz.ntmps8
    go_wp2
    go_quiet (fail)
    go_wp2
    go_ret
    exact ⟨rfl, belowN HB.out _⟩
  have d0 : decide (i < 0) = false := by simpa using c0
  by_cases c1 : mo < i
  · clear hm
    go_enter Tryz.func8, Tryz.ntmps8
    go_wp2
    go_quiet (first | (go_at_call 26; refine Calls.quiet_of_same (hg _)))
    go_wp2
    go_ret
    exact ⟨rfl, belowN HB.out _⟩
  have d1 : decide (mo < i) = false := by simpa using c1
  by_cases c2 : n < 0
  · clear hm
    go_enter Tryz.func8, Tryz.ntmps8
    go_wp2
    go_quiet (first | (go_at_call 26; refine Calls.quiet_of_same (hg _)))
    go_wp2
    go_ret
    exact ⟨rfl, belowN HB.out _⟩
  have d2 : decide (n < 0) = false := by simpa using c2
  by_cases c3 : 8 < n
  · clear hm
    go_enter Tryz.func8, Tryz.ntmps8
    go_wp2
    go_quiet (first | (go_at_call 26; refine Calls.quiet_of_same (hg _)))
    go_wp2
    go_ret
    exact ⟨rfl, belowN HB.out _⟩
  exact absurd ⟨by omega, by omega, by omega, by omega⟩ hm

theorem err_stop {f : Fr} {c k : Nat} (hc : ∀ j : Nat, c ≤ j → ¬ (f.rtr = false ∧ (j : Int) < f.len)) (hk : c + k < 8) (hd : f.d (c + k) ≠ 0) : f.err = 14 := by
  unfold Fr.err
  rw [if_neg]
  intro hm
  obtain ⟨_, _, _, _, h⟩ := may_parts hm
  rcases h (c + k) hk with h | h
  · exact hd h
  · exact hc (c + k) (by omega) h
theorem err_end {f : Fr} {c : Nat} (h0 : 0 ≤ f.id) (h1 : f.id ≤ f.most) (h2 : 0 ≤ f.len) (h3 : f.len ≤ 8) (hc : ∀ j : Nat, j < c → f.rtr = false ∧ (j : Int) < f.len) (hd : ∀ j, c ≤ j → j < 8 → f.d j = 0) : f.err = 0 := by
  unfold Fr.err
  rw [if_pos]
  refine may_of h0 h1 h2 h3 fun k hk => ?_
  rcases Nat.lt_or_ge k c with h | h
  · exact .inr (hc k h)
  · exact .inl (hd k h hk)

set_option maxHeartbeats 800000 in
theorem check_in (f : Fr) (w : World) (h0 : 0 ≤ f.id) (h1 : f.id ≤ f.most) (h2 : 0 ≤ f.len) (h3 : f.len ≤ 8) :
    Calls Tryz.prog 8 #[f.val] w fun e w' => e = .returned (.int .i64 f.err) ∧ Below w.heap.size w w' := by
  have hb : Below w.heap.size w (w.alloc (.cells f.cells 31)) := (Below.refl _ _).alloc (Nat.le_refl _) _
  have HB := Lib.hid hb
  have HC := Lib.hid (data_cell f w)
  have HS := fun c k => Lib.hid (@err_stop f c k)
  have HE := fun c => Lib.hid (@err_end f c h0 h1 h2 h3)
  generalize f.err = e at *
  obtain ⟨i, x, r, n, d⟩ := f
  obtain ⟨c, rfl⟩ := Int.eq_ofNat_of_zero_le h2
  unfold Fr.most at h1
  simp only at h0 h1 h2 h3
  clear hb
  generalize hmo : (if x = true then (536870911 : Int) else 2047) = mo at *
  have hg : ∀ w0 : World, Calls Tryz.prog 26 #[.bool x] w0 fun e w' => e = .returned (.int .i64 mo) ∧ w' = w0 := fun w0 => by
    rw [← hmo]; exact (great_any x w0).mono fun _ _ ⟨h1, h2⟩ => ⟨h1, h2.symm⟩
  clear hmo
  have d0 : decide (i < 0) = false := by simpa using h0
  have d1 : decide (mo < i) = false := by simpa using h1
  have d2 : decide ((c : Int) < 0) = false := by simp
  have d3 : decide (8 < (c : Int)) = false := by simpa using h3
  cases r
  · by_cases hc8 : c = 8
    · subst hc8
      go_enter Tryz.func8, Tryz.ntmps8
      go_wp2
      go_quiet (first | (go_at_call 26; refine Calls.quiet_of_same (hg _)))
      go_wp2
      go_loop [35] (fun i => i = .int .i64 0) (fun _ => 0)
      case atStart => rfl
      case round =>
        subst hrel
        go_wp2
        go_ret
        exact ⟨ret_int ((HE 8).out (fun j h => ⟨trivial, by omega⟩) (fun j h1 h2 => by omega)).symm, belowN HB.out _⟩
    have hc8' : ¬ (8 = c) := fun h => hc8 h.symm
    go_enter Tryz.func8, Tryz.ntmps8
    go_wp2
    go_quiet (first | (go_at_call 26; refine Calls.quiet_of_same (hg _)))
    go_wp2
    go_loop [35] (fun i => ∃ k : Nat, k ≤ 8 - c ∧ i = .int .i64 k ∧ ∀ j, c ≤ j → j < c + k → d j = 0) (fun i => 8 - c - (intOf i).toNat)
    case atStart => exact ⟨0, Nat.zero_le _, rfl, fun j h1 h2 => by omega⟩
    case round =>
      obtain ⟨k, hk, rfl, hz⟩ := hrel
      have HZ := Lib.hid hz
      clear hz
      by_cases hlt : k < 8 - c
      · have hcell := HC.out (c + k) (by omega)
        rw [← Nat.add_assoc] at hcell
        have hlt' : (k : Int) < ((8 - c : Nat) : Int) := by omega
        cases hd : (d (c + k) == 0)
        · have n0 : (d (c + k) != 0) = true := by simp [bne, hd]
          go_wp2
          go_ret
          exact ⟨ret_int ((HS c k).out (fun j h1 h2 => by omega) (by omega) (by simpa using hd)).symm, belowN HB.out _⟩
        · have n0 : (d (c + k) != 0) = false := by simp [bne, hd]
          go_wp2
          go_round
          case rel => exact ⟨k + 1, by omega, by go_num, fun j h1 h2 => by
            rcases Nat.lt_or_ge j (c + k) with h | h
            · exact HZ.out j h1 h
            · rw [show j = c + k by omega]; simpa using hd⟩
          case measure => simp [intOf]; omega
      · go_wp2
        go_ret
        exact ⟨ret_int ((HE c).out (fun j h => ⟨trivial, by omega⟩) (fun j h1 h2 => HZ.out j h1 (by omega))).symm, belowN HB.out _⟩
  · clear d2 d3
    go_enter Tryz.func8, Tryz.ntmps8
    go_wp2
    go_quiet (first | (go_at_call 26; refine Calls.quiet_of_same (hg _)))
    go_wp2
    go_loop [35] (fun i => ∃ k : Nat, k ≤ 8 ∧ i = .int .i64 k ∧ ∀ j, 0 ≤ j → j < k → d j = 0) (fun i => 8 - (intOf i).toNat)
    case atStart => exact ⟨0, Nat.zero_le _, rfl, fun j h1 h2 => by omega⟩
    case round =>
      obtain ⟨k, hk, rfl, hz⟩ := hrel
      have HZ := Lib.hid hz
      clear hz
      by_cases hlt : k < 8
      · have hcell := HC.out (k) (by omega)
        have hlt' : (k : Int) < (8 : Int) := by omega
        cases hd : (d (k) == 0)
        · have n0 : (d (k) != 0) = true := by simp [bne, hd]
          go_wp2
          go_ret
          exact ⟨ret_int ((HS 0 k).out (fun j _ h2 => by cases h2.1) (by omega) (by rw [Nat.zero_add]; simpa using hd)).symm, belowN HB.out _⟩
        · have n0 : (d (k) != 0) = false := by simp [bne, hd]
          go_wp2
          go_round
          case rel => exact ⟨k + 1, by omega, by go_num, fun j h1 h2 => by
            rcases Nat.lt_or_ge j (k) with h | h
            · exact HZ.out j h1 h
            · rw [show j = k by omega]; simpa using hd⟩
          case measure => simp [intOf]; omega
      · go_wp2
        go_ret
        exact ⟨ret_int ((HE 0).out (fun j h => by omega) (fun j h1 h2 => HZ.out j h1 (by omega))).symm, belowN HB.out _⟩
theorem fcheck_any (f : Fr) (w : World) :
    Calls Tryz.prog 8 #[f.val] w fun e w' => e = .returned (.int .i64 f.err) ∧ Below w.heap.size w w' := by
  rcases Classical.em (0 ≤ f.id ∧ f.id ≤ f.most ∧ 0 ≤ f.len ∧ f.len ≤ 8) with h | h
  · exact check_in f w h.1 h.2.1 h.2.2.1 h.2.2.2
  · rw [err_bad h]; exact check_bad f w h
end Go.Proofs.YtalpbnfebcafgaaGreat
