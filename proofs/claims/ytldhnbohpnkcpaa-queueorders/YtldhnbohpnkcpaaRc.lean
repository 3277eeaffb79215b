/- The contract of the reference's Check. -/
import Derived.Test.YtldhnbohpnkcpaaAr
namespace Go.Proofs.Ytldhnbohpnkcpaa
open Go.RowKit

set_option maxHeartbeats 800000 in
theorem rcheck_bad (f : Fr) (w : World) (hm : ¬ (0 ≤ f.id ∧ f.id ≤ f.most ∧ 0 ≤ f.len ∧ f.len ≤ 8)) :
    Calls Try.prog 26 #[f.val] w fun e w' => e = .returned (.int .i64 14) ∧ Below w.heap.size w w' := by
  have HB := Lib.hid (boxed f w)
  obtain ⟨i, x, r, n, d⟩ := f
  unfold Fr.most at hm
  simp only at hm
  cases x <;> simp only [if_true, Bool.false_eq_true, if_false] at hm
  · by_cases c0 : i < 0
    · clear hm
      go_enter Try.func26, Try.ntmps26
      go_wp2
      go_ret
      exact ⟨rfl, HB.out⟩
    have d0 : decide (i < 0) = false := by simpa using c0
    by_cases c1 : 2047 < i
    · clear hm
      go_enter Try.func26, Try.ntmps26
      go_wp2
      go_ret
      exact ⟨rfl, HB.out⟩
    have d1 : decide (2047 < i) = false := by simpa using c1
    by_cases c2 : n < 0
    · clear hm
      go_enter Try.func26, Try.ntmps26
      go_wp2
      go_ret
      exact ⟨rfl, HB.out⟩
    have d2 : decide (n < 0) = false := by simpa using c2
    by_cases c3 : 8 < n
    · clear hm
      go_enter Try.func26, Try.ntmps26
      go_wp2
      go_ret
      exact ⟨rfl, HB.out⟩
    exact absurd ⟨by omega, by omega, by omega, by omega⟩ hm
  · by_cases c0 : i < 0
    · clear hm
      go_enter Try.func26, Try.ntmps26
      go_wp2
      go_ret
      exact ⟨rfl, HB.out⟩
    have d0 : decide (i < 0) = false := by simpa using c0
    by_cases c1 : 536870911 < i
    · clear hm
      go_enter Try.func26, Try.ntmps26
      go_wp2
      go_ret
      exact ⟨rfl, HB.out⟩
    have d1 : decide (536870911 < i) = false := by simpa using c1
    by_cases c2 : n < 0
    · clear hm
      go_enter Try.func26, Try.ntmps26
      go_wp2
      go_ret
      exact ⟨rfl, HB.out⟩
    have d2 : decide (n < 0) = false := by simpa using c2
    by_cases c3 : 8 < n
    · clear hm
      go_enter Try.func26, Try.ntmps26
      go_wp2
      go_ret
      exact ⟨rfl, HB.out⟩
    exact absurd ⟨by omega, by omega, by omega, by omega⟩ hm

def DataOk (d : Nat → Int) (r : Bool) (n : Int) (j : Nat) : Prop := d j = 0 ∨ (r = false ∧ (j : Int) < n)
theorem rerr_stop {f : Fr} {k : Nat} (hk : k < 8) (hd : f.d k ≠ 0) (h : f.rtr = true ∨ f.len ≤ k) : f.err = 14 := by
  unfold Fr.err
  rw [if_neg]
  intro hm
  obtain ⟨_, _, _, _, h'⟩ := may_parts hm
  rcases h' k hk with h1 | ⟨h1, h2⟩
  · exact hd h1
  · rcases h with h | h
    · rw [h] at h1; cases h1
    · omega
theorem rerr_end {f : Fr} (h0 : 0 ≤ f.id) (h1 : f.id ≤ f.most) (h2 : 0 ≤ f.len) (h3 : f.len ≤ 8) (hd : ∀ j, j < 8 → DataOk f.d f.rtr f.len j) : f.err = 0 := by
  unfold Fr.err
  rw [if_pos (may_of h0 h1 h2 h3 hd)]

set_option maxHeartbeats 1600000 in
theorem rcheck_in (f : Fr) (w : World) (h0 : 0 ≤ f.id) (h1 : f.id ≤ f.most) (h2 : 0 ≤ f.len) (h3 : f.len ≤ 8) :
    Calls Try.prog 26 #[f.val] w fun e w' => e = .returned (.int .i64 f.err) ∧ Below w.heap.size w w' := by
  have HB := Lib.hid (boxed f w)
  have HC := Lib.hid (data_cell f w)
  have HS := fun k => Lib.hid (@rerr_stop f k)
  have HE := Lib.hid (rerr_end h0 h1 h2 h3)
  generalize f.err = e at *
  obtain ⟨i, x, r, n, d⟩ := f
  unfold Fr.most at h1
  simp only at h0 h1 h2 h3 HS HE
  have d0 : decide (i < 0) = false := by simpa using h0
  have d2 : decide (n < 0) = false := by simpa using h2
  have d3 : decide (8 < n) = false := by simpa using h3
  cases x <;> simp only [if_true, Bool.false_eq_true, if_false] at h1
  · have d1 : decide (2047 < i) = false := by simpa using h1
    go_enter Try.func26, Try.ntmps26
    go_wp2
    go_loop [4] (fun i => ∃ k : Nat, k ≤ 8 ∧ i = .int .i64 k ∧ ∀ j, j < k → DataOk d r n j) (fun i => 8 - (intOf i).toNat)
    case atStart => exact ⟨0, Nat.zero_le _, rfl, fun j hj => by omega⟩
    case round =>
      obtain ⟨k, hk, rfl, hz⟩ := hrel
      have HZ := Lib.hid hz
      clear hz
      by_cases hlt : k < 8
      · have hcell := HC.out k hlt
        have hlt' : (k : Int) < 8 := by omega
        cases hd : (d k == 0)
        · have n0 : (d k != 0) = true := by simp [bne, hd]
          have hd' : d k ≠ 0 := by simpa using hd
          have HD := Lib.hid hd'
          clear hd'
          cases r
          · by_cases hkn : n ≤ (k : Int)
            · go_wp2
              go_ret
              exact ⟨ret_int ((HS k).out hlt HD.out (.inr hkn)).symm, HB.out⟩
            · have hkd : decide (n ≤ (k : Int)) = false := by simpa using hkn
              go_wp2
              go_round
              case rel => exact ⟨k + 1, by omega, by go_num, fun j hj => by
                rcases Nat.lt_or_ge j k with h | h
                · exact HZ.out j h
                · rw [show j = k by omega]; exact .inr ⟨rfl, by omega⟩⟩
              case measure => simp [intOf]; omega
          · go_wp2
            go_ret
            exact ⟨ret_int ((HS k).out hlt HD.out (.inl trivial)).symm, HB.out⟩
        · have n0 : (d k != 0) = false := by simp [bne, hd]
          go_wp2
          go_round
          case rel => exact ⟨k + 1, by omega, by go_num, fun j hj => by
            rcases Nat.lt_or_ge j k with h | h
            · exact HZ.out j h
            · rw [show j = k by omega]; exact .inl (by simpa using hd)⟩
          case measure => simp [intOf]; omega
      · go_wp2
        go_ret
        exact ⟨ret_int (HE.out (fun j hj => HZ.out j (by omega))).symm, HB.out⟩
  · have d1 : decide (536870911 < i) = false := by simpa using h1
    go_enter Try.func26, Try.ntmps26
    go_wp2
    go_loop [4] (fun i => ∃ k : Nat, k ≤ 8 ∧ i = .int .i64 k ∧ ∀ j, j < k → DataOk d r n j) (fun i => 8 - (intOf i).toNat)
    case atStart => exact ⟨0, Nat.zero_le _, rfl, fun j hj => by omega⟩
    case round =>
      obtain ⟨k, hk, rfl, hz⟩ := hrel
      have HZ := Lib.hid hz
      clear hz
      by_cases hlt : k < 8
      · have hcell := HC.out k hlt
        have hlt' : (k : Int) < 8 := by omega
        cases hd : (d k == 0)
        · have n0 : (d k != 0) = true := by simp [bne, hd]
          have hd' : d k ≠ 0 := by simpa using hd
          have HD := Lib.hid hd'
          clear hd'
          cases r
          · by_cases hkn : n ≤ (k : Int)
            · go_wp2
              go_ret
              exact ⟨ret_int ((HS k).out hlt HD.out (.inr hkn)).symm, HB.out⟩
            · have hkd : decide (n ≤ (k : Int)) = false := by simpa using hkn
              go_wp2
              go_round
              case rel => exact ⟨k + 1, by omega, by go_num, fun j hj => by
                rcases Nat.lt_or_ge j k with h | h
                · exact HZ.out j h
                · rw [show j = k by omega]; exact .inr ⟨rfl, by omega⟩⟩
              case measure => simp [intOf]; omega
          · go_wp2
            go_ret
            exact ⟨ret_int ((HS k).out hlt HD.out (.inl trivial)).symm, HB.out⟩
        · have n0 : (d k != 0) = false := by simp [bne, hd]
          go_wp2
          go_round
          case rel => exact ⟨k + 1, by omega, by go_num, fun j hj => by
            rcases Nat.lt_or_ge j k with h | h
            · exact HZ.out j h
            · rw [show j = k by omega]; exact .inl (by simpa using hd)⟩
          case measure => simp [intOf]; omega
      · go_wp2
        go_ret
        exact ⟨ret_int (HE.out (fun j hj => HZ.out j (by omega))).symm, HB.out⟩
theorem rfcheck_any (f : Fr) (w : World) :
    Calls Try.prog 26 #[f.val] w fun e w' => e = .returned (.int .i64 f.err) ∧ Below w.heap.size w w' := by
  rcases Classical.em (0 ≤ f.id ∧ f.id ≤ f.most ∧ 0 ≤ f.len ∧ f.len ≤ 8) with h | h
  · exact rcheck_in f w h.1 h.2.1 h.2.2.1 h.2.2.2
  · rw [err_bad h]; exact rcheck_bad f w h
end Go.Proofs.Ytldhnbohpnkcpaa
