/- The contracts of the reference of layer 2: Of, Value, Poly, Behind, Sum. -/
import Derived.Test.YtafcabnjkkbfiaaK2
import Derived.Test.YtafcabnjkkbfiaaW2
namespace Go.Proofs.Ytafcabnjkkbfiaa
open Go.RowKit

theorem halfI (s k : Nat) : ((s / 2 ^ k : Nat) : Int) / 2 = ((s / 2 ^ (k + 1) : Nat) : Int) := by
  rw [Nat.pow_succ, ← Nat.div_div_eq_div_mul]; omega
theorem bitI (s k : Nat) : ((s / 2 ^ k : Nat) : Int) % 2 = bit s k := by unfold bit; omega

set_option maxHeartbeats 400000 in
theorem rof2_ok (s : Nat) (w : World) (hs : s < 32768) :
    Calls Try.prog 13 #[.int .i64 s] w (SlOne (ofB s 15) w) := by
  have hmk : ∀ w : World, (Instr.makeSlice 25 (.int .i64 15) (.int .i64 15)).run Try.prog w = .ok (.slice (some ⟨w.heap.size, 0, none⟩) 15 15) (w.alloc (.cells ((List.replicate 15 0).map (Value.int .i64)).toArray 3)) := make22 15 (by omega)
  have HB := Lib.hid (Arr.new w .i64 3 (List.replicate 15 0))
  generalize ((List.replicate 15 0).map (Value.int .i64)).toArray = cs at hmk HB
  go_enter Try.func13, Try.ntmps13
  go_wp2
  go_loopw [0, 4] (fun m i wr => ∃ (k : Nat) (zs : List Int), k ≤ 15 ∧ i = .int .i64 (14 - (k : Int)) ∧ m = .int .i64 ((s / 2 ^ k : Nat) : Int) ∧ Arr .i64 3 wr w.heap.size zs ∧ Fill s 15 k zs ∧ Below w.heap.size w wr) (fun _ i _ => (intOf i + 1).toNat)
  case atStart => exact ⟨0, List.replicate 15 0, Nat.zero_le _, rfl, by simp, HB.out, ⟨by simp, fun j h1 h2 => by omega⟩, (Below.refl _ _).alloc (Nat.le_refl _) _⟩
  case round =>
    obtain ⟨k, zs, hk, rfl, rfl, ha, hf, hbel⟩ := hrel
    by_cases hlt : k < 15
    · have hc := ha.cell (i := 14 - k) (by have := hf.1; omega)
      have hz := ha.frozen (14 - k)
      have HA := Lib.hid ha; have HF := Lib.hid hf
      have hsm : s / 2 ^ k < 32768 := Nat.lt_of_le_of_lt (Nat.div_le_self _ _) hs
      have HH := Lib.hid (halfI s k); have HT := Lib.hid (bitI s k)
      clear ha hf
      generalize zs.getD (14 - k) 0 = x at hc
      generalize hm : s / 2 ^ k = m at *
      obtain ⟨i, hi⟩ : ∃ i : Nat, i = 14 - k := ⟨_, rfl⟩
      rw [← hi] at hc hz
      rw [show (14 : Int) - (k : Int) = (i : Int) by omega]
      have g0 : (0 : Int) ≤ (i : Int) := by omega
      have g1 : (i : Int) < 15 := by omega
      have HI := Lib.hid hi
      clear hi hm
      go_wp2
      go_roundw
      case rel =>
        rw [HT.out, HH.out]
        refine ⟨k + 1, _, by omega, val_int (by have := HI.out; omega), rfl, HA.out.put _ _, ?_, hbel.setCell (Nat.le_refl _) _⟩
        rw [HI.out]; exact HF.out.step hlt
      case measure => simp [intOf]
    · have g0 : decide ((0 : Int) ≤ 14 - (k : Int)) = false := by simp; omega
      go_wp2
      go_ret
      have e := hf.all (show 15 ≤ k by omega)
      subst e
      have hi := ha.il
      refine ⟨some ⟨w.heap.size, 0, none⟩, 15, ?_, hi, hbel⟩
      rw [ofB_len]; rfl

set_option maxHeartbeats 400000 in
theorem rvalue2_ok (A : Option Addr) (n cap : Nat) (zs : List Int) (w : World) (hr : Il w A n zs) (hn : n ≤ 60) (hl : ∀ z ∈ zs, lvl z = true) :
    Calls Try.prog 14 #[.slice A n cap] w fun e w' => e = .returned (.int .i64 (val zs : Nat)) ∧ w = w' := by
  have HA := Lib.hid hl
  clear hl
  go_enter Try.func14, Try.ntmps14
  go_wp2
  go_loop [3, 4] (fun v i => ∃ k : Nat, k ≤ n ∧ i = .int .i64 k ∧ v = .int .i64 (val (zs.take k) : Nat)) (fun _ i => n - (intOf i).toNat)
  case atStart => exact ⟨0, Nat.zero_le _, rfl, rfl⟩
  case round =>
    obtain ⟨k, hk, rfl, rfl⟩ := hrel
    by_cases hlt : k < n
    · obtain ⟨ad, z, rfl, hz, hc⟩ := hr.at_ hlt
      have HR := Lib.hid hr; have HZ := Lib.hid (val_step zs k z hz)
      have hz01 := all_at HA.out hz
      have hv : val (zs.take k) < 1152921504606846976 := by
        have h1 := val_lt (zs.take k) (all_take HA.out k)
        have h2 : 2 ^ (zs.take k).length ≤ 2 ^ 60 := Nat.pow_le_pow_right (by omega) (by rw [List.length_take]; omega)
        omega
      clear hr hz
      generalize val (zs.take k) = v at *
      have hz0 : 0 ≤ z := by omega
      have hz1 : z ≤ 1 := by omega
      have HZ01 := Lib.hid hz01
      clear hz01
      go_wp2
      go_round
      case rel => exact ⟨k + 1, by omega, by go_num, val_int (by rw [HZ.out]; omega)⟩
      case measure => simp [intOf]; omega
    · go_wp2
      go_ret
      exact ⟨ret_int (by rw [show zs.take k = zs from List.take_of_length_le (by rw [hr.1]; omega)]), rfl⟩

theorem poly_ok (w : World) : Calls Try.prog 24 #[] w (fun e w' => e = .returned (.slice (some ⟨w.heap.size, 0, none⟩) 15 15) ∧ Il w' (some ⟨w.heap.size, 0, none⟩) 15 poly ∧ Below w.heap.size w w') := by
  have HB := Lib.hid (Arr.new w .i64 3 poly)
  go_enter Try.func24, Try.ntmps24
  go_wp2
  go_ret
  exact ⟨rfl, HB.out.il, (Below.refl _ _).alloc (Nat.le_refl _) _⟩
end Go.Proofs.Ytafcabnjkkbfiaa
