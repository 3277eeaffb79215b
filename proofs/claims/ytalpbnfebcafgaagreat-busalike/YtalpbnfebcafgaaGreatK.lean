/- The contracts of crc15: the closure that goes on, Step, Sum, Bits, slices.Equal, Right. -/
import Derived.Test.YtalpbnfebcafgaaGreatCMath
namespace Go.Proofs.YtalpbnfebcafgaaGreat
set_option maxRecDepth 20000
open Go.RowKit

theorem i64_xor_nat (a b : Nat) (ha : a < 9223372036854775808) (hb : b < 9223372036854775808) : bits .xor .i64 (a : Int) (b : Int) = ((a ^^^ b : Nat) : Int) := by
  have hx : a ^^^ b < 2 ^ 63 := Nat.xor_lt_two_pow (by omega) (by omega)
  show IntKind.i64.wrap ((BitVec.ofInt 64 (a : Int) ^^^ BitVec.ofInt 64 (b : Int)).toNat : Int) = _
  rw [BitVec.toNat_xor, ofInt_u64 a (by omega), ofInt_u64 b (by omega), IntKind.wrap_i64]
  omega
theorem stp_eq {s : Nat} {z : Int} (h : ((s / 16384 : Nat) : Int) = z) : stp s z = 2 * s % 32768 := by unfold stp; rw [if_pos h, Nat.xor_zero]
theorem stp_ne {s : Nat} {z : Int} (h : ¬ ((s / 16384 : Nat) : Int) = z) : stp s z = 2 * s % 32768 ^^^ 17817 := by unfold stp; rw [if_neg h]

theorem below_put (g : Nat) (w : World) (v : Value) : Below g w (w.setCell ⟨g, 0, none⟩ v) := (Below.refl g w).setCell (p := ⟨g, 0, none⟩) (Nat.le_refl _) v

set_option maxHeartbeats 400000 in
theorem next_any (s : Nat) (z : Int) (g : Nat) (w : World) (hs : s < 32768) (ha : Arr .i64 3 w g [(s : Int)]) :
    Calls Tryz.prog 82 #[.int .i64 z, .pointer (some ⟨g, 0, none⟩)] w fun e w' => e = .returned (.int .i64 (stp s z : Nat)) ∧ Arr .i64 3 w' g [((stp s z : Nat) : Int)] ∧ Below g w w' := by
  have hc := ha.cell (i := 0) (by simp)
  have hf := ha.frozen 0
  have HA := Lib.hid ha
  clear ha
  by_cases h : ((s / 16384 : Nat) : Int) = z
  · have e : (s : Int) * 2 % 32768 = ((stp s z : Nat) : Int) := by rw [stp_eq h]; omega
    go_enter Tryz.func82, Tryz.ntmps82
    go_wp2
    go_ret
    rw [e]
    exact ⟨rfl, HA.out.put 0 _, below_put _ _ _⟩
  · have e : bits .xor .i64 ((s : Int) * 2 % 32768) 17817 = ((stp s z : Nat) : Int) := by
      rw [stp_ne h, show (s : Int) * 2 % 32768 = ((2 * s % 32768 : Nat) : Int) by omega, show (17817 : Int) = ((17817 : Nat) : Int) from rfl, i64_xor_nat _ _ (by omega) (by omega)]
    go_enter Tryz.func82, Tryz.ntmps82
    go_wp2
    go_ret
    exact ⟨rfl, (HA.out.put 0 _).put 0 _, (below_put _ _ _).trans (below_put _ _ _)⟩

theorem goOn_any (s : Int) (w : World) :
    Calls Tryz.prog 71 #[.int .i64 s] w fun e w' => e = .returned (.func (.func 82) #[] #[.pointer (some ⟨w.heap.size, 0, none⟩)]) ∧ w.alloc (.cells #[.int .i64 s] 3) = w' := by
  have hmf : ∀ (fn : Fn) (first cap : Array Value) (w : World), (Instr.makeFunc fn first cap).run Tryz.prog w = .ok (.func fn first cap) w := fun _ _ _ _ => rfl
  go_enter Tryz.func71, Tryz.ntmps71
  go_wp2
  go_ret
  exact ⟨rfl, rfl⟩

theorem isSum_any (n : Int) (w : World) :
    Calls Tryz.prog 73 #[.int .i64 n] w fun e w' => e = .returned (.bool (decide (0 ≤ n ∧ n < 32768))) ∧ w = w' := by
  by_cases h1 : 0 ≤ n
  · by_cases h2 : n < 32768
    · go_enter Tryz.func73, Tryz.ntmps73
      go_wp2
      go_ret
      exact ⟨ret_bool (by simp; omega), rfl⟩
    · go_enter Tryz.func73, Tryz.ntmps73
      go_wp2
      go_ret
      exact ⟨ret_bool (by simp; omega), rfl⟩
  · go_enter Tryz.func73, Tryz.ntmps73
    go_wp2
    go_ret
    exact ⟨ret_bool (by simp; omega), rfl⟩

/-- The second new block. -/
theorem arr_next (w : World) (o : Obj) (zs : List Int) : Arr .i64 3 ((w.alloc o).alloc (.cells (zs.map (Value.int .i64)).toArray 3)) (w.heap.size + 1) zs := by
  have h := Arr.new (w.alloc o) .i64 3 zs
  rwa [show (w.alloc o).heap.size = w.heap.size + 1 by simp] at h
theorem chk_one (z : Int) : chk [z] = if z = 0 ∨ z = 1 then -1 else 0 := by
  unfold chk fst led
  by_cases h : z = 0 ∨ z = 1
  · have : lvl z = true := by unfold lvl; simpa using h
    simp [h, this]
  · have : lvl z = false := by unfold lvl; simp; omega
    simp [h, this]

set_option maxHeartbeats 400000 in
theorem sum_bad (A : Option Addr) (n cap : Nat) (zs : List Int) (w : World) (hr : Il w A n zs) (hn : n ≤ 100000) (hl : 0 ≤ chk zs) :
    Calls Tryz.prog 55 #[.slice A n cap] w fun e w' => e = .returned (.tuple #[.int .i64 0, .int .i64 10]) ∧ w = w' := by
  go_enter Tryz.func55, Tryz.ntmps55
  go_wp2_with (go_at_call 60; (with_reducible refine (check_any _ _ _ _ _ hr (by omega)).mono ?_); rintro e w' ⟨rfl, rfl⟩)
  go_ret2
  exact ⟨rfl, rfl⟩

set_option maxHeartbeats 400000 in
theorem sum_ok (A : Option Addr) (n cap : Nat) (zs : List Int) (w : World) (hr : Il w A n zs) (hn : n ≤ 100000) (hl : ∀ z ∈ zs, lvl z = true) :
    Calls Tryz.prog 55 #[.slice A n cap] w fun e w' => e = .returned (.tuple #[.int .i64 (csum zs : Nat), .int .i64 0]) ∧ Below w.heap.size w w' := by
  have HL := Lib.hid (show chk zs = -1 from fst_of_all lvl zs hl)
  have HR := Lib.hid hr
  have HN := Lib.hid (Arr.new w .i64 3 [((0 : Nat) : Int)])
  clear hl hr
  go_enter Tryz.func55, Tryz.ntmps55
  go_wp2_with fail
  refine (check_any _ _ _ _ _ HR.out (by omega)).mono ?_
  rintro e w' ⟨rfl, rfl⟩
  rw [HL.out]
  go_wp2_with fail
  refine (goOn_any _ _).mono ?_
  rintro e w' ⟨rfl, rfl⟩
  go_wp2
  go_loopw [4, 13] (fun v i wr => ∃ k : Nat, k ≤ n ∧ i = .int .i64 k ∧ v = .int .i64 (csum (zs.take k) : Nat) ∧ Arr .i64 3 wr w.heap.size [((csum (zs.take k) : Nat) : Int)] ∧ Below w.heap.size w wr) (fun _ i _ => n - (intOf i).toNat)
  case atStart => exact ⟨0, Nat.zero_le _, rfl, rfl, HN.out, (Below.refl _ _).alloc (Nat.le_refl _) _⟩
  case round =>
    obtain ⟨k, hk, rfl, rfl, ha, hbel⟩ := hrel
    by_cases hlt : k < n
    · obtain ⟨ad, z, rfl, hz, hc⟩ := (HR.out.below hbel).at_ hlt
      have HS := Lib.hid (csum_step zs k z hz)
      have HA := Lib.hid ha
      have hlt' := csum_lt (zs.take k)
      clear hz ha
      generalize csum (zs.take k) = s at *
      go_wp2_with fail
      refine (next_any s z _ _ hlt' HA.out).mono ?_
      rintro e w3 ⟨rfl, ha3, hb3⟩
      go_wp2
      go_roundw
      case rel => exact ⟨k + 1, by omega, by go_num, by rw [HS.out], by rw [HS.out]; exact ha3, hbel.trans hb3⟩
      case measure => simp [intOf]; omega
    · have HS := Lib.hid (show zs.take k = zs from List.take_of_length_le (by rw [HR.out.1]; omega))
      go_wp2
      go_ret2
      exact ⟨by rw [HS.out]; rfl, hbel⟩

set_option maxHeartbeats 400000 in
theorem bits_bad (n : Int) (w : World) (h : ¬ (0 ≤ n ∧ n < 32768)) :
    Calls Tryz.prog 57 #[.int .i64 n] w fun e w' => e = .returned (.tuple #[.slice none 0 0, .int .i64 10]) ∧ w = w' := by
  have hd : decide (0 ≤ n ∧ n < 32768) = false := by simpa using h
  go_enter Tryz.func57, Tryz.ntmps57
  go_wp2_with fail
  refine (isSum_any _ _).mono ?_
  rintro e w' ⟨rfl, rfl⟩
  rw [hd]
  go_wp2
  go_ret2
  exact ⟨rfl, rfl⟩

set_option maxHeartbeats 400000 in
theorem bits_ok (n : Nat) (w : World) (h : n < 32768) :
    Calls Tryz.prog 57 #[.int .i64 n] w (SlOk (ofB n 15) w) := by
  have hd : decide (0 ≤ (n : Int) ∧ (n : Int) < 32768) = true := by simp; omega
  have hw : IntKind.u64.wrap (n : Int) = (n : Int) := by rw [IntKind.wrap_u64]; omega
  go_enter Tryz.func57, Tryz.ntmps57
  go_wp2_with fail
  refine (isSum_any _ _).mono ?_
  rintro e w' ⟨rfl, rfl⟩
  rw [hd]
  go_wp2_with fail
  refine (of_ok n 15 _ (by omega) (by omega)).mono ?_
  rintro e w1 ⟨A1, cap1, rfl, hi1, hb1⟩
  go_wp2
  go_ret2
  exact ⟨A1, cap1, rfl, hi1, hb1⟩
end Go.Proofs.YtalpbnfebcafgaaGreat
