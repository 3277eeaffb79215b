/- The reference of layer 4: Value, digits, Sum, Bits, All. -/
import Derived.Test.YtclinogamfpooaaLb4
import Derived.Test.YtclinogamfpooaaK4
namespace Go.Proofs.Ytclinogamfpooaa
open Go.RowKit

set_option maxHeartbeats 400000 in
theorem rv4_ok (A : Option Addr) (n cap : Nat) (zs : List Int) (w : World) (hr : Il w A n zs) (hn : n ≤ 32) (hl : ∀ z ∈ zs, lvl z = true) :
    Calls Try.prog 42 #[.slice A n cap] w fun e w' => e = .returned (.int .i64 (val zs : Nat)) ∧ w = w' := by
  have HA := Lib.hid hl
  clear hl
  go_enter Try.func42, Try.ntmps42
  go_wp2
  go_loop [3, 4] (fun v i => ∃ k : Nat, k ≤ n ∧ i = .int .i64 k ∧ v = .int .i64 (val (zs.take k) : Nat)) (fun _ i => n - (intOf i).toNat)
  case atStart => exact ⟨0, Nat.zero_le _, rfl, rfl⟩
  case round =>
    obtain ⟨k, hk, rfl, rfl⟩ := hrel
    by_cases hlt : k < n
    · obtain ⟨ad, z, rfl, hz, hc⟩ := hr.at_ hlt
      have hz01 := all_at HA.out hz
      have hv := val_32 (all_take HA.out k) (by rw [List.length_take]; omega)
      have HS := Lib.hid (val_step zs k z hz)
      have HR := Lib.hid hr
      clear hr hz
      generalize val (zs.take k) = a at *
      have z1 : 0 ≤ z := by omega
      have z2 : z ≤ 1 := by omega
      have HZ := Lib.hid (show 2 * (a : Int) + z = ((2 * a + z.toNat : Nat) : Int) by omega)
      clear hz01
      go_wp2
      go_round
      case rel => exact ⟨k + 1, by omega, by go_num, val_int (by rw [HS.out]; exact HZ.out)⟩
      case measure => simp [intOf]; omega
    · go_wp2
      go_ret
      exact ⟨ret_int (by rw [show zs.take k = zs from List.take_of_length_le (by rw [hr.1]; omega)]), rfl⟩

set_option maxHeartbeats 800000 in
theorem rdig_ok : ∀ (k n : Nat) (w : World), k ≤ 32 → n ≤ 536870911 → Calls Try.prog 35 #[.int .i64 n, .int .i64 k] w (OwnOk (ofB n k) w) := by
  intro k
  induction k with
  | zero =>
    intro n w _ _
    go_enter Try.func35, Try.ntmps35
    go_wp2
    go_ret
    exact ⟨_, rfl, Own.nil _ _, Below.refl _ _⟩
  | succ k ih =>
    intro n w hk hn
    have HI := Lib.hid (ih (n / 2) · (by omega) (by omega))
    have HS := Lib.hid (ofB_snoc n k)
    have hk1 : ((k : Int) + 1 == 0) = false := by simp; omega
    have e1 : ((k : Int) + 1) - 1 = (k : Int) := by omega
    have e2 : (n : Int) / 2 = ((n / 2 : Nat) : Int) := by omega
    have e3 : (n : Int) % 2 = ((n % 2 : Nat) : Int) := by omega
    have hkk : (k : Int) ≤ 32 := by omega
    have hnn : (n : Int) ≤ 536870911 := by omega
    have hl : (ofB (n / 2) k).length ≤ 32 := by rw [ofB_len]; omega
    clear ih
    generalize ofB (n / 2) k = l at *
    generalize n % 2 = b at *
    generalize n / 2 = m at *
    go_enter Try.func35, Try.ntmps35
    go_wp2_with fail
    refine (HI.out _).mono ?_
    rintro e w1 ⟨v1, rfl, ho1, hb1⟩
    have HO := Lib.hid ho1
    have HN := Lib.hid (Arr.new w1 .i64 3 [(b : Int)]).il
    have hsz := hb1.size
    clear ho1
    go_wp2_with (at_builtin; (refine append_ints2 _ rfl (.tmp 11) (.tmp 14) rfl w.heap.size v1 l rfl (HO.out.alloc _) _ 1 1 [(b : Int)] rfl HN.out (by omega) (by simp; omega) ?_); intro v2 w2 ho2 hg2 _; have hb2 := push_lit hb1 hsz HO.out hg2; have HO2 := Lib.hid ho2; clear ho2 hg2)
    go_ret
    exact ⟨_, rfl, by rw [HS.out]; exact HO2.out, hb2⟩

theorem rs4_ok (A : Option Addr) (n cap : Nat) (zs : List Int) (w : World) (hr : Il w A n zs) (hn : n ≤ 100000) (hl : ∀ z ∈ zs, lvl z = true) :
    Calls Try.prog 25 #[.slice A n cap] w fun e w' => ∃ B c, e = .returned (.slice B 15 c) ∧ Il w' B 15 (ofB (csum zs) 15) ∧ Below w.heap.size w w' := by
  have HR := Lib.hid hr; have HL := Lib.hid hl
  clear hr hl
  go_enter Try.func25, Try.ntmps25
  go_wp2_with fail
  refine (rsum2_ok A n cap zs _ HR.out hn HL.out).mono ?_
  rintro e w1 ⟨B, c, rfl, hi, hb⟩
  rw [ofB_len] at hi ⊢
  have HI := Lib.hid hi
  clear hi
  go_wp2
  go_ret
  exact ⟨B, c, rfl, HI.out, hb⟩
end Go.Proofs.Ytclinogamfpooaa
