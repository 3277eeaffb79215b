/- The walk of the law ArbWired. -/
import Derived.Test.YtjbbneagikogbaaAW7
import Derived.Test.YtjbbneagikogbaaAV
namespace Go.Proofs.Ytjbbneagikogbaa
open Go.RowKit

set_option maxRecDepth 100000 in
set_option maxHeartbeats 1600000 in
theorem awired_any (A : Option Addr) (n cap : Nat) (zs : List Int) (w : World) (hr : Il w A n zs) :
    Calls Try.prog 3 #[.slice A n cap] w fun e w' => e = .returned (.bool true) ∧ Below w.heap.size w w' := by
  have HR := Lib.hid hr
  clear hr
  rcases Nat.lt_or_ge 100 n with hn | hn
  · have g0 : decide ((100 : Int) < (n : Int)) = true := by simp; omega
    go_enter Try.func3, Try.ntmps3
    go_wp2_with (go_at_call 9; (refine (awake7 _).mono ?_); rintro e w1 ⟨rfl, hb1⟩)
    go_ret
    exact ⟨rfl, hb1⟩
  · have g0 : decide ((100 : Int) < (n : Int)) = false := by simp; omega
    go_enter Try.func3, Try.ntmps3
    go_wp2
    go_loop [3, 4] (fun v i => ∃ k : Nat, k ≤ n ∧ i = .int .i64 k ∧ v = .int .i64 (wir (zs.take k))) (fun _ i => n - (intOf i).toNat)
    case atStart => exact ⟨0, Nat.zero_le _, rfl, rfl⟩
    case round =>
      obtain ⟨k, hk, rfl, rfl⟩ := hrel
      by_cases hlt : k < n
      · obtain ⟨ad, z, rfl, hz, hc⟩ := HR.out.at_ hlt
        obtain ⟨s1, s2⟩ := wir_step hz
        clear hz
        cases h0 : (z == 0)
        · have HS := Lib.hid (s2 (by simpa using h0))
          clear s1 s2
          go_wp2
          go_round
          case rel => exact ⟨k + 1, by omega, by go_num, by rw [HS.out]⟩
          case measure => simp [intOf]; omega
        · have HS := Lib.hid (s1 (by simpa using h0))
          clear s1 s2
          go_wp2
          go_round
          case rel => exact ⟨k + 1, by omega, by go_num, by rw [HS.out]⟩
          case measure => simp [intOf]; omega
      · have HS := Lib.hid (show zs.take k = zs from List.take_of_length_le (by rw [HR.out.1]; omega))
        rw [HS.out]
        generalize hv : wir zs = v
        have HV := Lib.hid hv
        clear hv
        have h1 := beq_self_eq_true v
        go_wp2_with fail
        refine (wired_any A n cap zs _ HR.out (by omega)).mono ?_
        rintro e w1 ⟨rfl, rfl⟩
        rw [HV.out]
        go_wp2_with fail
        refine (wired_any none 0 0 [] _ ⟨rfl, fun h => by omega⟩ (by omega)).mono ?_
        rintro e w1 ⟨rfl, rfl⟩
        rw [show wir [] = 1 from rfl]
        go_wp2_with fail
        refine (awake7 _).mono ?_
        rintro e w2 ⟨rfl, hb2⟩
        go_wp2
        go_ret
        exact ⟨rfl, hb2⟩
end Go.Proofs.Ytjbbneagikogbaa
