/- The contracts of the reference's digits, flag, Arb and Ahead. -/
import Derived.Test.YtldhnbohpnkcpaaRc
namespace Go.Proofs.Ytldhnbohpnkcpaa
open Go.RowKit

def OwnOk (zs : List Int) (w : World) (e : Ending) (w' : World) : Prop :=
  ∃ v, e = .returned v ∧ Own w' w.heap.size v zs ∧ Below w.heap.size w w'
theorem ofB_zero (n : Nat) : ofB n 0 = [] := rfl

set_option maxHeartbeats 800000 in
theorem digits_ok : ∀ (k n : Nat) (w : World), k ≤ 32 → n ≤ 536870911 → Calls Try.prog 42 #[.int .i64 n, .int .i64 k] w (OwnOk (ofB n k) w) := by
  intro k
  induction k with
  | zero =>
    intro n w _ _
    go_enter Try.func42, Try.ntmps42
    go_wp2
    go_ret
    exact ⟨_, rfl, Own.nil _ _, Below.refl _ _⟩
  | succ k ih =>
    intro n w hk hn
    have HI := Lib.hid (ih (n / 2) · (by omega) (by omega))
    have HS := Lib.hid (ofB_snoc n k)
    have hk1 : ((k : Int) + 1 == 0) = false := by simp; omega
    have e1 : ((k : Int) + 1) - 1 = (k : Int) := by omega
    have e2 : (n : Int) / 2 = ((n / 2 : Nat) : Int) := by omega
    have e3 : (n : Int) % 2 = ((n % 2 : Nat) : Int) := by omega
    have hkk : (k : Int) ≤ 32 := by omega
    have hnn : (n : Int) ≤ 536870911 := by omega
    have hl : (ofB (n / 2) k).length ≤ 32 := by rw [ofB_len]; omega
    clear ih
    generalize ofB (n / 2) k = l at *
    generalize n % 2 = b at *
    generalize n / 2 = m at *
    go_enter Try.func42, Try.ntmps42
    go_wp2_with fail
    refine (HI.out _).mono ?_
    rintro e w1 ⟨v1, rfl, ho1, hb1⟩
    have HO := Lib.hid ho1
    have HN := Lib.hid (Arr.new w1 .i64 3 [(b : Int)]).il
    have hsz := hb1.size
    clear ho1
    go_wp2_with (at_builtin; (refine append_ints2 _ rfl (.tmp 11) (.tmp 14) rfl w.heap.size v1 l rfl (HO.out.alloc _) _ 1 1 [(b : Int)] rfl HN.out (by omega) (by simp; omega) ?_); intro v2 w2 ho2 hg2 _; have hb2 := push_lit hb1 hsz HO.out hg2; have HO2 := Lib.hid ho2; clear ho2 hg2)
    go_ret
    exact ⟨_, rfl, by rw [HS.out]; exact HO2.out, hb2⟩

theorem flag_any (b : Bool) (w : World) : Calls Try.prog 43 #[.bool b] w fun e w' => e = .returned (.int .i64 (b.toNat : Int)) ∧ w = w' := by
  cases b <;> (go_enter Try.func43, Try.ntmps43; go_wp2; go_ret; exact ⟨rfl, rfl⟩)
end Go.Proofs.Ytldhnbohpnkcpaa
