/- The contracts of what only looks: bits.Check, the reference's Check, bits.misspelt, ints. -/
import Derived.Test.YtalpbnfebcafgaaGreatRows
import Derived.Test.YtalpbnfebcafgaaGreatMath
import Derived.WalkKit
import Derived.WalkSpells
import Derived.WalkLawsBesides
import Derived.Lib.Hide
import Derived.Deep.QuietTactic
import Derived.BigQuiet
namespace Go.Proofs.YtalpbnfebcafgaaGreat
set_option maxRecDepth 20000
open Go.RowKit

/-- The slice value '.slice A n c' holds the numbers zs. -/
def Il (w : World) (A : Option Addr) (n : Nat) (zs : List Int) : Prop :=
  zs.length = n ∧ (0 < n → ∃ ad, A = some ad ∧ ad.block < w.heap.size ∧ ∀ j, j < n → w.cell? (ad.add j) = some (.int .i64 (zs.getD j 0)))

theorem Il.at_ {w : World} {A : Option Addr} {n k : Nat} {zs : List Int} (h : Il w A n zs) (hk : k < n) :
    ∃ ad z, A = some ad ∧ zs[k]? = some z ∧ w.cell? (ad.add k) = some (.int .i64 z) := by
  obtain ⟨ad, e, _, hc⟩ := h.2 (by omega)
  exact ⟨ad, _, e, getD_some zs k (by rw [h.1]; exact hk), hc k hk⟩
theorem block_of_add (a : Addr) (n : Nat) : (a.add n).block = a.block := by unfold Addr.add; split <;> rfl
theorem Il.below {w w' : World} {A : Option Addr} {n : Nat} {zs : List Int} (h : Il w A n zs) (hb : Below w.heap.size w w') : Il w' A n zs :=
  ⟨h.1, fun hn => by
    obtain ⟨ad, e, hl, hc⟩ := h.2 hn
    exact ⟨ad, e, Nat.lt_of_lt_of_le hl hb.size, fun j hj => (hb.cell (by rw [block_of_add]; exact hl)).trans (hc j hj)⟩⟩

theorem lvl_true {z : Int} (h : (z == 0) = true ∨ (z == 1) = true) : lvl z = true := by unfold lvl; simpa using h
theorem lvl_false {z : Int} (h0 : (z == 0) = false) (h1 : (z == 1) = false) : lvl z = false := by unfold lvl; simp [h0, h1]

theorem ret_int {k : IntKind} {a b : Int} (h : a = b) : Ending.returned (.int k a) = .returned (.int k b) := by rw [h]

set_option maxHeartbeats 400000 in
theorem check_any (A : Option Addr) (n cap : Nat) (zs : List Int) (w : World) (hr : Il w A n zs) (hn : n ≤ 100000) :
    Calls Tryz.prog 60 #[.slice A n cap] w fun e w' => e = .returned (.int .i64 (chk zs)) ∧ w = w' := by
  go_enter Tryz.func60, Tryz.ntmps60
  go_wp2
  go_loop [6] (fun i => ∃ k : Nat, k ≤ n ∧ i = .int .i64 k ∧ k ≤ led lvl zs) (fun i => n - (intOf i).toNat)
  case atStart => exact ⟨0, Nat.zero_le _, rfl, Nat.zero_le _⟩
  case round =>
    obtain ⟨k, hk, rfl, hld⟩ := hrel
    by_cases hlt : k < n
    · obtain ⟨ad, z, rfl, hz, hc⟩ := hr.at_ hlt
      have HR := Lib.hid hr; have HZ := Lib.hid hz
      clear hr hz
      cases h0 : (z == 0)
      · cases h1 : (z == 1)
        · have n0 : (z != 0) = true := by simp [bne, h0]
          have n1 : (z != 1) = true := by simp [bne, h1]
          go_wp2
          go_ret
          exact ⟨ret_int (fst_stop lvl zs k z hld HZ.out (lvl_false h0 h1)).symm, rfl⟩
        · have n0 : (z != 0) = true := by simp [bne, h0]
          have n1 : (z != 1) = false := by simp [bne, h1]
          go_wp2
          go_round
          case rel => exact ⟨k + 1, by omega, by go_num, led_succ lvl zs k z hld HZ.out (lvl_true (.inr h1))⟩
          case measure => simp [intOf]; omega
      · have n0 : (z != 0) = false := by simp [bne, h0]
        go_wp2
        go_round
        case rel => exact ⟨k + 1, by omega, by go_num, led_succ lvl zs k z hld HZ.out (lvl_true (.inl h0))⟩
        case measure => simp [intOf]; omega
    · go_wp2
      go_ret
      exact ⟨ret_int (fst_end lvl zs (by rw [hr.1]; omega)).symm, rfl⟩

theorem byte_some (s : ByteArray) (k : Nat) (h : k < s.size) : s.data.toList[k]? = some s[k] := by
  rw [List.getElem?_eq_getElem (by simpa using h)]; rfl
theorem lvb_true {c : UInt8} (h : ((c.toNat : Int) == 48) = true ∨ ((c.toNat : Int) == 49) = true) : lvb c = true := by
  unfold lvb; simp [← UInt8.toNat_inj] at h ⊢; omega
theorem lvb_false {c : UInt8} (h0 : ((c.toNat : Int) == 48) = false) (h1 : ((c.toNat : Int) == 49) = false) : lvb c = false := by
  unfold lvb; simp [← UInt8.toNat_inj] at h0 h1 ⊢; omega

theorem take_same {xs ys : List Int} {k : Nat} {x y : Int} (h : xs.take k = ys.take k) (ha : xs[k]? = some x) (hb : ys[k]? = some y) (e : x = y) : xs.take (k + 1) = ys.take (k + 1) := by
  rw [List.take_add_one, List.take_add_one, h, ha, hb, e]

theorem ret_bool {a b : Bool} (h : a = b) : Ending.returned (.bool a) = .returned (.bool b) := by rw [h]
theorem beq_far {xs ys : List Int} {k : Nat} {x y : Int} (ha : xs[k]? = some x) (hb : ys[k]? = some y) (e : (x != y) = true) : false = (xs == ys) := by
  symm; rw [beq_eq_false_iff_ne]; rintro rfl; rw [ha] at hb; injection hb with hb; subst hb; simp at e
theorem beq_all {xs ys : List Int} {k n : Nat} (h : xs.take k = ys.take k) (ha : xs.length = n) (hb : ys.length = n) (hk : n ≤ k) : true = (xs == ys) := by
  symm; rw [beq_iff_eq]; rwa [List.take_of_length_le (by omega), List.take_of_length_le (by omega)] at h
theorem beq_len {xs ys : List Int} {m n : Nat} (ha : xs.length = n) (hb : ys.length = m) (h : ¬ n = m) : false = (xs == ys) := by
  symm; rw [beq_eq_false_iff_ne]; rintro rfl; omega

def QuietBool (b : Bool) (w : World) (e : Ending) (w' : World) : Prop := e = .returned (.bool b) ∧ ∃ q, w' = w.drewN q

end Go.Proofs.YtalpbnfebcafgaaGreat
