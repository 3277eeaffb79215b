/- Plain mathematics of layer 1: levels, their first fault, their number, their bits, their runs. It imports nothing of the program. -/
import Derived.Test.YtffhhegpkejdgaaRows
import Derived.WalkKit
import Derived.WalkSpells
import Derived.WalkLawsBesides
import Derived.Lib.Hide
import Derived.Deep.QuietTactic
import Derived.BigQuiet
import Derived.Laws.BitsAllLaws
import Derived.Laws.MakeOwn
import Derived.Laws.OwnMore
import Derived.Laws.Rows
import Derived.Deep.Draws
import Derived.OwnWalk
import Derived.Laws.AppendOwn
import Derived.Laws.BytesArg
import Derived.Laws.Concat
namespace Go.Proofs.Ytffhhegpkejdgaa

section
variable {α : Type} (p : α → Bool)
/-- How many stand ahead of the first one that does not meet p. -/
def led (l : List α) : Nat := (l.takeWhile p).length
/-- The place of the first one that does not meet p; -1: all do. -/
def fst (l : List α) : Int := if led p l < l.length then (led p l : Int) else -1

theorem led_le (l : List α) : led p l ≤ l.length := by
  unfold led; exact (List.takeWhile_prefix p).length_le
theorem led_cons (z : α) (l : List α) : led p (z :: l) = if p z then led p l + 1 else 0 := by
  unfold led; by_cases h : p z <;> simp [h]
theorem led_succ : ∀ (l : List α) (k : Nat) (z : α), k ≤ led p l → l[k]? = some z → p z = true → k + 1 ≤ led p l := by
  intro l
  induction l with
  | nil => intro k z _ h; simp at h
  | cons y l ih =>
    intro k z hk hl hv
    rw [led_cons] at hk ⊢
    cases k with
    | zero => simp at hl; subst hl; simp [hv]
    | succ k =>
      by_cases h : p y
      · simp only [h, if_true] at hk ⊢
        have := ih k z (by omega) (by simpa using hl) hv
        omega
      · simp [h] at hk
theorem led_stop : ∀ (l : List α) (k : Nat) (z : α), k ≤ led p l → l[k]? = some z → p z = false → led p l = k := by
  intro l
  induction l with
  | nil => intro k z _ h; simp at h
  | cons y l ih =>
    intro k z hk hl hv
    rw [led_cons] at hk ⊢
    cases k with
    | zero => simp at hl; subst hl; simp [hv]
    | succ k =>
      by_cases h : p y
      · simp only [h, if_true] at hk ⊢
        rw [ih k z (by omega) (by simpa using hl) hv]
      · simp [h] at hk
theorem led_all : ∀ (l : List α), l.length ≤ led p l → ∀ z ∈ l, p z = true := by
  intro l
  induction l with
  | nil => intro _ z h; cases h
  | cons y l ih =>
    intro hl z hz
    rw [led_cons] at hl
    by_cases h : p y
    · simp [h] at hl
      cases hz with
      | head => exact h
      | tail _ hz => exact ih hl z hz
    · simp [h] at hl
theorem led_of_all : ∀ (l : List α), (∀ z ∈ l, p z = true) → led p l = l.length := by
  intro l
  induction l with
  | nil => intro _; rfl
  | cons y l ih =>
    intro h
    rw [led_cons, if_pos (h y (by simp)), ih (fun z hz => h z (by simp [hz]))]; rfl
theorem fst_stop (l : List α) (k : Nat) (z : α) (h : k ≤ led p l) (hl : l[k]? = some z) (hv : p z = false) : fst p l = k := by
  have e := led_stop p l k z h hl hv
  have hk : k < l.length := by
    rcases Nat.lt_or_ge k l.length with h | h
    · exact h
    · rw [List.getElem?_eq_none h] at hl; cases hl
  unfold fst; rw [if_pos (by omega), e]
theorem fst_end (l : List α) (h : l.length ≤ led p l) : fst p l = -1 := by
  unfold fst; rw [if_neg (by omega)]
theorem fst_of_all (l : List α) (h : ∀ z ∈ l, p z = true) : fst p l = -1 := fst_end p l (by rw [led_of_all p l h]; exact Nat.le_refl _)
theorem fst_neg (l : List α) (h : fst p l < 0) : ∀ z ∈ l, p z = true := by
  apply led_all
  unfold fst at h; split at h <;> omega
theorem fst_range (l : List α) : -1 ≤ fst p l ∧ fst p l ≤ l.length ∧ (l.length = 0 → fst p l = -1) := by
  have := led_le p l
  unfold fst; split <;> omega
theorem fst_nonneg (l : List α) (h : 0 ≤ fst p l) : ∃ z, z ∈ l ∧ p z = false := by
  rcases Classical.em (∀ z ∈ l, p z = true) with h' | h'
  · rw [fst_of_all p l h'] at h; omega
  · rcases Classical.em (∃ z, z ∈ l ∧ p z = false) with h2 | h2
    · exact h2
    · exact absurd (fun z hz => by
        cases hp : p z with
        | true => rfl
        | false => exact absurd ⟨z, hz, hp⟩ h2) h'
end

def lvl (z : Int) : Bool := z == 0 || z == 1
def chk (zs : List Int) : Int := fst lvl zs
def lvb (c : UInt8) : Bool := c == 48 || c == 49
def mis (bs : List UInt8) : Int := fst lvb bs
theorem lvl_01 {z : Int} (h : lvl z = true) : z = 0 ∨ z = 1 := by
  unfold lvl at h; simpa using h
theorem lvb_01 {c : UInt8} (h : lvb c = true) : c = 48 ∨ c = 49 := by
  unfold lvb at h; simpa using h
theorem getD_some (zs : List Int) (k : Nat) (h : k < zs.length) : zs[k]? = some (zs.getD k 0) := by simp [h]

/-- The number of levels, the greatest one first. -/
def val (zs : List Int) : Nat := zs.foldl (fun a z => 2 * a + z.toNat) 0
theorem val_snoc (zs : List Int) (z : Int) : val (zs ++ [z]) = 2 * val zs + z.toNat := by simp [val]
theorem val_step (zs : List Int) (k : Nat) (z : Int) (h : zs[k]? = some z) : val (zs.take (k + 1)) = 2 * val (zs.take k) + z.toNat := by
  rw [List.take_add_one, h]; exact val_snoc _ _
theorem val_lt_rev : ∀ l : List Int, (∀ z ∈ l, lvl z = true) → val l.reverse < 2 ^ l.length := by
  intro l
  induction l with
  | nil => intro _; simp [val]
  | cons z l ih =>
    intro h
    have h1 := ih (fun y hy => h y (by simp [hy]))
    have h2 := lvl_01 (h z (by simp))
    rw [List.reverse_cons, val_snoc, List.length_cons, Nat.pow_succ]
    omega
theorem val_lt (zs : List Int) (h : ∀ z ∈ zs, lvl z = true) : val zs < 2 ^ zs.length := by
  have := val_lt_rev zs.reverse (fun z hz => h z (by simpa using hz))
  simpa using this
theorem val_take_lt (zs : List Int) (h : ∀ z ∈ zs, lvl z = true) (k : Nat) (hk : k ≤ 63) : val (zs.take k) < 9223372036854775808 := by
  have h1 := val_lt (zs.take k) (fun z hz => h z (List.mem_of_mem_take hz))
  have h2 : 2 ^ (zs.take k).length ≤ 2 ^ 63 := Nat.pow_le_pow_right (by omega) (by rw [List.length_take]; omega)
  omega

/-- Go's '(x%m + m) % m'. -/
theorem mod_in (x : Int) (m : Nat) (hm : 0 < m) : ∃ k : Nat, k < m ∧ ((x.tmod m + m).tmod m) = (k : Int) ∧ (x.tmod m + m) % m = (k : Int) ∧ -(m : Int) < x.tmod m ∧ x.tmod m < m := by
  have h1 : -(m : Int) < x.tmod m := by
    have := Int.lt_tmod_of_pos x (show (0 : Int) < m by omega)
    omega
  have h2 : x.tmod m < m := Int.tmod_lt_of_pos x (by omega)
  have h3 : 0 ≤ x.tmod m + m := by omega
  refine ⟨((x.tmod m + m) % m).toNat, ?_, ?_, ?_, h1, h2⟩
  · have := Int.emod_lt_of_pos (x.tmod m + m) (show (0 : Int) < m by omega)
    have := Int.emod_nonneg (x.tmod m + m) (show (m : Int) ≠ 0 by omega)
    omega
  · rw [Int.tmod_eq_emod_of_nonneg h3]
    have := Int.emod_nonneg (x.tmod m + m) (show (m : Int) ≠ 0 by omega)
    omega
  · have := Int.emod_nonneg (x.tmod m + m) (show (m : Int) ≠ 0 by omega)
    omega
end Go.Proofs.Ytffhhegpkejdgaa

/- The contracts of what only looks: bits.Check, the reference's Check, bits.misspelt, ints. -/
namespace Go.Proofs.Ytffhhegpkejdgaa
open Go.RowKit

/-- The slice value '.slice A n c' holds the numbers zs. -/
def Il (w : World) (A : Option Addr) (n : Nat) (zs : List Int) : Prop :=
  zs.length = n ∧ (0 < n → ∃ ad, A = some ad ∧ ad.block < w.heap.size ∧ ∀ j, j < n → w.cell? (ad.add j) = some (.int .i64 (zs.getD j 0)))

theorem Il.at_ {w : World} {A : Option Addr} {n k : Nat} {zs : List Int} (h : Il w A n zs) (hk : k < n) :
    ∃ ad z, A = some ad ∧ zs[k]? = some z ∧ w.cell? (ad.add k) = some (.int .i64 z) := by
  obtain ⟨ad, e, _, hc⟩ := h.2 (by omega)
  exact ⟨ad, _, e, getD_some zs k (by rw [h.1]; exact hk), hc k hk⟩
theorem block_of_add (a : Addr) (n : Nat) : (a.add n).block = a.block := by unfold Addr.add; split <;> rfl
theorem Il.below {w w' : World} {A : Option Addr} {n : Nat} {zs : List Int} (h : Il w A n zs) (hb : Below w.heap.size w w') : Il w' A n zs :=
  ⟨h.1, fun hn => by
    obtain ⟨ad, e, hl, hc⟩ := h.2 hn
    exact ⟨ad, e, Nat.lt_of_lt_of_le hl hb.size, fun j hj => (hb.cell (by rw [block_of_add]; exact hl)).trans (hc j hj)⟩⟩

theorem lvl_true {z : Int} (h : (z == 0) = true ∨ (z == 1) = true) : lvl z = true := by unfold lvl; simpa using h
theorem lvl_false {z : Int} (h0 : (z == 0) = false) (h1 : (z == 1) = false) : lvl z = false := by unfold lvl; simp [h0, h1]

theorem ret_int {k : IntKind} {a b : Int} (h : a = b) : Ending.returned (.int k a) = .returned (.int k b) := by rw [h]

set_option maxHeartbeats 400000 in
theorem check_any (A : Option Addr) (n cap : Nat) (zs : List Int) (w : World) (hr : Il w A n zs) (hn : n ≤ 100000) :
    Calls Try.prog 41 #[.slice A n cap] w fun e w' => e = .returned (.int .i64 (chk zs)) ∧ w = w' := by
  go_enter Try.func41, Try.ntmps41
  go_wp2
  go_loop [6] (fun i => ∃ k : Nat, k ≤ n ∧ i = .int .i64 k ∧ k ≤ led lvl zs) (fun i => n - (intOf i).toNat)
  case atStart => exact ⟨0, Nat.zero_le _, rfl, Nat.zero_le _⟩
  case round =>
    obtain ⟨k, hk, rfl, hld⟩ := hrel
    by_cases hlt : k < n
    · obtain ⟨ad, z, rfl, hz, hc⟩ := hr.at_ hlt
      have HR := Lib.hid hr; have HZ := Lib.hid hz
      clear hr hz
      cases h0 : (z == 0)
      · cases h1 : (z == 1)
        · have n0 : (z != 0) = true := by simp [bne, h0]
          have n1 : (z != 1) = true := by simp [bne, h1]
          go_wp2
          go_ret
          exact ⟨ret_int (fst_stop lvl zs k z hld HZ.out (lvl_false h0 h1)).symm, rfl⟩
        · have n0 : (z != 0) = true := by simp [bne, h0]
          have n1 : (z != 1) = false := by simp [bne, h1]
          go_wp2
          go_round
          case rel => exact ⟨k + 1, by omega, by go_num, led_succ lvl zs k z hld HZ.out (lvl_true (.inr h1))⟩
          case measure => simp [intOf]; omega
      · have n0 : (z != 0) = false := by simp [bne, h0]
        go_wp2
        go_round
        case rel => exact ⟨k + 1, by omega, by go_num, led_succ lvl zs k z hld HZ.out (lvl_true (.inl h0))⟩
        case measure => simp [intOf]; omega
    · go_wp2
      go_ret
      exact ⟨ret_int (fst_end lvl zs (by rw [hr.1]; omega)).symm, rfl⟩

set_option maxHeartbeats 400000 in
theorem rcheck_any (A : Option Addr) (n cap : Nat) (zs : List Int) (w : World) (hr : Il w A n zs) (hn : n ≤ 100000) :
    Calls Try.prog 47 #[.slice A n cap] w fun e w' => e = .returned (.int .i64 (chk zs)) ∧ w = w' := by
  go_enter Try.func47, Try.ntmps47
  go_wp2
  go_loop [3] (fun i => ∃ k : Nat, k ≤ n ∧ i = .int .i64 k ∧ k ≤ led lvl zs) (fun i => n - (intOf i).toNat)
  case atStart => exact ⟨0, Nat.zero_le _, rfl, Nat.zero_le _⟩
  case round =>
    obtain ⟨k, hk, rfl, hld⟩ := hrel
    by_cases hlt : k < n
    · obtain ⟨ad, z, rfl, hz, hc⟩ := hr.at_ hlt
      have HR := Lib.hid hr; have HZ := Lib.hid hz
      clear hr hz
      cases h0 : (z == 0)
      · cases h1 : (z == 1)
        · have n0 : (z != 0) = true := by simp [bne, h0]
          have n1 : (z != 1) = true := by simp [bne, h1]
          go_wp2
          go_ret
          exact ⟨ret_int (fst_stop lvl zs k z hld HZ.out (lvl_false h0 h1)).symm, rfl⟩
        · have n0 : (z != 0) = true := by simp [bne, h0]
          have n1 : (z != 1) = false := by simp [bne, h1]
          go_wp2
          go_round
          case rel => exact ⟨k + 1, by omega, by go_num, led_succ lvl zs k z hld HZ.out (lvl_true (.inr h1))⟩
          case measure => simp [intOf]; omega
      · have n0 : (z != 0) = false := by simp [bne, h0]
        go_wp2
        go_round
        case rel => exact ⟨k + 1, by omega, by go_num, led_succ lvl zs k z hld HZ.out (lvl_true (.inl h0))⟩
        case measure => simp [intOf]; omega
    · go_wp2
      go_ret
      exact ⟨ret_int (fst_end lvl zs (by rw [hr.1]; omega)).symm, rfl⟩

theorem byte_some (s : ByteArray) (k : Nat) (h : k < s.size) : s.data.toList[k]? = some s[k] := by
  rw [List.getElem?_eq_getElem (by simpa using h)]; rfl
theorem lvb_true {c : UInt8} (h : ((c.toNat : Int) == 48) = true ∨ ((c.toNat : Int) == 49) = true) : lvb c = true := by
  unfold lvb; simp [← UInt8.toNat_inj] at h ⊢; omega
theorem lvb_false {c : UInt8} (h0 : ((c.toNat : Int) == 48) = false) (h1 : ((c.toNat : Int) == 49) = false) : lvb c = false := by
  unfold lvb; simp [← UInt8.toNat_inj] at h0 h1 ⊢; omega

theorem take_same {xs ys : List Int} {k : Nat} {x y : Int} (h : xs.take k = ys.take k) (ha : xs[k]? = some x) (hb : ys[k]? = some y) (e : x = y) : xs.take (k + 1) = ys.take (k + 1) := by
  rw [List.take_add_one, List.take_add_one, h, ha, hb, e]

theorem ret_bool {a b : Bool} (h : a = b) : Ending.returned (.bool a) = .returned (.bool b) := by rw [h]
theorem beq_far {xs ys : List Int} {k : Nat} {x y : Int} (ha : xs[k]? = some x) (hb : ys[k]? = some y) (e : (x != y) = true) : false = (xs == ys) := by
  symm; rw [beq_eq_false_iff_ne]; rintro rfl; rw [ha] at hb; injection hb with hb; subst hb; simp at e
theorem beq_all {xs ys : List Int} {k n : Nat} (h : xs.take k = ys.take k) (ha : xs.length = n) (hb : ys.length = n) (hk : n ≤ k) : true = (xs == ys) := by
  symm; rw [beq_iff_eq]; rwa [List.take_of_length_le (by omega), List.take_of_length_le (by omega)] at h
theorem beq_len {xs ys : List Int} {m n : Nat} (ha : xs.length = n) (hb : ys.length = m) (h : ¬ n = m) : false = (xs == ys) := by
  symm; rw [beq_eq_false_iff_ne]; rintro rfl; omega

def QuietBool (b : Bool) (w : World) (e : Ending) (w' : World) : Prop := e = .returned (.bool b) ∧ ∃ q, w' = w.drewN q

set_option maxHeartbeats 400000 in
theorem ints_any (A B : Option Addr) (n m cap cap' : Nat) (xs ys : List Int) (w : World) (ha : Il w A n xs) (hb : Il w B m ys) (hn : n ≤ 100000) :
    Calls Try.prog 15 #[.slice A n cap, .slice B m cap'] w (QuietBool (xs == ys) w) := by
  by_cases hnm : n = m
  · obtain rfl := hnm
    have hne : ((n : Int) != (n : Int)) = false := by simp
    go_enter Try.func15, Try.ntmps15
    go_wp2
    go_loopw [5] (fun i wr => ∃ k q : Nat, k ≤ n ∧ i = .int .i64 k ∧ xs.take k = ys.take k ∧ wr = w.drewN q) (fun i _ => n - (intOf i).toNat)
    case atStart => exact ⟨0, 0, Nat.zero_le _, rfl, rfl, rfl⟩
    case round =>
      obtain ⟨k, q, hk, rfl, ht, rfl⟩ := hrel
      by_cases hlt : k < n
      · obtain ⟨ad, x, rfl, hx, hc⟩ := ha.at_ hlt
        obtain ⟨bd, y, rfl, hy, hd⟩ := hb.at_ hlt
        have HA := Lib.hid ha; have HB := Lib.hid hb; have HX := Lib.hid hx; have HY := Lib.hid hy; have HT := Lib.hid ht
        clear ha hb hx hy ht
        cases hxy : (x != y)
        · go_wp2
          go_quiet (fail)
          go_wp2
          go_roundw
          case rel => exact ⟨k + 1, _, by omega, by go_num, take_same HT.out HX.out HY.out (by simpa using hxy), rfl⟩
          case measure => simp [intOf]; omega
        · go_wp2
          go_quiet (fail)
          go_wp2
          go_ret
          exact ⟨ret_bool (beq_far HX.out HY.out hxy), _, World.drewN_drewN _ _ _⟩
      · go_wp2
        go_ret
        exact ⟨ret_bool (beq_all ht ha.1 hb.1 (by omega)), _, rfl⟩
  · have hne : ((n : Int) != (m : Int)) = true := by rw [bne_iff_ne]; omega
    go_enter Try.func15, Try.ntmps15
    go_wp2
    go_ret
    exact ⟨ret_bool (beq_len ha.1 hb.1 hnm), 0, rfl⟩

end Go.Proofs.Ytffhhegpkejdgaa

/- The contracts of bits.Value and of the reference's Value. -/
namespace Go.Proofs.Ytffhhegpkejdgaa
open Go.RowKit

theorem or_step (a : Nat) (z : Int) (ha : a < 9223372036854775808) (hz : z = 0 ∨ z = 1) :
    bits .or .u64 (IntKind.u64.wrap ((a : Int) * 2)) (IntKind.u64.wrap z) = ((2 * a + z.toNat : Nat) : Int) := by
  rw [IntKind.wrap_u64, IntKind.wrap_u64]
  rw [show (a : Int) * 2 % 18446744073709551616 = ((2 * a : Nat) : Int) from by omega, show z % 18446744073709551616 = ((z.toNat : Nat) : Int) from by omega]
  rw [u64_or_nat _ _ (by omega) (by omega), nat_join 1 (2 * a) z.toNat (by omega) (by omega)]
theorem add_step (a : Nat) (z : Int) (ha : a < 9223372036854775808) (hz : z = 0 ∨ z = 1) :
    IntKind.u64.wrap (IntKind.u64.wrap (2 * (a : Int)) + IntKind.u64.wrap z) = ((2 * a + z.toNat : Nat) : Int) := by
  rw [IntKind.wrap_u64, IntKind.wrap_u64, IntKind.wrap_u64]; omega
theorem val_int {k : IntKind} {a b : Int} (h : a = b) : Value.int k a = .int k b := by rw [h]
theorem all_at {zs : List Int} {k : Nat} {z : Int} (h : ∀ z ∈ zs, lvl z = true) (hz : zs[k]? = some z) : z = 0 ∨ z = 1 := lvl_01 (h z (List.mem_of_getElem? hz))

set_option maxHeartbeats 400000 in
theorem value_ok (A : Option Addr) (n cap : Nat) (zs : List Int) (w : World) (hr : Il w A n zs) (hn : n ≤ 64) (hl : ∀ z ∈ zs, lvl z = true) :
    Calls Try.prog 72 #[.slice A n cap] w fun e w' => e = .returned (.tuple #[.int .u64 (val zs), .int .i64 0]) ∧ w = w' := by
  have HL := Lib.hid (fst_of_all lvl zs hl); have HA := Lib.hid hl
  clear hl
  go_enter Try.func72, Try.ntmps72
  go_wp2_with (go_at_call 41; (with_reducible refine (check_any _ _ _ _ _ hr (by omega)).mono ?_); rintro e w' ⟨rfl, rfl⟩; rw [chk, HL.out])
  go_loop [4, 14] (fun v i => ∃ k : Nat, k ≤ n ∧ i = .int .i64 k ∧ v = .int .u64 (val (zs.take k))) (fun _ i => n - (intOf i).toNat)
  case atStart => exact ⟨0, Nat.zero_le _, rfl, rfl⟩
  case round =>
    obtain ⟨k, hk, rfl, rfl⟩ := hrel
    by_cases hlt : k < n
    · obtain ⟨ad, z, rfl, hz, hc⟩ := hr.at_ hlt
      have HR := Lib.hid hr; have HZ := Lib.hid hz
      clear hr hz
      go_wp2
      go_round
      case rel => exact ⟨k + 1, by omega, by go_num, val_int (by rw [or_step _ _ (val_take_lt zs HA.out k (by omega)) (all_at HA.out HZ.out), val_step zs k z HZ.out])⟩
      case measure => simp [intOf]; omega
    · go_wp2
      go_ret2
      exact ⟨by rw [show zs.take k = zs from List.take_of_length_le (by rw [hr.1]; omega)]; rfl, rfl⟩

set_option maxHeartbeats 400000 in
theorem value_long (A : Option Addr) (n cap : Nat) (w : World) (hn : 64 < n) :
    Calls Try.prog 72 #[.slice A n cap] w fun e w' => e = .returned (.tuple #[.int .u64 0, .int .i64 12]) ∧ w = w' := by
  go_enter Try.func72, Try.ntmps72
  go_wp2
  go_ret2
  exact ⟨rfl, rfl⟩

set_option maxHeartbeats 400000 in
theorem value_bad (A : Option Addr) (n cap : Nat) (zs : List Int) (w : World) (hr : Il w A n zs) (hn : n ≤ 64) (hl : 0 ≤ chk zs) :
    Calls Try.prog 72 #[.slice A n cap] w fun e w' => e = .returned (.tuple #[.int .u64 0, .int .i64 10]) ∧ w = w' := by
  go_enter Try.func72, Try.ntmps72
  go_wp2_with (go_at_call 41; (with_reducible refine (check_any _ _ _ _ _ hr (by omega)).mono ?_); rintro e w' ⟨rfl, rfl⟩)
  go_ret2
  exact ⟨rfl, rfl⟩

end Go.Proofs.Ytffhhegpkejdgaa

/- Words for memory: a block that is just a row of numbers; a slice value that owns a row of ints; append onto such a one; make. -/
namespace Go.Proofs.Ytffhhegpkejdgaa
open Go.RowKit

/-- Block g is just the numbers zs, of kind k, none frozen. -/
def Arr (k : IntKind) (t : TypeId) (w : World) (g : Nat) (zs : List Int) : Prop := w.heap[g]? = some (.cells (zs.map (Value.int k)).toArray t (0, 0))
section
variable {k : IntKind} {t : TypeId} {w w' : World} {g : Nat} {zs : List Int}
theorem Arr.lt (h : Arr k t w g zs) : g < w.heap.size := by
  rcases Nat.lt_or_ge g w.heap.size with hlt | hge
  · exact hlt
  · unfold Arr at h; rw [Array.getElem?_eq_none hge] at h; cases h
theorem Arr.cell (h : Arr k t w g zs) {i : Nat} (hi : i < zs.length) : w.cell? ⟨g, i, none⟩ = some (.int k (zs.getD i 0)) := by
  rw [cell_of_row w g i _ t (0, 0) h]
  simp [hi]
theorem Arr.frozen (h : Arr k t w g zs) (i : Nat) : w.frozen? ⟨g, i, none⟩ = false := by
  unfold Arr at h
  simp [World.frozen?, h]
theorem Arr.new (w : World) (k : IntKind) (t : TypeId) (zs : List Int) : Arr k t (w.alloc (.cells (zs.map (Value.int k)).toArray t)) w.heap.size zs := heap_alloc_new w _
theorem Arr.put (h : Arr k t w g zs) (i : Nat) (z : Int) : Arr k t (w.setCell ⟨g, i, none⟩ (.int k z)) g (zs.set i z) := by
  unfold Arr at h ⊢
  simp [World.setCell, Array.getElem?_modify, h, List.map_set]
theorem Arr.drewN (h : Arr k t w g zs) (n : Nat) : Arr k t (w.drewN n) g zs := h
theorem Arr.below {B : Nat} (h : Arr k t w g zs) (hb : Below B w w') (hg : g < B) : Arr k t w' g zs := (hb.block g hg).trans h
theorem add_zero_off (g j : Nat) : (⟨g, 0, none⟩ : Addr).add j = ⟨g, j, none⟩ := by
  unfold Addr.add; split
  · subst_vars; rfl
  · simp
theorem Arr.il (h : Arr .i64 3 w g zs) : Il w (some ⟨g, 0, none⟩) zs.length zs :=
  ⟨rfl, fun _ => ⟨_, rfl, h.lt, fun j hj => by
    have := h.cell hj
    rw [← this, add_zero_off]⟩⟩
end

theorem info3 : ∃ i, Try.prog.info? 3 = some i ∧ i.zero = some (.int .i64 0) ∧ i.size = 1 ∧ i.bytes = 8 := info_parts (by kernel_rfl)
theorem make22 (n : Nat) (hn : n ≤ 100000) (w : World) : (Instr.makeSlice 25 (.int .i64 (n : Int)) (.int .i64 (n : Int))).run Try.prog w =
    .ok (.slice (some ⟨w.heap.size, 0, none⟩) n n) (w.alloc (.cells ((List.replicate n 0).map (Value.int .i64)).toArray 3)) := by
  obtain ⟨i, hi, hz, hs, hb⟩ := info3
  have hr := run_make (P := Try.prog) w 25 3 i _ Try.underlying25 hi hz .i64 .i64 n n (by omega) (by omega) (by rw [hb]; omega) (by omega)
  have e : madeCells (Value.int .i64 0).cells (n * i.size) = ((List.replicate n 0).map (Value.int .i64)).toArray := by
    rw [hs, Nat.mul_one]
    apply Array.toList_inj.1
    show (madeCells #[Value.int .i64 0] n).toList = _
    rw [toList_madeCells_one]; simp
  simp only [Int.toNat_natCast] at hr
  rw [hr, e]

/-- The slice value v is the call's own row (among the blocks from base on), and holds zs. -/
def Own (w : World) (base : Nat) (v : Value) (zs : List Int) : Prop := w.ownsRow base 3 1 v zs.length (zs.map (Value.int .i64))
theorem Own.il {w : World} {base : Nat} {v : Value} {zs : List Int} (h : Own w base v zs) : ∃ A cap, v = .slice A zs.length cap ∧ Il w A zs.length zs := by
  rcases h.2 with ⟨rfl, h0⟩ | ⟨g, cap, cur, rfl, _, hh, hnc, _, hcs, hx⟩
  · exact ⟨none, 0, by rw [h0], rfl, fun hn => by omega⟩
  · refine ⟨_, cap, rfl, rfl, fun _ => ⟨_, rfl, ?_, fun j hj => ?_⟩⟩
    · rcases Nat.lt_or_ge g w.heap.size with hlt | hge
      · exact hlt
      · rw [Array.getElem?_eq_none hge] at hh; cases hh
    · refine h.cells (g := g) rfl j _ ?_
      simp [hj]
theorem Own.nil (w : World) (base : Nat) : Own w base (.slice none 0 0) [] := World.ownsRow_nil _ _ _ _
theorem Own.lit (w : World) (base : Nat) (zs : List Int) (hb : base ≤ w.heap.size) (hl : zs.length ≤ 1000) :
    Own (w.alloc (.cells (zs.map (Value.int .i64)).toArray 3)) base (.slice (some ⟨w.heap.size, 0, none⟩) zs.length zs.length) zs := by
  refine ⟨by simp, .inr ⟨w.heap.size, zs.length, _, rfl, hb, heap_alloc_new w _, Nat.le_refl _, by unfold maxLen; omega, by simp, by simp [List.take_of_length_le]⟩⟩
theorem Own.alloc {w : World} {base : Nat} {v : Value} {zs : List Int} (h : Own w base v zs) (o : Obj) : Own (w.alloc o) base v zs := World.ownsRow.alloc h o
theorem Own.row {w : World} {base : Nat} {v : Value} {zs : List Int} (h : Own w base v zs) : ∀ k, v.ownBlock = some k → base ≤ k := fun k hk => (World.ownsRow.lt h k hk).1

theorem run_append_of_none (w : World) (base : Nat) (ty : TypeId) (v : Value) (zs : List Int) (h : Own w base v zs) (c : Nat) : (Builtin.append_ #[25, 25] ty #[v, .slice none 0 c]).run Try.prog w = .ok v w := by
  obtain ⟨i, hi, -, -, -⟩ := info3
  rcases h.2 with ⟨rfl, h0⟩ | ⟨g, cap, cur, rfl, _, _, hnc, _⟩
  · simp [Builtin.append_, run_underlying Try.underlying25, sizeOf, typeInfo, hi, Builtin.lenOf, Builtin.firstCells]
  · simp [Builtin.append_, run_underlying Try.underlying25, sizeOf, typeInfo, hi, Builtin.lenOf, Builtin.firstCells, hnc, storeCells]

/-- append onto a row of the call's own, whatever the source. -/
theorem wp_append_ints (w : World) {o : Oper} {a : Act} {K : Act → World → Prop} {Q : Exit → Act → World → Prop} (s x : Operand)
    (ho : o.op = .call { callee := .builtin .append, args := #[s, x], argTypes := #[25, 25] })
    (base : Nat) (v : Value) (zs : List Int) (hs : a.eval s = v) (hown : Own w base v zs) (A : Option Addr) (m c : Nat) (ys : List Int) (hx : a.eval x = .slice A m c) (hr : Il w A m ys)
    (hlen : zs.length + m ≤ 1000000) (hbase : base ≤ w.heap.size)
    (h : ∀ v' w', Own w' base v' (zs ++ ys) → w.grownBy w' v.ownBlock → K (a.put o.dst v') w') : o.wp Try.prog a w K Q := by
  obtain ⟨i, hi, hz, hsz, hb⟩ := info3
  have hm := hr.1
  rcases A with _ | ad
  · have h0 : m = 0 := by
      rcases Nat.eq_zero_or_pos m with h | h
      · exact h
      · obtain ⟨ad, e, _⟩ := hr.2 h; cases e
    subst h0
    have hy : ys = [] := List.eq_nil_of_length_eq_zero hm
    subst hy
    have hrun := run_append_of_none w base o.type v zs hown c
    unfold Oper.wp
    simp [execOp, ho, resolve, invoke, builtin, hs, hx, hrun, Result.andThen]
    exact h v w (by simpa using hown) (World.grownBy.refl w _)
  · refine wp_append_own w s x 25 ho base 3 i _ 1 8 Try.underlying25 hi hz hsz hb rfl (by omega) v zs.length _ hs hown ad m c (ys.map (Value.int .i64)) hx (by simp [hm]) ?_ (ints_oneCell _ _) (by unfold maxLen; omega) (by omega) hbase ?_
    · intro j u hu
      have hj : j < m := by
        rcases Nat.lt_or_ge j m with h | h
        · exact h
        · rw [List.getElem?_eq_none (by simp [hm]; exact h)] at hu; cases hu
      obtain ⟨ad', e, _, hc⟩ := hr.2 (by omega)
      injection e with e
      subst e
      rw [hc j hj]
      simp [hm ▸ hj] at hu
      simp [hm ▸ hj, hu]
    · intro v' w' h1 h2 _
      refine h v' w' ?_ h2
      unfold Own
      rw [List.length_append, List.map_append, hm]
      exact h1

/-- The same, at a plain region's list. -/
theorem append_ints (w : World) {ops : Array Oper} {rest : List Oper} {o : Oper} {a : Act} {Q : Exit → Act → World → Prop} (hgd : Region.wanted o (yielded ops a.tmps) = true) (s x : Operand)
    (ho : o.op = .call { callee := .builtin .append, args := #[s, x], argTypes := #[25, 25] })
    (base : Nat) (v : Value) (zs : List Int) (hs : a.eval s = v) (hown : Own w base v zs) (A : Option Addr) (m c : Nat) (ys : List Int) (hx : a.eval x = .slice A m c) (hr : Il w A m ys)
    (hlen : zs.length + m ≤ 1000000) (hbase : base ≤ w.heap.size)
    (h : ∀ v' w', Own w' base v' (zs ++ ys) → w.grownBy w' v.ownBlock → wpList Try.prog ops Q rest (a.put o.dst v') w') : wpList Try.prog ops Q (o :: rest) a w :=
  BigFrame.wpList_want hgd fun _ hK => wp_append_ints w s x ho base v zs hs hown A m c ys hx hr hlen hbase fun v' w' h1 h2 => hK _ _ (h v' w' h1 h2)

/-- The same, at a step of a region that draws its order. -/
theorem step_append_ints (w : World) {ops : Array Oper} {o : Oper} {a : Act} {K : Act → World → Prop} {Q : Exit → Act → World → Prop} {E : Prop} (hgd : o.guard = none) (s x : Operand)
    (ho : o.op = .call { callee := .builtin .append, args := #[s, x], argTypes := #[25, 25] })
    (base : Nat) (v : Value) (zs : List Int) (hs : a.eval s = v) (hown : Own w base v zs) (A : Option Addr) (m c : Nat) (ys : List Int) (hx : a.eval x = .slice A m c) (hr : Il w A m ys)
    (hlen : zs.length + m ≤ 1000000) (hbase : base ≤ w.heap.size)
    (h : ∀ v' w', Own w' base v' (zs ++ ys) → w.grownBy w' v.ownBlock → K (a.put o.dst v') w') :
    if Region.wanted o (yielded ops a.tmps) = true then Oper.wp Try.prog o a w K Q else E := by
  have hw : Region.wanted o (yielded ops a.tmps) = true := by simp [Region.wanted, hgd]
  rw [if_pos hw]
  exact wp_append_ints w s x ho base v zs hs hown A m c ys hx hr hlen hbase h

end Go.Proofs.Ytffhhegpkejdgaa

/- The contracts of bits.Of, and of the reference's Of. -/
namespace Go.Proofs.Ytffhhegpkejdgaa
open Go.RowKit

/-- Bit i of n. -/
def bit (n i : Nat) : Int := ((n / 2 ^ i % 2 : Nat) : Int)
/-- The width lowest bits of n, the greatest one first. -/
def ofB (n width : Nat) : List Int := (List.range width).map fun j => bit n (width - 1 - j)
theorem ofB_len (n width : Nat) : (ofB n width).length = width := by simp [ofB]

def Fill (n width k : Nat) (zs : List Int) : Prop := zs.length = width ∧ ∀ j, width - k ≤ j → j < width → zs.getD j 0 = bit n (width - 1 - j)
theorem Fill.step {n width k : Nat} {zs : List Int} (h : Fill n width k zs) (hk : k < width) : Fill n width (k + 1) (zs.set (width - 1 - k) (bit n k)) := by
  refine ⟨by rw [List.length_set]; exact h.1, fun j h1 h2 => ?_⟩
  have hl := h.1
  rcases Nat.lt_or_ge (width - 1 - k) j with hlt | hge
  · have := h.2 j (by omega) h2
    rw [← this]
    simp [List.getD, List.getElem?_set_ne (show width - 1 - k ≠ j by omega)]
  · have e : j = width - 1 - k := by omega
    subst e
    simp [List.getD, List.getElem?_set_self (show width - 1 - k < zs.length by omega)]
    congr 1; omega
theorem Fill.all {n width k : Nat} {zs : List Int} (h : Fill n width k zs) (hk : width ≤ k) : zs = ofB n width := by
  apply List.ext_getElem
  · rw [h.1, ofB_len]
  · intro j h1 h2
    have := h.2 j (by omega) (by rw [← h.1]; exact h1)
    simp [h1] at this
    simp [ofB, this]

theorem and_bit (n k : Nat) (h : n < 18446744073709551616) : wrap64 (bits BinOp.and IntKind.u64 ((n : Int) / 2 ^ k) 1) = bit n k := by
  have e : (n : Int) / 2 ^ k = ((n / 2 ^ k : Nat) : Int) := by simp
  have hlt : n / 2 ^ k < 18446744073709551616 := Nat.lt_of_le_of_lt (Nat.div_le_self _ _) h
  rw [e, show (1 : Int) = ((1 : Nat) : Int) from rfl, u64_and_nat _ _ hlt (by omega), nat_mask1]
  unfold bit wrap64
  have := Nat.mod_lt (n / 2 ^ k) (show 2 > 0 by omega)
  omega

def SlOk (zs : List Int) (w : World) (e : Ending) (w' : World) : Prop :=
  ∃ A cap, e = .returned (.tuple #[.slice A zs.length cap, .int .i64 0]) ∧ Il w' A zs.length zs ∧ Below w.heap.size w w'

set_option maxHeartbeats 400000 in
theorem of_ok (n width : Nat) (w : World) (hn : n < 18446744073709551616) (hw : width ≤ 64) :
    Calls Try.prog 58 #[.int .u64 n, .int .i64 width] w (SlOk (ofB n width) w) := by
  have hmk := make22 width (by omega)
  have HB := Lib.hid (Arr.new w .i64 3 (List.replicate width 0))
  have HN := Lib.hid hn
  clear hn
  generalize ((List.replicate width 0).map (Value.int .i64)).toArray = cs at hmk HB
  have h0 : decide ((width : Int) < 0) = false := by simp
  have h1 : decide ((64 : Int) < (width : Int)) = false := by simp; omega
  go_enter Try.func58, Try.ntmps58
  go_wp2
  go_loopw [17] (fun i wr => ∃ (k : Nat) (zs : List Int), k ≤ width ∧ i = .int .i64 k ∧ Arr .i64 3 wr w.heap.size zs ∧ Fill n width k zs ∧ Below w.heap.size w wr) (fun i _ => width - (intOf i).toNat)
  case atStart => exact ⟨0, List.replicate width 0, Nat.zero_le _, rfl, HB.out, ⟨by simp, fun j h1 h2 => by omega⟩, (Below.refl _ _).alloc (Nat.le_refl _) _⟩
  case round =>
    obtain ⟨k, zs, hk, rfl, ha, hf, hbel⟩ := hrel
    by_cases hlt : k < width
    · have hc := ha.cell (i := width - 1 - k) (by have := hf.1; omega)
      have hz := ha.frozen (width - 1 - k)
      have HA := Lib.hid ha; have HF := Lib.hid hf
      clear ha hf
      generalize zs.getD (width - 1 - k) 0 = x at hc
      go_wp2
      go_roundw
      case rel =>
        rw [and_bit n k HN.out]
        exact ⟨k + 1, _, by omega, by go_num, HA.out.put _ _, HF.out.step hlt, hbel.setCell (Nat.le_refl _) _⟩
      case measure => simp [intOf]; omega
    · go_wp2
      go_ret2
      have e := hf.all (show width ≤ k by omega)
      subst e
      have hi := ha.il
      refine ⟨some ⟨w.heap.size, 0, none⟩, width, ?_, hi, hbel⟩
      rw [ofB_len]; rfl

set_option maxHeartbeats 400000 in
theorem of_bad (n width : Int) (w : World) (hw : width < 0 ∨ 64 < width) :
    Calls Try.prog 58 #[.int .u64 n, .int .i64 width] w fun e w' => e = .returned (.tuple #[.slice none 0 0, .int .i64 10]) ∧ w = w' := by
  rcases hw with hw | hw
  · go_enter Try.func58, Try.ntmps58
    go_wp2
    go_ret2
    exact ⟨rfl, rfl⟩
  · have h0 : decide (width < 0) = false := by simp; omega
    go_enter Try.func58, Try.ntmps58
    go_wp2
    go_ret2
    exact ⟨rfl, rfl⟩
end Go.Proofs.Ytffhhegpkejdgaa

/- The contracts of bits.Parse, bits.Text, and of the reference's Text. -/
namespace Go.Proofs.Ytffhhegpkejdgaa
open Go.RowKit

/-- The levels that bytes name. -/
def lvs (bs : List UInt8) : List Int := bs.map fun c => (c.toNat : Int) - 48
/-- The text of levels. -/
def txt (zs : List Int) : ByteArray := strOfNums (zs.map fun z => 48 + z)
theorem lvs_len (bs : List UInt8) : (lvs bs).length = bs.length := by simp [lvs]
theorem txt_size (zs : List Int) : (txt zs).size = zs.length := by simp [txt, strOfNums_size]

/-- The first k numbers of zs are those of ys. -/
def Front (ys : List Int) (k : Nat) (zs : List Int) : Prop := zs.length = ys.length ∧ ∀ j, j < k → zs[j]? = ys[j]?
theorem Front.step {ys zs : List Int} {k : Nat} {z : Int} (h : Front ys k zs) (hz : ys[k]? = some z) : Front ys (k + 1) (zs.set k z) := by
  refine ⟨by rw [List.length_set]; exact h.1, fun j hj => ?_⟩
  have hk : k < zs.length := by
    rw [h.1]
    rcases Nat.lt_or_ge k ys.length with h | h
    · exact h
    · rw [List.getElem?_eq_none h] at hz; cases hz
  rcases Nat.lt_or_ge j k with hlt | hge
  · rw [List.getElem?_set_ne (by omega)]; exact h.2 j hlt
  · have e : j = k := by omega
    subst e
    rw [List.getElem?_set_self hk, hz]
theorem Front.all {ys zs : List Int} {k : Nat} (h : Front ys k zs) (hk : ys.length ≤ k) : zs = ys := by
  apply List.ext_getElem?
  intro j
  rcases Nat.lt_or_ge j k with hlt | hge
  · exact h.2 j hlt
  · rw [List.getElem?_eq_none (by rw [h.1]; omega), List.getElem?_eq_none (by omega)]

theorem sub48 {c : UInt8} (h : lvb c = true) : ((c.toNat : Int) - 48) % 256 = (c.toNat : Int) - 48 := by
  rcases lvb_01 h with rfl | rfl <;> rfl

theorem add48 {z : Int} (h : z = 0 ∨ z = 1) : (48 + z) % 256 = 48 + z := by rcases h with rfl | rfl <;> rfl

def SlOk3 (zs : List Int) (w : World) (e : Ending) (w' : World) : Prop :=
  ∃ A cap, e = .returned (.tuple #[.slice A zs.length cap, .int .i64 0, .int .i64 0]) ∧ Il w' A zs.length zs ∧ Below w.heap.size w w'

theorem info5 : ∃ i, Try.prog.info? 5 = some i ∧ i.zero = some (.int .u8 0) ∧ i.size = 1 ∧ i.bytes = 1 := info_parts (by kernel_rfl)
theorem make47 (n : Nat) (hn : n ≤ 100000) (w : World) : (Instr.makeSlice 60 (.int .i64 (n : Int)) (.int .i64 (n : Int))).run Try.prog w =
    .ok (.slice (some ⟨w.heap.size, 0, none⟩) n n) (w.alloc (.cells ((List.replicate n 0).map (Value.int .u8)).toArray 5)) := by
  obtain ⟨i, hi, hz, hs, hb⟩ := info5
  have hr := run_make (P := Try.prog) w 60 5 i _ Try.underlying60 hi hz .i64 .i64 n n (by omega) (by omega) (by rw [hb]; omega) (by omega)
  have e : madeCells (Value.int .u8 0).cells (n * i.size) = ((List.replicate n 0).map (Value.int .u8)).toArray := by
    rw [hs, Nat.mul_one]
    apply Array.toList_inj.1
    show (madeCells #[Value.int .u8 0] n).toList = _
    rw [toList_madeCells_one]; simp
  simp only [Int.toNat_natCast] at hr
  rw [hr, e]
theorem conv47 {w : World} {g : Nat} {zs : List Int} (h : Arr .u8 5 w g zs) : (convert 60 9 (.slice (some ⟨g, 0, none⟩) zs.length zs.length)).run Try.prog w = .ok (.string (strOfNums zs)) w := by
  refine run_convert_bytes_arg w 60 5 Try.underlying60 Try.underlying5 g 0 zs.length zs.length zs rfl (fun i hi => ?_) 9 Try.underlying9
  rw [Nat.zero_add]; exact h.cell hi

theorem txt_step (zs : List Int) (k : Nat) (z : Int) (hz : zs[k]? = some z) (b : UInt8) (hb : UInt8.ofNat (48 + z).toNat = b) : txt (zs.take (k + 1)) = txt (zs.take k) ++ (⟨#[b]⟩ : ByteArray) := by
  rw [List.take_add_one, hz]
  apply ByteArray.ext
  simp [txt, strOfNums, hb]
theorem txt_take_size (zs : List Int) (k : Nat) : (txt (zs.take k)).size ≤ k := by rw [txt_size]; exact List.length_take_le _ _

end Go.Proofs.Ytffhhegpkejdgaa

/- The contract of the reference's Of. -/
namespace Go.Proofs.Ytffhhegpkejdgaa
open Go.RowKit

theorem ofB_cons (n k : Nat) : ofB n (k + 1) = bit n k :: ofB n k := by
  unfold ofB
  rw [List.range_succ_eq_map, List.map_cons, List.map_map]
  congr 1
  apply List.map_congr_left
  intro j _
  show bit n (k + 1 - 1 - (j + 1)) = bit n (k - 1 - j)
  congr 1; omega
theorem Il.alloc {w : World} {A : Option Addr} {n : Nat} {zs : List Int} (h : Il w A n zs) (o : Obj) : Il (w.alloc o) A n zs := h.below ((Below.refl _ _).alloc (Nat.le_refl _) _)
theorem half_step {n k m : Nat} (hn : n < 18446744073709551616) (hm : m = n / 2 ^ k) : IntKind.u64.wrap ((m : Int) / 2) = ((n / 2 ^ (k + 1) : Nat) : Int) := by
  have h1 : m < 18446744073709551616 := by rw [hm]; exact Nat.lt_of_le_of_lt (Nat.div_le_self _ _) hn
  have h2 : n / 2 ^ (k + 1) = m / 2 := by rw [hm, Nat.pow_succ, Nat.div_div_eq_div_mul]
  rw [h2, IntKind.wrap_u64]; omega
def SlOne (zs : List Int) (w : World) (e : Ending) (w' : World) : Prop :=
  ∃ A cap, e = .returned (.slice A zs.length cap) ∧ Il w' A zs.length zs ∧ Below w.heap.size w w'

end Go.Proofs.Ytffhhegpkejdgaa

/- Plain facts on bits, their numbers, and on what was carried over calls. -/
namespace Go.Proofs.Ytffhhegpkejdgaa
open Go.RowKit

theorem nxt {w w1 w2 : World} (h : Below w.heap.size w w1) (h2 : Below w1.heap.size w1 w2) : Below w.heap.size w w2 := h.trans (h2.mono h.size)

theorem bit_lvl (n i : Nat) : lvl (bit n i) = true := by
  unfold bit lvl
  have := Nat.mod_lt (n / 2 ^ i) (show 2 > 0 by omega)
  simp; omega
theorem ofB_all (n width : Nat) : ∀ z ∈ ofB n width, lvl z = true := by
  intro z hz
  obtain ⟨j, _, rfl⟩ := List.mem_map.1 hz
  exact bit_lvl _ _
theorem ofB_snoc (n k : Nat) : ofB n (k + 1) = ofB (n / 2) k ++ [((n % 2 : Nat) : Int)] := by
  apply List.ext_getElem
  · simp [ofB]
  · intro j h1 h2
    simp only [ofB, List.length_map, List.length_range] at h1
    rcases Nat.lt_or_ge j k with h | h
    · rw [List.getElem_append_left (by simp [ofB]; exact h)]
      simp only [ofB, List.getElem_map, List.getElem_range, bit]
      rw [show k + 1 - 1 - j = (k - 1 - j) + 1 by omega, Nat.pow_succ', Nat.div_div_eq_div_mul]
    · have e : j = k := by omega
      subst e
      rw [List.getElem_append_right (by simp [ofB])]
      simp [ofB, bit]
theorem val_ofB : ∀ (k n : Nat), val (ofB n k) = n % 2 ^ k := by
  intro k
  induction k with
  | zero => intro n; simp [ofB, val, Nat.mod_one]
  | succ k ih =>
    intro n
    rw [ofB_snoc, val_snoc, ih, Nat.pow_succ', Nat.mod_mul]
    simp; omega
theorem ofB_split (n u l : Nat) : ofB n (u + l) = ofB (n / 2 ^ l) u ++ ofB n l := by
  apply List.ext_getElem
  · simp [ofB]
  · intro j h1 h2
    simp only [ofB, List.length_map, List.length_range] at h1
    rcases Nat.lt_or_ge j u with h | h
    · rw [List.getElem_append_left (by simp [ofB]; exact h)]
      simp only [ofB, List.getElem_map, List.getElem_range, bit]
      rw [Nat.div_div_eq_div_mul, ← Nat.pow_add, show l + (u - 1 - j) = u + l - 1 - j by omega]
    · rw [List.getElem_append_right (by simp [ofB]; exact h)]
      simp only [ofB, List.getElem_map, List.getElem_range, bit, List.length_map, List.length_range]
      rw [show l - 1 - (j - u) = u + l - 1 - j by omega]
theorem below_lit {w w' : World} {o : Obj} {n c : Nat} (h : (w.alloc o).grownBy w' (Value.slice (some ⟨w.heap.size, 0, none⟩) n c).ownBlock) : Below w.heap.size w w' :=
  ((Below.refl _ _).alloc (Nat.le_refl _) _).grown h (by simp) (by intro j hj; injection hj with hj; subst hj; exact Nat.le_refl _)
theorem val_64 {zs : List Int} (h : ∀ z ∈ zs, lvl z = true) (hl : zs.length ≤ 64) : val zs < 18446744073709551616 := by
  have h1 := val_lt zs h
  have h2 : 2 ^ zs.length ≤ 2 ^ 64 := Nat.pow_le_pow_right (by omega) hl
  have : (2 : Nat) ^ 64 = 18446744073709551616 := by decide
  omega
theorem ofB_val_rev : ∀ l : List Int, (∀ z ∈ l, lvl z = true) → ofB (val l.reverse) l.length = l.reverse := by
  intro l
  induction l with
  | nil => intro _; rfl
  | cons z l ih =>
    intro h
    have h1 := ih (fun y hy => h y (by simp [hy]))
    have h2 := lvl_01 (h z (by simp))
    rw [List.reverse_cons, val_snoc, List.length_cons, ofB_snoc]
    have e1 : (2 * val l.reverse + z.toNat) / 2 = val l.reverse := by omega
    have e2 : (((2 * val l.reverse + z.toNat) % 2 : Nat) : Int) = z := by omega
    rw [e1, e2, h1]
theorem ofB_val {zs : List Int} (h : ∀ z ∈ zs, lvl z = true) : ofB (val zs) zs.length = zs := by
  have := ofB_val_rev zs.reverse (fun z hz => h z (by simpa using hz))
  simpa using this
theorem val_zero (zs : List Int) : val ([0] ++ zs) = val zs := by simp [val]
theorem zero_all {zs : List Int} (h : ∀ z ∈ zs, lvl z = true) : ∀ z ∈ [0] ++ zs, lvl z = true := by
  intro z hz
  rcases List.mem_append.1 hz with hz | hz
  · simp at hz; subst hz; rfl
  · exact h z hz
theorem belowN {B : Nat} {a w : World} (h : Below B a w) (n : Nat) : Below B a (w.drewN n) := ⟨h.os, h.tape, h.output, h.size, h.block⟩
theorem ints_b (A B : Option Addr) (n m cap cap' : Nat) (xs ys : List Int) (w : World) (ha : Il w A n xs) (hb : Il w B m ys) (hn : n ≤ 100000) :
    Calls Try.prog 15 #[.slice A n cap, .slice B m cap'] w fun e w' => e = .returned (.bool (xs == ys)) ∧ Below w.heap.size w w' :=
  (ints_any A B n m cap cap' xs ys w ha hb hn).mono fun _ _ ⟨he, q, hq⟩ => ⟨he, by rw [hq]; exact belowN (Below.refl _ _) q⟩
end Go.Proofs.Ytffhhegpkejdgaa

