/- The contracts of field's isOne, value, widths, upTo, head. -/
import Derived.Test.YtalpbnfebcafgaaGreatFM
import Derived.Test.YtalpbnfebcafgaaGreatEq
import Derived.Deep.QuietTactic
import Derived.BigQuiet
namespace Go.Proofs.YtalpbnfebcafgaaGreat
set_option maxRecDepth 20000
open Go.RowKit

theorem results_cell1 {fn : Func} {p : Tmp} {ty : TypeId} (h : fn.results = #[.cell p ty]) (tmps : Array Value) (P : Program) (w : World) :
    (results fn tmps).run P w = ((asAddr (tmps.getD p undef)).run P w).andThen fun a w₁ => (loadVar ty a).run P w₁ := by
  simp only [results, h]
  simp [Sem.run_bind, Result.andThen]

theorem one_at {zs : List Int} {k : Nat} {z : Int} (h : zs[k]? = some z) : one zs k = (z == 1) := by
  unfold one; rw [h]; simp
theorem one_far {zs : List Int} {k : Nat} (h : zs.length ≤ k) : one zs k = false := by
  unfold one; rw [List.getElem?_eq_none h]; rfl

set_option maxHeartbeats 400000 in
theorem isOne_any (A : Option Addr) (n cap : Nat) (zs : List Int) (k : Nat) (w : World) (hr : Il w A n zs) (_hn : n ≤ 100000) (_hk : k ≤ 100) :
    Calls Tryz.prog 139 #[.slice A n cap, .int .i64 k] w fun e w' => e = .returned (.bool (one zs k)) ∧ w = w' := by
  by_cases hlt : k < n
  · obtain ⟨ad, z, rfl, hz, hc⟩ := hr.at_ hlt
    have HZ := Lib.hid (one_at hz)
    clear hr hz
    go_enter Tryz.func139, Tryz.ntmps139
    go_wp2
    go_ret
    exact ⟨ret_bool HZ.out.symm, rfl⟩
  · have HZ := Lib.hid (one_far (show zs.length ≤ k by rw [hr.1]; omega))
    clear hr
    go_enter Tryz.func139, Tryz.ntmps139
    go_wp2
    go_ret
    exact ⟨ret_bool HZ.out.symm, rfl⟩

theorem val_32 {zs : List Int} (h : ∀ z ∈ zs, lvl z = true) (hl : zs.length ≤ 32) : val zs < 4294967296 := by
  have h1 := val_lt zs h
  have h2 : 2 ^ zs.length ≤ 2 ^ 32 := Nat.pow_le_pow_right (by omega) hl
  have : (2 : Nat) ^ 32 = 4294967296 := by decide
  omega

set_option maxHeartbeats 400000 in
theorem fvalue_ok (A : Option Addr) (n cap : Nat) (zs : List Int) (w : World) (hr : Il w A n zs) (hn : n ≤ 32) (hl : ∀ z ∈ zs, lvl z = true) :
    Calls Tryz.prog 140 #[.slice A n cap] w fun e w' => e = .returned (.int .i64 (val zs : Nat)) ∧ w = w' := by
  have hv := val_32 hl (by rw [hr.1]; exact hn)
  have HR := Lib.hid hr; have HL := Lib.hid hl
  clear hr hl
  go_enter Tryz.func140, Tryz.ntmps140
  go_wp2_with fail
  refine (value_ok A n cap zs _ HR.out (by omega) HL.out).mono ?_
  rintro e w' ⟨rfl, rfl⟩
  obtain ⟨v, hv0⟩ : ∃ v, val zs = v := ⟨_, rfl⟩
  rw [hv0] at hv
  have HV := Lib.hid hv0
  rw [HV.out]
  clear hv0
  go_wp2
  go_ret
  exact ⟨by rw [HV.out]; rfl, rfl⟩

/-- The array of widths. -/
abbrev W9c (a c d : Nat) : Array Value := #[.int .i64 1, .int .i64 (a : Int), .int .i64 (c : Int), .int .i64 (d : Int), .int .i64 15, .int .i64 1, .int .i64 1, .int .i64 1, .int .i64 7]
abbrev W9 (a c d : Nat) : Value := .agg (W9c a c d)
def dW (r : Bool) (n : Nat) : Nat := if r then 0 else n * 8

theorem arr_twice (w : World) (a b c : Obj) : Below w.heap.size w (((w.alloc a).alloc b).alloc c) := (alloc2 w a b).alloc (by simp; omega) _

set_option maxHeartbeats 800000 in
theorem widths_any (f : Fr) (n : Nat) (hn : n ≤ 100) (hf : f.len = (n : Int)) (w : World) :
    Calls Tryz.prog 58 #[f.val] w fun e w' => e = .returned (W9 (aW f.ext) (cW f.ext) (dW f.rtr n)) ∧ Below w.heap.size w w' := by
  obtain ⟨i, x, r, l, d⟩ := f
  simp only at hf
  subst hf
  cases x <;> cases r
  · go_enter Tryz.func58, Tryz.ntmps58
    go_wp2
    refine bodyPost_ret (v := W9 13 5 (n * 8)) (by rw [results_cell1 rfl]; go_simp) rfl ⟨rfl, arr_twice _ _ _ _⟩
  · go_enter Tryz.func58, Tryz.ntmps58
    go_wp2
    refine bodyPost_ret (v := W9 13 5 0) (by rw [results_cell1 rfl]; go_simp) rfl ⟨rfl, arr_twice _ _ _ _⟩
  · go_enter Tryz.func58, Tryz.ntmps58
    go_wp2
    refine bodyPost_ret (v := W9 32 6 (n * 8)) (by rw [results_cell1 rfl]; go_simp) rfl ⟨rfl, arr_twice _ _ _ _⟩
  · go_enter Tryz.func58, Tryz.ntmps58
    go_wp2
    refine bodyPost_ret (v := W9 32 6 0) (by rw [results_cell1 rfl]; go_simp) rfl ⟨rfl, arr_twice _ _ _ _⟩

theorem Arr.ilt {t : TypeId} {w : World} {g : Nat} {zs : List Int} (h : Arr .i64 t w g zs) : Il w (some ⟨g, 0, none⟩) zs.length zs :=
  ⟨rfl, fun _ => ⟨_, rfl, h.lt, fun j hj => by
    have := h.cell hj
    rw [← this, add_zero_off]⟩⟩
def sumI (l : List Int) : Int := l.foldl (· + ·) 0
theorem sumI_step (l : List Int) (k : Nat) (z : Int) (h : l[k]? = some z) : sumI (l.take (k + 1)) = sumI (l.take k) + z := by
  rw [List.take_add_one, h]; simp [sumI]
theorem sumI_bound {l : List Int} (h : ∀ z ∈ l, 0 ≤ z ∧ z ≤ 100) : ∀ k, k ≤ l.length → 0 ≤ sumI (l.take k) ∧ sumI (l.take k) ≤ 100 * k := by
  intro k
  induction k with
  | zero => intro _; simp [sumI]
  | succ k ih =>
    intro hk
    have := ih (by omega)
    have hz := h _ (List.getElem_mem (show k < l.length by omega))
    rw [sumI_step l k _ (List.getElem?_eq_getElem (by omega))]
    omega

set_option maxHeartbeats 800000 in
theorem upTo_row (a c d m : Nat) (ha : a ≤ 100) (hc : c ≤ 100) (hd : d ≤ 100) (hm : m = 2 ∨ m = 3) (w : World) :
    Calls Tryz.prog 130 #[W9 a c d, .int .i64 (m : Int)] w fun e w' => e = .returned (.int .i64 (sumI (([1, (a : Int), (c : Int), (d : Int), 15, 1, 1, 1, 7] : List Int).take (m + 1)))) ∧ Below w.heap.size w w' := by
  have HI := Lib.hid ((show Arr .i64 119 (w.alloc (.cells (W9c a c d) 119)) w.heap.size [1, (a : Int), (c : Int), (d : Int), 15, 1, 1, 1, 7] from Arr.new w .i64 119 [1, (a : Int), (c : Int), (d : Int), 15, 1, 1, 1, 7]).ilt)
  have HB := Lib.hid (show ∀ z ∈ [1, (a : Int), (c : Int), (d : Int), 15, 1, 1, 1, 7], 0 ≤ z ∧ z ≤ 100 from by simp; omega)
  have HW := Lib.hid ((Below.refl w.heap.size w).alloc (Nat.le_refl _) (.cells (W9c a c d) 119))
  generalize hq : ([1, (a : Int), (c : Int), (d : Int), 15, 1, 1, 1, 7] : List Int) = qs at HI HB ⊢
  have hlen : qs.length = 9 := by rw [← hq]; rfl
  have HL := Lib.hid hlen
  have HM := Lib.hid hm
  rw [hlen] at HI
  clear hq hlen ha hc hd
  have m1 : (m : Int) ≤ 3 := by omega
  have hsl : ∀ u : World, (Instr.sliceAt 119 (.pointer (some ⟨w.heap.size, 0, none⟩)) none (some (.int .i64 ((m : Int) + 1))) none).run Tryz.prog u = .ok (.slice (some ⟨w.heap.size, 0, none⟩) (m + 1) 9) u := fun u => by
    rcases hm with rfl | rfl <;> (go_simp; try rfl)
  clear hm
  go_enter Tryz.func130, Tryz.ntmps130
  go_wp2
  go_loop [5, 12] (fun v i => ∃ k : Nat, k ≤ m + 1 ∧ i = .int .i64 k ∧ v = .int .i64 (sumI (qs.take k))) (fun _ i => m + 1 - (intOf i).toNat)
  case atStart => exact ⟨0, Nat.zero_le _, rfl, rfl⟩
  case round =>
    obtain ⟨k, hk, rfl, rfl⟩ := hrel
    by_cases hlt : k < m + 1
    · obtain ⟨ad, z, e, hz, hc⟩ := HI.out.at_ (show k < 9 by omega)
      injection e with e
      subst e
      rw [add_zero_off] at hc
      have hb := sumI_bound HB.out k (by have := HL.out; omega)
      have hz2 := HB.out z (List.mem_of_getElem? hz)
      have HS := Lib.hid (sumI_step qs k z hz)
      clear hz
      generalize sumI (qs.take k) = s at *
      obtain ⟨s1, s2⟩ := hb
      obtain ⟨z1, z2⟩ := hz2
      go_wp2
      go_round
      case rel => exact ⟨k + 1, by omega, by go_num, by rw [HS.out]⟩
      case measure => simp [intOf]; omega
    · have e : k = m + 1 := by omega
      subst e
      go_wp2
      go_ret
      exact ⟨rfl, HW.out⟩
theorem upTo2 (a c d : Nat) (ha : a ≤ 100) (hc : c ≤ 100) (hd : d ≤ 100) (w : World) :
    Calls Tryz.prog 130 #[W9 a c d, .int .i64 2] w fun e w' => e = .returned (.int .i64 ((1 + a + c : Nat) : Int)) ∧ Below w.heap.size w w' := by
  refine (upTo_row a c d 2 ha hc hd (.inl rfl) w).mono ?_
  rintro e w' ⟨rfl, hb⟩
  refine ⟨ret_int ?_, hb⟩
  simp [sumI]
theorem upTo3 (a c d : Nat) (ha : a ≤ 100) (hc : c ≤ 100) (hd : d ≤ 100) (w : World) :
    Calls Tryz.prog 130 #[W9 a c d, .int .i64 3] w fun e w' => e = .returned (.int .i64 ((1 + a + c + d : Nat) : Int)) ∧ Below w.heap.size w w' := by
  refine (upTo_row a c d 3 ha hc hd (.inr rfl) w).mono ?_
  rintro e w' ⟨rfl, hb⟩
  refine ⟨ret_int ?_, hb⟩
  simp [sumI]
end Go.Proofs.YtalpbnfebcafgaaGreat
