/- The contract of the reference's Arb. -/
import Derived.Test.YtffhhegpkejdgaaX61
import Derived.Deep.RegionHeld3
import Derived.Test.YtffhhegpkejdgaaX60
namespace Go.Proofs.Ytffhhegpkejdgaa
open Go.RowKit

def RowOk (zs : List Int) (w : World) (e : Ending) (w' : World) : Prop :=
  ∃ A cap, e = .returned (.slice A zs.length cap) ∧ Il w' A zs.length zs ∧ Below w.heap.size w w'

theorem arb_short {f : Fr} {i : Nat} (hx : f.ext = false) (hi : f.id = (i : Int)) : ofB i 11 ++ [(f.rtr.toNat : Int), 0] = ofB f.num f.wid := by
  have e1 : f.num = i * 4 + f.rtr.toNat * 2 := by simp [Fr.num, hx, hi]
  have e2 : f.wid = 11 + 2 := by simp [Fr.wid, hx]
  rw [e1, e2, ofB_split]
  have hr : f.rtr.toNat ≤ 1 := by cases f.rtr <;> decide
  rw [show (i * 4 + f.rtr.toNat * 2) / 2 ^ 2 = i by omega]
  congr 1
  rw [ofB_snoc, ofB_snoc, ofB_zero]
  simp
  omega
theorem arb_long {f : Fr} {i : Nat} (hx : f.ext = true) (hi : f.id = (i : Int)) : ofB (i / 262144) 11 ++ [1, 1] ++ ofB (i % 262144) 18 ++ [(f.rtr.toNat : Int)] = ofB f.num f.wid := by
  have e1 : f.num = (i / 262144 * 4 + 3) * 524288 + i % 262144 * 2 + f.rtr.toNat := by simp [Fr.num, hx, hi]
  have e2 : f.wid = (11 + 2) + (18 + 1) := by simp [Fr.wid, hx]
  have hr : f.rtr.toNat ≤ 1 := by cases f.rtr <;> decide
  rw [e1, e2, ofB_split]
  rw [show ((i / 262144 * 4 + 3) * 524288 + i % 262144 * 2 + f.rtr.toNat) / 2 ^ (18 + 1) = i / 262144 * 4 + 3 by omega]
  rw [ofB_split (i / 262144 * 4 + 3) 11 2, show (i / 262144 * 4 + 3) / 2 ^ 2 = i / 262144 by omega]
  rw [ofB_snoc ((i / 262144 * 4 + 3) * 524288 + i % 262144 * 2 + f.rtr.toNat) 18]
  have e3 : ofB (i / 262144 * 4 + 3) 2 = [1, 1] := by
    rw [ofB_snoc, ofB_snoc, ofB_zero]; simp; omega
  have e4 : ofB (((i / 262144 * 4 + 3) * 524288 + i % 262144 * 2 + f.rtr.toNat) / 2) 18 = ofB (i % 262144) 18 := by
    rw [show ((i / 262144 * 4 + 3) * 524288 + i % 262144 * 2 + f.rtr.toNat) / 2 = (i / 262144 * 4 + 3) * 2 ^ 18 + i % 262144 by omega]
    unfold ofB
    apply List.map_congr_left
    intro j hj
    rw [List.mem_range] at hj
    unfold bit
    generalize i / 262144 * 4 + 3 = A
    obtain ⟨q, hq⟩ : ∃ q, 18 - 1 - j = q ∧ q < 18 := ⟨_, rfl, by omega⟩
    rw [hq.1]
    rw [show A * 2 ^ 18 = A * 2 ^ (17 - q) * 2 * 2 ^ q by
      rw [Nat.mul_assoc A, Nat.mul_assoc A, ← Nat.pow_succ, ← Nat.pow_add]; congr 2; omega]
    rw [Nat.add_comm, Nat.add_mul_div_right _ _ (Nat.two_pow_pos q), Nat.add_mul_mod_self_right]
  rw [e3, e4]
  rw [show ((i / 262144 * 4 + 3) * 524288 + i % 262144 * 2 + f.rtr.toNat) % 2 = f.rtr.toNat by omega]
  simp

theorem cell_alloc {w : World} {p : Addr} {v : Value} (h : w.cell? p = some v) (o : Obj) : (w.alloc o).cell? p = some v := (World.cell?_alloc_some w p o (by rw [h]; rfl)).trans h

set_option maxRecDepth 100000 in
set_option maxHeartbeats 1600000 in
theorem rarb_short (f : Fr) (w : World) (hm : f.may = true) (hx : f.ext = false) :
    Calls Try.prog 44 #[f.val] w (RowOk (ofB f.num f.wid) w) := by
  obtain ⟨h0, h1, _⟩ := may_parts hm
  obtain ⟨i, hi⟩ := Int.eq_ofNat_of_zero_le h0
  have hmax : i ≤ 536870911 := by
    have : f.id ≤ 536870911 := by revert h1; simp only [Fr.most]; split <;> omega
    omega
  have HE := Lib.hid (arb_short hx hi)
  have HB := Lib.hid (boxed f w)
  have hb0 : Bx (w.alloc (.cells f.cells 24)) w.heap.size f := bx_new w f
  have HX := Lib.hid hb0
  have hl : (ofB i 11).length = 11 := ofB_len _ _
  have HID := Lib.hid hi; have HEX := Lib.hid hx
  obtain ⟨gid, ext, r, n, d⟩ := f
  obtain rfl : gid = (i : Int) := hi
  obtain rfl : ext = false := hx
  clear hm h0 h1 hb0
  obtain ⟨rb, hrb⟩ : ∃ rb : Int, (r.toNat : Int) = rb := ⟨_, rfl⟩
  have HRB := Lib.hid hrb
  clear hrb
  have c0 := Lib.hid HX.out.1
  have c2 := Lib.hid HX.out.2.2.1
  go_enter Try.func44, Try.ntmps44
  go_wp2_with fail
  go_region_held3 (fun w' => w'.cell? ⟨w.heap.size, 0, none⟩ = some (.int .i64 (i : Int)) ∧ w'.cell? ⟨w.heap.size, 2, none⟩ = some (.bool r))
    (first
      | exact k4.out
      | exact k3.out
      | exact k1.out
      | exact ⟨c0.out, c2.out⟩
      | fail)
    (first
      | (go_at_call 65; (refine (digits_ok 11 i _ (by omega) hmax).mono ?_); rintro e w1 ⟨v1, rfl, ho1, hb1⟩; have HO := Lib.hid (show Own w1 (w.heap.size + 1) v1 (ofB i 11) from by simpa using ho1); have k1 := Lib.hid (And.intro ((hb1.cell (p := ⟨w.heap.size, 0, none⟩) (by simp)).trans c0.out) ((hb1.cell (p := ⟨w.heap.size, 2, none⟩) (by simp)).trans c2.out)); have hb1' := hb1.mono (show w.heap.size + 1 ≤ _ by simp); have HN := Lib.hid (Arr.new w1 .i64 3 [rb, 0]).il; have hs1 := hb1.size; have k3 := Lib.hid (And.intro (cell_alloc k1.out.1 (.cells (([rb, 0] : List Int).map (Value.int .i64)).toArray 3)) (cell_alloc k1.out.2 (.cells (([rb, 0] : List Int).map (Value.int .i64)).toArray 3))); clear ho1)
      | (go_at_call 66; (refine (flag_any r _).mono ?_); rintro e w2 ⟨rfl, rfl⟩; rw [HRB.out])
      | (refine step_append_ints2 _ (by rfl) (.tmp 9) (.tmp 13) (by rfl) (w.heap.size + 1) v1 (ofB i 11) (by rfl) (by exact HO.out.alloc _) (some ⟨w1.heap.size, 0, none⟩) 2 2 [rb, 0] (by rfl) (by exact HN.out) (by omega) (by simp at hs1; simp; omega) ?_; intro v4 w4 ho4 hg4 _; have hb4 := push_lit hb1' (by simp at hs1; omega) HO.out hg4; have k4 := Lib.hid (And.intro ((hb4.cell (p := ⟨w.heap.size, 0, none⟩) (by simp)).trans c0.out) ((hb4.cell (p := ⟨w.heap.size, 2, none⟩) (by simp)).trans c2.out)); have HO4 := Lib.hid ho4; clear ho4 hg4)
      | fail)
  obtain ⟨A4, cap4, rfl, hi4, _⟩ := HO4.out.il2
  have HB4 := Lib.hid (nxt (belowN HB.out 1) (hb4.mono (by simp)))
  go_wp2
  go_ret
  rw [← HE.out, HRB.out]
  exact ⟨A4, cap4, rfl, hi4, HB4.out⟩

set_option maxHeartbeats 1600000 in
theorem rarb_long (f : Fr) (w : World) (hm : f.may = true) (hx : f.ext = true) :
    Calls Try.prog 44 #[f.val] w (RowOk (ofB f.num f.wid) w) := by
  obtain ⟨h0, h1, _⟩ := may_parts hm
  obtain ⟨i, hi⟩ := Int.eq_ofNat_of_zero_le h0
  have hmax : i ≤ 536870911 := by
    have : f.id ≤ 536870911 := by revert h1; simp only [Fr.most]; split <;> omega
    omega
  have HE := Lib.hid (arb_long hx hi)
  have HB := Lib.hid (boxed f w)
  have HX := Lib.hid (bx_new w f)
  obtain ⟨gid, ext, r, n, d⟩ := f
  obtain rfl : gid = (i : Int) := hi
  obtain rfl : ext = true := hx
  clear hm h0 h1
  have c0 := Lib.hid HX.out.1
  have c2 := Lib.hid HX.out.2.2.1
  obtain ⟨q, hq⟩ : ∃ q, i / 262144 = q := ⟨_, rfl⟩
  obtain ⟨m, hmd⟩ : ∃ m, i % 262144 = m := ⟨_, rfl⟩
  have e1 : (i : Int) / 262144 = (q : Int) := by omega
  have e2 : (i : Int) % 262144 = (m : Int) := by omega
  have HD1 := Lib.hid (digits_ok 11 q · (by omega) (by omega))
  have HD2 := Lib.hid (digits_ok 18 m · (by omega) (by omega))
  rw [hq, hmd] at HE
  obtain ⟨rb, hrb⟩ : ∃ rb : Int, (r.toNat : Int) = rb := ⟨_, rfl⟩
  have hl1 : (ofB q 11).length = 11 := ofB_len _ _
  have hl2 : (ofB m 18).length = 18 := ofB_len _ _
  have HRB := Lib.hid hrb
  have HL1 := Lib.hid hl1; have HL2 := Lib.hid hl2
  generalize ofB q 11 = l1 at *
  generalize ofB m 18 = l2 at *
  have hi' : (i : Int) ≤ 536870911 := by omega
  clear hrb hq hmd hl1 hl2
  go_enter Try.func44, Try.ntmps44
  go_wp2_with fail
  refine (HD1.out _).mono ?_
  rintro e w1 ⟨v1, rfl, ho1, hb1⟩
  have HO1 := Lib.hid (show Own w1 (w.heap.size + 1) v1 l1 from by simpa using ho1)
  have hb1' := hb1.mono (show w.heap.size + 1 ≤ _ by simp)
  have HN1 := Lib.hid (Arr.new w1 .i64 3 [1, 1]).il
  have hs1 : w.heap.size + 1 ≤ w1.heap.size := by have := hb1.size; simpa using this
  clear ho1 hb1
  go_wp2_with (first
    | (at_builtin; (refine append_ints2 _ rfl (.tmp 18) (.tmp 19) rfl (w.heap.size + 1) v1 l1 rfl (HO1.out.alloc _) _ 2 2 [1, 1] rfl HN1.out (by have := HL1.out; omega) (by simp; omega) ?_); intro v2 w2 ho2 hg2 _; have hb2 := push_lit hb1' hs1 HO1.out hg2; have HO2 := Lib.hid ho2; obtain ⟨k0, k2⟩ := And.intro ((hb2.cell (p := ⟨w.heap.size, 0, none⟩) (by simp)).trans c0.out) ((hb2.cell (p := ⟨w.heap.size, 2, none⟩) (by simp)).trans c2.out); clear ho2 hg2)
    | fail)
  refine (HD2.out _).mono ?_
  rintro e w3 ⟨v3, rfl, ho3, hb3⟩
  obtain ⟨A3, cap3, rfl, hi3, _⟩ := ho3.il2
  have HI3 := Lib.hid hi3
  have HO23 := Lib.hid (HO2.out.below hb3)
  have hb23 := hb2.trans (hb3.mono (show w.heap.size + 1 ≤ w2.heap.size by have := hb2.size; simp at this; omega))
  have hs3 : w.heap.size + 1 ≤ w3.heap.size := by have := hb23.size; simp at this; omega
  rw [HL2.out] at HI3 ⊢
  clear ho3 hi3 hb3 k0 k2
  go_wp2_with (first
    | (at_builtin; (refine append_ints2 _ rfl (.tmp 21) (.tmp 25) rfl (w.heap.size + 1) v2 (l1 ++ [1, 1]) rfl HO23.out A3 18 cap3 l2 rfl HI3.out (by have := HL1.out; simp; omega) hs3 ?_); intro v4 w4 ho4 hg4 _; have hb4 := hb23.grown hg4 hs3 HO23.out.row; have HO4 := Lib.hid ho4; obtain ⟨k0, k2⟩ := And.intro ((hb4.cell (p := ⟨w.heap.size, 0, none⟩) (by simp)).trans c0.out) ((hb4.cell (p := ⟨w.heap.size, 2, none⟩) (by simp)).trans c2.out); clear ho4 hg4)
    | fail)
  refine (flag_any r _).mono ?_
  rintro e w4' ⟨rfl, rfl⟩
  rw [HRB.out]
  have HN4 := Lib.hid (Arr.new w4 .i64 3 [rb]).il
  have hs4 : w.heap.size + 1 ≤ w4.heap.size := by have := hb4.size; simp at this; omega
  go_wp2_with (first
    | (at_builtin; (refine append_ints2 _ rfl (.tmp 27) (.tmp 31) rfl (w.heap.size + 1) v4 (l1 ++ [1, 1] ++ l2) rfl (HO4.out.alloc _) _ 1 1 [rb] rfl HN4.out (by have := HL1.out; have := HL2.out; simp; omega) (by simp; omega) ?_); intro v5 w5 ho5 hg5 _; have hb5 := push_lit hb4 hs4 HO4.out hg5; have HO5 := Lib.hid ho5; clear ho5 hg5)
    | fail)
  obtain ⟨A5, cap5, rfl, hi5, _⟩ := HO5.out.il2
  go_ret
  rw [← HE.out, HRB.out]
  exact ⟨A5, cap5, rfl, hi5, HB.out.trans (hb5.mono (by simp))⟩

theorem rarb_ok (f : Fr) (w : World) (hm : f.may = true) : Calls Try.prog 44 #[f.val] w (RowOk (ofB f.num f.wid) w) := by
  cases hx : f.ext
  · exact rarb_short f w hm hx
  · exact rarb_long f w hm hx
end Go.Proofs.Ytffhhegpkejdgaa

/- Plain mathematics of layer 2: the sum of levels (CRC-15), that it is linear, that nothing of it is lost, and what turned levels make of it. -/
namespace Go.Proofs.Ytffhhegpkejdgaa

/-- The sum behind a sum. -/
def stp (s : Nat) (z : Int) : Nat := 2 * s % 32768 ^^^ (if ((s / 16384 : Nat) : Int) = z then 0 else 17817)
/-- The sum behind a sum and a row. -/
def run (s : Nat) (zs : List Int) : Nat := zs.foldl stp s
/-- The sum of levels. -/
def csum (zs : List Int) : Nat := run 0 zs
/-- One level xor another. -/
def xr (z y : Int) : Int := if z = y then 0 else 1

theorem stp_lt (s : Nat) (z : Int) : stp s z < 32768 := by
  unfold stp
  refine Nat.xor_lt_two_pow (n := 15) (Nat.mod_lt _ (by omega)) ?_
  split <;> omega
theorem run_nil (s : Nat) : run s [] = s := rfl
theorem run_cons (s : Nat) (z : Int) (zs : List Int) : run s (z :: zs) = run (stp s z) zs := rfl
theorem run_append (s : Nat) (xs ys : List Int) : run s (xs ++ ys) = run (run s xs) ys := by simp [run]
theorem run_snoc (s : Nat) (xs : List Int) (z : Int) : run s (xs ++ [z]) = stp (run s xs) z := by simp [run]
theorem run_lt : ∀ (zs : List Int) (s : Nat), s < 32768 → run s zs < 32768 := by
  intro zs
  induction zs with
  | nil => intro s h; exact h
  | cons z zs ih => intro s _; exact ih _ (stp_lt s z)
theorem csum_lt (zs : List Int) : csum zs < 32768 := run_lt zs 0 (by omega)
theorem csum_step (zs : List Int) (k : Nat) (z : Int) (h : zs[k]? = some z) : csum (zs.take (k + 1)) = stp (csum (zs.take k)) z := by
  rw [List.take_add_one, h]; exact run_snoc _ _ _

theorem xor_eq {s t : Nat} (h : s ^^^ t = 0) : s = t := by
  have e := congrArg (· ^^^ t) h
  simpa [Nat.xor_assoc] using e
theorem dbl_xor (s t : Nat) : 2 * (s ^^^ t) % 32768 = (2 * s % 32768) ^^^ (2 * t % 32768) := by
  have e : 2 * (s ^^^ t) = 2 * s ^^^ 2 * t := by
    apply Nat.eq_of_testBit_eq
    intro i
    cases i with
    | zero => simp
    | succ i =>
      rw [Nat.testBit_xor, Nat.testBit_succ, Nat.testBit_succ, Nat.testBit_succ, Nat.mul_div_cancel_left _ (by omega), Nat.mul_div_cancel_left _ (by omega), Nat.mul_div_cancel_left _ (by omega), Nat.testBit_xor]
  rw [e]
  exact Nat.xor_mod_two_pow (n := 15)
theorem top_xor (s t : Nat) : (s ^^^ t) / 16384 = s / 16384 ^^^ t / 16384 := Nat.xor_div_two_pow (n := 14)
theorem stp_xor {s t : Nat} {z y : Int} (hs : s < 32768) (ht : t < 32768) (hz : z = 0 ∨ z = 1) (hy : y = 0 ∨ y = 1) : stp s z ^^^ stp t y = stp (s ^^^ t) (xr z y) := by
  unfold stp xr
  rw [dbl_xor, top_xor]
  generalize 2 * s % 32768 = a
  generalize 2 * t % 32768 = b
  have h1 : s / 16384 = 0 ∨ s / 16384 = 1 := by omega
  have h2 : t / 16384 = 0 ∨ t / 16384 = 1 := by omega
  have c1 : a ^^^ 17817 ^^^ b = a ^^^ b ^^^ 17817 := by rw [Nat.xor_assoc, Nat.xor_comm 17817 b, Nat.xor_assoc]
  have c2 : a ^^^ (b ^^^ 17817) = a ^^^ b ^^^ 17817 := by rw [Nat.xor_assoc]
  have c3 : a ^^^ 17817 ^^^ (b ^^^ 17817) = a ^^^ b := by rw [← Nat.xor_assoc, c1, Nat.xor_assoc, Nat.xor_self, Nat.xor_zero]
  rcases h1 with h1 | h1 <;> rcases h2 with h2 | h2 <;> rcases hz with rfl | rfl <;> rcases hy with rfl | rfl <;> simp [h1, h2, c1, c2, c3]
theorem run_xor : ∀ (xs ys : List Int) (s t : Nat), s < 32768 → t < 32768 → xs.length = ys.length → (∀ z ∈ xs, lvl z = true) → (∀ z ∈ ys, lvl z = true) →
    run s xs ^^^ run t ys = run (s ^^^ t) (List.zipWith xr xs ys) := by
  intro xs
  induction xs with
  | nil =>
    intro ys s t _ _ hl _ _
    cases ys with
    | nil => rfl
    | cons y ys => simp at hl
  | cons x xs ih =>
    intro ys s t hs ht hl hx hy
    cases ys with
    | nil => simp at hl
    | cons y ys =>
      rw [run_cons, run_cons, List.zipWith_cons_cons, run_cons, ← stp_xor hs ht (lvl_01 (hx x (by simp))) (lvl_01 (hy y (by simp)))]
      exact ih ys _ _ (stp_lt _ _) (stp_lt _ _) (by simpa using hl) (fun z hz => hx z (by simp [hz])) (fun z hz => hy z (by simp [hz]))

theorem stp_inj {s t : Nat} {z : Int} (hs : s < 32768) (ht : t < 32768) (hz : z = 0 ∨ z = 1) (h : stp s z = stp t z) : s = t := by
  have h0 : stp (s ^^^ t) 0 = 0 := by
    have e := stp_xor hs ht hz hz
    rw [h, Nat.xor_self] at e
    rw [show xr z z = 0 from by simp [xr]] at e
    exact e.symm
  have hu : s ^^^ t < 32768 := Nat.xor_lt_two_pow (n := 15) hs ht
  have hz0 : s ^^^ t = 0 := by
    generalize s ^^^ t = u at *
    unfold stp at h0
    have h2 : 2 * u % 32768 % 2 = 0 := by omega
    by_cases hc : ((u / 16384 : Nat) : Int) = 0
    · rw [if_pos hc, Nat.xor_zero] at h0; omega
    · rw [if_neg hc] at h0
      have h3 := xor_eq h0
      omega
  exact xor_eq hz0
theorem run_inj : ∀ (zs : List Int) (s t : Nat), s < 32768 → t < 32768 → (∀ z ∈ zs, lvl z = true) → run s zs = run t zs → s = t := by
  intro zs
  induction zs with
  | nil => intro s t _ _ _ h; exact h
  | cons z zs ih =>
    intro s t hs ht hl h
    exact stp_inj hs ht (lvl_01 (hl z (by simp))) (ih _ _ (stp_lt _ _) (stp_lt _ _) (fun y hy => hl y (by simp [hy])) h)

/-- A sum goes out by its own bits: each one that is pushed out is the level. -/
theorem run_own : ∀ (k s : Nat), s < 32768 → k ≤ 15 → run s (ofB (s / 2 ^ (15 - k)) k) = s * 2 ^ k % 32768 := by
  intro k
  induction k with
  | zero => intro s h _; simp [ofB, run]; omega
  | succ k ih =>
    intro s h hk
    have hh : stp s (bit (s / 2 ^ (15 - (k + 1))) k) = 2 * s % 32768 := by
      unfold stp bit
      rw [if_pos, Nat.xor_zero]
      rw [Nat.div_div_eq_div_mul, ← Nat.pow_add, show 15 - (k + 1) + k = 14 by omega, show (2 : Nat) ^ 14 = 16384 by decide]
      omega
    rw [ofB_cons, run_cons, hh]
    have e : ofB (s / 2 ^ (15 - (k + 1))) k = ofB (2 * s % 32768 / 2 ^ (15 - k)) k := by
      apply List.map_congr_left
      intro j hj
      have hj := List.mem_range.1 hj
      have hx : 2 ^ (15 - (k + 1)) * 2 = 2 ^ (15 - k) := by rw [show 15 - k = 15 - (k + 1) + 1 by omega, Nat.pow_succ]
      have e1 : 2 * s % 32768 = 2 * (s % 16384) := by omega
      have e2 : 2 * (s % 16384) / 2 ^ (15 - k) = s % 16384 / 2 ^ (15 - (k + 1)) := by rw [← hx, Nat.mul_comm 2, Nat.mul_div_mul_right _ _ (by omega)]
      rw [e1, e2]
      unfold bit
      rw [Nat.div_div_eq_div_mul, Nat.div_div_eq_div_mul, ← Nat.pow_add]
      congr 1
      have e3 : (s % 16384) / 2 ^ (15 - (k + 1) + (k - 1 - j)) % 2 = s / 2 ^ (15 - (k + 1) + (k - 1 - j)) % 2 := by
        generalize hm : 15 - (k + 1) + (k - 1 - j) = m
        have hm' : m < 14 := by omega
        have a1 := Nat.testBit_mod_two_pow s 14 m
        simp only [hm', decide_true, Bool.true_and] at a1
        rw [Nat.testBit_eq_decide_div_mod_eq, Nat.testBit_eq_decide_div_mod_eq] at a1
        have a2 : (s % 2 ^ 14 / 2 ^ m % 2 = 1) ↔ (s / 2 ^ m % 2 = 1) := by
          constructor
          · intro h; exact of_decide_eq_true (by rw [← a1]; exact decide_eq_true h)
          · intro h; exact of_decide_eq_true (by rw [a1]; exact decide_eq_true h)
        rw [show (16384 : Nat) = 2 ^ 14 by decide]
        omega
      rw [e3]
    rw [e, ih _ (by omega) (by omega), Nat.pow_succ]
    rw [Nat.mod_mul_mod, Nat.mul_comm 2 s, Nat.mul_assoc, Nat.mul_comm 2]

theorem run_self {s : Nat} (h : s < 32768) : run s (ofB s 15) = 0 := by
  have e := run_own 15 s h (Nat.le_refl _)
  rw [show 15 - 15 = 0 from rfl, Nat.pow_zero, Nat.div_one] at e
  rw [e]; omega
theorem run_zero {s t : Nat} (hs : s < 32768) (ht : t < 32768) : run s (ofB t 15) = 0 ↔ s = t := by
  constructor
  · intro h; exact run_inj (ofB t 15) s t hs ht (ofB_all t 15) (by rw [h, run_self ht])
  · rintro rfl; exact run_self hs
theorem csum_own (zs : List Int) {n : Nat} (hn : n < 32768) : csum (zs ++ ofB n 15) = 0 ↔ n = csum zs := by
  unfold csum
  rw [run_append, show run 0 zs = csum zs from rfl, run_zero (csum_lt zs) hn]
  exact eq_comm
theorem ofB_inj {a b : Nat} (ha : a < 32768) (hb : b < 32768) (h : ofB a 15 = ofB b 15) : a = b := by
  have e := congrArg val h
  rw [val_ofB, val_ofB] at e
  omega
theorem run_nought : ∀ k : Nat, run 0 (List.replicate k 0) = 0 := by
  intro k
  induction k with
  | zero => rfl
  | succ k ih => rw [List.replicate_succ, run_cons]; exact ih
theorem csum_nought (k : Nat) (zs : List Int) : csum (List.replicate k 0 ++ zs) = csum zs := by
  unfold csum
  rw [run_append, run_nought]
theorem all_append {xs ys : List Int} (hx : ∀ z ∈ xs, lvl z = true) (hy : ∀ z ∈ ys, lvl z = true) : ∀ z ∈ xs ++ ys, lvl z = true := by
  intro z hz
  rcases List.mem_append.1 hz with h | h
  · exact hx z h
  · exact hy z h
theorem all_nought (k : Nat) : ∀ z ∈ List.replicate k (0 : Int), lvl z = true := by
  intro z hz
  rw [(List.mem_replicate.1 hz).2]; rfl
theorem xr_lvl (z y : Int) : lvl (xr z y) = true := by unfold xr; split <;> rfl
theorem xrs_lvl : ∀ (xs ys : List Int), ∀ z ∈ List.zipWith xr xs ys, lvl z = true := by
  intro xs
  induction xs with
  | nil => intro ys z hz; simp at hz
  | cons x xs ih =>
    intro ys z hz
    cases ys with
    | nil => simp at hz
    | cons y ys =>
      rw [List.zipWith_cons_cons] at hz
      cases hz with
      | head => exact xr_lvl _ _
      | tail _ hz => exact ih ys z hz
theorem xrs_zero : ∀ (xs ys : List Int), xs.length = ys.length → (∀ z ∈ List.zipWith xr xs ys, z = 0) → xs = ys := by
  intro xs
  induction xs with
  | nil => intro ys hl _; exact (List.eq_nil_of_length_eq_zero hl.symm).symm
  | cons x xs ih =>
    intro ys hl h
    cases ys with
    | nil => simp at hl
    | cons y ys =>
      rw [List.zipWith_cons_cons] at h
      have h1 := h (xr x y) (by simp)
      have e : x = y := by
        unfold xr at h1
        by_cases hc : x = y
        · exact hc
        · rw [if_neg hc] at h1; cases h1
      rw [e, ih ys (by simpa using hl) (fun z hz => h z (by simp [hz]))]
theorem ofB_nought (k : Nat) : ofB 0 k = List.replicate k 0 := by
  apply List.ext_getElem
  · simp [ofB]
  · intro j h1 h2; simp [ofB, bit]
/-- Up to 15 levels that make nothing of nothing are noughts. -/
theorem run_short {ds : List Int} (hd : ∀ z ∈ ds, lvl z = true) (hl : ds.length ≤ 15) (h : run 0 ds = 0) : ∀ z ∈ ds, z = 0 := by
  have h2 : run 0 (List.replicate (15 - ds.length) 0 ++ ds) = 0 := by rw [run_append, run_nought, h]
  have ha := all_append (all_nought (15 - ds.length)) hd
  have hlen : (List.replicate (15 - ds.length) 0 ++ ds).length = 15 := by simp; omega
  have e := ofB_val ha
  have hv := val_lt _ ha
  rw [hlen] at e hv
  rw [← e] at h2
  have hz := (run_zero (by omega) hv).1 h2
  rw [← hz, ofB_nought] at e
  intro z hz'
  have : z ∈ List.replicate 15 (0 : Int) := by rw [e]; exact List.mem_append_right _ hz'
  exact (List.mem_replicate.1 this).2
theorem run_burst {s : Nat} {xs ys : List Int} (hs : s < 32768) (hl : xs.length = ys.length) (h15 : xs.length ≤ 15) (hx : ∀ z ∈ xs, lvl z = true) (hy : ∀ z ∈ ys, lvl z = true)
    (h : run s xs = run s ys) : xs = ys := by
  have e := run_xor xs ys s s hs hs hl hx hy
  rw [h, Nat.xor_self, Nat.xor_self] at e
  exact xrs_zero xs ys hl (run_short (xrs_lvl xs ys) (by rw [List.length_zipWith]; omega) e.symm)
theorem all_take {zs : List Int} (h : ∀ z ∈ zs, lvl z = true) (k : Nat) : ∀ z ∈ zs.take k, lvl z = true := fun z hz => h z (List.mem_of_mem_take hz)
theorem all_drop {zs : List Int} (h : ∀ z ∈ zs, lvl z = true) (k : Nat) : ∀ z ∈ zs.drop k, lvl z = true := fun z hz => h z (List.mem_of_mem_drop hz)
/-- Two rows that differ within 15 levels side by side have two sums. -/
theorem csum_burst {xs ys : List Int} {p : Nat} (hl : xs.length = ys.length) (hx : ∀ z ∈ xs, lvl z = true) (hy : ∀ z ∈ ys, lvl z = true)
    (h1 : xs.take p = ys.take p) (h2 : xs.drop (p + 15) = ys.drop (p + 15)) (h : csum xs = csum ys) : xs = ys := by
  have cut : ∀ zs : List Int, zs = zs.take p ++ ((zs.drop p).take 15 ++ zs.drop (p + 15)) := by
    intro zs
    rw [← List.drop_drop, List.take_append_drop, List.take_append_drop]
  have hx' := cut xs
  have hy' := cut ys
  unfold csum at h
  rw [hx', hy', run_append, run_append, run_append, run_append, h1, h2] at h
  have hq := run_lt (ys.take p) 0 (by omega)
  have e1 := run_inj _ _ _ (run_lt _ _ hq) (run_lt _ _ hq) (all_drop hy (p + 15)) h
  have e2 := run_burst hq (by simp only [List.length_take, List.length_drop]; omega) (by simp only [List.length_take]; omega) (all_take (all_drop hx p) 15) (all_take (all_drop hy p) 15) e1
  rw [hx', hy', h1, h2, e2]

/-- Whether levels, with their sum behind them, are right. -/
def rgt (zs : List Int) : Bool := decide (15 ≤ zs.length) && (chk zs < 0 && zs.drop (zs.length - 15) == ofB (csum (zs.take (zs.length - 15))) 15)
theorem rgt_own (zs : List Int) (hz : ∀ z ∈ zs, lvl z = true) {n : Nat} (hn : n < 32768) : rgt (zs ++ ofB n 15) = (n == csum zs) := by
  have ha := all_append hz (ofB_all n 15)
  have hl : (zs ++ ofB n 15).length = zs.length + 15 := by rw [List.length_append, ofB_len]
  unfold rgt
  rw [chk, fst_of_all lvl _ ha, hl, Nat.add_sub_cancel, List.drop_left, List.take_left, decide_eq_true (by omega : 15 ≤ zs.length + 15)]
  simp only [Bool.true_and]
  by_cases h : n = csum zs
  · rw [← h]; simp
  · have h1 : (ofB n 15 == ofB (csum zs) 15) = false := by
      rw [beq_eq_false_iff_ne]; exact fun e => h (ofB_inj hn (csum_lt zs) e)
    rw [h1]; simp [h]
theorem rgt_sum (zs : List Int) (hz : ∀ z ∈ zs, lvl z = true) (hl : 15 ≤ zs.length) : rgt zs = (csum zs == 0) := by
  have hf := all_take hz (zs.length - 15)
  have hb := all_drop hz (zs.length - 15)
  have hbl : (zs.drop (zs.length - 15)).length = 15 := by rw [List.length_drop]; omega
  have e := ofB_val hb
  have hv := val_lt _ hb
  rw [hbl] at e hv
  have ez : zs = zs.take (zs.length - 15) ++ ofB (val (zs.drop (zs.length - 15))) 15 := by rw [e, List.take_append_drop]
  have h1 := rgt_own _ hf hv
  have h2 := csum_own (zs.take (zs.length - 15)) hv
  rw [← ez] at h1 h2
  rw [h1]
  by_cases h : csum zs = 0
  · rw [h2.1 h]; simp [h]
  · have : ¬ val (zs.drop (zs.length - 15)) = csum (zs.take (zs.length - 15)) := fun e => h (h2.2 e)
    rw [beq_eq_false_iff_ne.2 this, beq_eq_false_iff_ne.2 h]
theorem rgt_bad {zs : List Int} (h : 0 ≤ chk zs) : rgt zs = false := by
  unfold rgt
  have : decide (chk zs < 0) = false := by simp; omega
  simp [this]
theorem rgt_short {zs : List Int} (h : zs.length < 15) : rgt zs = false := by
  unfold rgt
  simp [show ¬ 15 ≤ zs.length by omega]

/-! The reference: 15 bits of a sum, behind a level. -/
def poly : List Int := [1, 0, 0, 0, 1, 0, 1, 1, 0, 0, 1, 1, 0, 0, 1]
theorem bit_test (n i : Nat) : bit n i = ((n.testBit i).toNat : Int) := by
  unfold bit
  rw [Nat.testBit_eq_decide_div_mod_eq]
  have := Nat.mod_lt (n / 2 ^ i) (show 2 > 0 by omega)
  rcases (show n / 2 ^ i % 2 = 0 ∨ n / 2 ^ i % 2 = 1 by omega) with h | h <;> rw [h] <;> rfl
theorem bit_xor (a b i : Nat) : bit (a ^^^ b) i = (bit a i + bit b i) % 2 := by
  rw [bit_test, bit_test, bit_test, Nat.testBit_xor]
  cases a.testBit i <;> cases b.testBit i <;> rfl
theorem bit_dbl (s i : Nat) (hi : i < 14) : bit (2 * s % 32768) (i + 1) = bit s i := by
  rw [bit_test, bit_test]
  have e := Nat.testBit_mod_two_pow (2 * s) 15 (i + 1)
  rw [show (2 : Nat) ^ 15 = 32768 by decide] at e
  rw [e, Nat.testBit_succ, Nat.mul_div_cancel_left _ (by omega)]
  simp [show i + 1 < 15 by omega]
theorem bit_dbl0 (s : Nat) : bit (2 * s % 32768) 0 = 0 := by unfold bit; omega
theorem bit_poly : ∀ k : Nat, k < 15 → bit 17817 (14 - k) = poly.getD k 0 := by decide
/-- What the reference reckons of one bit. -/
theorem bit_stp {s k : Nat} {z : Int} (hs : s < 32768) (hz : z = 0 ∨ z = 1) (hk : k < 15) :
    bit (stp s z) (14 - k) = ((if k < 14 then bit s (13 - k) else 0) + (bit s 14 + z) % 2 * poly.getD k 0) % 2 := by
  have h14 : bit s 14 = ((s / 16384 : Nat) : Int) := by unfold bit; rw [show (2 : Nat) ^ 14 = 16384 by decide]; omega
  have hd : bit (2 * s % 32768) (14 - k) = if k < 14 then bit s (13 - k) else 0 := by
    by_cases h : k < 14
    · rw [if_pos h, show 14 - k = (13 - k) + 1 by omega]; exact bit_dbl s _ (by omega)
    · rw [if_neg h, show 14 - k = 0 by omega]; exact bit_dbl0 s
  unfold stp
  rw [bit_xor, hd, h14]
  by_cases hc : ((s / 16384 : Nat) : Int) = z
  · rw [if_pos hc, show ((s / 16384 : Nat) : Int) + z = 2 * z by omega, show bit 0 (14 - k) = 0 by simp [bit]]
    simp
  · rw [if_neg hc, bit_poly k hk, show ((s / 16384 : Nat) : Int) + z = 1 by omega]
    simp
end Go.Proofs.Ytffhhegpkejdgaa

/- The contracts of crc15: the closure that goes on, Step, Sum, Bits, slices.Equal, Right. -/
namespace Go.Proofs.Ytffhhegpkejdgaa
open Go.RowKit

theorem i64_xor_nat (a b : Nat) (ha : a < 9223372036854775808) (hb : b < 9223372036854775808) : bits .xor .i64 (a : Int) (b : Int) = ((a ^^^ b : Nat) : Int) := by
  have hx : a ^^^ b < 2 ^ 63 := Nat.xor_lt_two_pow (by omega) (by omega)
  show IntKind.i64.wrap ((BitVec.ofInt 64 (a : Int) ^^^ BitVec.ofInt 64 (b : Int)).toNat : Int) = _
  rw [BitVec.toNat_xor, ofInt_u64 a (by omega), ofInt_u64 b (by omega), IntKind.wrap_i64]
  omega
theorem stp_eq {s : Nat} {z : Int} (h : ((s / 16384 : Nat) : Int) = z) : stp s z = 2 * s % 32768 := by unfold stp; rw [if_pos h, Nat.xor_zero]
theorem stp_ne {s : Nat} {z : Int} (h : ¬ ((s / 16384 : Nat) : Int) = z) : stp s z = 2 * s % 32768 ^^^ 17817 := by unfold stp; rw [if_neg h]

theorem below_put (g : Nat) (w : World) (v : Value) : Below g w (w.setCell ⟨g, 0, none⟩ v) := (Below.refl g w).setCell (p := ⟨g, 0, none⟩) (Nat.le_refl _) v

set_option maxHeartbeats 400000 in
theorem next_any (s : Nat) (z : Int) (g : Nat) (w : World) (hs : s < 32768) (ha : Arr .i64 3 w g [(s : Int)]) :
    Calls Try.prog 74 #[.int .i64 z, .pointer (some ⟨g, 0, none⟩)] w fun e w' => e = .returned (.int .i64 (stp s z : Nat)) ∧ Arr .i64 3 w' g [((stp s z : Nat) : Int)] ∧ Below g w w' := by
  have hc := ha.cell (i := 0) (by simp)
  have hf := ha.frozen 0
  have HA := Lib.hid ha
  clear ha
  by_cases h : ((s / 16384 : Nat) : Int) = z
  · have e : (s : Int) * 2 % 32768 = ((stp s z : Nat) : Int) := by rw [stp_eq h]; omega
    go_enter Try.func74, Try.ntmps74
    go_wp2
    go_ret
    rw [e]
    exact ⟨rfl, HA.out.put 0 _, below_put _ _ _⟩
  · have e : bits .xor .i64 ((s : Int) * 2 % 32768) 17817 = ((stp s z : Nat) : Int) := by
      rw [stp_ne h, show (s : Int) * 2 % 32768 = ((2 * s % 32768 : Nat) : Int) by omega, show (17817 : Int) = ((17817 : Nat) : Int) from rfl, i64_xor_nat _ _ (by omega) (by omega)]
    go_enter Try.func74, Try.ntmps74
    go_wp2
    go_ret
    exact ⟨rfl, (HA.out.put 0 _).put 0 _, (below_put _ _ _).trans (below_put _ _ _)⟩

theorem goOn_any (s : Int) (w : World) :
    Calls Try.prog 60 #[.int .i64 s] w fun e w' => e = .returned (.func (.func 74) #[] #[.pointer (some ⟨w.heap.size, 0, none⟩)]) ∧ w.alloc (.cells #[.int .i64 s] 3) = w' := by
  have hmf : ∀ (fn : Fn) (first cap : Array Value) (w : World), (Instr.makeFunc fn first cap).run Try.prog w = .ok (.func fn first cap) w := fun _ _ _ _ => rfl
  go_enter Try.func60, Try.ntmps60
  go_wp2
  go_ret
  exact ⟨rfl, rfl⟩

theorem isSum_any (n : Int) (w : World) :
    Calls Try.prog 62 #[.int .i64 n] w fun e w' => e = .returned (.bool (decide (0 ≤ n ∧ n < 32768))) ∧ w = w' := by
  by_cases h1 : 0 ≤ n
  · by_cases h2 : n < 32768
    · go_enter Try.func62, Try.ntmps62
      go_wp2
      go_ret
      exact ⟨ret_bool (by simp; omega), rfl⟩
    · go_enter Try.func62, Try.ntmps62
      go_wp2
      go_ret
      exact ⟨ret_bool (by simp; omega), rfl⟩
  · go_enter Try.func62, Try.ntmps62
    go_wp2
    go_ret
    exact ⟨ret_bool (by simp; omega), rfl⟩

/-- The second new block. -/
theorem arr_next (w : World) (o : Obj) (zs : List Int) : Arr .i64 3 ((w.alloc o).alloc (.cells (zs.map (Value.int .i64)).toArray 3)) (w.heap.size + 1) zs := by
  have h := Arr.new (w.alloc o) .i64 3 zs
  rwa [show (w.alloc o).heap.size = w.heap.size + 1 by simp] at h
theorem chk_one (z : Int) : chk [z] = if z = 0 ∨ z = 1 then -1 else 0 := by
  unfold chk fst led
  by_cases h : z = 0 ∨ z = 1
  · have : lvl z = true := by unfold lvl; simpa using h
    simp [h, this]
  · have : lvl z = false := by unfold lvl; simp; omega
    simp [h, this]

set_option maxHeartbeats 400000 in
theorem sum_bad (A : Option Addr) (n cap : Nat) (zs : List Int) (w : World) (hr : Il w A n zs) (hn : n ≤ 100000) (hl : 0 ≤ chk zs) :
    Calls Try.prog 36 #[.slice A n cap] w fun e w' => e = .returned (.tuple #[.int .i64 0, .int .i64 10]) ∧ w = w' := by
  go_enter Try.func36, Try.ntmps36
  go_wp2_with (go_at_call 41; (with_reducible refine (check_any _ _ _ _ _ hr (by omega)).mono ?_); rintro e w' ⟨rfl, rfl⟩)
  go_ret2
  exact ⟨rfl, rfl⟩

set_option maxHeartbeats 400000 in
theorem sum_ok (A : Option Addr) (n cap : Nat) (zs : List Int) (w : World) (hr : Il w A n zs) (hn : n ≤ 100000) (hl : ∀ z ∈ zs, lvl z = true) :
    Calls Try.prog 36 #[.slice A n cap] w fun e w' => e = .returned (.tuple #[.int .i64 (csum zs : Nat), .int .i64 0]) ∧ Below w.heap.size w w' := by
  have HL := Lib.hid (show chk zs = -1 from fst_of_all lvl zs hl)
  have HR := Lib.hid hr
  have HN := Lib.hid (Arr.new w .i64 3 [((0 : Nat) : Int)])
  clear hl hr
  go_enter Try.func36, Try.ntmps36
  go_wp2_with fail
  refine (check_any _ _ _ _ _ HR.out (by omega)).mono ?_
  rintro e w' ⟨rfl, rfl⟩
  rw [HL.out]
  go_wp2_with fail
  refine (goOn_any _ _).mono ?_
  rintro e w' ⟨rfl, rfl⟩
  go_wp2
  go_loopw [4, 13] (fun v i wr => ∃ k : Nat, k ≤ n ∧ i = .int .i64 k ∧ v = .int .i64 (csum (zs.take k) : Nat) ∧ Arr .i64 3 wr w.heap.size [((csum (zs.take k) : Nat) : Int)] ∧ Below w.heap.size w wr) (fun _ i _ => n - (intOf i).toNat)
  case atStart => exact ⟨0, Nat.zero_le _, rfl, rfl, HN.out, (Below.refl _ _).alloc (Nat.le_refl _) _⟩
  case round =>
    obtain ⟨k, hk, rfl, rfl, ha, hbel⟩ := hrel
    by_cases hlt : k < n
    · obtain ⟨ad, z, rfl, hz, hc⟩ := (HR.out.below hbel).at_ hlt
      have HS := Lib.hid (csum_step zs k z hz)
      have HA := Lib.hid ha
      have hlt' := csum_lt (zs.take k)
      clear hz ha
      generalize csum (zs.take k) = s at *
      go_wp2_with fail
      refine (next_any s z _ _ hlt' HA.out).mono ?_
      rintro e w3 ⟨rfl, ha3, hb3⟩
      go_wp2
      go_roundw
      case rel => exact ⟨k + 1, by omega, by go_num, by rw [HS.out], by rw [HS.out]; exact ha3, hbel.trans hb3⟩
      case measure => simp [intOf]; omega
    · have HS := Lib.hid (show zs.take k = zs from List.take_of_length_le (by rw [HR.out.1]; omega))
      go_wp2
      go_ret2
      exact ⟨by rw [HS.out]; rfl, hbel⟩

set_option maxHeartbeats 400000 in
theorem bits_bad (n : Int) (w : World) (h : ¬ (0 ≤ n ∧ n < 32768)) :
    Calls Try.prog 38 #[.int .i64 n] w fun e w' => e = .returned (.tuple #[.slice none 0 0, .int .i64 10]) ∧ w = w' := by
  have hd : decide (0 ≤ n ∧ n < 32768) = false := by simpa using h
  go_enter Try.func38, Try.ntmps38
  go_wp2_with fail
  refine (isSum_any _ _).mono ?_
  rintro e w' ⟨rfl, rfl⟩
  rw [hd]
  go_wp2
  go_ret2
  exact ⟨rfl, rfl⟩

set_option maxHeartbeats 400000 in
theorem bits_ok (n : Nat) (w : World) (h : n < 32768) :
    Calls Try.prog 38 #[.int .i64 n] w (SlOk (ofB n 15) w) := by
  have hd : decide (0 ≤ (n : Int) ∧ (n : Int) < 32768) = true := by simp; omega
  have hw : IntKind.u64.wrap (n : Int) = (n : Int) := by rw [IntKind.wrap_u64]; omega
  go_enter Try.func38, Try.ntmps38
  go_wp2_with fail
  refine (isSum_any _ _).mono ?_
  rintro e w' ⟨rfl, rfl⟩
  rw [hd]
  go_wp2_with fail
  refine (of_ok n 15 _ (by omega) (by omega)).mono ?_
  rintro e w1 ⟨A1, cap1, rfl, hi1, hb1⟩
  go_wp2
  go_ret2
  exact ⟨A1, cap1, rfl, hi1, hb1⟩
end Go.Proofs.Ytffhhegpkejdgaa

/- Parts of slices. -/
namespace Go.Proofs.Ytffhhegpkejdgaa
open Go.RowKit

theorem Il.take {w : World} {A : Option Addr} {n : Nat} {zs : List Int} (h : Il w A n zs) (k : Nat) (hk : k ≤ n) : Il w A k (zs.take k) :=
  ⟨by rw [List.length_take, h.1]; omega, fun h0 => by
    obtain ⟨ad, e, hl, hc⟩ := h.2 (by omega)
    refine ⟨ad, e, hl, fun j hj => ?_⟩
    rw [hc j (by omega)]
    simp [List.getD, List.getElem?_take_of_lt hj]⟩
theorem add_add (a : Addr) (i j : Nat) : (a.add i).add j = a.add (i + j) := by
  rcases a with ⟨b, o, c⟩
  cases c <;> simp [Addr.add] <;> (repeat' split) <;> simp_all <;> omega
theorem Il.drop {w : World} {ad : Addr} {n : Nat} {zs : List Int} (h : Il w (some ad) n zs) (k : Nat) (hk : k ≤ n) : Il w (some (ad.add k)) (n - k) (zs.drop k) :=
  ⟨by rw [List.length_drop, h.1], fun h0 => by
    obtain ⟨ad', e, hl, hc⟩ := h.2 (by omega)
    injection e with e
    subst e
    refine ⟨_, rfl, by rw [block_of_add]; exact hl, fun j hj => ?_⟩
    rw [add_add, hc (k + j) (by omega)]
    simp [List.getD, List.getElem?_drop]⟩
theorem add_pos (ad : Addr) {n : Nat} (h : 0 < n) : ad.add n = ⟨ad.block, ad.off + n, none⟩ := by
  unfold Addr.add; rw [if_neg (by omega)]
theorem at_zero (ad : Addr) : ad.add 0 = ad := by unfold Addr.add; split <;> simp_all
end Go.Proofs.Ytffhhegpkejdgaa

/- The contracts of slices.Equal and crc15.Right. -/
namespace Go.Proofs.Ytffhhegpkejdgaa
open Go.RowKit

set_option maxHeartbeats 400000 in
theorem equal_any (A B : Option Addr) (n m cap cap' : Nat) (xs ys : List Int) (w : World) (ha : Il w A n xs) (hb : Il w B m ys) (hn : n ≤ 100000) :
    Calls Try.prog 81 #[.slice A n cap, .slice B m cap'] w (QuietBool (xs == ys) w) := by
  by_cases hnm : n = m
  · obtain rfl := hnm
    have hne : ((n : Int) != (n : Int)) = false := by simp
    go_enter Try.func81, Try.ntmps81
    go_wp2
    go_loopw [13] (fun i wr => ∃ k q : Nat, k ≤ n ∧ i = .int .i64 k ∧ xs.take k = ys.take k ∧ wr = w.drewN q) (fun i _ => n - (intOf i).toNat)
    case atStart => exact ⟨0, 0, Nat.zero_le _, rfl, rfl, rfl⟩
    case round =>
      obtain ⟨k, q, hk, rfl, ht, rfl⟩ := hrel
      by_cases hlt : k < n
      · obtain ⟨ad, x, rfl, hx, hc⟩ := ha.at_ hlt
        obtain ⟨bd, y, rfl, hy, hd⟩ := hb.at_ hlt
        have HA := Lib.hid ha; have HB := Lib.hid hb; have HX := Lib.hid hx; have HY := Lib.hid hy; have HT := Lib.hid ht
        clear ha hb hx hy ht
        cases hxy : (x != y)
        · go_wp2
          go_quiet (fail)
          go_wp2
          go_roundw
          case rel => exact ⟨k + 1, _, by omega, by go_num, take_same HT.out HX.out HY.out (by simpa using hxy), rfl⟩
          case measure => simp [intOf]; omega
        · go_wp2
          go_quiet (fail)
          go_wp2
          go_ret
          exact ⟨ret_bool (beq_far HX.out HY.out hxy), _, World.drewN_drewN _ _ _⟩
      · go_wp2
        go_ret
        exact ⟨ret_bool (beq_all ht ha.1 hb.1 (by omega)), _, rfl⟩
  · have hne : ((n : Int) != (m : Int)) = true := by rw [bne_iff_ne]; omega
    go_enter Try.func81, Try.ntmps81
    go_wp2
    go_ret
    exact ⟨ret_bool (beq_len ha.1 hb.1 hnm), 0, rfl⟩
theorem equal_b (A B : Option Addr) (n m cap cap' : Nat) (xs ys : List Int) (w : World) (ha : Il w A n xs) (hb : Il w B m ys) (hn : n ≤ 100000) :
    Calls Try.prog 81 #[.slice A n cap, .slice B m cap'] w fun e w' => e = .returned (.bool (xs == ys)) ∧ Below w.heap.size w w' :=
  (equal_any A B n m cap cap' xs ys w ha hb hn).mono fun _ _ ⟨he, q, hq⟩ => ⟨he, by rw [hq]; exact belowN (Below.refl _ _) q⟩

theorem rgt_front {zs : List Int} {k : Nat} (hl : zs.length = k + 15) (h : ∀ z ∈ zs.take k, lvl z = true) : rgt zs = (zs.drop k == ofB (csum (zs.take k)) 15) := by
  unfold rgt
  rw [hl, Nat.add_sub_cancel, decide_eq_true (by omega : 15 ≤ k + 15), Bool.true_and]
  by_cases hb : zs.drop k = ofB (csum (zs.take k)) 15
  · have ha : ∀ z ∈ zs, lvl z = true := by
      rw [← List.take_append_drop k zs]
      exact all_append h (by rw [hb]; exact ofB_all _ _)
    rw [chk, fst_of_all lvl zs ha]; rfl
  · rw [beq_eq_false_iff_ne.2 hb, Bool.and_false]
theorem rgt_behind {zs : List Int} {k : Nat} (h : 0 ≤ chk (zs.take k)) : rgt zs = false := by
  obtain ⟨z, hz, hv⟩ := fst_nonneg lvl _ h
  refine rgt_bad ?_
  rcases Int.lt_or_le (chk zs) 0 with hn | hn
  · have := fst_neg lvl zs hn z (List.mem_of_mem_take hz)
    rw [hv] at this; cases this
  · exact hn

set_option maxHeartbeats 400000 in
theorem right_any (A : Option Addr) (n cap : Nat) (zs : List Int) (w : World) (hr : Il w A n zs) (hn : n ≤ 100000) (hc : n ≤ cap) :
    Calls Try.prog 79 #[.slice A n cap] w fun e w' => e = .returned (.bool (rgt zs)) ∧ Below w.heap.size w w' := by
  by_cases h15 : n < 15
  · go_enter Try.func79, Try.ntmps79
    go_wp2
    go_ret
    exact ⟨ret_bool (rgt_short (by rw [hr.1]; exact h15)).symm, Below.refl _ _⟩
  · obtain ⟨ad, rfl, hlt, hcl⟩ := hr.2 (by omega)
    obtain ⟨k, rfl⟩ : ∃ k, n = k + 15 := ⟨n - 15, by omega⟩
    have HR := Lib.hid hr
    clear hr hcl hlt
    go_enter Try.func79, Try.ntmps79
    go_wp2_with fail
    rcases Int.lt_or_le (chk (zs.take k)) 0 with hk | hk
    · have HK := Lib.hid (fst_neg lvl _ hk)
      have HF := Lib.hid (rgt_front HR.out.1 HK.out)
      clear hk
      refine (sum_ok _ _ _ _ _ (HR.out.take k (by omega)) (by omega) HK.out).mono ?_
      rintro e w1 ⟨rfl, hb1⟩
      have hs := csum_lt (zs.take k)
      generalize csum (zs.take k) = s at *
      go_wp2_with fail
      refine (bits_ok s _ hs).mono ?_
      rintro e w2 ⟨A2, cap2, rfl, hi2, hb2⟩
      have HB := Lib.hid (nxt hb1 hb2)
      have HI := Lib.hid hi2
      have HD := Lib.hid (show Il w2 (some (ad.add k)) 15 (zs.drop k) from by
        have h := (HR.out.below HB.out).drop k (by omega)
        rwa [Nat.add_sub_cancel_left] at h)
      clear hi2 hb1 hb2
      go_wp2_with fail
      refine (equal_b _ _ _ _ _ _ _ _ _ HD.out HI.out (by omega)).mono ?_
      rintro e w3 ⟨rfl, hb3⟩
      rw [← HF.out]
      go_wp2
      go_ret
      exact ⟨rfl, nxt HB.out hb3⟩
    · refine (sum_bad _ _ _ _ _ (HR.out.take k (by omega)) (by omega) hk).mono ?_
      rintro e w1 ⟨rfl, rfl⟩
      go_wp2
      go_ret
      exact ⟨ret_bool (rgt_behind hk).symm, Below.refl _ _⟩

theorem sum10 (A : Option Addr) (cap : Nat) (w : World) (hr : Il w A 2 [1, 0]) : Calls Try.prog 36 #[.slice A 2 cap] w fun e w' => e = .returned (.tuple #[.int .i64 20139, .int .i64 0]) ∧ Below w.heap.size w w' := by
  have h := sum_ok A 2 cap [1, 0] w hr (by omega) (by decide)
  rwa [show csum [1, 0] = 20139 by decide] at h

end Go.Proofs.Ytffhhegpkejdgaa

