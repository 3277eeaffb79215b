/- The walk of the law BitsSplits. -/
import Derived.Test.YtiaecljigldmhaaL5
namespace Go.Proofs.Ytiaecljigldmhaa
open Go.RowKit

theorem bit_lvl (n i : Nat) : lvl (bit n i) = true := by
  unfold bit lvl
  have := Nat.mod_lt (n / 2 ^ i) (show 2 > 0 by omega)
  simp; omega
theorem ofB_all (n width : Nat) : ∀ z ∈ ofB n width, lvl z = true := by
  intro z hz
  obtain ⟨j, _, rfl⟩ := List.mem_map.1 hz
  exact bit_lvl _ _
theorem ofB_snoc (n k : Nat) : ofB n (k + 1) = ofB (n / 2) k ++ [((n % 2 : Nat) : Int)] := by
  apply List.ext_getElem
  · simp [ofB]
  · intro j h1 h2
    simp only [ofB, List.length_map, List.length_range] at h1
    rcases Nat.lt_or_ge j k with h | h
    · rw [List.getElem_append_left (by simp [ofB]; exact h)]
      simp only [ofB, List.getElem_map, List.getElem_range, bit]
      rw [show k + 1 - 1 - j = (k - 1 - j) + 1 by omega, Nat.pow_succ', Nat.div_div_eq_div_mul]
    · have e : j = k := by omega
      subst e
      rw [List.getElem_append_right (by simp [ofB])]
      simp [ofB, bit]
theorem val_ofB : ∀ (k n : Nat), val (ofB n k) = n % 2 ^ k := by
  intro k
  induction k with
  | zero => intro n; simp [ofB, val, Nat.mod_one]
  | succ k ih =>
    intro n
    rw [ofB_snoc, val_snoc, ih, Nat.pow_succ', Nat.mod_mul]
    simp; omega
theorem ofB_split (n u l : Nat) : ofB n (u + l) = ofB (n / 2 ^ l) u ++ ofB n l := by
  apply List.ext_getElem
  · simp [ofB]
  · intro j h1 h2
    simp only [ofB, List.length_map, List.length_range] at h1
    rcases Nat.lt_or_ge j u with h | h
    · rw [List.getElem_append_left (by simp [ofB]; exact h)]
      simp only [ofB, List.getElem_map, List.getElem_range, bit]
      rw [Nat.div_div_eq_div_mul, ← Nat.pow_add, show l + (u - 1 - j) = u + l - 1 - j by omega]
    · rw [List.getElem_append_right (by simp [ofB]; exact h)]
      simp only [ofB, List.getElem_map, List.getElem_range, bit, List.length_map, List.length_range]
      rw [show l - 1 - (j - u) = u + l - 1 - j by omega]

theorem join_eq {n u l a x y : Nat} (h : u + l ≤ 64) (ha : a = n % 2 ^ (u + l)) (hx : x = n / 2 ^ l % 2 ^ u) (hy : y = n % 2 ^ l) :
    ((a : Int) == bits BinOp.or IntKind.u64 (IntKind.u64.wrap ((x : Int) * 2 ^ l)) (y : Int)) = true := by
  have p1 : 0 < 2 ^ l := Nat.pow_pos (by omega)
  have e1 : a = y + 2 ^ l * x := by rw [ha, hx, hy, Nat.add_comm u l, Nat.pow_add, Nat.mod_mul]
  have b1 : a < 2 ^ (u + l) := by rw [ha]; exact Nat.mod_lt _ (Nat.pow_pos (by omega))
  have b2 : 2 ^ (u + l) ≤ 2 ^ 64 := Nat.pow_le_pow_right (by omega) h
  have b3 : y < 2 ^ l := by rw [hy]; exact Nat.mod_lt _ p1
  have b4 : a < 18446744073709551616 := by have : (2 : Nat) ^ 64 = 18446744073709551616 := by decide
                                           omega
  have e2 : (x : Int) * 2 ^ l = ((2 ^ l * x : Nat) : Int) := by rw [Nat.mul_comm]; simp
  have e3 : IntKind.u64.wrap (((2 ^ l * x : Nat)) : Int) = ((2 ^ l * x : Nat) : Int) := by rw [IntKind.wrap_u64]; omega
  rw [e2, e3, u64_or_nat _ _ (by omega) (by omega), nat_join l _ _ (Nat.mul_mod_right _ _) b3, e1, Nat.add_comm]
  simp
theorem below_lit {w w' : World} {o : Obj} {n c : Nat} (h : (w.alloc o).grownBy w' (Value.slice (some ⟨w.heap.size, 0, none⟩) n c).ownBlock) : Below w.heap.size w w' :=
  ((Below.refl _ _).alloc (Nat.le_refl _) _).grown h (by simp) (by intro j hj; injection hj with hj; subst hj; exact Nat.le_refl _)

set_option maxHeartbeats 1600000 in
theorem law8 (n : Nat) (up lo : Int) (w : World) (hn : n < 18446744073709551616) (b1 : -9223372036854775808 ≤ up ∧ up ≤ 9223372036854775807) (b2 : -9223372036854775808 ≤ lo ∧ lo ≤ 9223372036854775807) :
    Calls Try.prog 8 #[.int .u64 n, .int .i64 up, .int .i64 lo] w fun e w' => e = .returned (.bool true) ∧ Below w.heap.size w w' := by
  have HN := Lib.hid hn
  clear hn
  by_cases hu : up < 0
  · have g0 : decide (up < 0) = true := by simp; omega
    go_enter Try.func8, Try.ntmps8
    go_wp2_with (go_at_call 9; (refine (awake_ok _).mono ?_); rintro e w1 ⟨rfl, hb1⟩)
    go_ret
    exact ⟨rfl, hb1⟩
  have g0 : decide (up < 0) = false := by simp; omega
  by_cases hl : lo < 0
  · have g1 : decide (lo < 0) = true := by simp; omega
    go_enter Try.func8, Try.ntmps8
    go_wp2_with (go_at_call 9; (refine (awake_ok _).mono ?_); rintro e w1 ⟨rfl, hb1⟩)
    go_ret
    exact ⟨rfl, hb1⟩
  have g1 : decide (lo < 0) = false := by simp; omega
  by_cases hv : 64 < up
  · have g2 : decide (64 < up) = true := by simp; omega
    go_enter Try.func8, Try.ntmps8
    go_wp2_with (go_at_call 9; (refine (awake_ok _).mono ?_); rintro e w1 ⟨rfl, hb1⟩)
    go_ret
    exact ⟨rfl, hb1⟩
  have g2 : decide (64 < up) = false := by simp; omega
  by_cases hx : 64 - up < lo
  · have g3 : decide (64 - up < lo) = true := by simp; omega
    go_enter Try.func8, Try.ntmps8
    go_wp2_with (go_at_call 9; (refine (awake_ok _).mono ?_); rintro e w1 ⟨rfl, hb1⟩)
    go_ret
    exact ⟨rfl, hb1⟩
  have g3 : decide (64 - up < lo) = false := by simp; omega
  obtain ⟨u, rfl⟩ := Int.eq_ofNat_of_zero_le (show 0 ≤ up by omega)
  obtain ⟨l, rfl⟩ := Int.eq_ofNat_of_zero_le (show 0 ≤ lo by omega)
  go_enter Try.func8, Try.ntmps8
  go_wp2_with fail
  rw [show ((u : Int) + (l : Int)) = ((u + l : Nat) : Int) from by simp]
  refine (of_ok _ _ _ HN.out (by omega)).mono ?_
  rintro e w1 ⟨A1, cap1, rfl, hi1, hb1⟩
  have HI1 := Lib.hid hi1
  clear hi1
  go_wp2_with fail
  rw [show ((n : Int) / 2 ^ l) = ((n / 2 ^ l : Nat) : Int) from by simp]
  refine (of_ok _ _ _ (Nat.lt_of_le_of_lt (Nat.div_le_self _ _) HN.out) (by omega)).mono ?_
  rintro e w2 ⟨A2, cap2, rfl, hi2, hb2⟩
  have HI2 := Lib.hid hi2
  clear hi2
  go_wp2_with fail
  refine (of_ok _ _ _ HN.out (by omega)).mono ?_
  rintro e w3 ⟨A3, cap3, rfl, hi3, hb3⟩
  have HI3 := Lib.hid hi3
  clear hi3
  have HB := nxt (nxt hb1 hb2) hb3
  have HI1' := Lib.hid (HI1.out.below (hb2.trans (hb3.mono hb2.size))); have HI2' := Lib.hid (HI2.out.below hb3)
  have L1 := ofB_len n (u + l); have L2 := ofB_len (n / 2 ^ l) u; have L3 := ofB_len n l
  have HV := Lib.hid (ofB_split n u l); have V1 := Lib.hid (val_ofB (u + l) n); have V2 := Lib.hid (val_ofB u (n / 2 ^ l)); have V3 := Lib.hid (val_ofB l n)
  have Z1 := Lib.hid (ofB_all n (u + l)); have Z2 := Lib.hid (ofB_all (n / 2 ^ l) u); have Z3 := Lib.hid (ofB_all n l)
  clear HI1 HI2 hb1 hb2 hb3
  generalize ofB n (u + l) = x1 at *
  generalize ofB (n / 2 ^ l) u = x2 at *
  generalize ofB n l = x3 at *
  have k1 : x1.length ≤ 64 := by omega
  have k2 : x2.length ≤ 64 := by omega
  have k3 : x3.length ≤ 64 := by omega
  clear L1 L2 L3
  have HO := Lib.hid (Own.lit w3 w3.heap.size [] (Nat.le_refl _) (by simp))
  go_wp2_with (first
    | (at_builtin; (refine append_ints _ rfl (.tmp 70) (.tmp 71) rfl w3.heap.size _ [] rfl HO.out A2 x2.length cap2 x2 rfl (HI2'.out.alloc _) (by simp; omega) (by simp) ?_); intro v4 w4 ho4 hg4; have hb4 := below_lit hg4; clear hg4; have HO4 := Lib.hid ho4; clear ho4)
    | (at_builtin; (refine append_ints _ rfl (.tmp 72) (.tmp 73) rfl w3.heap.size _ ([] ++ x2) rfl HO4.out A3 x3.length cap3 x3 rfl (HI3.out.below hb4) (by simp; omega) hb4.size ?_); intro v5 w5 ho5 hg5; have hb5 := hb4.grown hg5 hb4.size HO4.out.row; have HO5 := Lib.hid ho5.il; clear ho5 hg5))
  obtain ⟨A5, cap5, rfl, hi5⟩ := HO5.out
  have HI5 := Lib.hid hi5; have HI15 := Lib.hid (HI1'.out.below hb5)
  clear hi5 HO5 HO4 HO
  refine (ints_b _ _ _ _ _ _ _ _ _ HI15.out HI5.out (by omega)).mono ?_
  rintro e w6 ⟨rfl, hb6⟩
  rw [show (x1 == [] ++ x2 ++ x3) = true from by rw [HV.out]; simp]
  have hb36 := nxt hb5 hb6
  have H1 := Lib.hid (HI1'.out.below hb36); have H2 := Lib.hid (HI2'.out.below hb36); have H3 := Lib.hid (HI3.out.below hb36)
  have HB6 := nxt HB hb36
  clear HI15 HI5 HI1' HI2' HI3 HB hb36 hb6 hb5 hb4
  go_wp2_with fail
  refine (value_ok _ _ _ _ _ H1.out (by omega) Z1.out).mono ?_
  rintro e w' ⟨rfl, rfl⟩
  go_wp2_with fail
  refine (value_ok _ _ _ _ _ H2.out (by omega) Z2.out).mono ?_
  rintro e w' ⟨rfl, rfl⟩
  go_wp2_with fail
  refine (value_ok _ _ _ _ _ H3.out (by omega) Z3.out).mono ?_
  rintro e w' ⟨rfl, rfl⟩
  have hq := join_eq (by omega) V1.out V2.out V3.out
  go_wp2_with (go_at_call 9; (refine (awake_ok _).mono ?_); rintro e w9 ⟨rfl, hb9⟩)
  go_ret
  exact ⟨rfl, nxt HB6 hb9⟩
end Go.Proofs.Ytiaecljigldmhaa
