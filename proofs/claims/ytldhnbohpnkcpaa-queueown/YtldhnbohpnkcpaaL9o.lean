/- The walk of the law QueueOwn. -/
import Derived.Test.YtldhnbohpnkcpaaQT
namespace Go.Proofs.Ytldhnbohpnkcpaa
open Go.RowKit
set_option linter.unusedSimpArgs false

theorem first_none0 (w : World) : Calls Try.prog 17 #[.pointer none] w fun e w' => e = .returned (.tuple #[smpV 0, .bool false]) ∧ Below w.heap.size w w' := first_none w
theorem put_nil0 (w : World) : Calls Try.prog 18 #[.pointer none, smpV 0] w fun e w' => e = .returned (.int .i64 2) ∧ Below w.heap.size w w' := put_nil (smp 0) w
theorem drop_nil0 (w : World) : Calls Try.prog 23 #[.pointer none, smpV 0] w fun e w' => e = .returned (.int .i64 2) ∧ Below w.heap.size w w' := drop_nil (smp 0) w
theorem fb0 (w : World) : Fb (w.alloc (.cells #[.int .i64 0, .bool false, .bool false, .int .i64 0, .int .u8 0, .int .u8 0, .int .u8 0, .int .u8 0, .int .u8 0, .int .u8 0, .int .u8 0, .int .u8 0] 34)) w.heap.size (smp 0) := fb_new w (smp 0)
theorem bel0 (w : World) : Below w.heap.size w (w.alloc (.cells #[.int .i64 0, .bool false, .bool false, .int .i64 0, .int .u8 0, .int .u8 0, .int .u8 0, .int .u8 0, .int .u8 0, .int .u8 0, .int .u8 0, .int .u8 0] 34)) := boxed (smp 0) w
theorem ins_countp (p : Fr → Bool) (f : Fr) (gs : List Fr) : (ins f gs).countP p = gs.countP p + if p f then 1 else 0 := by
  unfold ins
  rw [List.countP_append, List.countP_cons, ← Nat.add_assoc, ← List.countP_append, List.take_append_drop]
theorem Rw.setc {w : World} {b : Nat} {cur : Array Value} (h : Rw w b cur) (i : Nat) (v : Value) : Rw (w.setCell ⟨b, i, none⟩ v) b (cur.setIfInBounds i v) := by
  unfold Rw at h ⊢
  simp [World.setCell, Array.getElem?_modify, h]
theorem Rw.frozen {w : World} {b : Nat} {cur : Array Value} (h : Rw w b cur) (i : Nat) : w.frozen? ⟨b, i, none⟩ = false := by
  unfold Rw at h
  simp [World.frozen?, h]

set_option maxHeartbeats 3200000 in
set_option maxRecDepth 100000 in
theorem qown_out (m a : Int) (A : Option Addr) (n c : Nat) (w : World) (h : 60 < n ∨ a < 0 ∨ (n : Int) < a ∨ m < 1 ∨ 16 < m) :
    Calls Try.prog 6 #[.int .i64 m, .slice A n c, .int .i64 a] w fun e w' => e = .returned (.bool true) ∧ Below w.heap.size w w' := by
  have H := Lib.hid h
  clear h
  go_enter Try.func6, Try.ntmps6
  go_wp2_with fail
  refine (first_none0 _).mono ?_
  rintro e w1 ⟨rfl, hb1⟩
  have HZ1 := Lib.hid (fb0 w1)
  have HB1 := Lib.hid (nxt hb1 (bel0 w1))
  clear hb1
  go_wp2_with fail
  refine (put_nil0 _).mono ?_
  rintro e w2 ⟨rfl, hb2⟩
  have HZ2 := Lib.hid (HZ1.out.below hb2 HZ1.out.lt); have HB2 := Lib.hid (nxt HB1.out hb2)
  clear hb2 HZ1 HB1
  go_wp2_with fail
  refine (drop_nil0 _).mono ?_
  rintro e w3 ⟨rfl, hb3⟩
  have HZ3 := Lib.hid (HZ2.out.below hb3 HZ2.out.lt); have HB3 := Lib.hid (nxt HB2.out hb3)
  have hx := HZ3.out.bx
  unfold Bx at hx
  simp only [smp] at hx
  obtain ⟨c0, c1, c2, c3, c4, c5, c6, c7, c8, c9, c10, c11⟩ := hx
  have h22 := eq22
  clear hb3 HZ2 HB2
  go_wp2_with fail
  refine (len_nil _).mono ?_
  rintro e w4 ⟨rfl, hw4⟩
  subst hw4
  clear h22 c0 c1 c2 c3 c4 c5 c6 c7 c8 c9 c10 c11
  go_wp2_with fail
  refine (all_nil _).mono ?_
  rintro e w5 ⟨rfl, hw5⟩
  subst hw5
  go_wp2_with fail
  refine (clone_nil _).mono ?_
  rintro e w6 ⟨rfl, hw6⟩
  subst hw6
  by_cases h1 : (60 : Int) < (n : Int)
  · go_wp2_with fail
    refine (awake9 _).mono ?_
    rintro e w7 ⟨rfl, hb7⟩
    have HF := Lib.hid (nxt HB3.out hb7)
    clear hb7
    go_wp2
    go_ret
    exact ⟨rfl, HF.out⟩
  · by_cases h2 : a < 0
    · go_wp2_with fail
      refine (awake9 _).mono ?_
      rintro e w7 ⟨rfl, hb7⟩
      have HF := Lib.hid (nxt HB3.out hb7)
      clear hb7
      go_wp2
      go_ret
      exact ⟨rfl, HF.out⟩
    · by_cases h3 : (n : Int) < a
      · go_wp2_with fail
        refine (awake9 _).mono ?_
        rintro e w7 ⟨rfl, hb7⟩
        have HF := Lib.hid (nxt HB3.out hb7)
        clear hb7
        go_wp2
        go_ret
        exact ⟨rfl, HF.out⟩
      · by_cases h4 : m < 1
        · go_wp2_with fail
          refine (awake9 _).mono ?_
          rintro e w7 ⟨rfl, hb7⟩
          have HF := Lib.hid (nxt HB3.out hb7)
          clear hb7
          go_wp2
          go_ret
          exact ⟨rfl, HF.out⟩
        · have h5 : 16 < m := by have := H.out; omega
          go_wp2_with fail
          refine (awake9 _).mono ?_
          rintro e w7 ⟨rfl, hb7⟩
          have HF := Lib.hid (nxt HB3.out hb7)
          clear hb7
          go_wp2
          go_ret
          exact ⟨rfl, HF.out⟩

set_option maxHeartbeats 12800000 in
set_option maxRecDepth 100000 in
theorem qown_in (m a : Nat) (ac : Nat → Bool × Fr) (A : Option Addr) (n c : Nat) (w : World) (hA : Al w A n ac) (hn : n ≤ 60) (ha : a ≤ n) (h1 : 1 ≤ m) (h2 : m ≤ 16) :
    Calls Try.prog 6 #[.int .i64 m, .slice A n c, .int .i64 a] w fun e w' => e = .returned (.bool true) ∧ Below w.heap.size w w' := by
  have HA := Lib.hid hA
  clear hA
  go_enter Try.func6, Try.ntmps6
  go_wp2_with fail
  refine (first_none0 _).mono ?_
  rintro e w1 ⟨rfl, hb1⟩
  have HZ1 := Lib.hid (fb0 w1)
  have HB1 := Lib.hid (nxt hb1 (bel0 w1))
  clear hb1
  go_wp2_with fail
  refine (put_nil0 _).mono ?_
  rintro e w2 ⟨rfl, hb2⟩
  have HZ2 := Lib.hid (HZ1.out.below hb2 HZ1.out.lt); have HB2 := Lib.hid (nxt HB1.out hb2)
  clear hb2 HZ1 HB1
  go_wp2_with fail
  refine (drop_nil0 _).mono ?_
  rintro e w3 ⟨rfl, hb3⟩
  have HZ3 := Lib.hid (HZ2.out.below hb3 HZ2.out.lt); have HB3 := Lib.hid (nxt HB2.out hb3)
  have hx := HZ3.out.bx
  unfold Bx at hx
  simp only [smp] at hx
  obtain ⟨c0, c1, c2, c3, c4, c5, c6, c7, c8, c9, c10, c11⟩ := hx
  have h22 := eq22
  clear hb3 HZ2 HB2
  go_wp2_with fail
  refine (len_nil _).mono ?_
  rintro e w4 ⟨rfl, hw4⟩
  subst hw4
  clear h22 c0 c1 c2 c3 c4 c5 c6 c7 c8 c9 c10 c11
  go_wp2_with fail
  refine (all_nil _).mono ?_
  rintro e w5 ⟨rfl, hw5⟩
  subst hw5
  go_wp2_with fail
  refine (clone_nil _).mono ?_
  rintro e w6 ⟨rfl, hw6⟩
  subst hw6
  have HAA := Lib.hid (HA.out.below HB3.out)
  have g1 : ¬ ((60 : Int) < (n : Int)) := by omega
  have g2 : ¬ ((a : Int) < 0) := by omega
  have g3 : ¬ ((n : Int) < (a : Int)) := by omega
  have g4 : ¬ ((m : Int) < 1) := by omega
  have g5 : ¬ ((16 : Int) < (m : Int)) := by omega
  clear HA HZ3
  rename World => wA
  go_wp2_with fail
  refine (new_ok m wA (by omega) (by omega)).mono ?_
  rintro e w7 ⟨rfl, hq7, hb7⟩
  have HQ7 := Lib.hid hq7; have HB7 := Lib.hid hb7
  clear hq7 hb7
  go_wp2_with fail
  refine (new_ok m w7 (by omega) (by omega)).mono ?_
  rintro e w8 ⟨rfl, hq8, hb8⟩
  have hgl := HQ7.out.lt
  have HT8 := Lib.hid (show T2 wA w8 wA.heap.size _ [] w7.heap.size _ [] m from ⟨HQ7.out.next hb8, hq8.base HB7.out.size, .inl rfl, by omega, nxt HB7.out hb8⟩)
  obtain ⟨gb, hgb⟩ : ∃ gb, w7.heap.size = gb := ⟨_, rfl⟩
  rw [hgb] at HT8 ⊢
  clear hq8 hb8 HQ7 HB7 hgl hgb
  go_wp2
  go_loopw [14] (fun vi wr => ∃ (k : Nat) (va vb : Value), k ≤ n ∧ vi = .int .i64 k ∧ T2 wA wr wA.heap.size va (runA m ac (min k a)) gb vb (runA m ac k) m) (fun vi _ => n - (intOf vi).toNat)
  case atStart => exact ⟨0, _, _, Nat.zero_le _, rfl, by rw [Nat.zero_min]; exact HT8.out⟩
  case round =>
    clear HT8
    obtain ⟨k, va, vb, hk, rfl, ht⟩ := hrel
    have HT := Lib.hid ht
    have HLE := Lib.hid (runA_le (show (0 : Int) ≤ m by omega) ac k)
    have HLM := Lib.hid (runA_le (show (0 : Int) ≤ m by omega) ac (min k a))
    clear ht
    by_cases hlt : k < n
    · have hlt' : (k : Int) < (n : Int) := by omega
      obtain ⟨ad, rfl, -, d0, d1, d2, d3, d4, d5, d6, d7, d8, d9, d10, d11, d12⟩ := (HAA.out.below HT.out.bel).at_ hlt
      by_cases hka : k < a
      · have hka' : (k : Int) < (a : Int) := by omega
        have HM1 := Lib.hid (show min (k + 1) a = min k a + 1 by omega)
        have HM0 := Lib.hid (show min k a = k by omega)
        go_wp2_with fail
        refine (does_q (ac k).1 (ac k).2 HT.out.a (runA_ok m ac _) (by have := HLM.out; omega) HT.out.bel.size).mono ?_
        rintro e w9 ⟨u9, rfl, hq9, ht9⟩
        have HT9 := Lib.hid (HT.out.turna hq9 ht9)
        clear hq9 ht9 d0 d1 d2 d3 d4 d5 d6 d7 d8 d9 d10 d11 d12
        obtain ⟨ad2, e2, -, d0, d1, d2, d3, d4, d5, d6, d7, d8, d9, d10, d11, d12⟩ := (HAA.out.below HT9.out.bel).at_ hlt
        injection e2 with e2
        subst e2
        go_wp2_with fail
        refine (does_q (ac k).1 (ac k).2 HT9.out.b (runA_ok m ac _) (by have := HLE.out; omega) HT9.out.bel.size).mono ?_
        rintro e w10 ⟨u10, rfl, hq10, ht10⟩
        have HT10 := Lib.hid (HT9.out.turnb hq10 ht10)
        clear hq10 ht10 d0 d1 d2 d3 d4 d5 d6 d7 d8 d9 d10 d11 d12
        go_wp2
        go_roundw
        case rel => exact ⟨k + 1, u9, u10, by omega, by go_num, by rw [HM1.out]; have h := HT10.out; rw [show runA m ac (min k a + 1) = aL m ((ac k).1, (ac k).2) (runA m ac (min k a)) from by show aL m (ac (min k a)) _ = _; rw [HM0.out]]; exact h⟩
        case measure => simp [intOf]; omega
      · have hka' : ¬ ((k : Int) < (a : Int)) := by omega
        have HM1 := Lib.hid (show min (k + 1) a = min k a by omega)
        go_wp2_with fail
        refine (does_q (ac k).1 (ac k).2 HT.out.b (runA_ok m ac _) (by have := HLE.out; omega) HT.out.bel.size).mono ?_
        rintro e w10 ⟨u10, rfl, hq10, ht10⟩
        have HT10 := Lib.hid (HT.out.turnb hq10 ht10)
        clear hq10 ht10 d0 d1 d2 d3 d4 d5 d6 d7 d8 d9 d10 d11 d12
        go_wp2
        go_roundw
        case rel => exact ⟨k + 1, va, u10, by omega, by go_num, by rw [HM1.out]; exact HT10.out⟩
        case measure => simp [intOf]; omega
    · obtain rfl : k = n := by omega
      have HMN := Lib.hid (show min k a = a by omega)
      have HT' := Lib.hid (show T2 wA wr wA.heap.size va (runA m ac a) gb vb (runA m ac k) m from by have h := HT.out; rwa [HMN.out] at h)
      rw [HMN.out] at HLM
      clear HT HMN
      go_wp2_with fail
      refine (all_q HT'.out.a (by have := HLM.out; omega)).mono ?_
      rintro e w11 ⟨u11, rfl, hu11, hb11⟩
      have HT1 := Lib.hid (HT'.out.next hb11)
      have HU1 := Lib.hid (hu11.base HT'.out.bel.size)
      clear hu11 hb11 HT'
      go_wp2_with fail
      refine (clone_q HT1.out.a (by have := HLM.out; omega)).mono ?_
      rintro e w12 ⟨gc, vc, rfl, hc12, hb12⟩
      have HT3 := Lib.hid (show T3 wA w12 wA.heap.size va (runA m ac a) gb vb (runA m ac k) gc vc (runA m ac a) u11 (runA m ac a) m from
        ⟨HT1.out.next hb12, hc12.base HT1.out.bel.size, HU1.out.below hb12, sep_new HT1.out.a.own hc12.own.row, sep_new HT1.out.b.own hc12.own.row, sep_new HU1.out hc12.own.row,
          by have h1 := HT1.out.a.lt; have h2 := hc12.at_; omega, by have h1 := HT1.out.b.lt; have h2 := hc12.at_; omega⟩)
      clear hc12 hb12 HT1 HU1
      go_wp2
      go_loopw [17] (fun vi wr => ∃ (j : Nat) (vc : Value), a ≤ j ∧ j ≤ k ∧ vi = .int .i64 j ∧ T3 wA wr wA.heap.size va (runA m ac a) gb vb (runA m ac k) gc vc (runA m ac j) u11 (runA m ac a) m) (fun vi _ => k - (intOf vi).toNat)
      case atStart => exact ⟨a, vc, Nat.le_refl _, ha, rfl, HT3.out⟩
      case round =>
        clear HT3
        obtain ⟨j, vc, haj, hj, rfl, ht⟩ := hrel
        have HT := Lib.hid ht
        have HLJ := Lib.hid (runA_le (show (0 : Int) ≤ m by omega) ac j)
        clear ht
        by_cases hlt : j < k
        · have hlt' : (j : Int) < (k : Int) := by omega
          obtain ⟨ad, rfl, -, d0, d1, d2, d3, d4, d5, d6, d7, d8, d9, d10, d11, d12⟩ := (HAA.out.below HT.out.ab.bel).at_ hlt
          go_wp2_with fail
          refine (does_q (ac j).1 (ac j).2 HT.out.c (runA_ok m ac _) (by have := HLJ.out; omega) HT.out.ab.bel.size).mono ?_
          rintro e w13 ⟨u13, rfl, hq13, ht13⟩
          have HT4 := Lib.hid (HT.out.turnc hq13 ht13)
          clear hq13 ht13 d0 d1 d2 d3 d4 d5 d6 d7 d8 d9 d10 d11 d12
          go_wp2
          go_roundw
          case rel => exact ⟨j + 1, u13, by omega, by omega, by go_num, HT4.out⟩
          case measure => simp [intOf]; omega
        · obtain rfl : j = k := by omega
          obtain ⟨gs, hgs⟩ : ∃ gs, runA m ac a = gs := ⟨_, rfl⟩
          obtain ⟨hs, hhs⟩ : ∃ hs, runA m ac j = hs := ⟨_, rfl⟩
          have HOK := Lib.hid (show Okq hs from by rw [← hhs]; exact runA_ok m ac j)
          rw [hgs] at HT HLM
          rw [hhs] at HT HLJ
          clear hgs hhs HLE
          rename World => wS
          go_wp2_with fail
          refine (all_q HT.out.ab.a (by have := HLM.out; omega)).mono ?_
          rintro e w14 ⟨u14, rfl, hu14, hb14⟩
          obtain ⟨A4, c4, rfl, -, -⟩ := hu14.fl
          have HB14 := Lib.hid hb14
          have HRO := Lib.hid (show 0 < gs.length → ∃ b cur, A4 = some ⟨b, 0, none⟩ ∧ wS.heap.size ≤ b ∧ Rw w14 b cur ∧ cur.size = c4 * 12 ∧ gs.length ≤ c4 from fun h0 => by
            obtain ⟨b, cap, cur, e, h1, h2, h3, h4, h5, h6⟩ := hu14.open_ (by intro e; rw [e] at h0; simp at h0)
            injection e with e1 e2 e3
            subst e3
            exact ⟨b, cur, e1, h1, h2, h5, h3⟩)
          obtain ⟨L, hL⟩ : ∃ L, gs.length = L := ⟨_, rfl⟩
          have HL := Lib.hid hL
          have hl16 : (L : Int) ≤ 16 := by have := HLM.out; omega
          rw [hL] at HRO ⊢
          clear hu14 hb14 hL
          go_wp2
          go_loopw [19] (fun vi wr => ∃ (t : Nat), t ≤ L ∧ vi = .int .i64 t ∧ Below wS.heap.size wS wr ∧ (0 < L → ∃ b cur, A4 = some ⟨b, 0, none⟩ ∧ wS.heap.size ≤ b ∧ Rw wr b cur ∧ cur.size = c4 * 12 ∧ L ≤ c4)) (fun vi _ => L - (intOf vi).toNat)
          case atStart => exact ⟨0, Nat.zero_le _, rfl, HB14.out, HRO.out⟩
          case round =>
            clear HB14 HRO
            obtain ⟨t, htl, rfl, hb, hro⟩ := hrel
            have HB := Lib.hid hb; have HRO := Lib.hid hro
            clear hb hro
            by_cases hlt : t < L
            · have hlt' : (t : Int) < (L : Int) := by omega
              obtain ⟨b, cur, rfl, hbS, hR, hsz, hLc⟩ := HRO.out (by omega)
              have HR := Lib.hid hR; have HSZ := Lib.hid hsz; have HBS := Lib.hid hbS
              obtain ⟨x, hx⟩ : ∃ x, cur[t * 12]? = some x := ⟨cur[t * 12]'(by rw [hsz]; omega), Array.getElem?_eq_getElem _⟩
              have q0 := hR.cell hx
              have q1 := hR.frozen (t * 12)
              have HBX := Lib.hid (show Below wS.heap.size wS (wr.setCell ⟨b, t * 12, none⟩ (.int .i64 (-1))) from Below.setCell (p := ⟨b, t * 12, none⟩) HB.out hbS _)
              clear hR hsz hbS hx
              go_wp2
              go_roundw
              case rel => exact ⟨t + 1, by omega, by go_num, HBX.out, fun _ => ⟨b, _, rfl, HBS.out, HR.out.setc _ _, by simp; exact HSZ.out, hLc⟩⟩
              case measure => simp [intOf]; omega
            · have HT5 := Lib.hid (HT.out.next HB.out)
              clear HRO HB HT
              go_wp2
              go_loopw [20] (fun vi wr => ∃ (t : Nat) (vc : Value) (zs : List Fr), t ≤ 20 ∧ vi = .int .i64 t ∧ T3 wA wr wA.heap.size va gs gb vb hs gc vc zs u11 gs m ∧ Okq zs ∧ zs.length = min m (hs.length + t) ∧ ∀ x : Fr, hs.countP x.same ≤ zs.countP x.same) (fun vi _ => 20 - (intOf vi).toNat)
              case atStart => exact ⟨0, vc, hs, by omega, rfl, HT5.out, HOK.out, by have := HLJ.out; omega, fun x => Nat.le_refl _⟩
              case round =>
                clear HT5
                obtain ⟨t, vc, zs, ht, rfl, hT, ho, hzl, hcn⟩ := hrel
                have HT := Lib.hid hT; have HO := Lib.hid ho; have HZL := Lib.hid hzl; have HCN := Lib.hid hcn
                clear hT ho hzl hcn
                by_cases hlt : t < 20
                · have hlt' : (t : Int) < 20 := by omega
                  go_wp2_with fail
                  refine (put_s t HT.out.c HO.out (by have := HZL.out; omega) HT.out.ab.bel.size).mono ?_
                  rintro e w15 ⟨u15, rfl, hq15, ht15⟩
                  have HT6 := Lib.hid (HT.out.turnc hq15 ht15)
                  clear hq15 ht15
                  have HPL := Lib.hid (show (pL m (smp t) zs).length = min m (hs.length + (t + 1)) ∧ ∀ x : Fr, hs.countP x.same ≤ (pL m (smp t) zs).countP x.same from by
                    rw [smp_pL (by omega)]
                    by_cases hf : (m : Int) ≤ (zs.length : Int)
                    · rw [if_pos hf]
                      exact ⟨by have := HZL.out; omega, HCN.out⟩
                    · rw [if_neg hf]
                      exact ⟨by rw [ins_len1]; have := HZL.out; omega, fun x => by rw [ins_countp]; have := HCN.out x; omega⟩)
                  go_wp2
                  go_roundw
                  case rel => exact ⟨t + 1, u15, _, by omega, by go_num, HT6.out, pL_ok HO.out, HPL.out.1, HPL.out.2⟩
                  case measure => simp [intOf]; omega
                · have HZM := Lib.hid (show zs.length = m by have := HZL.out; omega)
                  go_wp2_with fail
                  refine (all_q HT.out.ab.a (by have := HLM.out; omega)).mono ?_
                  rintro e w15 ⟨u15, rfl, hu15, hb15⟩
                  have HU := Lib.hid hu15; have HT6 := Lib.hid (HT.out.next hb15)
                  clear hu15 hb15 HT
                  go_wp2_with fail
                  refine (same_self HU.out HT6.out.ur (by have := HLM.out; omega)).mono ?_
                  rintro e w16 ⟨rfl, hb16⟩
                  have HT7 := Lib.hid (HT6.out.next hb16)
                  clear hb16 HT6 HU
                  go_wp2_with fail
                  refine (len_q HT7.out.c).mono ?_
                  rintro e w17 ⟨rfl, hw17⟩
                  subst hw17
                  rw [HZM.out]
                  go_wp2_with fail
                  refine (len_q HT7.out.ab.b).mono ?_
                  rintro e w18 ⟨rfl, hw18⟩
                  subst hw18
                  have hlh := HLJ.out
                  go_wp2_with fail
                  refine (all_q HT7.out.c (by rw [HZM.out]; omega)).mono ?_
                  rintro e w19 ⟨u19, rfl, hu19, hb19⟩
                  have HU9 := Lib.hid hu19; have HT8 := Lib.hid (HT7.out.next hb19)
                  clear hu19 hb19 HT7
                  go_wp2_with fail
                  refine (all_q HT8.out.ab.b (by have := HLJ.out; omega)).mono ?_
                  rintro e w20 ⟨u20, rfl, hu20, hb20⟩
                  have HUA := Lib.hid (HU9.out.below hb20); have HUB := Lib.hid hu20; have HT9 := Lib.hid (HT8.out.next hb20)
                  clear hu20 hb20 HT8 HU9
                  go_wp2_with fail
                  refine (has_yes HUA.out HUB.out (by rw [HZM.out]; omega) (by have := HLJ.out; omega) HCN.out).mono ?_
                  rintro e w21 ⟨rfl, hb21⟩
                  have HBX := Lib.hid (nxt HB3.out (nxt HT9.out.ab.bel hb21))
                  clear hb21 HT9 HUA HUB
                  go_wp2_with fail
                  refine (awake9 _).mono ?_
                  rintro e w22 ⟨rfl, hb22⟩
                  have HF := Lib.hid (nxt HBX.out hb22)
                  clear hb22
                  go_wp2
                  go_ret
                  exact ⟨rfl, HF.out⟩
theorem qown_any (m a : Int) (ac : Nat → Bool × Fr) (A : Option Addr) (n c : Nat) (w : World) (hA : Al w A n ac) :
    Calls Try.prog 6 #[.int .i64 m, .slice A n c, .int .i64 a] w fun e w' => e = .returned (.bool true) ∧ Below w.heap.size w w' := by
  rcases Classical.em (60 < n ∨ a < 0 ∨ (n : Int) < a ∨ m < 1 ∨ 16 < m) with h | h
  · exact qown_out m a A n c w h
  · obtain ⟨k, rfl⟩ := Int.eq_ofNat_of_zero_le (show 0 ≤ m by omega)
    obtain ⟨j, rfl⟩ := Int.eq_ofNat_of_zero_le (show 0 ≤ a by omega)
    exact qown_in k j ac A n c w hA (by omega) (by omega) (by omega) (by omega)
end Go.Proofs.Ytldhnbohpnkcpaa
