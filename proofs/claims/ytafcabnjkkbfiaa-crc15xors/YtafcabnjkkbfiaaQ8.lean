/- The walk of the law Crc15Xors. -/
import Derived.Test.YtafcabnjkkbfiaaQ7
namespace Go.Proofs.Ytafcabnjkkbfiaa
open Go.RowKit

theorem box_slices (w : World) (u v : Value) (t : TypeId) : (w.alloc (.cells #[u, v] t)).cell? ⟨w.heap.size, 0, none⟩ = some u ∧ (w.alloc (.cells #[u, v] t)).cell? ⟨w.heap.size, 1, none⟩ = some v := by
  constructor <;> simp

theorem Il.cell_at {w : World} {ad : Addr} {n k : Nat} {zs : List Int} {z : Int} (h : Il w (some ad) n zs) (hz : zs[k]? = some z) : w.cell? (ad.add k) = some (.int .i64 z) := by
  have hk : k < n := by
    rcases Nat.lt_or_ge k zs.length with h' | h'
    · rw [← h.1]; exact h'
    · rw [List.getElem?_eq_none h'] at hz; cases hz
  obtain ⟨ad', z', e, hz', hc⟩ := h.at_ hk
  injection e with e
  subst e
  rw [hz] at hz'
  injection hz' with hz'
  subst hz'
  exact hc

theorem grown_undrew {w w' : World} {r : Option Nat} (h : w.drew.grownBy w' r) : w.grownBy w' r := ⟨h.os, h.tape, h.output, h.size, h.block⟩
theorem lies_undrew {w : World} {v v' : Value} (h : Lies w.drew v v') : Lies w v v' := h

theorem Three.pushX {w5 w6 : World} {o : Obj} {base k : Nat} {xs ys : List Int} {u3 v4 v5 v6 : Value} {x y z : Int} (HS : xors (xs.take (k + 1)) (ys.take (k + 1)) = xors (xs.take k) (ys.take k) ++ [z]) (HTX : xs.take (k + 1) = xs.take k ++ [x]) (HTY : ys.take (k + 1) = ys.take k ++ [y])
    (ho : Own w6 base v6 (xors (xs.take k) (ys.take k) ++ [z])) (hg : (w5.alloc o).grownBy w6 u3.ownBlock) (hl : Lies (w5.alloc o) u3 v6) (ha : Own w5 base v4 (xs.take k ++ [x])) (hb : Own w5 base v5 (ys.take k ++ [y])) (s1 : Sep u3 v4) (s2 : Sep u3 v5) (s3 : Sep v4 v5) :
    Three w6 base xs ys (k + 1) v6 v4 v5 :=
  ⟨by rw [HS]; exact ho, by rw [HTX]; exact (ha.alloc o).kept hg s1.symm, by rw [HTY]; exact (hb.alloc o).kept hg s2.symm, (s1.symm.lies (ha.alloc o) hl).symm, (s2.symm.lies (hb.alloc o) hl).symm, s3⟩

set_option maxRecDepth 100000 in
set_option maxHeartbeats 3200000 in
theorem law25 (A B : Option Addr) (n m cap cap' : Nat) (xs ys : List Int) (w : World) (ha : Il w A n xs) (hb : Il w B m ys) :
    Calls Try.prog 7 #[.agg #[.slice A n cap, .slice B m cap']] w fun e w' => e = .returned (.bool true) ∧ Below w.heap.size w w' := by
  have HA := Lib.hid ha; have HB := Lib.hid hb
  clear ha hb
  have HW := Lib.hid ((Below.refl w.heap.size w).alloc (Nat.le_refl _) (.cells #[.slice A n cap, .slice B m cap'] 40))
  by_cases hn : 200 < n
  · have g0 : decide ((200 : Int) < (n : Int)) = true := by simp; omega
    go_enter Try.func7, Try.ntmps7
    go_wp2_with (go_at_call 11; (refine (awake_ok _).mono ?_); rintro e w1 ⟨rfl, hb1⟩)
    go_ret
    exact ⟨rfl, nxt HW.out hb1⟩
  have g0 : decide ((200 : Int) < (n : Int)) = false := by simp; omega
  by_cases hm : 200 < m
  · have g1 : decide ((200 : Int) < (m : Int)) = true := by simp; omega
    go_enter Try.func7, Try.ntmps7
    go_wp2_with (go_at_call 11; (refine (awake_ok _).mono ?_); rintro e w1 ⟨rfl, hb1⟩)
    go_ret
    exact ⟨rfl, nxt HW.out hb1⟩
  have g1 : decide ((200 : Int) < (m : Int)) = false := by simp; omega
  have hbx := box_slices w (.slice A n cap) (.slice B m cap') 40
  have hbx1 := hbx.1; have hbx2 := hbx.2
  have HSZ := Lib.hid (show (w.alloc (.cells #[.slice A n cap, .slice B m cap'] 40)).heap.size = w.heap.size + 1 by simp)
  have HT := Lib.hid (Three.start (w.alloc (.cells #[.slice A n cap, .slice B m cap'] 40)) xs ys)
  rw [HSZ.out] at HT
  clear hbx
  go_enter Try.func7, Try.ntmps7
  go_wp2
  have HX1 := Lib.hid hbx1; have HX2 := Lib.hid hbx2
  clear hbx1 hbx2
  generalize hwb : w.alloc (.cells #[.slice A n cap, .slice B m cap'] 40) = wb at *
  clear hwb
  rw [← HSZ.out] at HT ⊢
  go_loopw [3, 4, 5, 7] (fun vx va vb i wr => ∃ k : Nat, k ≤ n ∧ k ≤ m ∧ i = .int .i64 k ∧ Three wr wb.heap.size xs ys k vx va vb ∧ Below wb.heap.size wb wr) (fun _ _ _ i _ => n - (intOf i).toNat)
  case atStart => exact ⟨0, Nat.zero_le _, Nat.zero_le _, rfl, HT.out, (((Below.refl _ _).alloc (Nat.le_refl _) _).alloc (by simp) _).alloc (by simp; omega) _⟩
  case round =>
    obtain ⟨k, hkn, hkm, rfl, hth, hbel⟩ := hrel
    have HTH := Lib.hid hth
    have hb0 : w.heap.size < wb.heap.size := by rw [HSZ.out]; omega
    have c1 : wr.cell? ⟨w.heap.size, 0, none⟩ = some (.slice A n cap) := (hbel.cell (p := ⟨w.heap.size, 0, none⟩) hb0).trans HX1.out
    have c2 : wr.cell? ⟨w.heap.size, 1, none⟩ = some (.slice B m cap') := (hbel.cell (p := ⟨w.heap.size, 1, none⟩) hb0).trans HX2.out
    clear hth
    by_cases hin : k < n ∧ k < m
    · obtain ⟨hlt, hlm⟩ := hin
      obtain ⟨ad, x, hA, hx, -⟩ := HA.out.at_ hlt
      obtain ⟨bd, y, hB, hy, -⟩ := HB.out.at_ hlm
      subst hA
      subst hB
      have HF := Lib.hid (show ∀ w' : World, Below wb.heap.size wb w' → w'.cell? ⟨w.heap.size, 0, none⟩ = some (.slice (some ad) n cap) ∧ w'.cell? ⟨w.heap.size, 1, none⟩ = some (.slice (some bd) m cap') ∧ w'.cell? (ad.add k) = some (.int .i64 x) ∧ w'.cell? (bd.add k) = some (.int .i64 y) from fun w' hb' =>
        ⟨(hb'.cell (p := ⟨w.heap.size, 0, none⟩) hb0).trans HX1.out, (hb'.cell (p := ⟨w.heap.size, 1, none⟩) hb0).trans HX2.out, (HA.out.below (nxt HW.out hb')).cell_at hx, (HB.out.below (nxt HW.out hb')).cell_at hy⟩)
      obtain ⟨-, -, c3, c4⟩ := HF.out wr hbel
      have hsz := hbel.size
      have HS := Lib.hid (xors_step hx hy)
      have HTX := Lib.hid (show xs.take (k + 1) = xs.take k ++ [x] from by rw [List.take_add_one, hx]; rfl)
      have HTY := Lib.hid (show ys.take (k + 1) = ys.take k ++ [y] from by rw [List.take_add_one, hy]; rfl)
      have l1 : (xs.take k).length ≤ 200 := by rw [List.length_take]; omega
      have l2 : (ys.take k).length ≤ 200 := by rw [List.length_take]; omega
      have l3 : (xors (xs.take k) (ys.take k)).length ≤ 200 := by unfold xors; rw [List.length_zipWith]; omega
      have N1 := Lib.hid (Arr.new wr .i64 3 [x]).il
      clear hx hy
      go_wp2_with (first
        | (at_builtin; (refine append_ints2 _ rfl (.tmp 45) (.tmp 51) rfl wb.heap.size u4 (xs.take k) rfl (HTH.out.a.alloc _) _ 1 1 [x] rfl N1.out (by simp; omega) (by simp; omega) ?_); intro v4 w4 ho4 hg4 hl4; have hb4 := push_lit hbel hsz HTH.out.a hg4; have HP4 := Lib.hid (HTH.out.pushA hg4 hl4); have HO4 := Lib.hid ho4; obtain ⟨d1, d2, d3, d4⟩ := HF.out w4 hb4; have N2 := Lib.hid (Arr.new w4 .i64 3 [y]).il; have hsz4 := hb4.size; clear hg4 hl4 ho4)
        | (at_builtin; (refine append_ints2 _ rfl (.tmp 53) (.tmp 59) rfl wb.heap.size u5 (ys.take k) rfl (HP4.out.2.1.alloc _) _ 1 1 [y] rfl N2.out (by simp; omega) (by simp; omega) ?_); intro v5 w5 ho5 hg5 hl5; have hb5 := push_lit hb4 hsz4 HP4.out.2.1 hg5; have HP5 := Lib.hid (And.intro ((HP4.out.1.alloc _).kept hg5 HP4.out.2.2.2.2) (And.intro ((HO4.out.alloc _).kept hg5 HP4.out.2.2.2.1.symm) (And.intro (HP4.out.2.2.2.2.lies (HP4.out.1.alloc _) hl5) (HP4.out.2.2.2.1.symm.lies (HO4.out.alloc _) hl5)))); have HO5 := Lib.hid ho5; obtain ⟨e1, e2, e3, e4⟩ := HF.out w5 hb5; clear hg5 hl5 ho5))
      have i1 : (k : Int) < (n : Int) := by omega
      have i2 : (k : Int) < (m : Int) := by omega
      have i3 : (0 : Int) ≤ (k : Int) := by omega
      obtain ⟨z, hz⟩ : ∃ z, bits .xor .i64 x y = z := ⟨_, rfl⟩
      have HZ := Lib.hid hz
      have N3 := Lib.hid (Arr.new w5 .i64 3 [z]).il
      have hsz5 := hb5.size
      go_region_held3 (fun w' => w'.cell? ⟨w.heap.size, 0, none⟩ = some (.slice (some ad) n cap) ∧ w'.cell? ⟨w.heap.size, 1, none⟩ = some (.slice (some bd) m cap') ∧ w'.cell? (ad.add k) = some (.int .i64 x) ∧ w'.cell? (bd.add k) = some (.int .i64 y))
        (first
          | exact HF.out _ hb6
          | exact HF.out _ (hb5.alloc hsz5 _)
          | go_keep)
        (first
          | (refine step_append_ints2 _ (by rfl) (.tmp 61) (.tmp 73) (by rfl) wb.heap.size u3 (xors (xs.take k) (ys.take k)) (by rfl) (by exact HP5.out.1.alloc _) (some ⟨w5.heap.size, 0, none⟩) 1 1 [z] (by rfl) (by exact N3.out) (by simp; omega) (by simp; omega) ?_; intro v6 w6 ho6 hg6 hl6; have hg6' := grown_undrew hg6; have hb6 := push_lit hb5 hsz5 HP5.out.1 hg6'; have HO6 := Lib.hid (And.intro ho6 (And.intro hg6' (lies_undrew hl6))); clear ho6 hg6 hl6 hg6'))
      have HTN := Lib.hid (Three.pushX (by rw [HS.out, HZ.out]) HTX.out HTY.out HO6.out.1 HO6.out.2.1 HO6.out.2.2 HP5.out.2.1 HO5.out HP4.out.2.2.1 HP5.out.2.2.1 HP5.out.2.2.2)
      clear HO6 HP5 HP4 HO4 HO5 HF HS HTX HTY N1 N2 N3 HZ hz
      go_wp2
      go_roundw
      case rel => exact ⟨k + 1, by omega, by omega, by go_num, HTN.out, hb6⟩
      case measure => simp [intOf]; omega
    · have hl : (xs.take k).length = k := by rw [List.length_take, HA.out.1]; omega
      have hl2 : (ys.take k).length = k := by rw [List.length_take, HB.out.1]; omega
      have hl3 : (xors (xs.take k) (ys.take k)).length = k := by unfold xors; rw [List.length_zipWith, hl, hl2]; omega
      obtain ⟨Ax, capx, hvx, hix, -⟩ := HTH.out.x.il2
      obtain ⟨Aa, capa, hva, hia, -⟩ := HTH.out.a.il2
      obtain ⟨Ab, capb, hvb, hib, -⟩ := HTH.out.b.il2
      have HC := Lib.hid (fun (h1 : ∀ z ∈ xs.take k, lvl z = true) (h2 : ∀ z ∈ ys.take k, lvl z = true) => And.intro (xors_csum (hl.trans hl2.symm) h1 h2) (xors_all h1 h2))
      rw [hl3] at hvx hix
      rw [hl] at hva hia
      rw [hl2] at hvb hib
      subst hvx
      subst hva
      subst hvb
      have HIX := Lib.hid hix; have HIA := Lib.hid hia; have HIB := Lib.hid hib
      have HLA := Lib.hid hl
      clear hix hia hib HTH hl hl2 hl3
      generalize xors (xs.take k) (ys.take k) = lx at *
      generalize xs.take k = la at *
      generalize ys.take k = lb at *
      have hk200 : k ≤ 200 := by omega
      rcases (show (¬ k < n) ∨ (k < n ∧ ¬ k < m) by omega) with hx | ⟨hx, hy⟩
      · clear hin
        go_wp2_with fail
        rcases Int.lt_or_le (chk la) 0 with hka | hka
        · have LA := Lib.hid (fst_neg lvl la hka)
          clear hka
          refine (sum_ok _ _ _ _ _ HIA.out (by omega) LA.out).mono ?_
          rintro e w1 ⟨rfl, hb1⟩
          have hca := csum_lt la
          go_wp2_with fail
          rcases Int.lt_or_le (chk lb) 0 with hkb | hkb
          · have LB := Lib.hid (fst_neg lvl lb hkb)
            clear hkb
            have HC2 := Lib.hid (HC.out LA.out LB.out)
            refine (sum_ok _ _ _ _ _ (HIB.out.below hb1) (by omega) LB.out).mono ?_
            rintro e w2 ⟨rfl, hb2⟩
            have hcb := csum_lt lb
            have HB2 := Lib.hid (nxt (nxt hbel hb1) hb2)
            have HA2 := Lib.hid (HIA.out.below (nxt hb1 hb2)); have HX2' := Lib.hid (HIX.out.below (nxt hb1 hb2))
            clear hb1 hb2 HC
            go_wp2
            go_loopw [6, 12] (fun v i wr => ∃ j : Nat, j ≤ k ∧ i = .int .i64 j ∧ v = .int .i64 (csum (la.take j) : Nat) ∧ Below w2.heap.size w2 wr) (fun _ i _ => k - (intOf i).toNat)
            case atStart => exact ⟨0, Nat.zero_le _, rfl, rfl, Below.refl _ _⟩
            case round =>
              obtain ⟨j, hj, rfl, rfl, hbj⟩ := hrel
              by_cases hjk : j < k
              · obtain ⟨ad, z, rfl, hz, hcz⟩ := (HA2.out.below hbj).at_ hjk
                have HS := Lib.hid (csum_step la j z hz)
                have HZ := Lib.hid (all_at LA.out hz)
                have hs := csum_lt (la.take j)
                clear hz
                generalize csum (la.take j) = sj at *
                go_wp2_with fail
                refine (step_ok sj z _ hs HZ.out).mono ?_
                rintro e w3 ⟨rfl, hb3⟩
                go_wp2
                go_roundw
                case rel => exact ⟨j + 1, by omega, by go_num, by rw [HS.out], nxt hbj hb3⟩
                case measure => simp [intOf]; omega
              · have HS := Lib.hid (show la.take j = la from List.take_of_length_le (by rw [HLA.out]; omega))
                rw [HS.out]
                have hxo : bits .xor .i64 ((csum la : Nat) : Int) ((csum lb : Nat) : Int) = ((csum lx : Nat) : Int) := by rw [HC2.out.1, i64_xor_nat _ _ (by omega) (by omega)]
                go_wp2_with fail
                refine (sum_ok _ _ _ _ _ (HX2'.out.below hbj) (by omega) HC2.out.2).mono ?_
                rintro e w4 ⟨rfl, hb4⟩
                generalize csum la = ca at *
                generalize csum lb = cb at *
                generalize csum lx = cx at *
                go_wp2_with fail
                refine (awake_ok _).mono ?_
                rintro e w5 ⟨rfl, hb5⟩
                go_wp2
                go_ret
                exact ⟨rfl, nxt HW.out (nxt (nxt (nxt HB2.out hbj) hb4) hb5)⟩
          · refine (sum_bad _ _ _ _ _ (HIB.out.below hb1) (by omega) hkb).mono ?_
            rintro e w2 ⟨rfl, rfl⟩
            go_wp2_with fail
            refine (awake_ok _).mono ?_
            rintro e w5 ⟨rfl, hb5⟩
            go_wp2
            go_ret
            exact ⟨rfl, nxt HW.out (nxt (nxt hbel hb1) hb5)⟩
        · refine (sum_bad _ _ _ _ _ HIA.out (by omega) hka).mono ?_
          rintro e w1 ⟨rfl, rfl⟩
          go_wp2_with fail
          rcases Int.lt_or_le (chk lb) 0 with hkb | hkb
          · refine (sum_ok _ _ _ _ _ HIB.out (by omega) (fst_neg lvl lb hkb)).mono ?_
            rintro e w2 ⟨rfl, hb2⟩
            generalize csum lb = cb at *
            go_wp2_with fail
            refine (awake_ok _).mono ?_
            rintro e w5 ⟨rfl, hb5⟩
            go_wp2
            go_ret
            exact ⟨rfl, nxt HW.out (nxt (nxt hbel hb2) hb5)⟩
          · refine (sum_bad _ _ _ _ _ HIB.out (by omega) hkb).mono ?_
            rintro e w2 ⟨rfl, rfl⟩
            go_wp2_with fail
            refine (awake_ok _).mono ?_
            rintro e w5 ⟨rfl, hb5⟩
            go_wp2
            go_ret
            exact ⟨rfl, nxt HW.out (nxt hbel hb5)⟩
      · clear hin
        go_wp2_with fail
        rcases Int.lt_or_le (chk la) 0 with hka | hka
        · have LA := Lib.hid (fst_neg lvl la hka)
          clear hka
          refine (sum_ok _ _ _ _ _ HIA.out (by omega) LA.out).mono ?_
          rintro e w1 ⟨rfl, hb1⟩
          have hca := csum_lt la
          go_wp2_with fail
          rcases Int.lt_or_le (chk lb) 0 with hkb | hkb
          · have LB := Lib.hid (fst_neg lvl lb hkb)
            clear hkb
            have HC2 := Lib.hid (HC.out LA.out LB.out)
            refine (sum_ok _ _ _ _ _ (HIB.out.below hb1) (by omega) LB.out).mono ?_
            rintro e w2 ⟨rfl, hb2⟩
            have hcb := csum_lt lb
            have HB2 := Lib.hid (nxt (nxt hbel hb1) hb2)
            have HA2 := Lib.hid (HIA.out.below (nxt hb1 hb2)); have HX2' := Lib.hid (HIX.out.below (nxt hb1 hb2))
            clear hb1 hb2 HC
            go_wp2
            go_loopw [6, 12] (fun v i wr => ∃ j : Nat, j ≤ k ∧ i = .int .i64 j ∧ v = .int .i64 (csum (la.take j) : Nat) ∧ Below w2.heap.size w2 wr) (fun _ i _ => k - (intOf i).toNat)
            case atStart => exact ⟨0, Nat.zero_le _, rfl, rfl, Below.refl _ _⟩
            case round =>
              obtain ⟨j, hj, rfl, rfl, hbj⟩ := hrel
              by_cases hjk : j < k
              · obtain ⟨ad, z, rfl, hz, hcz⟩ := (HA2.out.below hbj).at_ hjk
                have HS := Lib.hid (csum_step la j z hz)
                have HZ := Lib.hid (all_at LA.out hz)
                have hs := csum_lt (la.take j)
                clear hz
                generalize csum (la.take j) = sj at *
                go_wp2_with fail
                refine (step_ok sj z _ hs HZ.out).mono ?_
                rintro e w3 ⟨rfl, hb3⟩
                go_wp2
                go_roundw
                case rel => exact ⟨j + 1, by omega, by go_num, by rw [HS.out], nxt hbj hb3⟩
                case measure => simp [intOf]; omega
              · have HS := Lib.hid (show la.take j = la from List.take_of_length_le (by rw [HLA.out]; omega))
                rw [HS.out]
                have hxo : bits .xor .i64 ((csum la : Nat) : Int) ((csum lb : Nat) : Int) = ((csum lx : Nat) : Int) := by rw [HC2.out.1, i64_xor_nat _ _ (by omega) (by omega)]
                go_wp2_with fail
                refine (sum_ok _ _ _ _ _ (HX2'.out.below hbj) (by omega) HC2.out.2).mono ?_
                rintro e w4 ⟨rfl, hb4⟩
                generalize csum la = ca at *
                generalize csum lb = cb at *
                generalize csum lx = cx at *
                go_wp2_with fail
                refine (awake_ok _).mono ?_
                rintro e w5 ⟨rfl, hb5⟩
                go_wp2
                go_ret
                exact ⟨rfl, nxt HW.out (nxt (nxt (nxt HB2.out hbj) hb4) hb5)⟩
          · refine (sum_bad _ _ _ _ _ (HIB.out.below hb1) (by omega) hkb).mono ?_
            rintro e w2 ⟨rfl, rfl⟩
            go_wp2_with fail
            refine (awake_ok _).mono ?_
            rintro e w5 ⟨rfl, hb5⟩
            go_wp2
            go_ret
            exact ⟨rfl, nxt HW.out (nxt (nxt hbel hb1) hb5)⟩
        · refine (sum_bad _ _ _ _ _ HIA.out (by omega) hka).mono ?_
          rintro e w1 ⟨rfl, rfl⟩
          go_wp2_with fail
          rcases Int.lt_or_le (chk lb) 0 with hkb | hkb
          · refine (sum_ok _ _ _ _ _ HIB.out (by omega) (fst_neg lvl lb hkb)).mono ?_
            rintro e w2 ⟨rfl, hb2⟩
            generalize csum lb = cb at *
            go_wp2_with fail
            refine (awake_ok _).mono ?_
            rintro e w5 ⟨rfl, hb5⟩
            go_wp2
            go_ret
            exact ⟨rfl, nxt HW.out (nxt (nxt hbel hb2) hb5)⟩
          · refine (sum_bad _ _ _ _ _ HIB.out (by omega) hkb).mono ?_
            rintro e w2 ⟨rfl, rfl⟩
            go_wp2_with fail
            refine (awake_ok _).mono ?_
            rintro e w5 ⟨rfl, hb5⟩
            go_wp2
            go_ret
            exact ⟨rfl, nxt HW.out (nxt hbel hb5)⟩
end Go.Proofs.Ytafcabnjkkbfiaa
