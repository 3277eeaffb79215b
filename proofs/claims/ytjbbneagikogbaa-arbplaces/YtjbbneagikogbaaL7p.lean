/- The walk of the law ArbPlaces. -/
import Derived.Test.YtjbbneagikogbaaAU
import Derived.Test.YtjbbneagikogbaaAW7
import Derived.Deep.RegionHeld3
import Derived.Deep.DrawnRows
namespace Go.Proofs.Ytjbbneagikogbaa
open Go.RowKit

theorem grown_undrewF {w w' : World} {o : Obj} {row : Option Nat} (h : (w.alloc o).drew.grownBy w' row) : (w.alloc o).grownBy w' row := ⟨h.os, h.tape, h.output, h.size, h.block⟩

set_option maxRecDepth 100000 in
set_option maxHeartbeats 3200000 in
theorem aplaces_not (A : Option Addr) (n cap : Nat) (b : Int) (w : World) (r : Int) (hr : r ≠ 0) (hn : n ≤ 12) (h : Calls Try.prog 16 #[.slice A n cap] w fun e w' => e = .returned (.tuple #[.slice none 0 0, .int .i64 r]) ∧ Below w.heap.size w w') :
    Calls Try.prog 8 #[.slice A n cap, .int .i64 b] w fun e w' => e = .returned (.bool true) ∧ Below w.heap.size w w' := by
  have H := Lib.hid h
  have g0 : decide ((12 : Int) < (n : Int)) = false := by simp; omega
  have g1 : (r != 0) = true := by simpa using hr
  clear h
  go_enter Try.func8, Try.ntmps8
  go_wp2_with fail
  refine H.out.mono ?_
  rintro e w1 ⟨rfl, hb1⟩
  have HB1 := Lib.hid hb1
  clear hb1
  go_wp2_with fail
  refine (awake7 _).mono ?_
  rintro e w2 ⟨rfl, hb2⟩
  go_wp2
  go_ret
  exact ⟨rfl, nxt HB1.out hb2⟩

set_option maxRecDepth 100000 in
set_option maxHeartbeats 12800000 in
theorem aplaces_ok (fs : Nat → Fr) (A : Option Addr) (n cap : Nat) (b : Int) (w : World) (hr : Fl w A n fs) (hcap : n ≤ cap) (hn : n ≤ 12) (hmay : ∀ i, i < n → (fs i).may = true) (hs : ¬ Same fs n) (_hbl : -9223372036854775808 ≤ b) (_hbh : b ≤ 9223372036854775807) :
    Calls Try.prog 8 #[.slice A n cap, .int .i64 b] w fun e w' => e = .returned (.bool true) ∧ Below w.heap.size w w' := by
  have HR := Lib.hid hr; have HM := Lib.hid hmay; have HNS := Lib.hid hs
  have hmk := makeB n (by omega)
  have g0 : decide ((12 : Int) < (n : Int)) = false := by simp; omega
  have g1 : ((n : Int) != (n : Int)) = false := by simp
  clear hr hmay hs
  go_enter Try.func8, Try.ntmps8
  go_wp2_with fail
  refine (order_ok fs A n cap _ HR.out hn HM.out HNS.out).mono ?_
  rintro e w1 ⟨g, c, ps, rfl, hs1, ho1, hb1⟩
  have HS := Lib.hid hs1; have HO := Lib.hid ho1; have HB1 := Lib.hid hb1
  clear hs1 ho1 hb1
  have HG0 := Lib.hid (barr_new w1 n)
  rw [← gn_zero n ps] at HG0
  have HBG := Lib.hid ((Below.refl w1.heap.size w1).alloc (Nat.le_refl _) (.cells (Array.replicate n (Value.bool false)) 4))
  go_wp2
  generalize w1.alloc (.cells (Array.replicate n (Value.bool false)) 4) = wi at *
  go_loopw [8] (fun vi wr => ∃ i : Nat, i ≤ n ∧ vi = .int .i64 i ∧ BArr wr w1.heap.size (gn n ps i) ∧ Below w1.heap.size w1 wr) (fun vi _ => n - (intOf vi).toNat)
  case atStart => exact ⟨0, Nat.zero_le _, rfl, HG0.out, HBG.out⟩
  case round =>
    clear HG0 HBG
    obtain ⟨i, hi, rfl, hgi, hbi⟩ := hrel
    have HGI := Lib.hid hgi; have HBI := Lib.hid hbi
    clear hgi hbi
    by_cases hin : i < n
    · have hin' : (i : Int) < (n : Int) := by omega
      obtain ⟨q, hq⟩ : ∃ q, ps.getD i 0 = q := ⟨_, rfl⟩
      have HQ := Lib.hid hq
      have hqn : q < n := by rw [← hq]; exact HS.out.lt hin
      have hqn' : (q : Int) < (n : Int) := by omega
      have t1 : decide ((q : Int) < 0) = false := by simp
      have t2 : decide ((n : Int) ≤ (q : Int)) = false := by simp; omega
      have t3 : decide (n ≤ q) = false := by simp; omega
      have t4 : ¬ n ≤ q := by omega
      have HCQ := Lib.hid (show ∀ w' : World, Below w1.heap.size w1 w' → w'.cell? ⟨g, i, none⟩ = some (.int .i64 (q : Int)) from fun w' h => by
        have h2 := (HO.out.below h).cell (j := i) (by rw [asI_len, HS.out.len]; exact hin)
        rw [asI_getD, HQ.out] at h2
        exact h2)
      have co := HCQ.out _ HBI.out
      have cs := HGI.out.cell (gn_get (k := i) (ps := ps) hqn)
      rw [show decide (q ∈ ps.take i) = false by have := HS.out.not_mem hin; rw [hq] at this; simpa using this] at cs
      have fz := HGI.out.frozen q
      have HGP := Lib.hid (HGI.out.put q true)
      rw [gn_put (show ps[i]? = some q by rw [← hq]; exact getD_some' (by rw [HS.out.len]; exact hin))] at HGP
      have HBP := Lib.hid (HBI.out.setCell (p := ⟨w1.heap.size, q, none⟩) (Nat.le_refl _) (.bool true))
      have hgw : g < w1.heap.size := (World.ownsRow.lt HO.out g rfl).2
      have hgne : w1.heap.size ≠ g := by omega
      have hgne2 : g ≠ w1.heap.size := by omega
      clear hq
      rename World => wo2
      go_wp2
      go_loopw [9] (fun vk wr => ∃ k : Nat, k ≤ i ∧ vk = .int .i64 k ∧ BArr wr w1.heap.size (gn n ps (i + 1)) ∧ Below w1.heap.size w1 wr) (fun vk _ => i - (intOf vk).toNat)
      case atStart => exact ⟨0, Nat.zero_le _, rfl, HGP.out, HBP.out⟩
      case round =>
        clear HGP HBP
        obtain ⟨k, hk, rfl, hg, hb⟩ := hrel
        have HGK := Lib.hid hg; have HBK := Lib.hid hb
        clear hg hb
        by_cases hki : k < i
        · have hki' : (k : Int) < (i : Int) := by omega
          have hkn : k < n := by omega
          have hkn' : (k : Int) < (n : Int) := by omega
          obtain ⟨a, ha⟩ : ∃ a, ps.getD k 0 = a := ⟨_, rfl⟩
          have han : a < n := by rw [← ha]; exact HS.out.lt hkn
          have HCA := Lib.hid (show ∀ w' : World, Below w1.heap.size w1 w' → w'.cell? ⟨g, k, none⟩ = some (.int .i64 (a : Int)) from fun w' h => by
            have h2 := (HO.out.below h).cell (j := k) (by rw [asI_len, HS.out.len]; exact hkn)
            rw [asI_getD, ha] at h2
            exact h2)
          have HLS := Lib.hid (show decide ((fs a).plc < (fs q).plc) = true by
            have := HS.out.2 k i hki hin
            rw [ha, HQ.out] at this
            simpa using this)
          obtain ⟨ad, rfl, _, _⟩ := (HR.out.below (nxt HB1.out HBK.out)) (by omega)
          have HC := Lib.hid (show ∀ w' : World, Below w1.heap.size w1 w' → ∀ j, j < n → Bxa w' (ad.add (j * 12)) (fs j) from fun w' hb j hj => by
            obtain ⟨ad', e, _, hc⟩ := (HR.out.below (nxt HB1.out hb)).at_ hj
            injection e with e
            subst e
            exact hc)
          clear ha
          go_wp2_with fail
          refine wp_region_held_drew (S := fun w' => Below w1.heap.size w1 w') (by kernel_rfl) (belowN HBK.out 1) (fun hHeld => ?_)
          refine takeH (i := 0) (v := .slice (some ad) n cap) rfl (by kernel_rfl) (by kernel_rfl) (by kernel_rfl) (fun _ _ _ h => h) (Or.inl ⟨by rfl, fun w hSw => ?_⟩) hHeld ?_
          · (clear hSw; go_simp)
          simp only [Act.put, List.setIfInBounds_toArray, List.set_cons_zero, List.set_cons_succ]
          refine takeH (i := 1) (v := (.slice (some ⟨g, 0, none⟩) n c)) rfl (by kernel_rfl) (by kernel_rfl) (by kernel_rfl) (fun _ _ _ h => h) (Or.inl ⟨by rfl, fun w hSw => ?_⟩) hHeld ?_
          · (clear hSw; go_simp)
          simp only [Act.put, List.setIfInBounds_toArray, List.set_cons_zero, List.set_cons_succ]
          refine takeH (i := 2) (v := .int .i64 k) rfl (by kernel_rfl) (by kernel_rfl) (by kernel_rfl) (fun _ _ _ h => h) (Or.inl ⟨by rfl, fun w hSw => ?_⟩) hHeld ?_
          · (clear hSw; go_simp)
          simp only [Act.put, List.setIfInBounds_toArray, List.set_cons_zero, List.set_cons_succ]
          refine takeH (i := 3) (v := .pointer (some ⟨g, k, none⟩)) rfl (by kernel_rfl) (by kernel_rfl) (by kernel_rfl) (fun _ _ _ h => h) (Or.inl ⟨by rfl, fun w hSw => ?_⟩) hHeld ?_
          · (clear hSw; go_simp)
          simp only [Act.put, List.setIfInBounds_toArray, List.set_cons_zero, List.set_cons_succ]
          refine takeH (i := 4) (v := .int .i64 a) rfl (by kernel_rfl) (by kernel_rfl) (by kernel_rfl) (fun _ _ _ h => h) (Or.inl ⟨by rfl, fun w hSw => ?_⟩) hHeld ?_
          · (have ca := HCA.out _ hSw; clear hSw; go_simp)
          simp only [Act.put, List.setIfInBounds_toArray, List.set_cons_zero, List.set_cons_succ]
          refine takeH (i := 5) (v := .pointer (some (ad.add (a * 12)))) rfl (by kernel_rfl) (by kernel_rfl) (by kernel_rfl) (fun _ _ _ h => h) (Or.inl ⟨by rfl, fun w hSw => ?_⟩) hHeld ?_
          · (clear hSw; go_simp)
          simp only [Act.put, List.setIfInBounds_toArray, List.set_cons_zero, List.set_cons_succ]
          refine takeH (i := 6) (v := (fs a).val) rfl (by kernel_rfl) (by kernel_rfl) (by kernel_rfl) (fun _ _ _ h => h) (Or.inl ⟨by rfl, fun w hSw => ?_⟩) hHeld ?_
          · (obtain ⟨c0, c1, c2, c3, c4, c5, c6, c7, c8, c9, c10, c11⟩ := HC.out _ hSw a han; clear hSw; go_simp)
          simp only [Act.put, List.setIfInBounds_toArray, List.set_cons_zero, List.set_cons_succ]
          refine takeH (i := 7) (v := .slice (some ad) n cap) rfl (by kernel_rfl) (by kernel_rfl) (by kernel_rfl) (fun _ _ _ h => h) (Or.inl ⟨by rfl, fun w hSw => ?_⟩) hHeld ?_
          · (clear hSw; go_simp)
          simp only [Act.put, List.setIfInBounds_toArray, List.set_cons_zero, List.set_cons_succ]
          refine takeH (i := 8) (v := (.slice (some ⟨g, 0, none⟩) n c)) rfl (by kernel_rfl) (by kernel_rfl) (by kernel_rfl) (fun _ _ _ h => h) (Or.inl ⟨by rfl, fun w hSw => ?_⟩) hHeld ?_
          · (clear hSw; go_simp)
          simp only [Act.put, List.setIfInBounds_toArray, List.set_cons_zero, List.set_cons_succ]
          refine takeH (i := 9) (v := .int .i64 i) rfl (by kernel_rfl) (by kernel_rfl) (by kernel_rfl) (fun _ _ _ h => h) (Or.inl ⟨by rfl, fun w hSw => ?_⟩) hHeld ?_
          · (clear hSw; go_simp)
          simp only [Act.put, List.setIfInBounds_toArray, List.set_cons_zero, List.set_cons_succ]
          refine takeH (i := 10) (v := .pointer (some ⟨g, i, none⟩)) rfl (by kernel_rfl) (by kernel_rfl) (by kernel_rfl) (fun _ _ _ h => h) (Or.inl ⟨by rfl, fun w hSw => ?_⟩) hHeld ?_
          · (clear hSw; go_simp)
          simp only [Act.put, List.setIfInBounds_toArray, List.set_cons_zero, List.set_cons_succ]
          refine takeH (i := 11) (v := .int .i64 q) rfl (by kernel_rfl) (by kernel_rfl) (by kernel_rfl) (fun _ _ _ h => h) (Or.inl ⟨by rfl, fun w hSw => ?_⟩) hHeld ?_
          · (have cb := HCQ.out _ hSw; clear hSw; go_simp)
          simp only [Act.put, List.setIfInBounds_toArray, List.set_cons_zero, List.set_cons_succ]
          refine takeH (i := 12) (v := .pointer (some (ad.add (q * 12)))) rfl (by kernel_rfl) (by kernel_rfl) (by kernel_rfl) (fun _ _ _ h => h) (Or.inl ⟨by rfl, fun w hSw => ?_⟩) hHeld ?_
          · (clear hSw; go_simp)
          simp only [Act.put, List.setIfInBounds_toArray, List.set_cons_zero, List.set_cons_succ]
          refine takeH (i := 13) (v := (fs q).val) rfl (by kernel_rfl) (by kernel_rfl) (by kernel_rfl) (fun _ _ _ h => h) (Or.inl ⟨by rfl, fun w hSw => ?_⟩) hHeld ?_
          · (obtain ⟨c0, c1, c2, c3, c4, c5, c6, c7, c8, c9, c10, c11⟩ := HC.out _ hSw q hqn; clear hSw; go_simp)
          simp only [Act.put, List.setIfInBounds_toArray, List.set_cons_zero, List.set_cons_succ]
          refine wpAnyH_ready (rs := [14]) (by kernel_rfl) (by simp) ?_
          refine AllReadyH.cons rfl (fun K hK => ?_) AllReadyH.nil
          go_simp
          refine (less_yes (fs a) (fs q) _ (HM.out a han) (HM.out q hqn)).mono ?_
          rintro e w9 ⟨rfl, hb9⟩
          rw [HLS.out]
          clear hHeld
          dsimp only
          refine hK.out _ _ (nxt (belowN HBK.out 1) hb9) (fun hHeld => ?_)
          clear hK K
          try simp only [Act.put, List.setIfInBounds_toArray, List.set_cons_zero, List.set_cons_succ]
          refine takeH (i := 15) (v := .bool false) rfl (by kernel_rfl) (by kernel_rfl) (by kernel_rfl) (fun _ _ _ h => h) (Or.inl ⟨by rfl, fun w hSw => ?_⟩) hHeld ?_
          · (clear hSw; go_simp)
          simp only [Act.put, List.setIfInBounds_toArray, List.set_cons_zero, List.set_cons_succ]
          refine wpAnyH_done (by kernel_rfl) ?_ _
          clear hHeld
          go_wp2
          go_roundw
          case rel => exact ⟨k + 1, by omega, by go_num, HGK.out.below (nxt (belowN (Below.refl _ _) 1) hb9) HGK.out.lt, nxt (belowN HBK.out 1) hb9⟩
          case measure => simp [intOf]; omega
        · go_wp2
          go_roundw
          case rel => exact ⟨i + 1, by omega, by go_num, HGK.out, HBK.out⟩
          case measure => simp [intOf]; omega
    · obtain rfl : n = i := by omega
      by_cases h0 : n = 0
      · subst h0
        rename World => wo2
        go_wp2_with fail
        refine (winner_none A cap _).mono ?_
        rintro e w4 ⟨rfl, rfl⟩
        go_wp2_with fail
        refine (awake7 _).mono ?_
        rintro e w5 ⟨rfl, hb5⟩
        go_wp2
        go_ret
        exact ⟨rfl, nxt (nxt HB1.out HBI.out) hb5⟩
      · have h0' : ((n : Int) == 0) = false := by simp; omega
        have h00 : ¬ (n : Int) = 0 := by omega
        have hpos : 0 < n := by omega
        rename World => w3
        have HB3 := Lib.hid (nxt HB1.out HBI.out); have HO3 := Lib.hid (HO.out.below HBI.out)
        obtain ⟨p, hp, hmod1, hmod2, tb1, tb2⟩ := mod_in b n (by omega)
        obtain ⟨ad, rfl, _, _⟩ := (HR.out.below HB3.out) (by omega)
        have HF0 := Lib.hid (Fown.nil w3 w3.heap.size (Nat.le_refl _))
        obtain ⟨s1, s3⟩ := sliceF_to ad n cap p (by omega)
        obtain ⟨s2, s4⟩ := sliceF_from ad n cap p hp hcap
        have HFR := Lib.hid (fs_from (HR.out.below HB3.out) p (by omega))
        have HTO := Lib.hid (fs_to (HR.out.below HB3.out) p (by omega))
        have p1 : (0 : Int) ≤ (p : Int) := by omega
        have p2 : (p : Int) < (n : Int) := by omega
        have p3 : (p : Int) ≤ (n : Int) := by omega
        go_wp2_with fail
        go_region_held3 (fun _ => True) (trivial)
          (first
            | (refine step_append_F _ (by rfl) (.tmp 122) (.tmp 125) (by rfl) w3.heap.size (.slice (some ⟨w3.heap.size, 0, none⟩) 0 0) [] (by rfl) (by exact HF0.out) (some (ad.add (p * 12))) (n - p) (cap - p) ((fl fs n).drop p) (by rfl) (by exact HFR.out.below (belowN ((Below.refl _ _).alloc (Nat.le_refl _) _) 1)) (by rw [List.length_nil]; omega) (by simp) ?_; intro v10 w10 ho10 hg10 hl10; have hb10 := below_lit (grown_undrewF hg10); clear hg10 hl10; have HO10 := Lib.hid ho10; clear ho10)
            | (refine step_append_F _ (by rfl) (.tmp 126) (.tmp 129) (by rfl) w3.heap.size v10 ([] ++ (fl fs n).drop p) (by rfl) (by exact HO10.out) (some ad) p cap ((fl fs n).take p) (by rfl) (by exact HTO.out.below hb10) (by rw [List.nil_append, List.length_drop, fl_len]; omega) (by exact hb10.size) ?_; intro v11 w11 ho11 hg11 hl11; have hb11 := hb10.grown hg11 hb10.size HO10.out.row; have HO11 := Lib.hid ho11; clear ho11 hg11 hl11)
            | fail)
        obtain ⟨A11, c11, hv11, hf11, -⟩ := HO11.out.fl
        rw [List.nil_append] at hv11 hf11
        have HF11 := Lib.hid (turn_fl hp hf11)
        rw [show ((fl fs n).drop p ++ (fl fs n).take p).length = n by rw [List.length_append, List.length_drop, List.length_take, fl_len]; omega] at hv11
        subst hv11
        have HB11 := Lib.hid (nxt HB3.out hb11); have HO11' := Lib.hid (HO3.out.below hb11)
        clear hf11 HO11 HO10 hb10 hb11 s1 s2 s3 s4 HF0 HFR HTO
        go_wp2_with fail
        refine (order_ok (fun j => fs ((j + p) % n)) A11 n c11 _ HF11.out hn (turn_may hp HM.out) (turn_same hp HNS.out)).mono ?_
        rintro e w4 ⟨gq, cq, qs, rfl, hsq, hoq, hb4⟩
        have HSQ := Lib.hid hsq; have HP4 := Lib.hid hoq; have HB4 := Lib.hid (nxt HB11.out hb4); have HO4 := Lib.hid (HO11'.out.below hb4)
        clear hsq hoq hb4
        go_wp2_with fail
        refine (winner_ok fs (some ad) n cap _ (HR.out.below HB4.out) hn HM.out hpos HNS.out).mono ?_
        rintro e w5 ⟨ps2, rfl, hs2, hb5⟩
        obtain rfl : ps2 = ps := hs2.uniq HS.out
        have HB5 := Lib.hid (nxt HB4.out hb5); have HO5 := Lib.hid (HO4.out.below hb5); have HP5 := Lib.hid (HP4.out.below hb5)
        clear hs2 hb5
        have c0 := HO5.out.cell (j := 0) (by rw [asI_len, HS.out.len]; exact hpos)
        rw [asI_getD] at c0
        obtain ⟨z0, hz0⟩ : ∃ z0, ((ps2.getD 0 0 : Nat) : Int) = z0 := ⟨_, rfl⟩
        rw [hz0] at c0 ⊢
        have n1 : (z0 != z0) = false := by simp
        have n2 : ((n : Int) != (n : Int)) = false := by simp
        clear hz0
        go_wp2
        go_loopw [17] (fun vi wr => ∃ i q : Nat, i ≤ n ∧ vi = .int .i64 i ∧ wr = w5.drewN q) (fun vi _ => n - (intOf vi).toNat)
        case atStart => exact ⟨0, 0, Nat.zero_le _, rfl, rfl⟩
        case round =>
          obtain ⟨i, qd, hi, rfl, rfl⟩ := hrel
          by_cases hin : i < n
          · have hin' : (i : Int) < (n : Int) := by omega
            obtain ⟨q, hq⟩ : ∃ q, qs.getD i 0 = q := ⟨_, rfl⟩
            obtain ⟨r, hr⟩ : ∃ r, ps2.getD i 0 = r := ⟨_, rfl⟩
            have hqn : q < n := by rw [← hq]; exact HSQ.out.lt hin
            have hmod := turn_srt hp HSQ.out HS.out hin
            rw [hq, hr] at hmod
            have cp := HP5.out.cell (j := i) (by rw [asI_len, HSQ.out.len]; exact hin)
            rw [asI_getD, hq] at cp
            have co := HO5.out.cell (j := i) (by rw [asI_len, HS.out.len]; exact hin)
            rw [asI_getD, hr] at co
            have t1 : decide ((q : Int) < 0) = false := by simp
            have t2 : decide ((n : Int) ≤ (q : Int)) = false := by simp; omega
            have t3 : decide (n ≤ q) = false := by simp; omega
            have t4 : ¬ n ≤ q := by omega
            have t5 : ((q : Int) + (p : Int)).tmod (n : Int) = (r : Int) := by
              rw [Int.tmod_eq_emod_of_nonneg (by omega), ← hmod]; simp
            have t6 : ((q : Int) + (p : Int)) % (n : Int) = (r : Int) := by rw [← hmod]; simp
            have t7 : ((r : Int) != (r : Int)) = false := by simp
            clear hq hr hmod
            go_wp2
            go_quiet (fail)
            go_wp2
            go_roundw
            case rel => exact ⟨i + 1, _, by omega, by go_num, rfl⟩
            case measure => simp [intOf]; omega
          · go_wp2_with fail
            refine (awake7 _).mono ?_
            rintro e w6 ⟨rfl, hb6⟩
            go_wp2
            go_ret
            exact ⟨rfl, nxt (belowN HB5.out _) hb6⟩

set_option maxRecDepth 100000 in
theorem aplaces_any (A : Option Addr) (n cap : Nat) (fs : Nat → Fr) (b : Int) (w : World) (hr : Fl w A n fs) (hcap : n ≤ cap) (hbl : -9223372036854775808 ≤ b) (hbh : b ≤ 9223372036854775807) :
    Calls Try.prog 8 #[.slice A n cap, .int .i64 b] w fun e w' => e = .returned (.bool true) ∧ Below w.heap.size w w' := by
  rcases Nat.lt_or_ge 12 n with hn | hn
  · have g0 : decide ((12 : Int) < (n : Int)) = true := by simp; omega
    clear hr
    go_enter Try.func8, Try.ntmps8
    go_wp2_with (go_at_call 9; (refine (awake7 _).mono ?_); rintro e w1 ⟨rfl, hb1⟩)
    go_ret
    exact ⟨rfl, hb1⟩
  rcases may_or fs n with hbad | hmay
  · exact aplaces_not A n cap b w 14 (by omega) hn (order_bad fs A n cap w hr hn hbad)
  rcases Classical.em (Same fs n) with hs | hs
  · exact aplaces_not A n cap b w 23 (by omega) hn (order_same fs A n cap w hr hn hmay hs)
  · exact aplaces_ok fs A n cap b w hr hcap hn hmay hs hbl hbh
end Go.Proofs.Ytjbbneagikogbaa
