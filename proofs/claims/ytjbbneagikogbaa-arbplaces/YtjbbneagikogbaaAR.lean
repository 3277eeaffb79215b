/- The contracts of the reference's Place and Wrong. -/
import Derived.Test.YtjbbneagikogbaaAC
import Derived.Test.YtjbbneagikogbaaRc
import Derived.Test.YtjbbneagikogbaaRa
namespace Go.Proofs.Ytjbbneagikogbaa
open Go.RowKit

theorem plc_dif {f g : Fr} (hf : f.may = true) (hg : g.may = true) : (f.plc = g.plc → dif f.lv g.lv = -1) ∧ (f.plc ≠ g.plc → 0 ≤ dif f.lv g.lv) := by
  constructor
  · intro h
    rw [plc_eq hf hg h]; exact dif_self _
  · intro h
    rcases Nat.lt_or_gt_of_ne h with h | h
    · obtain ⟨k, hk⟩ := plc_lt hf hg h
      rw [hk.dif.1]; omega
    · obtain ⟨k, hk⟩ := plc_lt hg hf h
      rw [hk.dif.2]; omega

set_option maxRecDepth 100000 in
set_option maxHeartbeats 1600000 in
theorem rplace_any (f g : Fr) (w : World) (hf : f.may = true) (hg : g.may = true) :
    Calls Try.prog 13 #[f.val, g.val] w fun e w' => e = .returned (.int .i64 (dif f.lv g.lv)) ∧ Below w.heap.size w w' := by
  have HB := Lib.hid (boxed2 f g w)
  have HX := Lib.hid (bx_two2 w f g)
  have HF := Lib.hid hf; have HG := Lib.hid hg
  have HST := Lib.hid (dif_stop f.lv g.lv)
  have HEND := Lib.hid (dif_end f.lv g.lv)
  have hwf := wid_32 f
  have hwg := wid_32 g
  have HLF := Lib.hid (lv_len f)
  have HLG := Lib.hid (lv_len g)
  generalize dif f.lv g.lv = rv at *
  clear hf hg
  go_enter Try.func13, Try.ntmps13
  go_wp2_with fail
  refine (rarb_ok f _ HF.out).mono ?_
  rintro e w1 ⟨A1, cap1, rfl, hi1, hb1⟩
  have HI1 := Lib.hid hi1
  rw [ofB_len] at HI1 ⊢
  obtain ⟨c0, c1, c2, c3, c4, c5, c6, c7, c8, c9, c10, c11⟩ := HX.out.below hb1 (by simp)
  clear hi1
  go_wp2_with fail
  refine (rarb_ok g _ HG.out).mono ?_
  rintro e w2 ⟨A2, cap2, rfl, hi2, hb2⟩
  rw [ofB_len] at hi2 ⊢
  have H1 := Lib.hid (HI1.out.below hb2)
  have H2 := Lib.hid hi2
  have HB2 := Lib.hid (nxt (nxt HB.out hb1) hb2)
  change Hid (Il w2 A1 f.wid f.lv) at H1
  change Hid (Il w2 A2 g.wid g.lv) at H2
  clear hi2 hb1 hb2 c0 c1 c2 c3 c4 c5 c6 c7 c8 c9 c10 c11 HI1 HX HB
  generalize f.wid = nf at *
  generalize g.wid = ng at *
  go_wp2
  go_loopw [7] (fun i wr => ∃ k q : Nat, k ≤ nf ∧ k ≤ ng ∧ i = .int .i64 k ∧ f.lv.take k = g.lv.take k ∧ wr = w2.drewN q) (fun i _ => nf - (intOf i).toNat)
  case atStart => exact ⟨0, 0, Nat.zero_le _, Nat.zero_le _, rfl, rfl, rfl⟩
  case round =>
    obtain ⟨k, q, hk, hk2, rfl, ht, rfl⟩ := hrel
    have HT := Lib.hid ht
    clear ht
    by_cases hlt : k < nf
    · by_cases hlt2 : k < ng
      · obtain ⟨ad, x, rfl, hx, hc⟩ := H1.out.at_ hlt
        obtain ⟨bd, y, rfl, hy, hd⟩ := H2.out.at_ hlt2
        have HX := Lib.hid hx; have HY := Lib.hid hy
        have l1 : (k : Int) < (nf : Int) := by omega
        have l2 : (k : Int) < (ng : Int) := by omega
        clear hx hy
        cases hxy : (x != y)
        · have HS := Lib.hid (take_same HT.out HX.out HY.out (by simpa using hxy))
          go_wp2
          go_quiet (fail)
          go_wp2
          go_roundw
          case rel => exact ⟨k + 1, _, by omega, by omega, by go_num, HS.out, rfl⟩
          case measure => simp [intOf]; omega
        · have HR := Lib.hid (HST.out k x y HT.out HX.out HY.out (by simpa using hxy))
          go_wp2
          go_quiet (fail)
          go_wp2
          go_ret
          rw [HR.out]
          exact ⟨rfl, belowN (belowN HB2.out _) _⟩
      · have HR := Lib.hid (HEND.out k HT.out (.inr (by rw [HLG.out]; omega)))
        have l1 : (k : Int) < (nf : Int) := by omega
        have l2 : ¬ (k : Int) < (ng : Int) := by omega
        go_wp2
        go_ret
        rw [HR.out]
        exact ⟨rfl, belowN HB2.out _⟩
    · have HR := Lib.hid (HEND.out k HT.out (.inl (by rw [HLF.out]; omega)))
      have l1 : ¬ (k : Int) < (nf : Int) := by omega
      go_wp2
      go_ret
      rw [HR.out]
      exact ⟨rfl, belowN HB2.out _⟩

/-- No two of the first n have the same levels. -/
def Aprt (fs : Nat → Fr) (n : Nat) : Prop := ∀ i k, k < i → i < n → (fs i).plc ≠ (fs k).plc
/-- What Wrong answers. -/
def WrongRes (fs : Nat → Fr) (n : Nat) (w : World) (e : Ending) (w' : World) : Prop :=
  Below w.heap.size w w' ∧ ((e = .returned (.int .i64 14) ∧ ∃ i, i < n ∧ (fs i).may = false) ∨ ((∀ i, i < n → (fs i).may = true) ∧ ((e = .returned (.int .i64 23) ∧ ∃ i k, k < i ∧ i < n ∧ (fs i).plc = (fs k).plc) ∨ (e = .returned (.int .i64 0) ∧ Aprt fs n))))

set_option maxRecDepth 100000 in
set_option maxHeartbeats 3200000 in
theorem rwrong_any (fs : Nat → Fr) (A : Option Addr) (n cap : Nat) (w : World) (hr : Fl w A n fs) (hn : n ≤ 1000) :
    Calls Try.prog 12 #[.slice A n cap] w (WrongRes fs n w) := by
  have HR := Lib.hid hr
  clear hr
  go_enter Try.func12, Try.ntmps12
  go_wp2
  go_loopw [3] (fun vi wr => ∃ i : Nat, i ≤ n ∧ vi = .int .i64 i ∧ (∀ j, j < i → (fs j).may = true) ∧ Below w.heap.size w wr) (fun vi _ => n - (intOf vi).toNat)
  case atStart => exact ⟨0, Nat.zero_le _, rfl, fun j hj => by omega, Below.refl _ _⟩
  case round =>
    obtain ⟨i, hi, rfl, hm, hb⟩ := hrel
    have HM := Lib.hid hm; have HB := Lib.hid hb
    clear hm hb
    by_cases hlt : i < n
    · obtain ⟨ad, rfl, hl, c0, c1, c2, c3, c4, c5, c6, c7, c8, c9, c10, c11⟩ := (HR.out.below HB.out).at_ hlt
      have hlt' : (i : Int) < (n : Int) := by omega
      clear hl
      cases hm : (fs i).may with
      | true =>
        have HE := Lib.hid (err_ok hm)
        have HM2 := Lib.hid (show ∀ j, j < i + 1 → (fs j).may = true from fun j hj => by
          rcases Nat.lt_or_ge j i with h | h
          · exact HM.out j h
          · rw [show j = i by omega]; exact hm)
        clear hm
        go_wp2_with fail
        refine (rfcheck_any (fs i) _).mono ?_
        rintro e w1 ⟨rfl, hb1⟩
        rw [HE.out]
        have HB1 := Lib.hid (nxt HB.out hb1)
        clear hb1 c0 c1 c2 c3 c4 c5 c6 c7 c8 c9 c10 c11
        go_wp2
        go_roundw
        case rel => exact ⟨i + 1, by omega, by go_num, HM2.out, HB1.out⟩
        case measure => simp [intOf]; omega
      | false =>
        have HE := Lib.hid (err_no hm)
        have HX := Lib.hid (show ∃ i, i < n ∧ (fs i).may = false from ⟨i, hlt, hm⟩)
        clear hm
        go_wp2_with fail
        refine (rfcheck_any (fs i) _).mono ?_
        rintro e w1 ⟨rfl, hb1⟩
        rw [HE.out]
        have HB1 := Lib.hid (nxt HB.out hb1)
        clear hb1 c0 c1 c2 c3 c4 c5 c6 c7 c8 c9 c10 c11
        go_wp2
        go_ret
        exact ⟨HB1.out, .inl ⟨rfl, HX.out⟩⟩
    · obtain rfl : n = i := by omega
      rename World => wo
      go_wp2
      go_loopw [4] (fun vi wr => ∃ i : Nat, i ≤ n ∧ vi = .int .i64 i ∧ Aprt fs i ∧ Below w.heap.size w wr) (fun vi _ => n - (intOf vi).toNat)
      case atStart => exact ⟨0, Nat.zero_le _, rfl, fun i k _ h => by omega, HB.out⟩
      case round =>
        obtain ⟨i, hi, rfl, hap, hb⟩ := hrel
        have HAP := Lib.hid hap; have HBI := Lib.hid hb
        clear hap hb
        by_cases hlt : i < n
        · have hlt' : (i : Int) < (n : Int) := by omega
          rename World => wo2
          go_wp2
          go_loopw [5] (fun vk wr => ∃ k : Nat, k ≤ i ∧ vk = .int .i64 k ∧ (∀ j, j < k → (fs i).plc ≠ (fs j).plc) ∧ Below w.heap.size w wr) (fun vk _ => i - (intOf vk).toNat)
          case atStart => exact ⟨0, Nat.zero_le _, rfl, fun j hj => by omega, HBI.out⟩
          case round =>
            obtain ⟨k, hk, rfl, hne, hb⟩ := hrel
            have HNE := Lib.hid hne; have HBK := Lib.hid hb
            clear hne hb
            by_cases hki : k < i
            · have hki' : (k : Int) < (i : Int) := by omega
              have hkn : k < n := by omega
              have hkn' : (k : Int) < (n : Int) := by omega
              obtain ⟨ad, rfl, _, _⟩ := (HR.out.below HBK.out) (by omega)
              have HC := Lib.hid (show ∀ w' : World, Below w.heap.size w w' → ∀ j, j < n → Bxa w' (ad.add (j * 12)) (fs j) from fun w' hb j hj => by
                obtain ⟨ad', e, _, hc⟩ := (HR.out.below hb).at_ hj
                injection e with e
                subst e
                exact hc)
              have hi := hlt
              obtain ⟨p1, p2⟩ := plc_dif (HM.out i hlt) (HM.out k hkn)
              by_cases heq : (fs i).plc = (fs k).plc
              · have HD := Lib.hid (show dif (fs i).lv (fs k).lv = -1 from p1 heq)
                have HX := Lib.hid (show ∃ i k, k < i ∧ i < n ∧ (fs i).plc = (fs k).plc from ⟨i, k, hki, hlt, heq⟩)
                clear p1 p2 heq
                go_wp2_with fail
                refine wp_region_held_drew (S := fun w' => Below w.heap.size w w') (by kernel_rfl) (belowN HBK.out 1) (fun hHeld => ?_)
                refine takeH (i := 0) (v := .slice (some ad) n cap) rfl (by kernel_rfl) (by kernel_rfl) (by kernel_rfl) (fun _ _ _ h => h) (Or.inl ⟨by rfl, fun w hSw => ?_⟩) hHeld ?_
                · (clear hSw; go_simp)
                simp only [Act.put, List.setIfInBounds_toArray, List.set_cons_zero, List.set_cons_succ]
                refine takeH (i := 1) (v := .int .i64 i) rfl (by kernel_rfl) (by kernel_rfl) (by kernel_rfl) (fun _ _ _ h => h) (Or.inl ⟨by rfl, fun w hSw => ?_⟩) hHeld ?_
                · (clear hSw; go_simp)
                simp only [Act.put, List.setIfInBounds_toArray, List.set_cons_zero, List.set_cons_succ]
                refine takeH (i := 2) (v := .pointer (some (ad.add (i * 12)))) rfl (by kernel_rfl) (by kernel_rfl) (by kernel_rfl) (fun _ _ _ h => h) (Or.inl ⟨by rfl, fun w hSw => ?_⟩) hHeld ?_
                · (clear hSw; go_simp)
                simp only [Act.put, List.setIfInBounds_toArray, List.set_cons_zero, List.set_cons_succ]
                refine takeH (i := 3) (v := (fs i).val) rfl (by kernel_rfl) (by kernel_rfl) (by kernel_rfl) (fun _ _ _ h => h) (Or.inl ⟨by rfl, fun w hSw => ?_⟩) hHeld ?_
                · (obtain ⟨c0, c1, c2, c3, c4, c5, c6, c7, c8, c9, c10, c11⟩ := HC.out _ hSw i hi; clear hSw; go_simp)
                simp only [Act.put, List.setIfInBounds_toArray, List.set_cons_zero, List.set_cons_succ]
                refine takeH (i := 4) (v := .slice (some ad) n cap) rfl (by kernel_rfl) (by kernel_rfl) (by kernel_rfl) (fun _ _ _ h => h) (Or.inl ⟨by rfl, fun w hSw => ?_⟩) hHeld ?_
                · (clear hSw; go_simp)
                simp only [Act.put, List.setIfInBounds_toArray, List.set_cons_zero, List.set_cons_succ]
                refine takeH (i := 5) (v := .int .i64 k) rfl (by kernel_rfl) (by kernel_rfl) (by kernel_rfl) (fun _ _ _ h => h) (Or.inl ⟨by rfl, fun w hSw => ?_⟩) hHeld ?_
                · (clear hSw; go_simp)
                simp only [Act.put, List.setIfInBounds_toArray, List.set_cons_zero, List.set_cons_succ]
                refine takeH (i := 6) (v := .pointer (some (ad.add (k * 12)))) rfl (by kernel_rfl) (by kernel_rfl) (by kernel_rfl) (fun _ _ _ h => h) (Or.inl ⟨by rfl, fun w hSw => ?_⟩) hHeld ?_
                · (clear hSw; go_simp)
                simp only [Act.put, List.setIfInBounds_toArray, List.set_cons_zero, List.set_cons_succ]
                refine takeH (i := 7) (v := (fs k).val) rfl (by kernel_rfl) (by kernel_rfl) (by kernel_rfl) (fun _ _ _ h => h) (Or.inl ⟨by rfl, fun w hSw => ?_⟩) hHeld ?_
                · (obtain ⟨c0, c1, c2, c3, c4, c5, c6, c7, c8, c9, c10, c11⟩ := HC.out _ hSw k hkn; clear hSw; go_simp)
                simp only [Act.put, List.setIfInBounds_toArray, List.set_cons_zero, List.set_cons_succ]
                refine wpAnyH_ready (rs := [8]) (by kernel_rfl) (by simp) ?_
                refine AllReadyH.cons rfl (fun K hK => ?_) AllReadyH.nil
                go_simp
                refine (rplace_any (fs i) (fs k) _ (HM.out i hi) (HM.out k hkn)).mono ?_
                rintro e w2 ⟨rfl, hb2⟩
                clear hHeld
                dsimp only
                refine hK.out _ _ (nxt (belowN HBK.out 1) hb2) (fun hHeld => ?_)
                clear hK K
                try simp only [Act.put, List.setIfInBounds_toArray, List.set_cons_zero, List.set_cons_succ]
                refine takeH (i := 9) (v := .bool true) rfl (by kernel_rfl) (by kernel_rfl) (by kernel_rfl) (fun _ _ _ h => h) (Or.inl ⟨by rfl, fun w hSw => ?_⟩) hHeld ?_
                · (have hd := HD.out; clear hSw; go_simp)
                simp only [Act.put, List.setIfInBounds_toArray, List.set_cons_zero, List.set_cons_succ]
                refine wpAnyH_done (by kernel_rfl) ?_ _
                clear hHeld
                go_wp2
                go_ret
                exact ⟨nxt (belowN HBK.out 1) hb2, .inr ⟨HM.out, .inl ⟨rfl, HX.out⟩⟩⟩
              · have HD := Lib.hid (show decide (dif (fs i).lv (fs k).lv < 0) = false by simpa using p2 heq)
                have HX := Lib.hid (show ∀ j, j < k + 1 → (fs i).plc ≠ (fs j).plc from fun j hj => by
                  rcases Nat.lt_or_ge j k with h | h
                  · exact HNE.out j h
                  · rw [show j = k by omega]; exact heq)
                clear p1 p2 heq
                go_wp2_with fail
                refine wp_region_held_drew (S := fun w' => Below w.heap.size w w') (by kernel_rfl) (belowN HBK.out 1) (fun hHeld => ?_)
                refine takeH (i := 0) (v := .slice (some ad) n cap) rfl (by kernel_rfl) (by kernel_rfl) (by kernel_rfl) (fun _ _ _ h => h) (Or.inl ⟨by rfl, fun w hSw => ?_⟩) hHeld ?_
                · (clear hSw; go_simp)
                simp only [Act.put, List.setIfInBounds_toArray, List.set_cons_zero, List.set_cons_succ]
                refine takeH (i := 1) (v := .int .i64 i) rfl (by kernel_rfl) (by kernel_rfl) (by kernel_rfl) (fun _ _ _ h => h) (Or.inl ⟨by rfl, fun w hSw => ?_⟩) hHeld ?_
                · (clear hSw; go_simp)
                simp only [Act.put, List.setIfInBounds_toArray, List.set_cons_zero, List.set_cons_succ]
                refine takeH (i := 2) (v := .pointer (some (ad.add (i * 12)))) rfl (by kernel_rfl) (by kernel_rfl) (by kernel_rfl) (fun _ _ _ h => h) (Or.inl ⟨by rfl, fun w hSw => ?_⟩) hHeld ?_
                · (clear hSw; go_simp)
                simp only [Act.put, List.setIfInBounds_toArray, List.set_cons_zero, List.set_cons_succ]
                refine takeH (i := 3) (v := (fs i).val) rfl (by kernel_rfl) (by kernel_rfl) (by kernel_rfl) (fun _ _ _ h => h) (Or.inl ⟨by rfl, fun w hSw => ?_⟩) hHeld ?_
                · (obtain ⟨c0, c1, c2, c3, c4, c5, c6, c7, c8, c9, c10, c11⟩ := HC.out _ hSw i hi; clear hSw; go_simp)
                simp only [Act.put, List.setIfInBounds_toArray, List.set_cons_zero, List.set_cons_succ]
                refine takeH (i := 4) (v := .slice (some ad) n cap) rfl (by kernel_rfl) (by kernel_rfl) (by kernel_rfl) (fun _ _ _ h => h) (Or.inl ⟨by rfl, fun w hSw => ?_⟩) hHeld ?_
                · (clear hSw; go_simp)
                simp only [Act.put, List.setIfInBounds_toArray, List.set_cons_zero, List.set_cons_succ]
                refine takeH (i := 5) (v := .int .i64 k) rfl (by kernel_rfl) (by kernel_rfl) (by kernel_rfl) (fun _ _ _ h => h) (Or.inl ⟨by rfl, fun w hSw => ?_⟩) hHeld ?_
                · (clear hSw; go_simp)
                simp only [Act.put, List.setIfInBounds_toArray, List.set_cons_zero, List.set_cons_succ]
                refine takeH (i := 6) (v := .pointer (some (ad.add (k * 12)))) rfl (by kernel_rfl) (by kernel_rfl) (by kernel_rfl) (fun _ _ _ h => h) (Or.inl ⟨by rfl, fun w hSw => ?_⟩) hHeld ?_
                · (clear hSw; go_simp)
                simp only [Act.put, List.setIfInBounds_toArray, List.set_cons_zero, List.set_cons_succ]
                refine takeH (i := 7) (v := (fs k).val) rfl (by kernel_rfl) (by kernel_rfl) (by kernel_rfl) (fun _ _ _ h => h) (Or.inl ⟨by rfl, fun w hSw => ?_⟩) hHeld ?_
                · (obtain ⟨c0, c1, c2, c3, c4, c5, c6, c7, c8, c9, c10, c11⟩ := HC.out _ hSw k hkn; clear hSw; go_simp)
                simp only [Act.put, List.setIfInBounds_toArray, List.set_cons_zero, List.set_cons_succ]
                refine wpAnyH_ready (rs := [8]) (by kernel_rfl) (by simp) ?_
                refine AllReadyH.cons rfl (fun K hK => ?_) AllReadyH.nil
                go_simp
                refine (rplace_any (fs i) (fs k) _ (HM.out i hi) (HM.out k hkn)).mono ?_
                rintro e w2 ⟨rfl, hb2⟩
                clear hHeld
                dsimp only
                refine hK.out _ _ (nxt (belowN HBK.out 1) hb2) (fun hHeld => ?_)
                clear hK K
                try simp only [Act.put, List.setIfInBounds_toArray, List.set_cons_zero, List.set_cons_succ]
                refine takeH (i := 9) (v := .bool false) rfl (by kernel_rfl) (by kernel_rfl) (by kernel_rfl) (fun _ _ _ h => h) (Or.inl ⟨by rfl, fun w hSw => ?_⟩) hHeld ?_
                · (have hd := HD.out; clear hSw; go_simp)
                simp only [Act.put, List.setIfInBounds_toArray, List.set_cons_zero, List.set_cons_succ]
                refine wpAnyH_done (by kernel_rfl) ?_ _
                clear hHeld
                go_wp2
                go_roundw
                case rel => exact ⟨k + 1, by omega, by go_num, HX.out, nxt (belowN HBK.out 1) hb2⟩
                case measure => simp [intOf]; omega
            · have HX := Lib.hid (show Aprt fs (i + 1) from fun a b hba ha => by
                rcases Nat.lt_or_ge a i with h | h
                · exact HAP.out a b hba h
                · rw [show a = i by omega]; exact HNE.out b (by omega))
              go_wp2
              go_roundw
              case rel => exact ⟨i + 1, by omega, by go_num, HX.out, HBK.out⟩
              case measure => simp [intOf]; omega
        · have HX := Lib.hid (show Aprt fs n from fun a b hba ha => HAP.out a b hba (by omega))
          go_wp2
          go_ret
          exact ⟨HBI.out, .inr ⟨HM.out, .inr ⟨rfl, HX.out⟩⟩⟩
end Go.Proofs.Ytjbbneagikogbaa
