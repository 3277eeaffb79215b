/- The contract of slices.insertionSortCmpFunc, with Order's closure. -/
import Derived.Test.YtjbbneagikogbaaAC
import Derived.Test.YtjbbneagikogbaaAN
namespace Go.Proofs.Ytjbbneagikogbaa
open Go.RowKit

theorem cmp_neg {x y : Nat} (h : x < y) : cmp x y = -1 := by unfold cmp; rw [if_pos h]
theorem cmp_pos {x y : Nat} (h : ¬ x < y) : 0 ≤ cmp x y := by unfold cmp; rw [if_neg h]; split <;> omega
theorem own_swp {w : World} {B g n c j : Nat} {qs : List Nat} (h : Own w B (.slice (some ⟨g, 0, none⟩) n c) (asI qs)) : Own ((w.setCell ⟨g, j + 1, none⟩ (.int .i64 (qs.getD j 0 : Nat))).setCell ⟨g, j, none⟩ (.int .i64 (qs.getD (j + 1) 0 : Nat))) B (.slice (some ⟨g, 0, none⟩) n c) (asI (swp qs (j + 1) j)) := by
  have := (h.put (j + 1) ((qs.getD j 0 : Nat) : Int)).put j ((qs.getD (j + 1) 0 : Nat) : Int)
  rw [asI_set, asI_set] at this
  exact this

set_option maxRecDepth 100000 in
set_option maxHeartbeats 3200000 in
theorem isort_any (fs : Nat → Fr) (gl : Nat) (A : Option Addr) (n cap : Nat) (w1 : World) (hs : Sees w1 gl A n cap fs) (hn : n ≤ 12) (hmay : ∀ i, i < n → (fs i).may = true) (g c : Nat) (ps : List Nat) (hl : ps.length = n) (hp : ∀ p ∈ ps, p < n)
    (w : World) (hb : Below w1.heap.size w1 w) (ho : Own w w1.heap.size (.slice (some ⟨g, 0, none⟩) n c) (asI ps)) (hg : w1.heap.size ≤ g) :
    Calls Try.prog 38 #[.slice (some ⟨g, 0, none⟩) n c, .int .i64 0, .int .i64 n, .func (.func 29) #[] #[.pointer (some ⟨gl, 0, none⟩)]] w fun e w' => e = .returned (.tuple #[]) ∧ Below w1.heap.size w1 w' ∧
      ∃ qs : List Nat, qs.Perm ps ∧ Up (fun i => (fs i).plc) qs n ∧ Own w' w1.heap.size (.slice (some ⟨g, 0, none⟩) n c) (asI qs) := by
  have HS := Lib.hid hs; have HM := Lib.hid hmay; have HP := Lib.hid hp; have HB := Lib.hid hb; have HO := Lib.hid ho
  clear hs hmay hp hb ho
  go_enter Try.func38, Try.ntmps38
  go_wp2
  go_loopw [8] (fun vi wr => ∃ (i : Nat) (qs : List Nat), vi = .int .i64 i ∧ 1 ≤ i ∧ i ≤ n + 1 ∧ (i ≤ n ∨ n = 0) ∧ qs.Perm ps ∧ Up (fun i => (fs i).plc) qs i ∧ Below w1.heap.size w1 wr ∧ Own wr w1.heap.size (.slice (some ⟨g, 0, none⟩) n c) (asI qs)) (fun vi _ => n + 1 - (intOf vi).toNat)
  case atStart => exact ⟨1, ps, rfl, by omega, by omega, by omega, List.Perm.refl _, fun a b h1 h2 => by omega, HB.out, HO.out⟩
  case round =>
    obtain ⟨i, qs0, rfl, hi1, hi2, hi3, hq0, hup, hb0, ho0⟩ := hrel
    have HQ0 := Lib.hid hq0; have HU0 := Lib.hid hup; have HB0 := Lib.hid hb0; have HO0 := Lib.hid ho0; have HI3 := Lib.hid hi3
    clear hq0 hup hb0 ho0 hi3
    by_cases hin : i < n
    · have hin' : (i : Int) < (n : Int) := by omega
      rename World => wo
      go_wp2
      go_loopw [9] (fun vj wr => ∃ (j : Nat) (qs : List Nat), vj = .int .i64 j ∧ j ≤ i ∧ qs.Perm ps ∧ But (fun i => (fs i).plc) qs i j ∧ Below w1.heap.size w1 wr ∧ Own wr w1.heap.size (.slice (some ⟨g, 0, none⟩) n c) (asI qs)) (fun vj _ => (intOf vj).toNat)
      case atStart => exact ⟨i, qs0, rfl, Nat.le_refl _, HQ0.out, up_but HU0.out, HB0.out, HO0.out⟩
      case round =>
        obtain ⟨j, qs, rfl, hj, hq, hbut, hbj, hoj⟩ := hrel
        have HQ := Lib.hid hq; have HBUT := Lib.hid hbut; have HBJ := Lib.hid hbj; have HOJ := Lib.hid hoj
        clear hq hbut hbj hoj
        rcases j with _ | j
        · have HU := Lib.hid (but_zero HBUT.out)
          go_wp2_with fail
          refine wp_region_held_drew (S := fun w' => Below w1.heap.size w1 w' ∧ Own w' w1.heap.size (.slice (some ⟨g, 0, none⟩) n c) (asI qs)) (by kernel_rfl) (⟨belowN HBJ.out 1, HOJ.out⟩) (fun hHeld => ?_)
          refine takeH (i := 0) (v := .int .i64 0) rfl (by kernel_rfl) (by kernel_rfl) (by kernel_rfl) (fun _ _ _ h => h) (Or.inl ⟨by rfl, fun w hSw => ?_⟩) hHeld ?_
          · (clear hSw; go_simp)
          simp only [Act.put, List.setIfInBounds_toArray, List.set_cons_zero, List.set_cons_succ]
          refine takeH (i := 1) (v := .int .i64 0) rfl (by kernel_rfl) (by kernel_rfl) (by kernel_rfl) (fun _ _ _ h => h) (Or.inl ⟨by rfl, fun w hSw => ?_⟩) hHeld ?_
          · (clear hSw; go_simp)
          simp only [Act.put, List.setIfInBounds_toArray, List.set_cons_zero, List.set_cons_succ]
          refine takeH (i := 2) (v := .bool false) rfl (by kernel_rfl) (by kernel_rfl) (by kernel_rfl) (fun _ _ _ h => h) (Or.inl ⟨by rfl, fun w hSw => ?_⟩) hHeld ?_
          · (clear hSw; go_simp)
          simp only [Act.put, List.setIfInBounds_toArray, List.set_cons_zero, List.set_cons_succ]
          refine takeH (i := 3) (v := .bool false) rfl (by kernel_rfl) (by kernel_rfl) (by kernel_rfl) (fun _ _ _ h => h) (Or.inl ⟨by rfl, fun w hSw => ?_⟩) hHeld ?_
          · (clear hSw; go_simp)
          simp only [Act.put, List.setIfInBounds_toArray, List.set_cons_zero, List.set_cons_succ]
          refine takeH (i := 4) (v := undef) rfl (by kernel_rfl) (by kernel_rfl) (by kernel_rfl) (fun _ _ _ h => h) (Or.inr ⟨by rfl, rfl⟩) hHeld ?_
          simp only [Act.put, List.setIfInBounds_toArray, List.set_cons_zero, List.set_cons_succ]
          refine takeH (i := 5) (v := undef) rfl (by kernel_rfl) (by kernel_rfl) (by kernel_rfl) (fun _ _ _ h => h) (Or.inr ⟨by rfl, rfl⟩) hHeld ?_
          simp only [Act.put, List.setIfInBounds_toArray, List.set_cons_zero, List.set_cons_succ]
          refine takeH (i := 6) (v := undef) rfl (by kernel_rfl) (by kernel_rfl) (by kernel_rfl) (fun _ _ _ h => h) (Or.inr ⟨by rfl, rfl⟩) hHeld ?_
          simp only [Act.put, List.setIfInBounds_toArray, List.set_cons_zero, List.set_cons_succ]
          refine takeH (i := 7) (v := undef) rfl (by kernel_rfl) (by kernel_rfl) (by kernel_rfl) (fun _ _ _ h => h) (Or.inr ⟨by rfl, rfl⟩) hHeld ?_
          simp only [Act.put, List.setIfInBounds_toArray, List.set_cons_zero, List.set_cons_succ]
          refine takeH (i := 8) (v := undef) rfl (by kernel_rfl) (by kernel_rfl) (by kernel_rfl) (fun _ _ _ h => h) (Or.inr ⟨by rfl, rfl⟩) hHeld ?_
          simp only [Act.put, List.setIfInBounds_toArray, List.set_cons_zero, List.set_cons_succ]
          refine takeH (i := 9) (v := undef) rfl (by kernel_rfl) (by kernel_rfl) (by kernel_rfl) (fun _ _ _ h => h) (Or.inr ⟨by rfl, rfl⟩) hHeld ?_
          simp only [Act.put, List.setIfInBounds_toArray, List.set_cons_zero, List.set_cons_succ]
          refine takeH (i := 10) (v := undef) rfl (by kernel_rfl) (by kernel_rfl) (by kernel_rfl) (fun _ _ _ h => h) (Or.inr ⟨by rfl, rfl⟩) hHeld ?_
          simp only [Act.put, List.setIfInBounds_toArray, List.set_cons_zero, List.set_cons_succ]
          refine takeH (i := 11) (v := undef) rfl (by kernel_rfl) (by kernel_rfl) (by kernel_rfl) (fun _ _ _ h => h) (Or.inr ⟨by rfl, rfl⟩) hHeld ?_
          simp only [Act.put, List.setIfInBounds_toArray, List.set_cons_zero, List.set_cons_succ]
          refine takeH (i := 12) (v := undef) rfl (by kernel_rfl) (by kernel_rfl) (by kernel_rfl) (fun _ _ _ h => h) (Or.inr ⟨by rfl, rfl⟩) hHeld ?_
          simp only [Act.put, List.setIfInBounds_toArray, List.set_cons_zero, List.set_cons_succ]
          refine takeH (i := 13) (v := undef) rfl (by kernel_rfl) (by kernel_rfl) (by kernel_rfl) (fun _ _ _ h => h) (Or.inr ⟨by rfl, rfl⟩) hHeld ?_
          simp only [Act.put, List.setIfInBounds_toArray, List.set_cons_zero, List.set_cons_succ]
          refine takeH (i := 14) (v := undef) rfl (by kernel_rfl) (by kernel_rfl) (by kernel_rfl) (fun _ _ _ h => h) (Or.inr ⟨by rfl, rfl⟩) hHeld ?_
          simp only [Act.put, List.setIfInBounds_toArray, List.set_cons_zero, List.set_cons_succ]
          refine takeH (i := 15) (v := undef) rfl (by kernel_rfl) (by kernel_rfl) (by kernel_rfl) (fun _ _ _ h => h) (Or.inr ⟨by rfl, rfl⟩) hHeld ?_
          simp only [Act.put, List.setIfInBounds_toArray, List.set_cons_zero, List.set_cons_succ]
          refine takeH (i := 16) (v := .bool false) rfl (by kernel_rfl) (by kernel_rfl) (by kernel_rfl) (fun _ _ _ h => h) (Or.inl ⟨by rfl, fun w hSw => ?_⟩) hHeld ?_
          · (clear hSw; go_simp)
          simp only [Act.put, List.setIfInBounds_toArray, List.set_cons_zero, List.set_cons_succ]
          refine wpAnyH_done (by kernel_rfl) ?_ _
          clear hHeld
          go_wp2
          go_roundw
          case rel => exact ⟨i + 1, qs, by go_num, by omega, by omega, by omega, HQ.out, HU.out, belowN HBJ.out 1, HOJ.out⟩
          case measure => simp [intOf]; omega
        · have HLQ := Lib.hid (show qs.length = n by rw [HQ.out.length_eq, hl])
          have hln := HLQ.out
          obtain ⟨a, ha⟩ : ∃ a, qs.getD (j + 1) 0 = a := ⟨_, rfl⟩
          obtain ⟨b, hb⟩ : ∃ b, qs.getD j 0 = b := ⟨_, rfl⟩
          have HCA := Lib.hid (show ∀ w' : World, Own w' w1.heap.size (.slice (some ⟨g, 0, none⟩) n c) (asI qs) → w'.cell? ⟨g, j + 1, none⟩ = some (.int .i64 a) from fun w' h => by rw [← ha, ← asI_getD]; exact h.cell (by rw [asI_len]; omega))
          have HCB := Lib.hid (show ∀ w' : World, Own w' w1.heap.size (.slice (some ⟨g, 0, none⟩) n c) (asI qs) → w'.cell? ⟨g, j, none⟩ = some (.int .i64 b) from fun w' h => by rw [← hb, ← asI_getD]; exact h.cell (by rw [asI_len]; omega))
          have han : a < n := by rw [← ha]; exact HP.out _ (HQ.out.mem_iff.1 (getD_mem (by omega)))
          have hbn : b < n := by rw [← hb]; exact HP.out _ (HQ.out.mem_iff.1 (getD_mem (by omega)))
          have HFA := Lib.hid (HM.out a han); have HFB := Lib.hid (HM.out b hbn)
          have HA := Lib.hid ha; have HBB := Lib.hid hb
          clear ha hb hln
          have q1 : (0 : Int) ≤ (j : Int) + 1 := by omega
          have q2 : (j : Int) + 1 < (n : Int) := by omega
          have q3 : IntKind.i64.wrap (j : Int) = (j : Int) := by rw [IntKind.wrap_i64]; omega
          have q4 : j < n := by omega
          by_cases hlt : (fs a).plc < (fs b).plc
          · have HC := Lib.hid (cmp_neg hlt)
            have HSW := Lib.hid (but_swap (κ := fun i => (fs i).plc) HBUT.out hj (by have := HLQ.out; omega) (by rw [HA.out, HBB.out]; exact hlt))
            have HSP := Lib.hid ((swp_perm (ps := qs) (j := j + 1) (k := j) (by have := HLQ.out; omega) (by have := HLQ.out; omega)).trans HQ.out)
            clear hlt
            go_wp2_with fail
            refine wp_region_held_drew (S := fun w' => Below w1.heap.size w1 w' ∧ Own w' w1.heap.size (.slice (some ⟨g, 0, none⟩) n c) (asI qs)) (by kernel_rfl) (⟨belowN HBJ.out 1, HOJ.out⟩) (fun hHeld => ?_)
            refine takeH (i := 0) (v := .int .i64 (j + 1 : Nat)) rfl (by kernel_rfl) (by kernel_rfl) (by kernel_rfl) (fun _ _ _ h => h) (Or.inl ⟨by rfl, fun w hSw => ?_⟩) hHeld ?_
            · (clear hSw; go_simp)
            simp only [Act.put, List.setIfInBounds_toArray, List.set_cons_zero, List.set_cons_succ]
            refine takeH (i := 1) (v := .int .i64 0) rfl (by kernel_rfl) (by kernel_rfl) (by kernel_rfl) (fun _ _ _ h => h) (Or.inl ⟨by rfl, fun w hSw => ?_⟩) hHeld ?_
            · (clear hSw; go_simp)
            simp only [Act.put, List.setIfInBounds_toArray, List.set_cons_zero, List.set_cons_succ]
            refine takeH (i := 2) (v := .bool true) rfl (by kernel_rfl) (by kernel_rfl) (by kernel_rfl) (fun _ _ _ h => h) (Or.inl ⟨by rfl, fun w hSw => ?_⟩) hHeld ?_
            · (clear hSw; go_simp)
            simp only [Act.put, List.setIfInBounds_toArray, List.set_cons_zero, List.set_cons_succ]
            refine takeH (i := 3) (v := .bool true) rfl (by kernel_rfl) (by kernel_rfl) (by kernel_rfl) (fun _ _ _ h => h) (Or.inl ⟨by rfl, fun w hSw => ?_⟩) hHeld ?_
            · (clear hSw; go_simp)
            simp only [Act.put, List.setIfInBounds_toArray, List.set_cons_zero, List.set_cons_succ]
            refine takeH (i := 4) (v := .func (.func 29) #[] #[.pointer (some ⟨gl, 0, none⟩)]) rfl (by kernel_rfl) (by kernel_rfl) (by kernel_rfl) (fun _ _ _ h => h) (Or.inl ⟨by rfl, fun w hSw => ?_⟩) hHeld ?_
            · (clear hSw; go_simp)
            simp only [Act.put, List.setIfInBounds_toArray, List.set_cons_zero, List.set_cons_succ]
            refine takeH (i := 5) (v := (.slice (some ⟨g, 0, none⟩) n c)) rfl (by kernel_rfl) (by kernel_rfl) (by kernel_rfl) (fun _ _ _ h => h) (Or.inl ⟨by rfl, fun w hSw => ?_⟩) hHeld ?_
            · (clear hSw; go_simp)
            simp only [Act.put, List.setIfInBounds_toArray, List.set_cons_zero, List.set_cons_succ]
            refine takeH (i := 6) (v := .int .i64 (j + 1 : Nat)) rfl (by kernel_rfl) (by kernel_rfl) (by kernel_rfl) (fun _ _ _ h => h) (Or.inl ⟨by rfl, fun w hSw => ?_⟩) hHeld ?_
            · (clear hSw; go_simp)
            simp only [Act.put, List.setIfInBounds_toArray, List.set_cons_zero, List.set_cons_succ]
            refine takeH (i := 7) (v := .pointer (some ⟨g, j + 1, none⟩)) rfl (by kernel_rfl) (by kernel_rfl) (by kernel_rfl) (fun _ _ _ h => h) (Or.inl ⟨by rfl, fun w hSw => ?_⟩) hHeld ?_
            · (clear hSw; go_simp)
            simp only [Act.put, List.setIfInBounds_toArray, List.set_cons_zero, List.set_cons_succ]
            refine takeH (i := 8) (v := .int .i64 a) rfl (by kernel_rfl) (by kernel_rfl) (by kernel_rfl) (fun _ _ _ h => h) (Or.inl ⟨by rfl, fun w hSw => ?_⟩) hHeld ?_
            · (have ca := HCA.out _ hSw.2; clear hSw; go_simp)
            simp only [Act.put, List.setIfInBounds_toArray, List.set_cons_zero, List.set_cons_succ]
            refine takeH (i := 9) (v := (.slice (some ⟨g, 0, none⟩) n c)) rfl (by kernel_rfl) (by kernel_rfl) (by kernel_rfl) (fun _ _ _ h => h) (Or.inl ⟨by rfl, fun w hSw => ?_⟩) hHeld ?_
            · (clear hSw; go_simp)
            simp only [Act.put, List.setIfInBounds_toArray, List.set_cons_zero, List.set_cons_succ]
            refine takeH (i := 10) (v := .int .i64 (j + 1 : Nat)) rfl (by kernel_rfl) (by kernel_rfl) (by kernel_rfl) (fun _ _ _ h => h) (Or.inl ⟨by rfl, fun w hSw => ?_⟩) hHeld ?_
            · (clear hSw; go_simp)
            simp only [Act.put, List.setIfInBounds_toArray, List.set_cons_zero, List.set_cons_succ]
            refine takeH (i := 11) (v := .int .i64 j) rfl (by kernel_rfl) (by kernel_rfl) (by kernel_rfl) (fun _ _ _ h => h) (Or.inl ⟨by rfl, fun w hSw => ?_⟩) hHeld ?_
            · (clear hSw; go_simp)
            simp only [Act.put, List.setIfInBounds_toArray, List.set_cons_zero, List.set_cons_succ]
            refine takeH (i := 12) (v := .pointer (some ⟨g, j, none⟩)) rfl (by kernel_rfl) (by kernel_rfl) (by kernel_rfl) (fun _ _ _ h => h) (Or.inl ⟨by rfl, fun w hSw => ?_⟩) hHeld ?_
            · (clear hSw; go_simp)
            simp only [Act.put, List.setIfInBounds_toArray, List.set_cons_zero, List.set_cons_succ]
            refine takeH (i := 13) (v := .int .i64 b) rfl (by kernel_rfl) (by kernel_rfl) (by kernel_rfl) (fun _ _ _ h => h) (Or.inl ⟨by rfl, fun w hSw => ?_⟩) hHeld ?_
            · (have cb := HCB.out _ hSw.2; clear hSw; go_simp)
            simp only [Act.put, List.setIfInBounds_toArray, List.set_cons_zero, List.set_cons_succ]
            refine wpAnyH_ready (rs := [14]) (by kernel_rfl) (by simp) ?_
            refine AllReadyH.cons rfl (fun K hK => ?_) AllReadyH.nil
            go_simp
            refine (cmp_any fs gl A n cap a b _ (HS.out.below (belowN HBJ.out 1)) hn han hbn HFA.out HFB.out).mono ?_
            rintro e w2 ⟨rfl, hb2⟩
            rw [HC.out]
            clear hHeld
            dsimp only
            refine hK.out _ _ (⟨(belowN HBJ.out 1).trans (hb2.mono (belowN HBJ.out 1).size), HOJ.out.below (nxt (belowN (Below.refl _ _) 1) hb2)⟩) (fun hHeld => ?_)
            clear hK K
            try simp only [Act.put, List.setIfInBounds_toArray, List.set_cons_zero, List.set_cons_succ]
            refine takeH (i := 15) (v := .bool true) rfl (by kernel_rfl) (by kernel_rfl) (by kernel_rfl) (fun _ _ _ h => h) (Or.inl ⟨by rfl, fun w hSw => ?_⟩) hHeld ?_
            · (clear hSw; go_simp)
            simp only [Act.put, List.setIfInBounds_toArray, List.set_cons_zero, List.set_cons_succ]
            refine takeH (i := 16) (v := .bool true) rfl (by kernel_rfl) (by kernel_rfl) (by kernel_rfl) (fun _ _ _ h => h) (Or.inl ⟨by rfl, fun w hSw => ?_⟩) hHeld ?_
            · (clear hSw; go_simp)
            simp only [Act.put, List.setIfInBounds_toArray, List.set_cons_zero, List.set_cons_succ]
            refine wpAnyH_done (by kernel_rfl) ?_ _
            clear hHeld
            have HB2 := Lib.hid ((belowN HBJ.out 1).trans (hb2.mono (belowN HBJ.out 1).size))
            have HO2 := Lib.hid (HOJ.out.below (nxt (belowN (Below.refl _ _) 1) hb2))
            have cA := HCA.out _ HO2.out
            have cB := HCB.out _ HO2.out
            have f1 := HO2.out.frozen (j + 1)
            have f2 := HO2.out.frozen j
            have hne : j + 1 ≠ j := by omega
            have hne2 : j ≠ j + 1 := by omega
            go_wp2
            go_region
            all_goals go_wp2
            go_roundw
            case rel => exact ⟨j, swp qs (j + 1) j, rfl, by omega, HSP.out, HSW.out, ((HB2.out.setCell (p := ⟨g, j + 1, none⟩) hg _).setCell (p := ⟨g, j, none⟩) hg _).drew, by
              have := own_swp (j := j) HO2.out
              rw [HA.out, HBB.out] at this
              exact this⟩
            case measure => simp [intOf]
          · have HC := Lib.hid (show decide (cmp (fs a).plc (fs b).plc < 0) = false by have := cmp_pos hlt; simpa using this)
            have HU := Lib.hid (but_stop (κ := fun i => (fs i).plc) HBUT.out hj (by rw [HA.out, HBB.out]; omega))
            clear hlt
            go_wp2_with fail
            refine wp_region_held_drew (S := fun w' => Below w1.heap.size w1 w' ∧ Own w' w1.heap.size (.slice (some ⟨g, 0, none⟩) n c) (asI qs)) (by kernel_rfl) (⟨belowN HBJ.out 1, HOJ.out⟩) (fun hHeld => ?_)
            refine takeH (i := 0) (v := .int .i64 (j + 1 : Nat)) rfl (by kernel_rfl) (by kernel_rfl) (by kernel_rfl) (fun _ _ _ h => h) (Or.inl ⟨by rfl, fun w hSw => ?_⟩) hHeld ?_
            · (clear hSw; go_simp)
            simp only [Act.put, List.setIfInBounds_toArray, List.set_cons_zero, List.set_cons_succ]
            refine takeH (i := 1) (v := .int .i64 0) rfl (by kernel_rfl) (by kernel_rfl) (by kernel_rfl) (fun _ _ _ h => h) (Or.inl ⟨by rfl, fun w hSw => ?_⟩) hHeld ?_
            · (clear hSw; go_simp)
            simp only [Act.put, List.setIfInBounds_toArray, List.set_cons_zero, List.set_cons_succ]
            refine takeH (i := 2) (v := .bool true) rfl (by kernel_rfl) (by kernel_rfl) (by kernel_rfl) (fun _ _ _ h => h) (Or.inl ⟨by rfl, fun w hSw => ?_⟩) hHeld ?_
            · (clear hSw; go_simp)
            simp only [Act.put, List.setIfInBounds_toArray, List.set_cons_zero, List.set_cons_succ]
            refine takeH (i := 3) (v := .bool true) rfl (by kernel_rfl) (by kernel_rfl) (by kernel_rfl) (fun _ _ _ h => h) (Or.inl ⟨by rfl, fun w hSw => ?_⟩) hHeld ?_
            · (clear hSw; go_simp)
            simp only [Act.put, List.setIfInBounds_toArray, List.set_cons_zero, List.set_cons_succ]
            refine takeH (i := 4) (v := .func (.func 29) #[] #[.pointer (some ⟨gl, 0, none⟩)]) rfl (by kernel_rfl) (by kernel_rfl) (by kernel_rfl) (fun _ _ _ h => h) (Or.inl ⟨by rfl, fun w hSw => ?_⟩) hHeld ?_
            · (clear hSw; go_simp)
            simp only [Act.put, List.setIfInBounds_toArray, List.set_cons_zero, List.set_cons_succ]
            refine takeH (i := 5) (v := (.slice (some ⟨g, 0, none⟩) n c)) rfl (by kernel_rfl) (by kernel_rfl) (by kernel_rfl) (fun _ _ _ h => h) (Or.inl ⟨by rfl, fun w hSw => ?_⟩) hHeld ?_
            · (clear hSw; go_simp)
            simp only [Act.put, List.setIfInBounds_toArray, List.set_cons_zero, List.set_cons_succ]
            refine takeH (i := 6) (v := .int .i64 (j + 1 : Nat)) rfl (by kernel_rfl) (by kernel_rfl) (by kernel_rfl) (fun _ _ _ h => h) (Or.inl ⟨by rfl, fun w hSw => ?_⟩) hHeld ?_
            · (clear hSw; go_simp)
            simp only [Act.put, List.setIfInBounds_toArray, List.set_cons_zero, List.set_cons_succ]
            refine takeH (i := 7) (v := .pointer (some ⟨g, j + 1, none⟩)) rfl (by kernel_rfl) (by kernel_rfl) (by kernel_rfl) (fun _ _ _ h => h) (Or.inl ⟨by rfl, fun w hSw => ?_⟩) hHeld ?_
            · (clear hSw; go_simp)
            simp only [Act.put, List.setIfInBounds_toArray, List.set_cons_zero, List.set_cons_succ]
            refine takeH (i := 8) (v := .int .i64 a) rfl (by kernel_rfl) (by kernel_rfl) (by kernel_rfl) (fun _ _ _ h => h) (Or.inl ⟨by rfl, fun w hSw => ?_⟩) hHeld ?_
            · (have ca := HCA.out _ hSw.2; clear hSw; go_simp)
            simp only [Act.put, List.setIfInBounds_toArray, List.set_cons_zero, List.set_cons_succ]
            refine takeH (i := 9) (v := (.slice (some ⟨g, 0, none⟩) n c)) rfl (by kernel_rfl) (by kernel_rfl) (by kernel_rfl) (fun _ _ _ h => h) (Or.inl ⟨by rfl, fun w hSw => ?_⟩) hHeld ?_
            · (clear hSw; go_simp)
            simp only [Act.put, List.setIfInBounds_toArray, List.set_cons_zero, List.set_cons_succ]
            refine takeH (i := 10) (v := .int .i64 (j + 1 : Nat)) rfl (by kernel_rfl) (by kernel_rfl) (by kernel_rfl) (fun _ _ _ h => h) (Or.inl ⟨by rfl, fun w hSw => ?_⟩) hHeld ?_
            · (clear hSw; go_simp)
            simp only [Act.put, List.setIfInBounds_toArray, List.set_cons_zero, List.set_cons_succ]
            refine takeH (i := 11) (v := .int .i64 j) rfl (by kernel_rfl) (by kernel_rfl) (by kernel_rfl) (fun _ _ _ h => h) (Or.inl ⟨by rfl, fun w hSw => ?_⟩) hHeld ?_
            · (clear hSw; go_simp)
            simp only [Act.put, List.setIfInBounds_toArray, List.set_cons_zero, List.set_cons_succ]
            refine takeH (i := 12) (v := .pointer (some ⟨g, j, none⟩)) rfl (by kernel_rfl) (by kernel_rfl) (by kernel_rfl) (fun _ _ _ h => h) (Or.inl ⟨by rfl, fun w hSw => ?_⟩) hHeld ?_
            · (clear hSw; go_simp)
            simp only [Act.put, List.setIfInBounds_toArray, List.set_cons_zero, List.set_cons_succ]
            refine takeH (i := 13) (v := .int .i64 b) rfl (by kernel_rfl) (by kernel_rfl) (by kernel_rfl) (fun _ _ _ h => h) (Or.inl ⟨by rfl, fun w hSw => ?_⟩) hHeld ?_
            · (have cb := HCB.out _ hSw.2; clear hSw; go_simp)
            simp only [Act.put, List.setIfInBounds_toArray, List.set_cons_zero, List.set_cons_succ]
            refine wpAnyH_ready (rs := [14]) (by kernel_rfl) (by simp) ?_
            refine AllReadyH.cons rfl (fun K hK => ?_) AllReadyH.nil
            go_simp
            refine (cmp_any fs gl A n cap a b _ (HS.out.below (belowN HBJ.out 1)) hn han hbn HFA.out HFB.out).mono ?_
            rintro e w2 ⟨rfl, hb2⟩
            clear hHeld
            dsimp only
            refine hK.out _ _ (⟨(belowN HBJ.out 1).trans (hb2.mono (belowN HBJ.out 1).size), HOJ.out.below (nxt (belowN (Below.refl _ _) 1) hb2)⟩) (fun hHeld => ?_)
            clear hK K
            try simp only [Act.put, List.setIfInBounds_toArray, List.set_cons_zero, List.set_cons_succ]
            refine takeH (i := 15) (v := .bool false) rfl (by kernel_rfl) (by kernel_rfl) (by kernel_rfl) (fun _ _ _ h => h) (Or.inl ⟨by rfl, fun w hSw => ?_⟩) hHeld ?_
            · (clear hSw; have hc := HC.out; go_simp)
            simp only [Act.put, List.setIfInBounds_toArray, List.set_cons_zero, List.set_cons_succ]
            refine takeH (i := 16) (v := .bool false) rfl (by kernel_rfl) (by kernel_rfl) (by kernel_rfl) (fun _ _ _ h => h) (Or.inl ⟨by rfl, fun w hSw => ?_⟩) hHeld ?_
            · (clear hSw; go_simp)
            simp only [Act.put, List.setIfInBounds_toArray, List.set_cons_zero, List.set_cons_succ]
            refine wpAnyH_done (by kernel_rfl) ?_ _
            clear hHeld
            go_wp2
            go_roundw
            case rel => exact ⟨i + 1, qs, by go_num, by omega, by omega, by omega, HQ.out, HU.out, (belowN HBJ.out 1).trans (hb2.mono (belowN HBJ.out 1).size), HOJ.out.below (nxt (belowN (Below.refl _ _) 1) hb2)⟩
            case measure => simp [intOf]; omega
    · have HU := Lib.hid (show Up (fun i => (fs i).plc) qs0 n from fun a b h1 h2 => HU0.out a b h1 (by omega))
      go_wp2
      go_end0
      exact ⟨rfl, HB0.out, qs0, HQ0.out, HU.out, HO0.out⟩
end Go.Proofs.Ytjbbneagikogbaa
