/- The walk of the law FrameLess. -/
import Derived.Test.YtjjfkakjkkpgaaaTr
import Derived.Test.YtjjfkakjkkpgaaaLm
import Derived.Deep.DeepCutAuto
namespace Go.Proofs.Ytjjfkakjkkpgaaa
open Go.RowKit

def pick3 (f g h : Fr) (i : Nat) : Fr := if i = 0 then f else if i = 1 then g else h

set_option maxRecDepth 100000 in
set_option maxHeartbeats 6400000 in
theorem law_less (f g h : Fr) (w : World) :
    Calls Try.prog 8 #[.agg (cells3 f g h)] w fun e w' => e = .returned (.bool true) ∧ Below w.heap.size w w' := by
  have A0 := Lib.hid (trio_new w f g h)
  have A1 := Lib.hid (boxed3 w f g h)
  go_enter Try.func8, Try.ntmps8
  go_wp2
  go_loopw [3] (fun j wr => ∃ k : Nat, k ≤ 3 ∧ j = .int .i64 k ∧ (∀ i, i < k → (pick3 f g h i).may = true) ∧ Trio w f g h wr ∧ Below w.heap.size w wr) (fun j _ => 3 - (intOf j).toNat)
  case atStart => exact ⟨0, by omega, rfl, fun i hi => by omega, A0.out, A1.out⟩
  case round =>
    obtain ⟨k, hk, rfl, hp, ht, hbel⟩ := hrel
    have HT := Lib.hid ht; have HP := Lib.hid hp; have HB := Lib.hid hbel
    clear hp ht hbel A0 A1
    rcases (show k = 0 ∨ k = 1 ∨ k = 2 ∨ k = 3 by omega) with rfl | rfl | rfl | rfl
    · obtain ⟨c0, c1, c2, c3, c4, c5, c6, c7, c8, c9, c10, c11⟩ := HT.out.1
      go_wp2_with fail
      refine (check_any f _).mono ?_
      rintro e w2 ⟨rfl, hb2⟩
      have HT2 := Lib.hid (HT.out.below hb2)
      have HB2 := Lib.hid (nxt HB.out hb2)
      clear hb2 HT HB
      cases hm : f.may
      · have HM0 := Lib.hid hm
        clear hm
        as_aux_lemma =>
          rw [err_no HM0.out]
          clear c0 c1 c2 c3 c4 c5 c6 c7 c8 c9 c10 c11
          go_wp2_with fail
          refine wp_region_held_drew (S := Trio w f g h) (by kernel_rfl) HT2.out (fun hHeld => ?_)
          refine takeH (i := 0) (v := .int .i64 0) rfl (by kernel_rfl) (by kernel_rfl) (by kernel_rfl) (fun _ _ _ h => h) (Or.inl ⟨by rfl, fun w hSw => ?_⟩) hHeld ?_
          · (clear hSw; go_simp)
          simp only [Act.put, List.setIfInBounds_toArray, List.set_cons_zero, List.set_cons_succ]
          refine takeH (i := 1) (v := .pointer (some ⟨w.heap.size, 0, none⟩)) rfl (by kernel_rfl) (by kernel_rfl) (by kernel_rfl) (fun _ _ _ h => h) (Or.inl ⟨by rfl, fun w hSw => ?_⟩) hHeld ?_
          · (clear hSw; go_simp)
          simp only [Act.put, List.setIfInBounds_toArray, List.set_cons_zero, List.set_cons_succ]
          refine takeH (i := 2) (v := f.val) rfl (by kernel_rfl) (by kernel_rfl) (by kernel_rfl) (fun _ _ _ h => h) (Or.inl ⟨by rfl, fun w hSw => ?_⟩) hHeld ?_
          · (obtain ⟨c0, c1, c2, c3, c4, c5, c6, c7, c8, c9, c10, c11⟩ := hSw.1; clear hSw; go_simp)
          simp only [Act.put, List.setIfInBounds_toArray, List.set_cons_zero, List.set_cons_succ]
          refine takeH (i := 3) (v := .pointer (some ⟨w.heap.size, 0, none⟩)) rfl (by kernel_rfl) (by kernel_rfl) (by kernel_rfl) (fun _ _ _ h => h) (Or.inl ⟨by rfl, fun w hSw => ?_⟩) hHeld ?_
          · (clear hSw; go_simp)
          simp only [Act.put, List.setIfInBounds_toArray, List.set_cons_zero, List.set_cons_succ]
          refine takeH (i := 4) (v := f.val) rfl (by kernel_rfl) (by kernel_rfl) (by kernel_rfl) (fun _ _ _ h => h) (Or.inl ⟨by rfl, fun w hSw => ?_⟩) hHeld ?_
          · (obtain ⟨c0, c1, c2, c3, c4, c5, c6, c7, c8, c9, c10, c11⟩ := hSw.1; clear hSw; go_simp)
          simp only [Act.put, List.setIfInBounds_toArray, List.set_cons_zero, List.set_cons_succ]
          refine wpAnyH_ready (rs := [5]) (by kernel_rfl) (by simp) ?_
          refine AllReadyH.cons rfl (fun K hK => ?_) AllReadyH.nil
          go_simp
          refine (less_no f f _ (by rw [HM0.out]; rfl)).mono ?_
          rintro e w3 ⟨rfl, hb3⟩
          have HT3 := Lib.hid (Trio.below (w := w2.drew) HT2.out hb3)
          clear hHeld
          dsimp only
          refine hK.out _ _ (HT3.out) (fun hHeld => ?_)
          clear hK K
          try simp only [Act.put, List.setIfInBounds_toArray, List.set_cons_zero, List.set_cons_succ]
          refine takeH (i := 6) (v := .bool true) rfl (by kernel_rfl) (by kernel_rfl) (by kernel_rfl) (fun _ _ _ h => h) (Or.inl ⟨by rfl, fun w hSw => ?_⟩) hHeld ?_
          · (clear hSw; go_simp)
          simp only [Act.put, List.setIfInBounds_toArray, List.set_cons_zero, List.set_cons_succ]
          refine takeH (i := 7) (v := .bool true) rfl (by kernel_rfl) (by kernel_rfl) (by kernel_rfl) (fun _ _ _ h => h) (Or.inl ⟨by rfl, fun w hSw => ?_⟩) hHeld ?_
          · (clear hSw; go_simp)
          simp only [Act.put, List.setIfInBounds_toArray, List.set_cons_zero, List.set_cons_succ]
          refine takeH (i := 8) (v := .int .i64 0) rfl (by kernel_rfl) (by kernel_rfl) (by kernel_rfl) (fun _ _ _ h => h) (Or.inl ⟨by rfl, fun w hSw => ?_⟩) hHeld ?_
          · (clear hSw; go_simp)
          simp only [Act.put, List.setIfInBounds_toArray, List.set_cons_zero, List.set_cons_succ]
          refine takeH (i := 9) (v := .pointer (some ⟨w.heap.size, 0, none⟩)) rfl (by kernel_rfl) (by kernel_rfl) (by kernel_rfl) (fun _ _ _ h => h) (Or.inl ⟨by rfl, fun w hSw => ?_⟩) hHeld ?_
          · (clear hSw; go_simp)
          simp only [Act.put, List.setIfInBounds_toArray, List.set_cons_zero, List.set_cons_succ]
          refine takeH (i := 10) (v := f.val) rfl (by kernel_rfl) (by kernel_rfl) (by kernel_rfl) (fun _ _ _ h => h) (Or.inl ⟨by rfl, fun w hSw => ?_⟩) hHeld ?_
          · (obtain ⟨c0, c1, c2, c3, c4, c5, c6, c7, c8, c9, c10, c11⟩ := hSw.1; clear hSw; go_simp)
          simp only [Act.put, List.setIfInBounds_toArray, List.set_cons_zero, List.set_cons_succ]
          refine takeH (i := 11) (v := .int .i64 0) rfl (by kernel_rfl) (by kernel_rfl) (by kernel_rfl) (fun _ _ _ h => h) (Or.inl ⟨by rfl, fun w hSw => ?_⟩) hHeld ?_
          · (clear hSw; go_simp)
          simp only [Act.put, List.setIfInBounds_toArray, List.set_cons_zero, List.set_cons_succ]
          refine takeH (i := 12) (v := .pointer (some ⟨w.heap.size, 0, none⟩)) rfl (by kernel_rfl) (by kernel_rfl) (by kernel_rfl) (fun _ _ _ h => h) (Or.inl ⟨by rfl, fun w hSw => ?_⟩) hHeld ?_
          · (clear hSw; go_simp)
          simp only [Act.put, List.setIfInBounds_toArray, List.set_cons_zero, List.set_cons_succ]
          refine takeH (i := 13) (v := f.val) rfl (by kernel_rfl) (by kernel_rfl) (by kernel_rfl) (fun _ _ _ h => h) (Or.inl ⟨by rfl, fun w hSw => ?_⟩) hHeld ?_
          · (obtain ⟨c0, c1, c2, c3, c4, c5, c6, c7, c8, c9, c10, c11⟩ := hSw.1; clear hSw; go_simp)
          simp only [Act.put, List.setIfInBounds_toArray, List.set_cons_zero, List.set_cons_succ]
          refine wpAnyH_ready (rs := [14]) (by kernel_rfl) (by simp) ?_
          refine AllReadyH.cons rfl (fun K hK => ?_) AllReadyH.nil
          go_simp
          refine (rival_no f f _ (by rw [HM0.out]; rfl)).mono ?_
          rintro e w4 ⟨rfl, hb4⟩
          have HT4 := Lib.hid (HT3.out.below hb4)
          clear hHeld
          dsimp only
          refine hK.out _ _ (HT4.out) (fun hHeld => ?_)
          clear hK K
          try simp only [Act.put, List.setIfInBounds_toArray, List.set_cons_zero, List.set_cons_succ]
          refine takeH (i := 15) (v := .bool true) rfl (by kernel_rfl) (by kernel_rfl) (by kernel_rfl) (fun _ _ _ h => h) (Or.inl ⟨by rfl, fun w hSw => ?_⟩) hHeld ?_
          · (clear hSw; go_simp)
          simp only [Act.put, List.setIfInBounds_toArray, List.set_cons_zero, List.set_cons_succ]
          refine takeH (i := 16) (v := .bool true) rfl (by kernel_rfl) (by kernel_rfl) (by kernel_rfl) (fun _ _ _ h => h) (Or.inl ⟨by rfl, fun w hSw => ?_⟩) hHeld ?_
          · (clear hSw; go_simp)
          simp only [Act.put, List.setIfInBounds_toArray, List.set_cons_zero, List.set_cons_succ]
          refine takeH (i := 17) (v := .bool true) rfl (by kernel_rfl) (by kernel_rfl) (by kernel_rfl) (fun _ _ _ h => h) (Or.inl ⟨by rfl, fun w hSw => ?_⟩) hHeld ?_
          · (clear hSw; go_simp)
          simp only [Act.put, List.setIfInBounds_toArray, List.set_cons_zero, List.set_cons_succ]
          refine wpAnyH_ready (rs := [18]) (by kernel_rfl) (by simp) ?_
          refine AllReadyH.cons rfl (fun K hK => ?_) AllReadyH.nil
          go_simp
          refine (awake_ok _).mono ?_
          rintro e w5 ⟨rfl, hb5⟩
          have HT5 := Lib.hid (HT4.out.below hb5)
          clear hHeld
          dsimp only
          refine hK.out _ _ (HT5.out) (fun hHeld => ?_)
          clear hK K
          try simp only [Act.put, List.setIfInBounds_toArray, List.set_cons_zero, List.set_cons_succ]
          refine takeH (i := 19) (v := .bool true) rfl (by kernel_rfl) (by kernel_rfl) (by kernel_rfl) (fun _ _ _ h => h) (Or.inl ⟨by rfl, fun w hSw => ?_⟩) hHeld ?_
          · (clear hSw; go_simp)
          simp only [Act.put, List.setIfInBounds_toArray, List.set_cons_zero, List.set_cons_succ]
          refine takeH (i := 20) (v := .bool true) rfl (by kernel_rfl) (by kernel_rfl) (by kernel_rfl) (fun _ _ _ h => h) (Or.inl ⟨by rfl, fun w hSw => ?_⟩) hHeld ?_
          · (clear hSw; go_simp)
          simp only [Act.put, List.setIfInBounds_toArray, List.set_cons_zero, List.set_cons_succ]
          refine wpAnyH_done (by kernel_rfl) ?_ _
          clear hHeld
          go_wp2
          go_ret
          exact ⟨rfl, nxt (nxt (nxt (nxt HB2.out (belowN (Below.refl _ _) 1)) hb3) hb4) hb5⟩
      · have HM0 := Lib.hid hm
        clear hm
        rw [err_ok HM0.out]
        clear c0 c1 c2 c3 c4 c5 c6 c7 c8 c9 c10 c11
        go_wp2
        go_roundw
        case rel => exact ⟨1, by omega, by go_num, fun i hi => by rw [show i = 0 by omega]; exact HM0.out, HT2.out, HB2.out⟩
        case measure => simp [intOf]
    · obtain ⟨c0, c1, c2, c3, c4, c5, c6, c7, c8, c9, c10, c11⟩ := HT.out.2.1
      go_wp2_with fail
      refine (check_any g _).mono ?_
      rintro e w2 ⟨rfl, hb2⟩
      have HT2 := Lib.hid (HT.out.below hb2)
      have HB2 := Lib.hid (nxt HB.out hb2)
      clear hb2 HT HB
      cases hm : g.may
      · have HM1 := Lib.hid hm
        clear hm
        as_aux_lemma =>
          rw [err_no HM1.out]
          clear c0 c1 c2 c3 c4 c5 c6 c7 c8 c9 c10 c11
          go_wp2_with fail
          refine wp_region_held_drew (S := Trio w f g h) (by kernel_rfl) HT2.out (fun hHeld => ?_)
          refine takeH (i := 0) (v := .int .i64 1) rfl (by kernel_rfl) (by kernel_rfl) (by kernel_rfl) (fun _ _ _ h => h) (Or.inl ⟨by rfl, fun w hSw => ?_⟩) hHeld ?_
          · (clear hSw; go_simp)
          simp only [Act.put, List.setIfInBounds_toArray, List.set_cons_zero, List.set_cons_succ]
          refine takeH (i := 1) (v := .pointer (some ⟨w.heap.size, 12, none⟩)) rfl (by kernel_rfl) (by kernel_rfl) (by kernel_rfl) (fun _ _ _ h => h) (Or.inl ⟨by rfl, fun w hSw => ?_⟩) hHeld ?_
          · (clear hSw; go_simp)
          simp only [Act.put, List.setIfInBounds_toArray, List.set_cons_zero, List.set_cons_succ]
          refine takeH (i := 2) (v := g.val) rfl (by kernel_rfl) (by kernel_rfl) (by kernel_rfl) (fun _ _ _ h => h) (Or.inl ⟨by rfl, fun w hSw => ?_⟩) hHeld ?_
          · (obtain ⟨c0, c1, c2, c3, c4, c5, c6, c7, c8, c9, c10, c11⟩ := hSw.2.1; clear hSw; go_simp)
          simp only [Act.put, List.setIfInBounds_toArray, List.set_cons_zero, List.set_cons_succ]
          refine takeH (i := 3) (v := .pointer (some ⟨w.heap.size, 0, none⟩)) rfl (by kernel_rfl) (by kernel_rfl) (by kernel_rfl) (fun _ _ _ h => h) (Or.inl ⟨by rfl, fun w hSw => ?_⟩) hHeld ?_
          · (clear hSw; go_simp)
          simp only [Act.put, List.setIfInBounds_toArray, List.set_cons_zero, List.set_cons_succ]
          refine takeH (i := 4) (v := f.val) rfl (by kernel_rfl) (by kernel_rfl) (by kernel_rfl) (fun _ _ _ h => h) (Or.inl ⟨by rfl, fun w hSw => ?_⟩) hHeld ?_
          · (obtain ⟨c0, c1, c2, c3, c4, c5, c6, c7, c8, c9, c10, c11⟩ := hSw.1; clear hSw; go_simp)
          simp only [Act.put, List.setIfInBounds_toArray, List.set_cons_zero, List.set_cons_succ]
          refine wpAnyH_ready (rs := [5]) (by kernel_rfl) (by simp) ?_
          refine AllReadyH.cons rfl (fun K hK => ?_) AllReadyH.nil
          go_simp
          refine (less_no g f _ (by rw [HM1.out]; rfl)).mono ?_
          rintro e w3 ⟨rfl, hb3⟩
          have HT3 := Lib.hid (Trio.below (w := w2.drew) HT2.out hb3)
          clear hHeld
          dsimp only
          refine hK.out _ _ (HT3.out) (fun hHeld => ?_)
          clear hK K
          try simp only [Act.put, List.setIfInBounds_toArray, List.set_cons_zero, List.set_cons_succ]
          refine takeH (i := 6) (v := .bool true) rfl (by kernel_rfl) (by kernel_rfl) (by kernel_rfl) (fun _ _ _ h => h) (Or.inl ⟨by rfl, fun w hSw => ?_⟩) hHeld ?_
          · (clear hSw; go_simp)
          simp only [Act.put, List.setIfInBounds_toArray, List.set_cons_zero, List.set_cons_succ]
          refine takeH (i := 7) (v := .bool true) rfl (by kernel_rfl) (by kernel_rfl) (by kernel_rfl) (fun _ _ _ h => h) (Or.inl ⟨by rfl, fun w hSw => ?_⟩) hHeld ?_
          · (clear hSw; go_simp)
          simp only [Act.put, List.setIfInBounds_toArray, List.set_cons_zero, List.set_cons_succ]
          refine takeH (i := 8) (v := .int .i64 1) rfl (by kernel_rfl) (by kernel_rfl) (by kernel_rfl) (fun _ _ _ h => h) (Or.inl ⟨by rfl, fun w hSw => ?_⟩) hHeld ?_
          · (clear hSw; go_simp)
          simp only [Act.put, List.setIfInBounds_toArray, List.set_cons_zero, List.set_cons_succ]
          refine takeH (i := 9) (v := .pointer (some ⟨w.heap.size, 12, none⟩)) rfl (by kernel_rfl) (by kernel_rfl) (by kernel_rfl) (fun _ _ _ h => h) (Or.inl ⟨by rfl, fun w hSw => ?_⟩) hHeld ?_
          · (clear hSw; go_simp)
          simp only [Act.put, List.setIfInBounds_toArray, List.set_cons_zero, List.set_cons_succ]
          refine takeH (i := 10) (v := g.val) rfl (by kernel_rfl) (by kernel_rfl) (by kernel_rfl) (fun _ _ _ h => h) (Or.inl ⟨by rfl, fun w hSw => ?_⟩) hHeld ?_
          · (obtain ⟨c0, c1, c2, c3, c4, c5, c6, c7, c8, c9, c10, c11⟩ := hSw.2.1; clear hSw; go_simp)
          simp only [Act.put, List.setIfInBounds_toArray, List.set_cons_zero, List.set_cons_succ]
          refine takeH (i := 11) (v := .int .i64 1) rfl (by kernel_rfl) (by kernel_rfl) (by kernel_rfl) (fun _ _ _ h => h) (Or.inl ⟨by rfl, fun w hSw => ?_⟩) hHeld ?_
          · (clear hSw; go_simp)
          simp only [Act.put, List.setIfInBounds_toArray, List.set_cons_zero, List.set_cons_succ]
          refine takeH (i := 12) (v := .pointer (some ⟨w.heap.size, 12, none⟩)) rfl (by kernel_rfl) (by kernel_rfl) (by kernel_rfl) (fun _ _ _ h => h) (Or.inl ⟨by rfl, fun w hSw => ?_⟩) hHeld ?_
          · (clear hSw; go_simp)
          simp only [Act.put, List.setIfInBounds_toArray, List.set_cons_zero, List.set_cons_succ]
          refine takeH (i := 13) (v := g.val) rfl (by kernel_rfl) (by kernel_rfl) (by kernel_rfl) (fun _ _ _ h => h) (Or.inl ⟨by rfl, fun w hSw => ?_⟩) hHeld ?_
          · (obtain ⟨c0, c1, c2, c3, c4, c5, c6, c7, c8, c9, c10, c11⟩ := hSw.2.1; clear hSw; go_simp)
          simp only [Act.put, List.setIfInBounds_toArray, List.set_cons_zero, List.set_cons_succ]
          refine wpAnyH_ready (rs := [14]) (by kernel_rfl) (by simp) ?_
          refine AllReadyH.cons rfl (fun K hK => ?_) AllReadyH.nil
          go_simp
          refine (rival_no g g _ (by rw [HM1.out]; rfl)).mono ?_
          rintro e w4 ⟨rfl, hb4⟩
          have HT4 := Lib.hid (HT3.out.below hb4)
          clear hHeld
          dsimp only
          refine hK.out _ _ (HT4.out) (fun hHeld => ?_)
          clear hK K
          try simp only [Act.put, List.setIfInBounds_toArray, List.set_cons_zero, List.set_cons_succ]
          refine takeH (i := 15) (v := .bool true) rfl (by kernel_rfl) (by kernel_rfl) (by kernel_rfl) (fun _ _ _ h => h) (Or.inl ⟨by rfl, fun w hSw => ?_⟩) hHeld ?_
          · (clear hSw; go_simp)
          simp only [Act.put, List.setIfInBounds_toArray, List.set_cons_zero, List.set_cons_succ]
          refine takeH (i := 16) (v := .bool true) rfl (by kernel_rfl) (by kernel_rfl) (by kernel_rfl) (fun _ _ _ h => h) (Or.inl ⟨by rfl, fun w hSw => ?_⟩) hHeld ?_
          · (clear hSw; go_simp)
          simp only [Act.put, List.setIfInBounds_toArray, List.set_cons_zero, List.set_cons_succ]
          refine takeH (i := 17) (v := .bool true) rfl (by kernel_rfl) (by kernel_rfl) (by kernel_rfl) (fun _ _ _ h => h) (Or.inl ⟨by rfl, fun w hSw => ?_⟩) hHeld ?_
          · (clear hSw; go_simp)
          simp only [Act.put, List.setIfInBounds_toArray, List.set_cons_zero, List.set_cons_succ]
          refine wpAnyH_ready (rs := [18]) (by kernel_rfl) (by simp) ?_
          refine AllReadyH.cons rfl (fun K hK => ?_) AllReadyH.nil
          go_simp
          refine (awake_ok _).mono ?_
          rintro e w5 ⟨rfl, hb5⟩
          have HT5 := Lib.hid (HT4.out.below hb5)
          clear hHeld
          dsimp only
          refine hK.out _ _ (HT5.out) (fun hHeld => ?_)
          clear hK K
          try simp only [Act.put, List.setIfInBounds_toArray, List.set_cons_zero, List.set_cons_succ]
          refine takeH (i := 19) (v := .bool true) rfl (by kernel_rfl) (by kernel_rfl) (by kernel_rfl) (fun _ _ _ h => h) (Or.inl ⟨by rfl, fun w hSw => ?_⟩) hHeld ?_
          · (clear hSw; go_simp)
          simp only [Act.put, List.setIfInBounds_toArray, List.set_cons_zero, List.set_cons_succ]
          refine takeH (i := 20) (v := .bool true) rfl (by kernel_rfl) (by kernel_rfl) (by kernel_rfl) (fun _ _ _ h => h) (Or.inl ⟨by rfl, fun w hSw => ?_⟩) hHeld ?_
          · (clear hSw; go_simp)
          simp only [Act.put, List.setIfInBounds_toArray, List.set_cons_zero, List.set_cons_succ]
          refine wpAnyH_done (by kernel_rfl) ?_ _
          clear hHeld
          go_wp2
          go_ret
          exact ⟨rfl, nxt (nxt (nxt (nxt HB2.out (belowN (Below.refl _ _) 1)) hb3) hb4) hb5⟩
      · have HM1 := Lib.hid hm
        clear hm
        rw [err_ok HM1.out]
        clear c0 c1 c2 c3 c4 c5 c6 c7 c8 c9 c10 c11
        go_wp2
        go_roundw
        case rel => exact ⟨2, by omega, by go_num, fun i hi => by
            rcases (show i = 0 ∨ i = 1 by omega) with rfl | rfl
            · exact HP.out 0 (by omega)
            · exact HM1.out, HT2.out, HB2.out⟩
        case measure => simp [intOf]
    · obtain ⟨c0, c1, c2, c3, c4, c5, c6, c7, c8, c9, c10, c11⟩ := HT.out.2.2
      go_wp2_with fail
      refine (check_any h _).mono ?_
      rintro e w2 ⟨rfl, hb2⟩
      have HT2 := Lib.hid (HT.out.below hb2)
      have HB2 := Lib.hid (nxt HB.out hb2)
      clear hb2 HT HB
      cases hm : h.may
      · have HM2 := Lib.hid hm
        clear hm
        as_aux_lemma =>
          rw [err_no HM2.out]
          clear c0 c1 c2 c3 c4 c5 c6 c7 c8 c9 c10 c11
          go_wp2_with fail
          refine wp_region_held_drew (S := Trio w f g h) (by kernel_rfl) HT2.out (fun hHeld => ?_)
          refine takeH (i := 0) (v := .int .i64 2) rfl (by kernel_rfl) (by kernel_rfl) (by kernel_rfl) (fun _ _ _ h => h) (Or.inl ⟨by rfl, fun w hSw => ?_⟩) hHeld ?_
          · (clear hSw; go_simp)
          simp only [Act.put, List.setIfInBounds_toArray, List.set_cons_zero, List.set_cons_succ]
          refine takeH (i := 1) (v := .pointer (some ⟨w.heap.size, 24, none⟩)) rfl (by kernel_rfl) (by kernel_rfl) (by kernel_rfl) (fun _ _ _ h => h) (Or.inl ⟨by rfl, fun w hSw => ?_⟩) hHeld ?_
          · (clear hSw; go_simp)
          simp only [Act.put, List.setIfInBounds_toArray, List.set_cons_zero, List.set_cons_succ]
          refine takeH (i := 2) (v := h.val) rfl (by kernel_rfl) (by kernel_rfl) (by kernel_rfl) (fun _ _ _ h => h) (Or.inl ⟨by rfl, fun w hSw => ?_⟩) hHeld ?_
          · (obtain ⟨c0, c1, c2, c3, c4, c5, c6, c7, c8, c9, c10, c11⟩ := hSw.2.2; clear hSw; go_simp)
          simp only [Act.put, List.setIfInBounds_toArray, List.set_cons_zero, List.set_cons_succ]
          refine takeH (i := 3) (v := .pointer (some ⟨w.heap.size, 0, none⟩)) rfl (by kernel_rfl) (by kernel_rfl) (by kernel_rfl) (fun _ _ _ h => h) (Or.inl ⟨by rfl, fun w hSw => ?_⟩) hHeld ?_
          · (clear hSw; go_simp)
          simp only [Act.put, List.setIfInBounds_toArray, List.set_cons_zero, List.set_cons_succ]
          refine takeH (i := 4) (v := f.val) rfl (by kernel_rfl) (by kernel_rfl) (by kernel_rfl) (fun _ _ _ h => h) (Or.inl ⟨by rfl, fun w hSw => ?_⟩) hHeld ?_
          · (obtain ⟨c0, c1, c2, c3, c4, c5, c6, c7, c8, c9, c10, c11⟩ := hSw.1; clear hSw; go_simp)
          simp only [Act.put, List.setIfInBounds_toArray, List.set_cons_zero, List.set_cons_succ]
          refine wpAnyH_ready (rs := [5]) (by kernel_rfl) (by simp) ?_
          refine AllReadyH.cons rfl (fun K hK => ?_) AllReadyH.nil
          go_simp
          refine (less_no h f _ (by rw [HM2.out]; rfl)).mono ?_
          rintro e w3 ⟨rfl, hb3⟩
          have HT3 := Lib.hid (Trio.below (w := w2.drew) HT2.out hb3)
          clear hHeld
          dsimp only
          refine hK.out _ _ (HT3.out) (fun hHeld => ?_)
          clear hK K
          try simp only [Act.put, List.setIfInBounds_toArray, List.set_cons_zero, List.set_cons_succ]
          refine takeH (i := 6) (v := .bool true) rfl (by kernel_rfl) (by kernel_rfl) (by kernel_rfl) (fun _ _ _ h => h) (Or.inl ⟨by rfl, fun w hSw => ?_⟩) hHeld ?_
          · (clear hSw; go_simp)
          simp only [Act.put, List.setIfInBounds_toArray, List.set_cons_zero, List.set_cons_succ]
          refine takeH (i := 7) (v := .bool true) rfl (by kernel_rfl) (by kernel_rfl) (by kernel_rfl) (fun _ _ _ h => h) (Or.inl ⟨by rfl, fun w hSw => ?_⟩) hHeld ?_
          · (clear hSw; go_simp)
          simp only [Act.put, List.setIfInBounds_toArray, List.set_cons_zero, List.set_cons_succ]
          refine takeH (i := 8) (v := .int .i64 2) rfl (by kernel_rfl) (by kernel_rfl) (by kernel_rfl) (fun _ _ _ h => h) (Or.inl ⟨by rfl, fun w hSw => ?_⟩) hHeld ?_
          · (clear hSw; go_simp)
          simp only [Act.put, List.setIfInBounds_toArray, List.set_cons_zero, List.set_cons_succ]
          refine takeH (i := 9) (v := .pointer (some ⟨w.heap.size, 24, none⟩)) rfl (by kernel_rfl) (by kernel_rfl) (by kernel_rfl) (fun _ _ _ h => h) (Or.inl ⟨by rfl, fun w hSw => ?_⟩) hHeld ?_
          · (clear hSw; go_simp)
          simp only [Act.put, List.setIfInBounds_toArray, List.set_cons_zero, List.set_cons_succ]
          refine takeH (i := 10) (v := h.val) rfl (by kernel_rfl) (by kernel_rfl) (by kernel_rfl) (fun _ _ _ h => h) (Or.inl ⟨by rfl, fun w hSw => ?_⟩) hHeld ?_
          · (obtain ⟨c0, c1, c2, c3, c4, c5, c6, c7, c8, c9, c10, c11⟩ := hSw.2.2; clear hSw; go_simp)
          simp only [Act.put, List.setIfInBounds_toArray, List.set_cons_zero, List.set_cons_succ]
          refine takeH (i := 11) (v := .int .i64 2) rfl (by kernel_rfl) (by kernel_rfl) (by kernel_rfl) (fun _ _ _ h => h) (Or.inl ⟨by rfl, fun w hSw => ?_⟩) hHeld ?_
          · (clear hSw; go_simp)
          simp only [Act.put, List.setIfInBounds_toArray, List.set_cons_zero, List.set_cons_succ]
          refine takeH (i := 12) (v := .pointer (some ⟨w.heap.size, 24, none⟩)) rfl (by kernel_rfl) (by kernel_rfl) (by kernel_rfl) (fun _ _ _ h => h) (Or.inl ⟨by rfl, fun w hSw => ?_⟩) hHeld ?_
          · (clear hSw; go_simp)
          simp only [Act.put, List.setIfInBounds_toArray, List.set_cons_zero, List.set_cons_succ]
          refine takeH (i := 13) (v := h.val) rfl (by kernel_rfl) (by kernel_rfl) (by kernel_rfl) (fun _ _ _ h => h) (Or.inl ⟨by rfl, fun w hSw => ?_⟩) hHeld ?_
          · (obtain ⟨c0, c1, c2, c3, c4, c5, c6, c7, c8, c9, c10, c11⟩ := hSw.2.2; clear hSw; go_simp)
          simp only [Act.put, List.setIfInBounds_toArray, List.set_cons_zero, List.set_cons_succ]
          refine wpAnyH_ready (rs := [14]) (by kernel_rfl) (by simp) ?_
          refine AllReadyH.cons rfl (fun K hK => ?_) AllReadyH.nil
          go_simp
          refine (rival_no h h _ (by rw [HM2.out]; rfl)).mono ?_
          rintro e w4 ⟨rfl, hb4⟩
          have HT4 := Lib.hid (HT3.out.below hb4)
          clear hHeld
          dsimp only
          refine hK.out _ _ (HT4.out) (fun hHeld => ?_)
          clear hK K
          try simp only [Act.put, List.setIfInBounds_toArray, List.set_cons_zero, List.set_cons_succ]
          refine takeH (i := 15) (v := .bool true) rfl (by kernel_rfl) (by kernel_rfl) (by kernel_rfl) (fun _ _ _ h => h) (Or.inl ⟨by rfl, fun w hSw => ?_⟩) hHeld ?_
          · (clear hSw; go_simp)
          simp only [Act.put, List.setIfInBounds_toArray, List.set_cons_zero, List.set_cons_succ]
          refine takeH (i := 16) (v := .bool true) rfl (by kernel_rfl) (by kernel_rfl) (by kernel_rfl) (fun _ _ _ h => h) (Or.inl ⟨by rfl, fun w hSw => ?_⟩) hHeld ?_
          · (clear hSw; go_simp)
          simp only [Act.put, List.setIfInBounds_toArray, List.set_cons_zero, List.set_cons_succ]
          refine takeH (i := 17) (v := .bool true) rfl (by kernel_rfl) (by kernel_rfl) (by kernel_rfl) (fun _ _ _ h => h) (Or.inl ⟨by rfl, fun w hSw => ?_⟩) hHeld ?_
          · (clear hSw; go_simp)
          simp only [Act.put, List.setIfInBounds_toArray, List.set_cons_zero, List.set_cons_succ]
          refine wpAnyH_ready (rs := [18]) (by kernel_rfl) (by simp) ?_
          refine AllReadyH.cons rfl (fun K hK => ?_) AllReadyH.nil
          go_simp
          refine (awake_ok _).mono ?_
          rintro e w5 ⟨rfl, hb5⟩
          have HT5 := Lib.hid (HT4.out.below hb5)
          clear hHeld
          dsimp only
          refine hK.out _ _ (HT5.out) (fun hHeld => ?_)
          clear hK K
          try simp only [Act.put, List.setIfInBounds_toArray, List.set_cons_zero, List.set_cons_succ]
          refine takeH (i := 19) (v := .bool true) rfl (by kernel_rfl) (by kernel_rfl) (by kernel_rfl) (fun _ _ _ h => h) (Or.inl ⟨by rfl, fun w hSw => ?_⟩) hHeld ?_
          · (clear hSw; go_simp)
          simp only [Act.put, List.setIfInBounds_toArray, List.set_cons_zero, List.set_cons_succ]
          refine takeH (i := 20) (v := .bool true) rfl (by kernel_rfl) (by kernel_rfl) (by kernel_rfl) (fun _ _ _ h => h) (Or.inl ⟨by rfl, fun w hSw => ?_⟩) hHeld ?_
          · (clear hSw; go_simp)
          simp only [Act.put, List.setIfInBounds_toArray, List.set_cons_zero, List.set_cons_succ]
          refine wpAnyH_done (by kernel_rfl) ?_ _
          clear hHeld
          go_wp2
          go_ret
          exact ⟨rfl, nxt (nxt (nxt (nxt HB2.out (belowN (Below.refl _ _) 1)) hb3) hb4) hb5⟩
      · have HM2 := Lib.hid hm
        clear hm
        rw [err_ok HM2.out]
        clear c0 c1 c2 c3 c4 c5 c6 c7 c8 c9 c10 c11
        go_wp2
        go_roundw
        case rel => exact ⟨3, by omega, by go_num, fun i hi => by
            rcases (show i = 0 ∨ i = 1 ∨ i = 2 by omega) with rfl | rfl | rfl
            · exact HP.out 0 (by omega)
            · exact HP.out 1 (by omega)
            · exact HM2.out, HT2.out, HB2.out⟩
        case measure => simp [intOf]
    · have HM0 := Lib.hid (show f.may = true from HP.out 0 (by omega))
      have HM1 := Lib.hid (show g.may = true from HP.out 1 (by omega))
      have HM2 := Lib.hid (show h.may = true from HP.out 2 (by omega))
      clear HP
      obtain ⟨c0, c1, c2, c3, c4, c5, c6, c7, c8, c9, c10, c11⟩ := HT.out.1
      obtain ⟨b0, b1, b2, b3, b4, b5, b6, b7, b8, b9, b10, b11⟩ := HT.out.2.1
      have hlt := HT.out.lt
      go_upto_region 8 with fail
      go_cut [6] (fun s6 wx => s6 = .bool (alike f g) ∧ wx = (wr.alloc (.cells f.cells 24)).alloc (.cells g.cells 24))
      case first =>
        as_aux_lemma =>
          clear c0 c1 c2 c3 c4 c5 c6 c7 c8 c9 c10 c11 b0 b1 b2 b3 b4 b5 b6 b7 b8 b9 b10 b11
          cases h1 : (f.id == g.id)
          · go_wp2
            go_meet
            case rel => exact ⟨by simp [alike, h1], rfl⟩
          · cases h2 : (f.ext == g.ext)
            · go_wp2
              go_meet
              case rel => exact ⟨by simp [alike, h1, h2], rfl⟩
            · cases h3 : (f.rtr == g.rtr)
              · go_wp2
                go_meet
                case rel => exact ⟨by simp [alike, h1, h2, h3], rfl⟩
              · go_wp2
                go_meet
                case rel => exact ⟨by simp [alike, h1, h2, h3], rfl⟩
      case rest =>
        as_aux_lemma =>
          obtain ⟨rfl, rfl⟩ := hcut
          clear c0 c1 c2 c3 c4 c5 c6 c7 c8 c9 c10 c11 b0 b1 b2 b3 b4 b5 b6 b7 b8 b9 b10 b11
          have HD := Lib.hid (duo_new wr f g)
          have HBD := Lib.hid (nxt HB.out (alloc2 wr (.cells f.cells 24) (.cells g.cells 24)))
          have HTD := Lib.hid (HT.out.below (alloc2 wr (.cells f.cells 24) (.cells g.cells 24)))
          have HAL := Lib.hid (alike_plc HM0.out HM1.out)
          generalize alike f g = sm at *
          obtain ⟨x, hx⟩ : ∃ x, decide (f.plc < g.plc) = x := ⟨_, rfl⟩
          obtain ⟨y, hy⟩ : ∃ y, decide (g.plc < f.plc) = y := ⟨_, rfl⟩
          have HX := Lib.hid hx; have HY := Lib.hid hy
          have L1 := Lib.hid (less_yes f g · HM0.out HM1.out)
          have L2 := Lib.hid (less_yes g f · HM1.out HM0.out)
          have L3 := Lib.hid (rival_yes f g · HM0.out HM1.out)
          rw [hx] at L1
          rw [hy] at L2
          rw [HAL.out] at L3
          clear hx hy HT HB
          go_wp2_with fail
          refine (L1.out _).mono ?_
          rintro e w1 ⟨rfl, hb1⟩
          have HD1 := Lib.hid (HD.out.below hb1)
          have HBD1 := Lib.hid (nxt HBD.out hb1)
          have HTD1 := Lib.hid (HTD.out.below hb1)
          clear hb1 HD HBD HTD L1
          obtain ⟨c0, c1, c2, c3, c4, c5, c6, c7, c8, c9, c10, c11⟩ := HD1.out.1.1
          obtain ⟨b0, b1, b2, b3, b4, b5, b6, b7, b8, b9, b10, b11⟩ := HD1.out.1.2
          go_wp2_with fail
          refine (L2.out _).mono ?_
          rintro e w2 ⟨rfl, hb2⟩
          have HD2 := Lib.hid (HD1.out.below hb2)
          have HBD2 := Lib.hid (nxt HBD1.out hb2)
          have HTD2 := Lib.hid (HTD1.out.below hb2)
          clear c0 c1 c2 c3 c4 c5 c6 c7 c8 c9 c10 c11 b0 b1 b2 b3 b4 b5 b6 b7 b8 b9 b10 b11
          clear hb2 HD1 HBD1 HTD1 L2
          obtain ⟨c0, c1, c2, c3, c4, c5, c6, c7, c8, c9, c10, c11⟩ := HD2.out.1.1
          obtain ⟨b0, b1, b2, b3, b4, b5, b6, b7, b8, b9, b10, b11⟩ := HD2.out.1.2
          go_upto_region 11 with fail
          go_cut [85] (fun s85 wx => s85 = .bool false ∧ Duo wr f g wx ∧ Below w.heap.size w wx ∧ Trio w f g h wx)
          case first =>
            as_aux_lemma =>
              go_wp2_with fail
              refine (L3.out _).mono ?_
              rintro e w3 ⟨rfl, hb3⟩
              have K := Lib.hid (And.intro (HD2.out.below hb3) (And.intro (nxt HBD2.out hb3) (HTD2.out.below hb3)))
              clear c0 c1 c2 c3 c4 c5 c6 c7 c8 c9 c10 c11 b0 b1 b2 b3 b4 b5 b6 b7 b8 b9 b10 b11
              clear hb3
              cases x <;> cases y <;> cases sm
              · exfalso
                have h1 := HX.out; have h2 := HY.out; have h3 := HAL.out
                simp at h1 h2 h3; omega
              · go_wp2
                go_meet
                case rel => exact ⟨rfl, K.out⟩
              · go_wp2
                go_meet
                case rel => exact ⟨rfl, K.out⟩
              · exfalso
                have h1 := HX.out; have h2 := HY.out; have h3 := HAL.out
                simp at h1 h2 h3; omega
              · go_wp2
                go_meet
                case rel => exact ⟨rfl, K.out⟩
              · exfalso
                have h1 := HX.out; have h2 := HY.out; have h3 := HAL.out
                simp at h1 h2 h3; omega
              · exfalso
                have h1 := HX.out; have h2 := HY.out
                simp at h1 h2; omega
              · exfalso
                have h1 := HX.out; have h2 := HY.out
                simp at h1 h2; omega
          case rest =>
            as_aux_lemma =>
              clear c0 c1 c2 c3 c4 c5 c6 c7 c8 c9 c10 c11 b0 b1 b2 b3 b4 b5 b6 b7 b8 b9 b10 b11
              obtain ⟨rfl, hd3, hb3, ht3⟩ := hcut
              have HD3 := Lib.hid hd3; have HB3 := Lib.hid hb3; have HT3 := Lib.hid ht3
              clear hd3 hb3 ht3 HD2 HBD2 HTD2 L3
              obtain ⟨c0, c1, c2, c3, c4, c5, c6, c7, c8, c9, c10, c11⟩ := HD3.out.1.1
              obtain ⟨b0, b1, b2, b3, b4, b5, b6, b7, b8, b9, b10, b11⟩ := HD3.out.1.2
              obtain ⟨e0, e1, e2, e3, e4, e5, e6, e7, e8, e9, e10, e11⟩ := HT3.out.2.2
              go_upto_region 13 with fail
              go_cut [99] (fun s99 wx => s99 = .bool false ∧ Duo wr f g wx ∧ Below w.heap.size w wx)
              case first =>
                as_aux_lemma =>
                  cases x
                  · clear c0 c1 c2 c3 c4 c5 c6 c7 c8 c9 c10 c11 b0 b1 b2 b3 b4 b5 b6 b7 b8 b9 b10 b11 e0 e1 e2 e3 e4 e5 e6 e7 e8 e9 e10 e11
                    go_wp2
                    go_meet
                    case rel => exact ⟨rfl, HD3.out, HB3.out⟩
                  · go_wp2_with fail
                    refine (less_yes g h _ HM1.out HM2.out).mono ?_
                    rintro e w4 ⟨rfl, hb4⟩
                    have HD4 := Lib.hid (HD3.out.below hb4)
                    have HB4 := Lib.hid (nxt HB3.out hb4)
                    have HT4 := Lib.hid (HT3.out.below hb4)
                    clear c0 c1 c2 c3 c4 c5 c6 c7 c8 c9 c10 c11 b0 b1 b2 b3 b4 b5 b6 b7 b8 b9 b10 b11 e0 e1 e2 e3 e4 e5 e6 e7 e8 e9 e10 e11
                    clear hb4
                    by_cases hz : g.plc < h.plc
                    · rw [show decide (g.plc < h.plc) = true by simpa using hz]
                      have HFH := Lib.hid (show decide (f.plc < h.plc) = true by have := HX.out; simp at this ⊢; omega)
                      obtain ⟨c0, c1, c2, c3, c4, c5, c6, c7, c8, c9, c10, c11⟩ := HD4.out.1.1
                      obtain ⟨e0, e1, e2, e3, e4, e5, e6, e7, e8, e9, e10, e11⟩ := HT4.out.2.2
                      clear hz
                      go_wp2_with fail
                      refine (less_yes f h _ HM0.out HM2.out).mono ?_
                      rintro e w5 ⟨rfl, hb5⟩
                      rw [HFH.out]
                      have K := Lib.hid (And.intro (HD4.out.below hb5) (nxt HB4.out hb5))
                      clear c0 c1 c2 c3 c4 c5 c6 c7 c8 c9 c10 c11 e0 e1 e2 e3 e4 e5 e6 e7 e8 e9 e10 e11
                      clear hb5
                      go_wp2
                      go_meet
                      case rel => exact ⟨rfl, K.out⟩
                    · rw [show decide (g.plc < h.plc) = false by simpa using hz]
                      go_wp2
                      go_meet
                      case rel => exact ⟨rfl, HD4.out, HB4.out⟩
              case rest =>
                as_aux_lemma =>
                  clear c0 c1 c2 c3 c4 c5 c6 c7 c8 c9 c10 c11 b0 b1 b2 b3 b4 b5 b6 b7 b8 b9 b10 b11 e0 e1 e2 e3 e4 e5 e6 e7 e8 e9 e10 e11
                  obtain ⟨rfl, hd4, hb4⟩ := hcut
                  have HD4 := Lib.hid hd4; have HB4 := Lib.hid hb4
                  clear hd4 hb4 HD3 HB3 HT3
                  obtain ⟨c0, c1, c2, c3, c4, c5, c6, c7, c8, c9, c10, c11⟩ := HD4.out.1.1
                  obtain ⟨b0, b1, b2, b3, b4, b5, b6, b7, b8, b9, b10, b11⟩ := HD4.out.1.2
                  go_upto_region 15 with fail
                  go_cut [115] (fun s115 wx => s115 = .bool false ∧ wx = wc)
                  case first =>
                    as_aux_lemma =>
                      cases hE : (f.ext == g.ext)
                      · go_wp2
                        go_meet
                        case rel => exact ⟨rfl, rfl⟩
                      · by_cases hL : f.id < g.id
                        · cases x
                          · exfalso
                            have h1 := HX.out
                            have h2 := less_id HM0.out HM1.out (by simpa using hE) hL
                            simp at h1; omega
                          · go_wp2
                            go_meet
                            case rel => exact ⟨rfl, rfl⟩
                        · have hL' : decide (f.id < g.id) = false := by simpa using hL
                          go_wp2
                          go_meet
                          case rel => exact ⟨rfl, rfl⟩
                  case rest =>
                    as_aux_lemma =>
                      obtain ⟨rfl, rfl⟩ := hcut
                      go_upto_region 17 with fail
                      go_cut [140] (fun s140 wx => s140 = .bool false ∧ wx = wc)
                      case first =>
                        as_aux_lemma =>
                          cases hE : (f.ext == g.ext)
                          · go_wp2
                            go_meet
                            case rel => exact ⟨rfl, rfl⟩
                          · cases hA : (f.id == g.id)
                            · go_wp2
                              go_meet
                              case rel => exact ⟨rfl, rfl⟩
                            · cases hr1 : f.rtr
                              · cases hr2 : g.rtr
                                · rw [hr1] at c2
                                  rw [hr2] at b2
                                  clear hr1 hr2
                                  go_wp2
                                  go_meet
                                  case rel => exact ⟨rfl, rfl⟩
                                · cases x
                                  · exfalso
                                    have h1 := HX.out
                                    have h2 := less_rtr HM0.out HM1.out (by simpa using hE) (by simpa using hA) hr1 hr2
                                    simp at h1; omega
                                  · rw [hr1] at c2
                                    rw [hr2] at b2
                                    clear hr1 hr2
                                    go_wp2
                                    go_meet
                                    case rel => exact ⟨rfl, rfl⟩
                              · rw [hr1] at c2
                                clear hr1
                                go_wp2
                                go_meet
                                case rel => exact ⟨rfl, rfl⟩
                      case rest =>
                        as_aux_lemma =>
                          obtain ⟨rfl, rfl⟩ := hcut
                          go_upto_region 19 with fail
                          go_cut [159] (fun s159 wx => s159 = .bool false ∧ wx = wc)
                          case first =>
                            as_aux_lemma =>
                              cases hx1 : f.ext
                              · cases hx2 : g.ext
                                · rw [hx1] at c1
                                  rw [hx2] at b1
                                  clear hx1 hx2
                                  go_wp2
                                  go_meet
                                  case rel => exact ⟨rfl, rfl⟩
                                · obtain ⟨j, hj⟩ := Int.eq_ofNat_of_zero_le (may_parts HM1.out).1
                                  have hb29 : (j : Int) ≤ 536870911 := by
                                    have := (may_parts HM1.out).2.1
                                    unfold Fr.most at this
                                    rw [hx2, hj] at this
                                    simpa using this
                                  by_cases hq : f.id ≤ g.id / 262144
                                  · cases x
                                    · exfalso
                                      have h1 := HX.out
                                      have h2 := less_ext HM0.out HM1.out hx1 hx2 hq
                                      simp at h1; omega
                                    · rw [hx1] at c1
                                      rw [hx2] at b1
                                      rw [hj] at b0 hq
                                      clear hx1 hx2 hj
                                      go_wp2
                                      go_meet
                                      case rel => exact ⟨rfl, rfl⟩
                                  · rw [hx1] at c1
                                    rw [hx2] at b1
                                    rw [hj] at b0 hq
                                    clear hx1 hx2 hj
                                    have hq' : decide (f.id ≤ (j : Int) / 262144) = false := by simpa using hq
                                    go_wp2
                                    go_meet
                                    case rel => exact ⟨rfl, rfl⟩
                              · rw [hx1] at c1
                                clear hx1
                                go_wp2
                                go_meet
                                case rel => exact ⟨rfl, rfl⟩
                          case rest =>
                            as_aux_lemma =>
                              obtain ⟨rfl, rfl⟩ := hcut
                              clear c0 c1 c2 c3 c4 c5 c6 c7 c8 c9 c10 c11 b0 b1 b2 b3 b4 b5 b6 b7 b8 b9 b10 b11
                              go_wp2_with fail
                              refine (awake_ok _).mono ?_
                              rintro e w9 ⟨rfl, hb9⟩
                              go_wp2
                              go_ret
                              exact ⟨rfl, nxt HB4.out hb9⟩
end Go.Proofs.Ytjjfkakjkkpgaaa
