/- The contracts of remove, Put and Drop. -/
import Derived.Test.YtldhnbohpnkcpaaQL
namespace Go.Proofs.Ytldhnbohpnkcpaa
open Go.RowKit
set_option linter.unusedSimpArgs false

/-- Behind remove's store. -/
theorem remove_last {w w1 w2 : World} {B g : Nat} {v u : Value} {m : Int} {gs ys : List Fr} (hq : Que w B g v m gs) (hb1 : Below w.heap.size w w1) (hU : Fown w2 B u ys) (hG : w1.grownBy w2 v.ownBlock) (hL : u.ownBlock = v.ownBlock) :
    Qb w2 g v m ∧ Que (w2.setCell ⟨g, 0, none⟩ u) B g u m ys ∧ Turn g v u w (w2.setCell ⟨g, 0, none⟩ u) := by
  have hgl := hq.lt
  have hle := hb1.size
  have hq2 : Qb w2 g v m := (hG.block g (by omega) fun e => hq.own.notq hq.q e.symm).trans ((hb1.block g hgl).trans hq.q)
  have hnu := hU.notq hq2
  refine ⟨hq2, ⟨hq2.put u, hU.setq hnu 0, hq.at_⟩, ⟨hG.os.trans hb1.os, hG.tape.trans hb1.tape, hG.output.trans hb1.output, ?_, fun k hk hne hkv => ?_, .inl hL⟩⟩
  · have h2 := hG.size
    have : (w2.setCell ⟨g, 0, none⟩ u).heap.size = w2.heap.size := by simp [World.setCell]
    omega
  · exact (Below.heap_setCell w2 ⟨g, 0, none⟩ u k hne).trans ((hG.block k (by omega) hkv).trans (hb1.block k hk))

set_option maxHeartbeats 1600000 in
set_option maxRecDepth 100000 in
theorem remove_q {w : World} {B g : Nat} {v : Value} {m : Int} {gs : List Fr} {f : Fr} (hq : Que w B g v m gs) (hn : gs.length ≤ 1000) :
    Calls Try.prog 33 #[.pointer (some ⟨g, 0, none⟩), f.val] w fun e w' => ∃ u, e = .returned (.bool (dE f gs == 0)) ∧ Que w' B g u m (drp f gs) ∧ Turn g v u w w' := by
  obtain ⟨A, c, hv, hfl, hcap⟩ := hq.fl
  subst hv
  have HQ := Lib.hid hq; have HN := Lib.hid hn
  have HB := Lib.hid (boxed f w)
  have HF1 := Lib.hid (hfl.below (boxed f w))
  clear hq hn hfl
  go_enter Try.func33, Try.ntmps33
  go_wp2_with fail
  have hq1 := HQ.out.next (boxed f w)
  have hx := bx_new w f
  obtain ⟨W, hW⟩ : ∃ W, w.alloc (.cells f.cells 34) = W := ⟨_, rfl⟩
  rw [hW] at hq1 HF1 HB hx ⊢
  clear hW
  obtain ⟨c0, c1, c2, c3, c4, c5, c6, c7, c8, c9, c10, c11⟩ := hx
  have q0 := hq1.q.row
  clear hq1
  go_still_tail 5, (by kernel_rfl)
  go_wp2_with fail
  refine (index_any f A gs.length c _ _ (show Fl W.drew A gs.length _ from HF1.out) (by have := HN.out; omega)).mono ?_
  rintro e w1 ⟨r, rfl, hfd, hb1⟩
  have HB1 := Lib.hid (nxt HB.out (undrew hb1))
  clear hb1 q0 c0 c1 c2 c3 c4 c5 c6 c7 c8 c9 c10 c11
  rcases found_drp hfd with ⟨k, hr, hk, he, hd⟩ | ⟨hr, he, hd⟩
  · subst hr
    have HE := Lib.hid he
    have HD := Lib.hid hd
    have hq1 := HQ.out.next HB1.out
    have q1 := hq1.q.row
    have HO := Lib.hid hq1.own
    have HK := Lib.hid hk
    have hk' : IntKind.i64.wrap ((k : Int) + 1) = (k : Int) + 1 := IntWalk.i64_in _ (by have := HN.out; omega)
    clear hfd he hd hq1
    go_wp2_with fail
    refine (delete_any k HO.out HK.out (by have := HN.out; omega)).mono ?_
    rintro e w2 ⟨u, rfl, hu, hg2, hl2⟩
    rw [HD.out] at hu
    have HFIN := Lib.hid (remove_last HQ.out HB1.out hu hg2 hl2)
    obtain ⟨A5, n5, c5, rfl⟩ : ∃ A5 n5 c5, u = .slice A5 n5 c5 := by obtain ⟨A5, c5, e5, _⟩ := hu.fl; exact ⟨A5, _, c5, e5⟩
    have k5 := HFIN.out.1.row
    have f5 := HFIN.out.1.frozen 0
    clear hu hg2 hl2 q1
    go_wp2
    go_ret
    exact ⟨_, by rw [HE.out]; rfl, HFIN.out.2.1, HFIN.out.2.2⟩
  · subst hr
    have HE := Lib.hid he
    have HD := Lib.hid hd
    clear hfd he hd
    go_wp2
    go_ret
    exact ⟨_, by rw [HE.out]; rfl, by rw [HD.out]; exact HQ.out.next HB1.out, Turn.of_below HB1.out⟩

theorem drop_nil (f : Fr) (w : World) : Calls Try.prog 23 #[.pointer none, f.val] w fun e w' => e = .returned (.int .i64 2) ∧ Below w.heap.size w w' := by
  go_enter Try.func23, Try.ntmps23
  go_wp2
  go_ret
  exact ⟨rfl, boxed f w⟩
theorem put_nil (f : Fr) (w : World) : Calls Try.prog 18 #[.pointer none, f.val] w fun e w' => e = .returned (.int .i64 2) ∧ Below w.heap.size w w' := by
  go_enter Try.func18, Try.ntmps18
  go_wp2
  go_ret
  exact ⟨rfl, boxed f w⟩

theorem dE_cases (f : Fr) (gs : List Fr) : dE f gs = 0 ∨ dE f gs = 16 := by unfold dE; split <;> simp
set_option maxHeartbeats 1600000 in
set_option maxRecDepth 100000 in
theorem drop_q {w : World} {B g : Nat} {v : Value} {m : Int} {gs : List Fr} {f : Fr} (hq : Que w B g v m gs) (hn : gs.length ≤ 1000) :
    Calls Try.prog 23 #[.pointer (some ⟨g, 0, none⟩), f.val] w fun e w' => ∃ u, e = .returned (.int .i64 (dE f gs)) ∧ Que w' B g u m (drp f gs) ∧ Turn g v u w w' := by
  have HN := Lib.hid hn
  have HB := Lib.hid (boxed f w)
  have HQ := Lib.hid hq
  clear hq hn
  rcases dE_cases f gs with he | he
  · rw [he]
    have HE := Lib.hid he
    clear he
    go_enter Try.func23, Try.ntmps23
    go_wp2_with fail
    have hq1 := HQ.out.next (boxed f w)
    have hx := bx_new w f
    obtain ⟨W, hW⟩ : ∃ W, w.alloc (.cells f.cells 34) = W := ⟨_, rfl⟩
    rw [hW] at hq1 HB hx ⊢
    clear hW
    obtain ⟨c0, c1, c2, c3, c4, c5, c6, c7, c8, c9, c10, c11⟩ := hx
    have HQ1 := Lib.hid hq1.drew
    clear hq1
    go_still_tail 4, (by kernel_rfl)
    go_wp2_with fail
    refine (remove_q HQ1.out HN.out).mono ?_
    rintro e w1 ⟨u, rfl, hq2, ht⟩
    rw [HE.out]
    have HF := Lib.hid (And.intro hq2 ((Turn.of_below (g := g) (v := v) HB.out.drew).trans ht))
    clear hq2 ht
    go_wp2
    go_ret
    exact ⟨u, rfl, HF.out.1, HF.out.2⟩
  · rw [he]
    have HE := Lib.hid he
    clear he
    go_enter Try.func23, Try.ntmps23
    go_wp2_with fail
    have hq1 := HQ.out.next (boxed f w)
    have hx := bx_new w f
    obtain ⟨W, hW⟩ : ∃ W, w.alloc (.cells f.cells 34) = W := ⟨_, rfl⟩
    rw [hW] at hq1 HB hx ⊢
    clear hW
    obtain ⟨c0, c1, c2, c3, c4, c5, c6, c7, c8, c9, c10, c11⟩ := hx
    have HQ1 := Lib.hid hq1.drew
    clear hq1
    go_still_tail 4, (by kernel_rfl)
    go_wp2_with fail
    refine (remove_q HQ1.out HN.out).mono ?_
    rintro e w1 ⟨u, rfl, hq2, ht⟩
    rw [HE.out]
    have HF := Lib.hid (And.intro hq2 ((Turn.of_below (g := g) (v := v) HB.out.drew).trans ht))
    clear hq2 ht
    go_wp2
    go_ret
    exact ⟨u, rfl, HF.out.1, HF.out.2⟩

set_option maxHeartbeats 1600000 in
set_option maxRecDepth 100000 in
theorem put_q {w : World} {B g : Nat} {v : Value} {m : Int} {gs : List Fr} {f : Fr} (hq : Que w B g v m gs) (hok : Okq gs) (hn : gs.length ≤ 1000) (hB : B ≤ w.heap.size) :
    Calls Try.prog 18 #[.pointer (some ⟨g, 0, none⟩), f.val] w fun e w' => ∃ u, e = .returned (.int .i64 (pE m f gs)) ∧ Que w' B g u m (pL m f gs) ∧ Turn g v u w w' := by
  have HQ := Lib.hid hq; have HN := Lib.hid hn; have HOK := Lib.hid hok; have HBW := Lib.hid hB
  have HB := Lib.hid (boxed f w)
  clear hq hn hok hB
  cases hm : f.may
  · have HM := Lib.hid hm
    rw [show pE m f gs = 14 by unfold pE; rw [if_pos hm], show pL m f gs = gs by unfold pL; rw [if_pos (.inl hm)]]
    clear hm
    go_enter Try.func18, Try.ntmps18
    go_wp2_with fail
    refine (fcheck_any f _).mono ?_
    rintro e w1 ⟨rfl, hb1⟩
    rw [err_no HM.out]
    have HB1 := Lib.hid (nxt HB.out hb1)
    clear hb1
    go_wp2
    go_ret
    exact ⟨v, rfl, HQ.out.next HB1.out, Turn.of_below HB1.out⟩
  · have HM := Lib.hid hm
    obtain ⟨A, c, hv, -, -⟩ := HQ.out.fl
    subst hv
    have hE : pE m f gs = if m ≤ gs.length then 15 else 0 := by unfold pE; rw [if_neg (by rw [hm]; simp)]
    have hL : pL m f gs = if m ≤ gs.length then gs else ins f gs := by
      unfold pL
      by_cases h : m ≤ (gs.length : Int)
      · rw [if_pos (.inr h), if_pos h]
      · rw [if_neg (by rw [hm]; simpa using h), if_neg h]
    rw [hE, hL]
    clear hm hE hL
    by_cases hful : m ≤ (gs.length : Int)
    · rw [if_pos hful, if_pos hful]
      go_enter Try.func18, Try.ntmps18
      go_wp2_with fail
      refine (fcheck_any f _).mono ?_
      rintro e w1 ⟨rfl, hb1⟩
      rw [err_ok HM.out]
      have HB1 := Lib.hid (nxt HB.out hb1)
      have HQ1 := Lib.hid (HQ.out.next HB1.out).drew
      clear hb1
      go_wp2_with fail
      refine wp_region_held_drew (S := fun w' => Qb w' g (.slice A gs.length c) m) (by kernel_rfl) (HQ1.out.q) (fun hHeld => ?_)
      refine takeH (i := 0) (v := .pointer (some ⟨g, 0, none⟩)) rfl (by kernel_rfl) (by kernel_rfl) (by kernel_rfl) (fun _ _ _ h => h) (Or.inl ⟨by rfl, fun w hSw => ?_⟩) hHeld ?_
      · (clear hSw; go_simp)
      simp only [Act.put, List.setIfInBounds_toArray, List.set_cons_zero, List.set_cons_succ]
      refine takeH (i := 2) (v := .pointer (some ⟨g, 0, none⟩)) rfl (by kernel_rfl) (by kernel_rfl) (by kernel_rfl) (fun _ _ _ h => h) (Or.inl ⟨by rfl, fun w hSw => ?_⟩) hHeld ?_
      · (clear hSw; go_simp)
      simp only [Act.put, List.setIfInBounds_toArray, List.set_cons_zero, List.set_cons_succ]
      refine takeH (i := 3) (v := .pointer (some ⟨g, 0, none⟩)) rfl (by kernel_rfl) (by kernel_rfl) (by kernel_rfl) (fun _ _ _ h => h) (Or.inl ⟨by rfl, fun w hSw => ?_⟩) hHeld ?_
      · (clear hSw; go_simp)
      simp only [Act.put, List.setIfInBounds_toArray, List.set_cons_zero, List.set_cons_succ]
      refine takeH (i := 4) (v := .pointer (some ⟨g, 1, none⟩)) rfl (by kernel_rfl) (by kernel_rfl) (by kernel_rfl) (fun _ _ _ h => h) (Or.inl ⟨by rfl, fun w hSw => ?_⟩) hHeld ?_
      · (clear hSw; go_simp)
      simp only [Act.put, List.setIfInBounds_toArray, List.set_cons_zero, List.set_cons_succ]
      refine takeH (i := 5) (v := .int .i64 m) rfl (by kernel_rfl) (by kernel_rfl) (by kernel_rfl) (fun _ _ _ h => h) (Or.inl ⟨by rfl, fun w hSw => ?_⟩) hHeld ?_
      · (have q1 := hSw.most; clear hSw; go_simp)
      simp only [Act.put, List.setIfInBounds_toArray, List.set_cons_zero, List.set_cons_succ]
      refine wpAnyH_ready (rs := [1]) (by kernel_rfl) (by simp) ?_
      refine AllReadyH.cons rfl (fun K hK => ?_) AllReadyH.nil
      go_simp
      refine (len_b g A gs.length c m _ hHeld).mono ?_
      rintro e w2 ⟨rfl, hw2⟩
      subst hw2
      have HH := Lib.hid hHeld
      clear hHeld
      dsimp only
      refine hK.out _ _ (HH.out) (fun hHeld => ?_)
      clear hK K
      try simp only [Act.put, List.setIfInBounds_toArray, List.set_cons_zero, List.set_cons_succ]
      refine takeH (i := 6) (v := .bool true) rfl (by kernel_rfl) (by kernel_rfl) (by kernel_rfl) (fun _ _ _ h => h) (Or.inl ⟨by rfl, fun w hSw => ?_⟩) hHeld ?_
      · (clear hSw; go_simp)
      simp only [Act.put, List.setIfInBounds_toArray, List.set_cons_zero, List.set_cons_succ]
      refine wpAnyH_done (by kernel_rfl) ?_ _
      clear hHeld
      have HF := Lib.hid (HB1.out.drew)
      go_wp2
      go_ret
      exact ⟨_, rfl, HQ1.out, Turn.of_below HF.out⟩
    · rw [if_neg hful, if_neg hful]
      have hful' : ¬ (m ≤ (gs.length : Int)) := hful
      go_enter Try.func18, Try.ntmps18
      go_wp2_with fail
      refine (fcheck_any f _).mono ?_
      rintro e w1 ⟨rfl, hb1⟩
      rw [err_ok HM.out]
      have HB1 := Lib.hid (nxt HB.out hb1)
      have HQ1 := Lib.hid (HQ.out.next HB1.out).drew
      have HX := Lib.hid (bx_past hb1)
      clear hb1
      go_wp2_with fail
      refine wp_region_held_drew (S := fun w' => Qb w' g (.slice A gs.length c) m) (by kernel_rfl) (HQ1.out.q) (fun hHeld => ?_)
      refine takeH (i := 0) (v := .pointer (some ⟨g, 0, none⟩)) rfl (by kernel_rfl) (by kernel_rfl) (by kernel_rfl) (fun _ _ _ h => h) (Or.inl ⟨by rfl, fun w hSw => ?_⟩) hHeld ?_
      · (clear hSw; go_simp)
      simp only [Act.put, List.setIfInBounds_toArray, List.set_cons_zero, List.set_cons_succ]
      refine takeH (i := 2) (v := .pointer (some ⟨g, 0, none⟩)) rfl (by kernel_rfl) (by kernel_rfl) (by kernel_rfl) (fun _ _ _ h => h) (Or.inl ⟨by rfl, fun w hSw => ?_⟩) hHeld ?_
      · (clear hSw; go_simp)
      simp only [Act.put, List.setIfInBounds_toArray, List.set_cons_zero, List.set_cons_succ]
      refine takeH (i := 3) (v := .pointer (some ⟨g, 0, none⟩)) rfl (by kernel_rfl) (by kernel_rfl) (by kernel_rfl) (fun _ _ _ h => h) (Or.inl ⟨by rfl, fun w hSw => ?_⟩) hHeld ?_
      · (clear hSw; go_simp)
      simp only [Act.put, List.setIfInBounds_toArray, List.set_cons_zero, List.set_cons_succ]
      refine takeH (i := 4) (v := .pointer (some ⟨g, 1, none⟩)) rfl (by kernel_rfl) (by kernel_rfl) (by kernel_rfl) (fun _ _ _ h => h) (Or.inl ⟨by rfl, fun w hSw => ?_⟩) hHeld ?_
      · (clear hSw; go_simp)
      simp only [Act.put, List.setIfInBounds_toArray, List.set_cons_zero, List.set_cons_succ]
      refine takeH (i := 5) (v := .int .i64 m) rfl (by kernel_rfl) (by kernel_rfl) (by kernel_rfl) (fun _ _ _ h => h) (Or.inl ⟨by rfl, fun w hSw => ?_⟩) hHeld ?_
      · (have q1 := hSw.most; clear hSw; go_simp)
      simp only [Act.put, List.setIfInBounds_toArray, List.set_cons_zero, List.set_cons_succ]
      refine wpAnyH_ready (rs := [1]) (by kernel_rfl) (by simp) ?_
      refine AllReadyH.cons rfl (fun K hK => ?_) AllReadyH.nil
      go_simp
      refine (len_b g A gs.length c m _ hHeld).mono ?_
      rintro e w2 ⟨rfl, hw2⟩
      subst hw2
      have HH := Lib.hid hHeld
      clear hHeld
      dsimp only
      refine hK.out _ _ (HH.out) (fun hHeld => ?_)
      clear hK K
      try simp only [Act.put, List.setIfInBounds_toArray, List.set_cons_zero, List.set_cons_succ]
      refine takeH (i := 6) (v := .bool false) rfl (by kernel_rfl) (by kernel_rfl) (by kernel_rfl) (fun _ _ _ h => h) (Or.inl ⟨by rfl, fun w hSw => ?_⟩) hHeld ?_
      · (clear hSw; go_simp)
      simp only [Act.put, List.setIfInBounds_toArray, List.set_cons_zero, List.set_cons_succ]
      refine wpAnyH_done (by kernel_rfl) ?_ _
      clear hHeld
      have hx : Bx w1.drew w.heap.size f := HX.out
      have hb : Below w.heap.size w w1.drew := HB1.out.drew
      have hq1 := HQ1.out
      go_wp2_with fail
      obtain ⟨W1, hW1⟩ : ∃ W1, w1.drew = W1 := ⟨_, rfl⟩
      rw [hW1] at hx hb hq1 ⊢
      clear hW1
      obtain ⟨c0, c1, c2, c3, c4, c5, c6, c7, c8, c9, c10, c11⟩ := hx
      have HQ2 := Lib.hid hq1; have HB3 := Lib.hid hb
      clear hq1 hb
      go_still_tail 4, (by kernel_rfl)
      go_wp2_with fail
      have HS := Lib.hid HB3.out.size
      refine (insert_q (HQ2.out).drew HOK.out HM.out HN.out (show B ≤ W1.heap.size by have := HS.out; have := HBW.out; omega)).mono ?_
      rintro e w3 ⟨u, rfl, hq3, ht3⟩
      have HF := Lib.hid (And.intro hq3 ((Turn.of_below (g := g) (v := .slice A gs.length c) (HB3.out.drew)).trans ht3))
      clear hq3 ht3
      go_wp2
      go_ret
      exact ⟨u, rfl, HF.out.1, HF.out.2⟩
end Go.Proofs.Ytldhnbohpnkcpaa
