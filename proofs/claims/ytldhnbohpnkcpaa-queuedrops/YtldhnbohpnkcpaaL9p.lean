/- The walk of the law QueueDrops. -/
import Derived.Test.YtldhnbohpnkcpaaQS
namespace Go.Proofs.Ytldhnbohpnkcpaa
open Go.RowKit
set_option linter.unusedSimpArgs false

set_option maxHeartbeats 1600000 in
set_option maxRecDepth 100000 in
theorem qdrops_out (f : Fr) (A : Option Addr) (n c : Nat) (w : World) (h : 60 < n) :
    Calls Try.prog 5 #[.slice A n c, f.val] w fun e w' => e = .returned (.bool true) ∧ Below w.heap.size w w' := by
  have g1 : (60 : Int) < (n : Int) := by omega
  clear h
  go_enter Try.func5, Try.ntmps5
  go_wp2_with fail
  refine (awake9 _).mono ?_
  rintro e w1 ⟨rfl, hb1⟩
  have HF := Lib.hid (nxt (boxed f w) hb1)
  clear hb1
  go_wp2
  go_ret
  exact ⟨rfl, HF.out⟩

set_option maxHeartbeats 12800000 in
set_option maxRecDepth 100000 in
theorem qdrops_in (f : Fr) (ac : Nat → Bool × Fr) (A : Option Addr) (n c : Nat) (w : World) (hA : Al w A n ac) (hn : n ≤ 60) :
    Calls Try.prog 5 #[.slice A n c, f.val] w fun e w' => e = .returned (.bool true) ∧ Below w.heap.size w w' := by
  have HA := Lib.hid (hA.below (boxed f w))
  have HBX := Lib.hid (boxed f w)
  have HFX := Lib.hid (fb_new w f)
  have hsz : (w.alloc (.cells f.cells 34)).heap.size = w.heap.size + 1 := by simp
  have HSZ := Lib.hid hsz
  have g1 : ¬ ((60 : Int) < (n : Int)) := by omega
  clear hA
  go_enter Try.func5, Try.ntmps5
  go_wp2_with fail
  refine (new_ok 16 _ (by omega) (by omega)).mono ?_
  rintro e w1 ⟨rfl, hq1, hb1⟩
  rw [HSZ.out] at hq1 hb1 ⊢
  have HQ1 := Lib.hid hq1; have HB1 := Lib.hid hb1
  clear hq1 hb1
  go_wp2
  go_loopw [7] (fun i wr => ∃ (k : Nat) (v : Value), k ≤ n ∧ i = .int .i64 k ∧ Que wr (w.heap.size + 1) (w.heap.size + 1) v 16 (runA 16 ac k) ∧ Below (w.heap.size + 1) (w.alloc (.cells f.cells 34)) wr) (fun i _ => n - (intOf i).toNat)
  case atStart => exact ⟨0, _, Nat.zero_le _, rfl, HQ1.out, HB1.out⟩
  case round =>
    clear HQ1 HB1
    obtain ⟨k, v, hk, rfl, hq, hb⟩ := hrel
    have HQ := Lib.hid hq; have HB := Lib.hid hb
    have HBS := Lib.hid (show w.heap.size + 1 ≤ wr.heap.size by have h1 := hb.size; have h2 := HSZ.out; omega)
    have HLE := Lib.hid (runA_le (show (0 : Int) ≤ 16 by omega) ac k)
    clear hq hb
    by_cases hlt : k < n
    · have hlt' : (k : Int) < (n : Int) := by omega
      obtain ⟨ad, rfl, -, d0, d1, d2, d3, d4, d5, d6, d7, d8, d9, d10, d11, d12⟩ := (HA.out.below (by rw [HSZ.out]; exact HB.out)).at_ hlt
      go_wp2_with fail
      refine (does_q (ac k).1 (ac k).2 HQ.out (runA_ok 16 ac k) (by have := HLE.out; omega) HBS.out).mono ?_
      rintro e w2 ⟨u, rfl, hq2, ht2⟩
      have HB2 := Lib.hid (HB.out.trans (ht2.que HQ.out HBS.out))
      have HQ2 := Lib.hid hq2
      clear hq2 ht2 d0 d1 d2 d3 d4 d5 d6 d7 d8 d9 d10 d11 d12
      go_wp2
      go_roundw
      case rel => exact ⟨k + 1, u, by omega, by go_num, HQ2.out, HB2.out⟩
      case measure => simp [intOf]; omega
    · obtain rfl : k = n := by omega
      have HOK := Lib.hid (runA_ok 16 ac k)
      obtain ⟨gs, hgs⟩ : ∃ gs, runA 16 ac k = gs := ⟨_, rfl⟩
      have HQ' := Lib.hid (show Que wr (w.heap.size + 1) (w.heap.size + 1) v 16 gs from by rw [← hgs]; exact HQ.out)
      rw [hgs] at HOK HLE
      clear HQ hgs
      go_wp2_with fail
      refine (all_q HQ'.out (by have := HLE.out; omega)).mono ?_
      rintro e w2 ⟨u, rfl, hu, hb2⟩
      obtain ⟨A8, c8, rfl, -, -⟩ := hu.fl
      have HUN := Lib.hid (show Sep (.slice A8 gs.length c8) v from (sep_new HQ'.out.own hu.row).symm)
      have HU := Lib.hid (hu.base HBS.out)
      have HQ2 := Lib.hid (HQ'.out.next hb2)
      have HB2 := Lib.hid (HB.out.trans (hb2.mono HBS.out))
      have HFB := Lib.hid (HFX.out.below HB2.out (Nat.lt_succ_self _))
      have hl16 : (gs.length : Int) ≤ 16 := HLE.out
      have HLL := Lib.hid hl16
      obtain ⟨L, hL⟩ : ∃ L, gs.length = L := ⟨_, rfl⟩
      have HL := Lib.hid hL
      rw [hL] at hl16 HU HUN ⊢
      clear hu hb2 HB HQ' hL HBS
      go_wp2
      go_loopw [9, 10, 11] (fun vn va vi wr => ∃ (i : Nat) (r : Int), i ≤ L ∧ vn = .int .i64 (cn f gs i) ∧ va = .int .i64 r ∧ vi = .int .i64 i ∧ Found f (fun j => gs.getD j Fr.zero) i r ∧ Below w2.heap.size w2 wr) (fun _ _ vi _ => L - (intOf vi).toNat)
      case atStart => exact ⟨0, -1, Nat.zero_le _, rfl, rfl, rfl, .inr ⟨rfl, fun j hj => by omega⟩, Below.refl _ _⟩
      case round =>
        obtain ⟨i, r, hi, rfl, rfl, rfl, hfd, hb⟩ := hrel
        have HFD := Lib.hid hfd; have HB := Lib.hid hb
        obtain ⟨q, hq⟩ : ∃ q, cn f gs i = q := ⟨_, rfl⟩
        have HCN := Lib.hid hq
        have hqb : (q : Int) ≤ 16 := by have := cn_le f gs i; have := HL.out; omega
        rw [hq]
        clear hfd hq
        by_cases hlt : i < L
        · have hlt' : (i : Int) < (L : Int) := by omega
          have HLT := Lib.hid (show i < gs.length by rw [HL.out]; exact hlt)
          obtain ⟨c0, c1, c2, c3, c4, c5, c6, c7, c8', c9, c10, c11⟩ := (HFB.out.below hb HFB.out.lt).bx
          obtain ⟨x, hx⟩ : ∃ x, gs.getD i Fr.zero = x := ⟨_, rfl⟩
          have HX := Lib.hid hx
          obtain ⟨ad8, rfl, -, -⟩ := (HU.out.below hb).fl2.at_ hlt
          obtain ⟨d0, d1, d2, d3, d4, d5, d6, d7, d8, d9, d10, d11⟩ := (HU.out.below hb).fl2.el hlt hx
          have hfe := fun W => feq x f W
          clear hb hx
          cases hs : f.same x
          · have HS := Lib.hid (show f.same (gs.getD i Fr.zero) = false from by rw [HX.out]; exact hs)
            rw [same_comm, hs] at hfe
            clear hs
            go_wp2
            go_quiet (fail)
            go_wp2
            go_roundw
            case rel => exact ⟨i + 1, r, by omega, by rw [cn_no HLT.out HS.out, HCN.out], rfl, by go_num, found_no HFD.out HS.out, belowN HB.out _⟩
            case measure => simp [intOf]; omega
          · have HS := Lib.hid (show f.same (gs.getD i Fr.zero) = true from by rw [HX.out]; exact hs)
            rw [same_comm, hs] at hfe
            clear hs
            by_cases hr : r < 0
            · obtain rfl := found_neg HFD.out hr
              go_wp2
              go_quiet (fail)
              go_wp2
              go_roundw
              case rel => exact ⟨i + 1, i, by omega, by rw [cn_yes HLT.out HS.out, HCN.out]; push_cast; rfl, rfl, by go_num, found_yes HFD.out HS.out, belowN HB.out _⟩
              case measure => simp [intOf]; omega
            · go_wp2
              go_quiet (fail)
              go_wp2
              go_roundw
              case rel => exact ⟨i + 1, r, by omega, by rw [cn_yes HLT.out HS.out, HCN.out]; push_cast; rfl, rfl, by go_num, found_up HFD.out (by omega), belowN HB.out _⟩
              case measure => simp [intOf]; omega
        · obtain rfl : i = L := by omega
          have HN := Lib.hid (show gs.countP f.same = q from by rw [← cn_all, HL.out]; exact HCN.out)
          have HQ3 := Lib.hid (HQ2.out.next HB.out); have HU3 := Lib.hid (HU.out.below HB.out); have HF3 := Lib.hid (HFB.out.below HB.out HFB.out.lt)
          have HB3 := Lib.hid (show Below (w.heap.size + 1) (w.alloc (.cells f.cells 34)) wr from HB2.out.trans (HB.out.mono (by have h1 := HB2.out.size; have h2 := HSZ.out; omega)))
          have HBS := Lib.hid (show w.heap.size + 1 ≤ wr.heap.size by have h1 := HB3.out.size; have h2 := HSZ.out; omega)
          have hfd := HFD.out
          clear HQ2 HU HFB HB2 HB HFD HCN hb
          go_wp2_with fail
          refine (clone_q HQ3.out (by have := HLL.out; omega)).mono ?_
          rintro e w3 ⟨gp, up, rfl, hp, hb3⟩
          have hne : w.heap.size + 1 ≠ gp := by have h1 := HQ3.out.lt; have h2 := hp.at_; omega
          have HD := Lib.hid (show Dr w w3 f (w.heap.size + 1) v gs gp up gs (.slice A8 i c8) gs 16 from
            ⟨HF3.out.below hb3 HF3.out.lt, HQ3.out.next hb3, hp.base HBS.out, HU3.out.below hb3, sep_new HQ3.out.own hp.own.row, HUN.out, sep_new HU3.out hp.own.row, hne, (HBX.out.trans (HB3.out.mono (by omega))).trans (hb3.mono (by have := HBS.out; omega))⟩)
          clear hp hb3 hne HQ3 HU3 HF3 HB3 HBS HUN
          obtain ⟨c0, c1, c2, c3, c4, c5, c6, c7, c8', c9, c10, c11⟩ := HD.out.fb.bx
          rw [show i = gs.length from HL.out.symm] at hfd
          go_wp2_with fail
          refine (drop_q (f := f) HD.out.q (by have := HLL.out; omega)).mono ?_
          rintro e w4 ⟨v4, rfl, hq4, ht4⟩
          clear c0 c1 c2 c3 c4 c5 c6 c7 c8' c9 c10 c11
          have HD4 := Lib.hid (HD.out.turnq hq4 ht4)
          clear hq4 ht4 HD
          rcases found_drp hfd with ⟨k0, hr0, hk0, he0, hd0⟩ | ⟨hr0, he0, hd0⟩
          · have hq0 : 0 < q := by rw [← HN.out]; exact cn_pos he0
            rw [he0]
            have HDD := Lib.hid hd0
            subst hr0
            obtain ⟨b, cap, cur, e8, hbB, hR, hcc, hmm, hss, htt⟩ := HD4.out.ur.open_ (by intro e; rw [e] at hk0; simp at hk0)
            injection e8 with e1 e2 e3
            subst e1; subst e3
            clear e2
            have hP := Fown.parts hR htt hbB k0 hk0 hcc
            rw [HL.out] at hP hcc hk0
            obtain ⟨x1, x2⟩ := sF_to b i c8 k0 (by omega)
            obtain ⟨y1, y2⟩ := sF_from b i c8 (k0 + 1) (by omega) ((k0 : Int) + 1) (by simp)
            obtain ⟨z, hz⟩ : ∃ z, (if c8 = k0 + 1 then 0 else (k0 + 1) * 12) = z := ⟨_, rfl⟩
            rw [hz] at y1 y2 hP
            have HB4 := Lib.hid (show Below w4.heap.size w4 (w4.alloc (.cells #[] 34)).drew from ((Below.refl _ _).alloc (Nat.le_refl _) _).drew)
            have HN4 := Lib.hid (show Fown (w4.alloc (.cells #[] 34)).drew w4.heap.size (.slice (some ⟨w4.heap.size, 0, none⟩) 0 0) [] from Fown.nil w4 w4.heap.size (Nat.le_refl _))
            have hbl := hR.lt
            have hkeep : ∀ (A : Option Addr) (m : Nat) (ys : List Fr), Fs w4 A m ys → (∀ ad, A = some ad → ad.block < w4.heap.size) → ∀ wx, Below w4.heap.size w4 wx → Fs wx A m ys := fun A m ys h hl wx hb => ⟨h.1, fun h0 => by
              obtain ⟨ad, e, hc⟩ := h.2 h0
              exact ⟨ad, e, fun j u hu => (hb.cell (by rw [block_of_add]; exact hl ad e)).trans (hc j u hu)⟩⟩
            have HP1 := Lib.hid (hkeep _ _ _ hP.1 (fun ad e => by injection e with e; rw [← e]; exact hbl) _ HB4.out)
            have HP2 := Lib.hid (hkeep _ _ _ hP.2 (fun ad e => by injection e with e; rw [← e]; exact hbl))
            have hk1 : (k0 : Int) < (i : Int) := by omega
            have hk2 : ¬ (c8 < k0) := by omega
            have hk3 : (0 : Int) ≤ (k0 : Int) + 1 := by omega
            have hk4 : (k0 : Int) + 1 ≤ (i : Int) := by omega
            have hwk : IntKind.i64.wrap ((k0 : Int) + 1) = (k0 : Int) + 1 := IntWalk.i64_in _ (by have := HLL.out; have := HL.out; omega)
            clear hfd he0 hd0 hbB hR hmm hss htt hP hz hbl hkeep
            go_wp2_with fail
            refine wp_region_held_drew (S := fun _ => True) (by kernel_rfl) (trivial) (fun hHeld => ?_)
            refine takeH (i := 1) (v := .slice (some ⟨b, 0, none⟩) i c8) rfl (by kernel_rfl) (by kernel_rfl) (by kernel_rfl) (fun _ _ _ h => h) (Or.inl ⟨by rfl, fun w hSw => ?_⟩) hHeld ?_
            · (clear hSw; go_simp)
            simp only [Act.put, List.setIfInBounds_toArray, List.set_cons_zero, List.set_cons_succ]
            refine takeH (i := 2) (v := .int .i64 k0) rfl (by kernel_rfl) (by kernel_rfl) (by kernel_rfl) (fun _ _ _ h => h) (Or.inl ⟨by rfl, fun w hSw => ?_⟩) hHeld ?_
            · (clear hSw; go_simp)
            simp only [Act.put, List.setIfInBounds_toArray, List.set_cons_zero, List.set_cons_succ]
            refine takeH (i := 3) (v := .slice (some ⟨b, 0, none⟩) k0 c8) rfl (by kernel_rfl) (by kernel_rfl) (by kernel_rfl) (fun _ _ _ h => h) (Or.inl ⟨by rfl, fun w hSw => ?_⟩) hHeld ?_
            · (clear hSw; go_simp)
            simp only [Act.put, List.setIfInBounds_toArray, List.set_cons_zero, List.set_cons_succ]
            refine takeH (i := 5) (v := .slice (some ⟨b, 0, none⟩) i c8) rfl (by kernel_rfl) (by kernel_rfl) (by kernel_rfl) (fun _ _ _ h => h) (Or.inl ⟨by rfl, fun w hSw => ?_⟩) hHeld ?_
            · (clear hSw; go_simp)
            simp only [Act.put, List.setIfInBounds_toArray, List.set_cons_zero, List.set_cons_succ]
            refine takeH (i := 6) (v := .int .i64 k0) rfl (by kernel_rfl) (by kernel_rfl) (by kernel_rfl) (fun _ _ _ h => h) (Or.inl ⟨by rfl, fun w hSw => ?_⟩) hHeld ?_
            · (clear hSw; go_simp)
            simp only [Act.put, List.setIfInBounds_toArray, List.set_cons_zero, List.set_cons_succ]
            refine takeH (i := 7) (v := .int .i64 ((k0 : Int) + 1)) rfl (by kernel_rfl) (by kernel_rfl) (by kernel_rfl) (fun _ _ _ h => h) (Or.inl ⟨by rfl, fun w hSw => ?_⟩) hHeld ?_
            · (clear hSw; go_simp)
            simp only [Act.put, List.setIfInBounds_toArray, List.set_cons_zero, List.set_cons_succ]
            refine takeH (i := 8) (v := .slice (some ⟨b, z, none⟩) (i - (k0 + 1)) (c8 - (k0 + 1))) rfl (by kernel_rfl) (by kernel_rfl) (by kernel_rfl) (fun _ _ _ h => h) (Or.inl ⟨by rfl, fun w hSw => ?_⟩) hHeld ?_
            · (clear hSw; go_simp)
            simp only [Act.put, List.setIfInBounds_toArray, List.set_cons_zero, List.set_cons_succ]
            refine wpAnyH_ready (rs := [0]) (by kernel_rfl) (by simp) ?_
            refine AllReadyH.cons rfl (fun K hK => ?_) AllReadyH.nil
            go_simp
            refine hK.out _ _ trivial (fun hHeld => ?_)
            clear hK K
            try simp only [Act.put, List.setIfInBounds_toArray, List.set_cons_zero, List.set_cons_succ]
            refine wpAnyH_ready (rs := [4]) (by kernel_rfl) (by simp) ?_
            refine AllReadyH.cons rfl (fun K hK => ?_) AllReadyH.nil
            refine step_append_F9 _ (by rfl) (.tmp 82) (.tmp 85) (by rfl) w4.heap.size (.slice (some ⟨w4.heap.size, 0, none⟩) 0 0) [] (by rfl) HN4.out (some ⟨b, 0, none⟩) k0 c8 (gs.take k0) (by rfl) HP1.out (by have := HLL.out; have := HL.out; simp; omega) HB4.out.size ?_
            intro v5 w5 ho5 hg5 hl5
            have HB5 := Lib.hid (HB4.out.grown hg5 HB4.out.size HN4.out.row)
            have HO5 := Lib.hid ho5
            have HP5 := Lib.hid (HP2.out w5 HB5.out)
            clear ho5 hg5 hl5 hHeld
            refine hK.out _ _ trivial (fun hHeld => ?_)
            clear hK K
            try simp only [Act.put, List.setIfInBounds_toArray, List.set_cons_zero, List.set_cons_succ]
            refine wpAnyH_ready (rs := [9]) (by kernel_rfl) (by simp) ?_
            refine AllReadyH.cons rfl (fun K hK => ?_) AllReadyH.nil
            refine step_append_F9 _ (by rfl) (.tmp 86) (.tmp 90) (by rfl) w4.heap.size v5 _ (by rfl) HO5.out (some ⟨b, z, none⟩) (i - (k0 + 1)) (c8 - (k0 + 1)) (gs.drop (k0 + 1)) (by rfl) HP5.out (by have := HLL.out; have := HL.out; simp; omega) HB5.out.size ?_
            intro v6 w6 ho6 hg6 hl6
            have HB6 := Lib.hid (HB5.out.grown hg6 HB5.out.size HO5.out.row)
            have HO6 := Lib.hid (show Fown w6 w4.heap.size v6 (drp f gs) from by rw [← HDD.out, List.eraseIdx_eq_take_drop_succ]; exact ho6)
            clear ho6 hg6 hl6 hHeld
            refine hK.out _ _ trivial (fun hHeld => ?_)
            clear hK K
            try simp only [Act.put, List.setIfInBounds_toArray, List.set_cons_zero, List.set_cons_succ]
            refine takeH (i := 10) (v := v6) rfl (by kernel_rfl) (by kernel_rfl) (by kernel_rfl) (fun _ _ _ h => h) (Or.inl ⟨by rfl, fun w hSw => ?_⟩) hHeld ?_
            · (clear hSw; go_simp)
            try simp only [Act.put, List.setIfInBounds_toArray, List.set_cons_zero, List.set_cons_succ]
            refine wpAnyH_done (by kernel_rfl) ?_ _
            clear hHeld
            have HD6 := Lib.hid (HD4.out.next HB6.out)
            go_wp2_with fail
            refine (all_q HD6.out.q (by have h1 := drp_le f gs; have h2 := HLL.out; omega)).mono ?_
            rintro e w7 ⟨u7, rfl, hu7, hb7⟩
            have HD7 := Lib.hid (HD6.out.next hb7); have HU7 := Lib.hid hu7
            have HO7 := Lib.hid (HO6.out.below hb7)
            clear hu7 hb7 HD4 HD6
            go_wp2_with fail
            refine (same_self HU7.out HO7.out (by have h1 := drp_le f gs; have h2 := HLL.out; omega)).mono ?_
            rintro e w8 ⟨rfl, hb8⟩
            have HD8 := Lib.hid (HD7.out.next hb8)
            clear hb8 HD7 HU7 HO7 HB4 HN4 HB5 HO5 HP5 HB6 HO6 HP1 HP2 x1 x2 y1 y2
            obtain ⟨A8, hA8⟩ : ∃ A8, (some ⟨b, 0, none⟩ : Option Addr) = A8 := ⟨_, rfl⟩
            rw [hA8] at HD8 ⊢
            clear hA8
            obtain ⟨c0, c1, c2, c3, c4, c5, c6, c7, c8', c9, c10, c11⟩ := HD8.out.fb.bx
            go_wp2_with fail
            refine (put_q (f := f) HD8.out.p HOK.out (by have := HLL.out; omega) HD8.out.size).mono ?_
            rintro e w10 ⟨u10, rfl, hp10, ht10⟩
            clear c0 c1 c2 c3 c4 c5 c6 c7 c8' c9 c10 c11
            have HDA := Lib.hid (HD8.out.turnp hp10 ht10)
            clear hp10 ht10 HD8
            cases hmay : f.may
            · have HPE := Lib.hid (show pE 16 f gs = 14 from by unfold pE; rw [if_pos hmay])
              have HPL := Lib.hid (show pL 16 f gs = gs from by unfold pL; rw [if_pos (.inl hmay)])
              rw [HPL.out] at HDA
              rw [HPE.out]
              go_wp2_with fail
              refine (all_q HDA.out.p (by have := HLL.out; omega)).mono ?_
              rintro e w11 ⟨u11, rfl, hu11, hb11⟩
              have HDB := Lib.hid (HDA.out.next hb11); have HU11 := Lib.hid hu11
              clear hu11 hb11 HDA
              go_wp2_with fail
              refine (same_self HU11.out HDB.out.ur (by have := HLL.out; omega)).mono ?_
              rintro e w12 ⟨rfl, hb12⟩
              have HBC := Lib.hid (nxt HDB.out.bel hb12)
              clear hb12 HDB HU11
              go_wp2_with fail
              refine (awake9 _).mono ?_
              rintro e w13 ⟨rfl, hb13⟩
              have HF := Lib.hid (nxt HBC.out hb13)
              clear hb13
              go_wp2
              go_ret
              exact ⟨rfl, HF.out⟩
            · by_cases hful : (16 : Int) ≤ (gs.length : Int)
              · have HPE := Lib.hid (show pE 16 f gs = 15 from by unfold pE; rw [if_neg (by rw [hmay]; simp), if_pos hful])
                have HPL := Lib.hid (show pL 16 f gs = gs from by unfold pL; rw [if_pos (.inr hful)])
                rw [HPL.out] at HDA
                rw [HPE.out]
                obtain rfl : i = 16 := by have := HL.out; omega
                go_wp2_with fail
                refine (all_q HDA.out.p (by have := HLL.out; omega)).mono ?_
                rintro e w11 ⟨u11, rfl, hu11, hb11⟩
                have HDB := Lib.hid (HDA.out.next hb11); have HU11 := Lib.hid hu11
                clear hu11 hb11 HDA
                go_wp2_with fail
                refine (same_self HU11.out HDB.out.ur (by have := HLL.out; omega)).mono ?_
                rintro e w12 ⟨rfl, hb12⟩
                have HBC := Lib.hid (nxt HDB.out.bel hb12)
                clear hb12 HDB HU11
                go_wp2_with fail
                refine (awake9 _).mono ?_
                rintro e w13 ⟨rfl, hb13⟩
                have HF := Lib.hid (nxt HBC.out hb13)
                clear hb13
                go_wp2
                go_ret
                exact ⟨rfl, HF.out⟩
              · have HPE := Lib.hid (show pE 16 f gs = 0 from by unfold pE; rw [if_neg (by rw [hmay]; simp), if_neg hful])
                have HPL := Lib.hid (show pL 16 f gs = ins f gs from by unfold pL; rw [if_neg (by rw [hmay]; simpa using hful)])
                rw [HPL.out] at HDA
                rw [HPE.out]
                clear hmay hful
                go_wp2
                go_loopw [16] (fun vi wr => ∃ (j : Nat) (vp : Value) (ys : List Fr), j ≤ q + 1 ∧ vi = .int .i64 j ∧ Dr w wr f (w.heap.size + 1) v4 (drp f gs) gp vp ys (.slice A8 i c8) gs 16 ∧ ys.countP f.same + j = q + 1 ∧ (ys.filter fun g => !f.same g) = (gs.filter fun g => !f.same g) ∧ ys.length ≤ 17) (fun vi _ => q + 1 - (intOf vi).toNat)
                case atStart => exact ⟨0, u10, ins f gs, Nat.zero_le _, rfl, HDA.out, by rw [ins_count, HN.out], ins_rest f gs, by rw [ins_len1]; have := HLL.out; omega⟩
                case round =>
                  clear HDA
                  obtain ⟨j, vp, ys, hj, rfl, hd, hcp, hfi, hyl⟩ := hrel
                  have HD := Lib.hid hd; have HCP := Lib.hid hcp; have HFI := Lib.hid hfi; have HYL := Lib.hid hyl
                  obtain ⟨c0, c1, c2, c3, c4, c5, c6, c7, c8', c9, c10, c11⟩ := hd.fb.bx
                  clear hd hcp hfi hyl
                  by_cases hle : j ≤ q
                  · have hle' : (j : Int) ≤ (q : Int) := by omega
                    have HE := Lib.hid (show dE f ys = 0 from dE_pos (by have := HCP.out; omega))
                    go_wp2_with fail
                    refine (drop_q (f := f) HD.out.p (by have := HYL.out; omega)).mono ?_
                    rintro e w11 ⟨u11, rfl, hp11, ht11⟩
                    rw [HE.out]
                    clear c0 c1 c2 c3 c4 c5 c6 c7 c8' c9 c10 c11
                    have HD5 := Lib.hid (HD.out.turnp hp11 ht11)
                    clear hp11 ht11
                    go_wp2
                    go_roundw
                    case rel => exact ⟨j + 1, u11, drp f ys, by omega, by go_num, HD5.out, by rw [drp_count]; have := HCP.out; omega, by rw [drp_rest]; exact HFI.out, by have h1 := drp_le f ys; have h2 := HYL.out; omega⟩
                    case measure => simp [intOf]; omega
                  · have hle' : ¬ ((j : Int) ≤ (q : Int)) := by omega
                    have HC0 := Lib.hid (show ys.countP f.same = 0 by have := HCP.out; omega)
                    have HYS := Lib.hid (show ys = gs.filter fun g => !f.same g from by rw [← HFI.out, rest_all HC0.out])
                    have HFN := Lib.hid (Fown.nil wr wr.heap.size (Nat.le_refl _))
                    have HBN := Lib.hid (show Below wr.heap.size wr (wr.alloc (.cells #[] 34)) from (Below.refl _ _).alloc (Nat.le_refl _) _)
                    clear c0 c1 c2 c3 c4 c5 c6 c7 c8' c9 c10 c11
                    rename World => wS
                    go_wp2
                    go_loopw [17, 18] (fun vv vi wx => ∃ (t : Nat) (v9 : Value), t ≤ i ∧ vv = v9 ∧ vi = .int .i64 t ∧ Fown wx wS.heap.size v9 ((gs.take t).filter fun g => !f.same g) ∧ Below wS.heap.size wS wx) (fun _ vi _ => i - (intOf vi).toNat)
                    case atStart => exact ⟨0, _, Nat.zero_le _, rfl, rfl, HFN.out, HBN.out⟩
                    case round =>
                      clear HFN HBN
                      obtain ⟨t, v9, ht, hvv, rfl, hv9, hbt⟩ := hrel
                      replace hvv := hvv.symm
                      subst hvv
                      have HV9 := Lib.hid hv9; have HBT := Lib.hid hbt
                      have HDX := Lib.hid (HD.out.next hbt)
                      obtain ⟨c0, c1, c2, c3, c4, c5, c6, c7, c8', c9, c10, c11⟩ := HDX.out.fb.bx
                      clear hv9 hbt
                      by_cases hlt : t < i
                      · have hlt' : (t : Int) < (i : Int) := by omega
                        have HLT := Lib.hid (show t < gs.length by rw [HL.out]; exact hlt)
                        obtain ⟨x, hx⟩ : ∃ x, gs.getD t Fr.zero = x := ⟨_, rfl⟩
                        have HX := Lib.hid hx
                        obtain ⟨ad8, hA8, -, -⟩ := HDX.out.ur.fl2.at_ hlt
                        have hrow := HDX.out.ur
                        rw [hA8] at hrow
                        obtain ⟨d0, d1, d2, d3, d4, d5, d6, d7, d8, d9, d10, d11⟩ := hrow.fl2.el hlt hx
                        have hfe := fun W => fneq x f W
                        clear hx hrow
                        subst hA8
                        cases hs : f.same x
                        · have HS := Lib.hid (show f.same (gs.getD t Fr.zero) = false from by rw [HX.out]; exact hs)
                          rw [same_comm, hs] at hfe
                          have HV := Lib.hid (show ∀ m, Fown ((wr.drewN m).alloc (.cells x.cells 34)) wS.heap.size v9 _ from fun m => Fown.alloc (w := wr.drewN m) HV9.out _)
                          have HS1 := Lib.hid (show ∀ m, Fs ((wr.drewN m).alloc (.cells x.cells 34)) (some ⟨wr.heap.size, 0, none⟩) 1 [x] from fun m => by
                            have h := fs_lit (wr.drewN m) [x]
                            rw [fcs_one_] at h
                            exact h)
                          have HBM := Lib.hid (show ∀ m, Below wS.heap.size wS ((wr.drewN m).alloc (.cells x.cells 34)) from fun m => (belowN HBT.out m).alloc HBT.out.size _)
                          have HLN := Lib.hid (show ((gs.take t).filter fun g => !f.same g).length ≤ 16 from by
                            have h1 := List.length_filter_le (fun g => !f.same g) (gs.take t)
                            rw [List.length_take] at h1
                            have := HLL.out
                            omega)
                          clear hs
                          go_wp2
                          go_quiet (fail)
                          go_wp2_with (first | (at_builtin; refine append_F _ (by rfl) _ _ rfl wS.heap.size _ _ rfl (HV.out _) _ _ _ [x] rfl (HS1.out _) (by have := HLN.out; omega) (HBM.out _).size ?_; intro v' w' h1 h2 h3; have HR1 := Lib.hid (And.intro h1 ((HBM.out _).grown h2 (HBM.out _).size HV9.out.row)); clear h1 h2 h3) | fail)
                          go_wp2
                          go_roundw
                          case rel => exact ⟨t + 1, _, by omega, rfl, by go_num, by rw [filt_no HLT.out HS.out, HX.out]; exact HR1.out.1, HR1.out.2⟩
                          case measure => simp [intOf]; omega
                        · have HS := Lib.hid (show f.same (gs.getD t Fr.zero) = true from by rw [HX.out]; exact hs)
                          rw [same_comm, hs] at hfe
                          clear hs
                          go_wp2
                          go_quiet (fail)
                          go_wp2
                          go_roundw
                          case rel => exact ⟨t + 1, _, by omega, rfl, by go_num, by rw [filt_yes HLT.out HS.out]; exact HV9.out, belowN HBT.out _⟩
                          case measure => simp [intOf]; omega
                      · have HRW := Lib.hid (show Fown wr wS.heap.size v9 (gs.filter fun g => !f.same g) from by
                          have h := HV9.out
                          rwa [List.take_of_length_le (by rw [HL.out]; omega)] at h)
                        have HSP := Lib.hid (show Sep v9 vp from (sep_new HD.out.p.own HRW.out.row).symm)
                        have HE := Lib.hid (show dE f ys = 16 from dE_none HC0.out)
                        have HDN := Lib.hid (show drp f ys = (gs.filter fun g => !f.same g) from by
                          rw [← HYS.out]
                          exact List.eraseP_of_forall_not fun g hg => List.countP_eq_zero.1 HC0.out g hg)
                        clear HV9 HD
                        go_wp2_with fail
                        refine (drop_q (f := f) HDX.out.p (by have := HYL.out; omega)).mono ?_
                        rintro e w11 ⟨u11, rfl, hp11, ht11⟩
                        rw [HE.out]
                        clear c0 c1 c2 c3 c4 c5 c6 c7 c8' c9 c10 c11
                        have HR2 := Lib.hid (ht11.row HDX.out.p.q HRW.out HSP.out).1
                        have HD5 := Lib.hid (HDX.out.turnp hp11 ht11)
                        clear hp11 ht11 HDX HRW HSP
                        go_wp2_with fail
                        refine (all_q HD5.out.p (by have h1 := drp_le f ys; have h2 := HYL.out; omega)).mono ?_
                        rintro e w12 ⟨u12, rfl, hu12, hb12⟩
                        rw [HDN.out] at hu12
                        have HU12 := Lib.hid hu12; have HR3 := Lib.hid (HR2.out.below hb12); have HD6 := Lib.hid (HD5.out.next hb12)
                        clear hu12 hb12 HR2 HD5
                        go_wp2_with fail
                        refine (same_self HU12.out HR3.out (by have h1 := List.length_filter_le (fun g => !f.same g) gs; have h2 := HLL.out; omega)).mono ?_
                        rintro e w13 ⟨rfl, hb13⟩
                        have HB13 := Lib.hid (nxt HD6.out.bel hb13)
                        clear hb13
                        go_wp2_with fail
                        refine (awake9 _).mono ?_
                        rintro e w14 ⟨rfl, hb14⟩
                        have HF := Lib.hid (nxt HB13.out hb14)
                        clear hb14
                        go_wp2
                        go_ret
                        exact ⟨rfl, HF.out⟩
          · have HQZ := Lib.hid (show q = 0 from by rw [← HN.out]; exact cn_zero he0)
            obtain rfl : q = 0 := HQZ.out
            rw [he0]
            have HDD := Lib.hid hd0
            clear hfd he0 hd0
            go_wp2_with fail
            refine (all_q HD4.out.q (by have h1 := drp_le f gs; have := HLL.out; omega)).mono ?_
            rintro e w5 ⟨u5, rfl, hu5, hb5⟩
            rw [HDD.out] at hu5
            have HD5 := Lib.hid (HD4.out.next hb5); have HU5 := Lib.hid hu5
            clear hu5 hb5 HD4
            go_wp2_with fail
            refine (same_self HU5.out HD5.out.ur (by have := HLL.out; omega)).mono ?_
            rintro e w6 ⟨rfl, hb6⟩
            have HD6 := Lib.hid (HD5.out.next hb6)
            clear hb6 HD5 HU5
            obtain ⟨c0, c1, c2, c3, c4, c5, c6, c7, c8', c9, c10, c11⟩ := HD6.out.fb.bx
            go_wp2_with fail
            refine (put_q (f := f) HD6.out.p HOK.out (by have := HLL.out; omega) HD6.out.size).mono ?_
            rintro e w10 ⟨u10, rfl, hp10, ht10⟩
            clear c0 c1 c2 c3 c4 c5 c6 c7 c8' c9 c10 c11
            have HDA := Lib.hid (HD6.out.turnp hp10 ht10)
            clear hp10 ht10 HD6
            cases hmay : f.may
            · have HPE := Lib.hid (show pE 16 f gs = 14 from by unfold pE; rw [if_pos hmay])
              have HPL := Lib.hid (show pL 16 f gs = gs from by unfold pL; rw [if_pos (.inl hmay)])
              rw [HPL.out] at HDA
              rw [HPE.out]
              go_wp2_with fail
              refine (all_q HDA.out.p (by have := HLL.out; omega)).mono ?_
              rintro e w11 ⟨u11, rfl, hu11, hb11⟩
              have HDB := Lib.hid (HDA.out.next hb11); have HU11 := Lib.hid hu11
              clear hu11 hb11 HDA
              go_wp2_with fail
              refine (same_self HU11.out HDB.out.ur (by have := HLL.out; omega)).mono ?_
              rintro e w12 ⟨rfl, hb12⟩
              have HBC := Lib.hid (nxt HDB.out.bel hb12)
              clear hb12 HDB HU11
              go_wp2_with fail
              refine (awake9 _).mono ?_
              rintro e w13 ⟨rfl, hb13⟩
              have HF := Lib.hid (nxt HBC.out hb13)
              clear hb13
              go_wp2
              go_ret
              exact ⟨rfl, HF.out⟩
            · by_cases hful : (16 : Int) ≤ (gs.length : Int)
              · have HPE := Lib.hid (show pE 16 f gs = 15 from by unfold pE; rw [if_neg (by rw [hmay]; simp), if_pos hful])
                have HPL := Lib.hid (show pL 16 f gs = gs from by unfold pL; rw [if_pos (.inr hful)])
                rw [HPL.out] at HDA
                rw [HPE.out]
                obtain rfl : i = 16 := by have := HL.out; omega
                go_wp2_with fail
                refine (all_q HDA.out.p (by have := HLL.out; omega)).mono ?_
                rintro e w11 ⟨u11, rfl, hu11, hb11⟩
                have HDB := Lib.hid (HDA.out.next hb11); have HU11 := Lib.hid hu11
                clear hu11 hb11 HDA
                go_wp2_with fail
                refine (same_self HU11.out HDB.out.ur (by have := HLL.out; omega)).mono ?_
                rintro e w12 ⟨rfl, hb12⟩
                have HBC := Lib.hid (nxt HDB.out.bel hb12)
                clear hb12 HDB HU11
                go_wp2_with fail
                refine (awake9 _).mono ?_
                rintro e w13 ⟨rfl, hb13⟩
                have HF := Lib.hid (nxt HBC.out hb13)
                clear hb13
                go_wp2
                go_ret
                exact ⟨rfl, HF.out⟩
              · have HPE := Lib.hid (show pE 16 f gs = 0 from by unfold pE; rw [if_neg (by rw [hmay]; simp), if_neg hful])
                have HPL := Lib.hid (show pL 16 f gs = ins f gs from by unfold pL; rw [if_neg (by rw [hmay]; simpa using hful)])
                rw [HPL.out] at HDA
                rw [HPE.out]
                clear hmay hful
                go_wp2
                go_loopw [16] (fun vi wr => ∃ (j : Nat) (vp : Value) (ys : List Fr), j ≤ 0 + 1 ∧ vi = .int .i64 j ∧ Dr w wr f (w.heap.size + 1) v4 (drp f gs) gp vp ys (.slice A8 i c8) gs 16 ∧ ys.countP f.same + j = 0 + 1 ∧ (ys.filter fun g => !f.same g) = (gs.filter fun g => !f.same g) ∧ ys.length ≤ 17) (fun vi _ => 0 + 1 - (intOf vi).toNat)
                case atStart => exact ⟨0, u10, ins f gs, Nat.zero_le _, rfl, HDA.out, by rw [ins_count, HN.out], ins_rest f gs, by rw [ins_len1]; have := HLL.out; omega⟩
                case round =>
                  clear HDA
                  obtain ⟨j, vp, ys, hj, rfl, hd, hcp, hfi, hyl⟩ := hrel
                  have HD := Lib.hid hd; have HCP := Lib.hid hcp; have HFI := Lib.hid hfi; have HYL := Lib.hid hyl
                  obtain ⟨c0, c1, c2, c3, c4, c5, c6, c7, c8', c9, c10, c11⟩ := hd.fb.bx
                  clear hd hcp hfi hyl
                  by_cases hle : j ≤ 0
                  · obtain rfl : j = 0 := by omega
                    have HE := Lib.hid (show dE f ys = 0 from dE_pos (by have := HCP.out; omega))
                    go_wp2_with fail
                    refine (drop_q (f := f) HD.out.p (by have := HYL.out; omega)).mono ?_
                    rintro e w11 ⟨u11, rfl, hp11, ht11⟩
                    rw [HE.out]
                    clear c0 c1 c2 c3 c4 c5 c6 c7 c8' c9 c10 c11
                    have HD5 := Lib.hid (HD.out.turnp hp11 ht11)
                    clear hp11 ht11
                    go_wp2
                    go_roundw
                    case rel => exact ⟨0 + 1, u11, drp f ys, by omega, by go_num, HD5.out, by rw [drp_count]; have := HCP.out; omega, by rw [drp_rest]; exact HFI.out, by have h1 := drp_le f ys; have h2 := HYL.out; omega⟩
                    case measure => first | (simp [intOf]; done) | (simp [intOf]; omega)
                  · have hle' : ¬ ((j : Int) ≤ (0 : Int)) := (by omega); have hle2 : ¬ (j = 0) := (by omega)
                    have HC0 := Lib.hid (show ys.countP f.same = 0 by have := HCP.out; omega)
                    have HYS := Lib.hid (show ys = gs.filter fun g => !f.same g from by rw [← HFI.out, rest_all HC0.out])
                    have HFN := Lib.hid (Fown.nil wr wr.heap.size (Nat.le_refl _))
                    have HBN := Lib.hid (show Below wr.heap.size wr (wr.alloc (.cells #[] 34)) from (Below.refl _ _).alloc (Nat.le_refl _) _)
                    clear c0 c1 c2 c3 c4 c5 c6 c7 c8' c9 c10 c11
                    rename World => wS
                    go_wp2
                    go_loopw [17, 18] (fun vv vi wx => ∃ (t : Nat) (v9 : Value), t ≤ i ∧ vv = v9 ∧ vi = .int .i64 t ∧ Fown wx wS.heap.size v9 ((gs.take t).filter fun g => !f.same g) ∧ Below wS.heap.size wS wx) (fun _ vi _ => i - (intOf vi).toNat)
                    case atStart => exact ⟨0, _, Nat.zero_le _, rfl, rfl, HFN.out, HBN.out⟩
                    case round =>
                      clear HFN HBN
                      obtain ⟨t, v9, ht, hvv, rfl, hv9, hbt⟩ := hrel
                      replace hvv := hvv.symm
                      subst hvv
                      have HV9 := Lib.hid hv9; have HBT := Lib.hid hbt
                      have HDX := Lib.hid (HD.out.next hbt)
                      obtain ⟨c0, c1, c2, c3, c4, c5, c6, c7, c8', c9, c10, c11⟩ := HDX.out.fb.bx
                      clear hv9 hbt
                      by_cases hlt : t < i
                      · have hlt' : (t : Int) < (i : Int) := by omega
                        have HLT := Lib.hid (show t < gs.length by rw [HL.out]; exact hlt)
                        obtain ⟨x, hx⟩ : ∃ x, gs.getD t Fr.zero = x := ⟨_, rfl⟩
                        have HX := Lib.hid hx
                        obtain ⟨ad8, hA8, -, -⟩ := HDX.out.ur.fl2.at_ hlt
                        have hrow := HDX.out.ur
                        rw [hA8] at hrow
                        obtain ⟨d0, d1, d2, d3, d4, d5, d6, d7, d8, d9, d10, d11⟩ := hrow.fl2.el hlt hx
                        have hfe := fun W => fneq x f W
                        clear hx hrow
                        subst hA8
                        cases hs : f.same x
                        · have HS := Lib.hid (show f.same (gs.getD t Fr.zero) = false from by rw [HX.out]; exact hs)
                          rw [same_comm, hs] at hfe
                          have HV := Lib.hid (show ∀ m, Fown ((wr.drewN m).alloc (.cells x.cells 34)) wS.heap.size v9 _ from fun m => Fown.alloc (w := wr.drewN m) HV9.out _)
                          have HS1 := Lib.hid (show ∀ m, Fs ((wr.drewN m).alloc (.cells x.cells 34)) (some ⟨wr.heap.size, 0, none⟩) 1 [x] from fun m => by
                            have h := fs_lit (wr.drewN m) [x]
                            rw [fcs_one_] at h
                            exact h)
                          have HBM := Lib.hid (show ∀ m, Below wS.heap.size wS ((wr.drewN m).alloc (.cells x.cells 34)) from fun m => (belowN HBT.out m).alloc HBT.out.size _)
                          have HLN := Lib.hid (show ((gs.take t).filter fun g => !f.same g).length ≤ 16 from by
                            have h1 := List.length_filter_le (fun g => !f.same g) (gs.take t)
                            rw [List.length_take] at h1
                            have := HLL.out
                            omega)
                          clear hs
                          go_wp2
                          go_quiet (fail)
                          go_wp2_with (first | (at_builtin; refine append_F _ (by rfl) _ _ rfl wS.heap.size _ _ rfl (HV.out _) _ _ _ [x] rfl (HS1.out _) (by have := HLN.out; omega) (HBM.out _).size ?_; intro v' w' h1 h2 h3; have HR1 := Lib.hid (And.intro h1 ((HBM.out _).grown h2 (HBM.out _).size HV9.out.row)); clear h1 h2 h3) | fail)
                          go_wp2
                          go_roundw
                          case rel => exact ⟨t + 1, _, by omega, rfl, by go_num, by rw [filt_no HLT.out HS.out, HX.out]; exact HR1.out.1, HR1.out.2⟩
                          case measure => simp [intOf]; omega
                        · have HS := Lib.hid (show f.same (gs.getD t Fr.zero) = true from by rw [HX.out]; exact hs)
                          rw [same_comm, hs] at hfe
                          clear hs
                          go_wp2
                          go_quiet (fail)
                          go_wp2
                          go_roundw
                          case rel => exact ⟨t + 1, _, by omega, rfl, by go_num, by rw [filt_yes HLT.out HS.out]; exact HV9.out, belowN HBT.out _⟩
                          case measure => simp [intOf]; omega
                      · have HRW := Lib.hid (show Fown wr wS.heap.size v9 (gs.filter fun g => !f.same g) from by
                          have h := HV9.out
                          rwa [List.take_of_length_le (by rw [HL.out]; omega)] at h)
                        have HSP := Lib.hid (show Sep v9 vp from (sep_new HD.out.p.own HRW.out.row).symm)
                        have HE := Lib.hid (show dE f ys = 16 from dE_none HC0.out)
                        have HDN := Lib.hid (show drp f ys = (gs.filter fun g => !f.same g) from by
                          rw [← HYS.out]
                          exact List.eraseP_of_forall_not fun g hg => List.countP_eq_zero.1 HC0.out g hg)
                        clear HV9 HD
                        go_wp2_with fail
                        refine (drop_q (f := f) HDX.out.p (by have := HYL.out; omega)).mono ?_
                        rintro e w11 ⟨u11, rfl, hp11, ht11⟩
                        rw [HE.out]
                        clear c0 c1 c2 c3 c4 c5 c6 c7 c8' c9 c10 c11
                        have HR2 := Lib.hid (ht11.row HDX.out.p.q HRW.out HSP.out).1
                        have HD5 := Lib.hid (HDX.out.turnp hp11 ht11)
                        clear hp11 ht11 HDX HRW HSP
                        go_wp2_with fail
                        refine (all_q HD5.out.p (by have h1 := drp_le f ys; have h2 := HYL.out; omega)).mono ?_
                        rintro e w12 ⟨u12, rfl, hu12, hb12⟩
                        rw [HDN.out] at hu12
                        have HU12 := Lib.hid hu12; have HR3 := Lib.hid (HR2.out.below hb12); have HD6 := Lib.hid (HD5.out.next hb12)
                        clear hu12 hb12 HR2 HD5
                        go_wp2_with fail
                        refine (same_self HU12.out HR3.out (by have h1 := List.length_filter_le (fun g => !f.same g) gs; have h2 := HLL.out; omega)).mono ?_
                        rintro e w13 ⟨rfl, hb13⟩
                        have HB13 := Lib.hid (nxt HD6.out.bel hb13)
                        clear hb13
                        go_wp2_with fail
                        refine (awake9 _).mono ?_
                        rintro e w14 ⟨rfl, hb14⟩
                        have HF := Lib.hid (nxt HB13.out hb14)
                        clear hb14
                        go_wp2
                        go_ret
                        exact ⟨rfl, HF.out⟩
theorem qdrops_any (f : Fr) (ac : Nat → Bool × Fr) (A : Option Addr) (n c : Nat) (w : World) (hA : Al w A n ac) :
    Calls Try.prog 5 #[.slice A n c, f.val] w fun e w' => e = .returned (.bool true) ∧ Below w.heap.size w w' := by
  rcases Nat.lt_or_ge 60 n with h | h
  · exact qdrops_out f A n c w h
  · exact qdrops_in f ac A n c w hA h
end Go.Proofs.Ytldhnbohpnkcpaa
