/- The reference of layer 4: Frame, of what is a long frame; and whole. -/
import Derived.Test.YtffhhegpkejdgaaX613
import Derived.Test.YtffhhegpkejdgaaX68
namespace Go.Proofs.Ytffhhegpkejdgaa
open Go.RowKit

set_option maxRecDepth 100000 in
set_option maxHeartbeats 6400000 in
theorem rframe_true (ad : Addr) (n cap : Nat) (zs : List Int) (w : World) (hr : Il w (some ad) n zs) (hn : n ≤ 100000) (hcap : n ≤ cap) (hl : ∀ z ∈ zs, lvl z = true) (hx : one zs 13 = true)
    (h1 : 39 ≤ n) (h2 : ahead zs ≤ n) (h0 : one zs 0 = false) :
    Calls Try.prog 33 #[.slice (some ad) n cap] w fun e w' => e = .returned (.tuple #[(frm zs).val, .int .i64 0]) ∧ Below w.heap.size w w' := by
  have HR := Lib.hid hr; have HL := Lib.hid hl; have HN := Lib.hid hn; have HZ := Lib.hid hr.1
  have HX := Lib.hid (show hEx zs = true from hx)
  have HE := Lib.hid (show hEnd (hEx zs) = 39 by rw [HX.out]; rfl)
  obtain ⟨ad', z, e, hz, hc0⟩ := hr.at_ (show 0 < n by omega)
  injection e with e
  subst e
  have hz01 : z = 0 := by
    rw [one_at hz] at h0
    rcases all_at hl hz with h | h
    · exact h
    · subst h; simp at h0
  subst hz01
  rw [at_zero] at hc0
  obtain ⟨_, z12, e, hz12, hc12⟩ := hr.at_ (show 12 < n by omega)
  injection e with e
  subst e
  obtain ⟨_, z13, e, hz13, hc13⟩ := hr.at_ (show 13 < n by omega)
  injection e with e
  subst e
  rw [add_pos ad (by omega)] at hc12 hc13
  have hx13 : (z13 == 1) = true := by rw [one_at hz13] at hx; exact hx
  have HC0 := Lib.hid hc0; have HC12 := Lib.hid hc12; have HC13 := Lib.hid hc13
  obtain ⟨_, z32, e, hz32, hc32⟩ := hr.at_ (show 32 < n by omega)
  injection e with e
  subst e
  rw [add_pos ad (by omega)] at hc32
  have HC32 := Lib.hid hc32
  have HRT := Lib.hid (show hRt zs = (z32 == 1) by unfold hRt; rw [HX.out]; exact one_at hz32)
  have hv2 := val_k (all_cut hl 14 18) (cutL_len (zs := zs) (a := 14) (n := 18) (by rw [HZ.out]; omega))
  obtain ⟨v2, hvv2⟩ : ∃ v2, val (cutL zs 14 18) = v2 := ⟨_, rfl⟩
  rw [hvv2] at hv2
  have HV2 := Lib.hid hvv2
  clear hz32 hc32 hvv2
  obtain ⟨m, hm8, hm⟩ := hDat_8 zs
  have HA := Lib.hid (show ahead zs = 39 + 8 * m by unfold ahead; rw [HE.out, hm8])
  have HAO := Lib.hid (show raout zs = ((39 + 8 * m : Nat) : Int) by unfold raout; rw [if_neg (by rw [HE.out, HZ.out]; omega), HA.out])
  rw [HA.out] at h2
  have HRW := Lib.hid (show nats (rW zs) = [1, 32, 6, 8 * (m : Int), 15, 1, 1, 1, 7] by rw [rW_full (by rw [HE.out, HZ.out]; omega)]; unfold hW; rw [HX.out, hm8]; simp [nats, wds, aW, cW])
  have HEM := Lib.hid (show hDat zs / 8 = m by rw [hm8]; omega)
  have HFR := Lib.hid (frk_zero zs)
  have hv1 := val_k (all_cut hl 1 11) (cutL_len (zs := zs) (a := 1) (n := 11) (by rw [HZ.out]; omega))
  obtain ⟨v1, hvv⟩ : ∃ v1, val (cutL zs 1 11) = v1 := ⟨_, rfl⟩
  rw [hvv] at hv1
  have HV := Lib.hid hvv
  have HS := Lib.hid (hLn_far (zs := zs) (by rw [HE.out, HZ.out]; omega))
  rw [HX.out, show hEnd true - 4 = 35 from rfl] at HS
  have hv4 := val_4 (all_cut HL.out 35 4) (cutL_len (by rw [HZ.out]; omega))
  obtain ⟨v4, hv40⟩ : ∃ v, val (cutL zs 35 4) = v := ⟨_, rfl⟩
  rw [hv40] at hv4 HS
  have HV4 := Lib.hid hv40
  have hblk : ad.block < w.heap.size := by obtain ⟨a, e, hl, _⟩ := hr.2 (by omega); injection e with e; subst e; exact hl
  clear hr hl h0 hz hc0 hm8 hz12 hz13 hc12 hc13 hvv hx hv40
  have A0 := Lib.hid (fb_new w Fr.zero)
  go_enter Try.func33, Try.ntmps33
  go_wp2_with fail
  refine (rahead_ok _ _ _ _ _ (HR.out.below ((Below.refl _ _).alloc (Nat.le_refl _) _)) hn hcap HL.out).mono ?_
  rintro e w1 ⟨rfl, hb1⟩
  rw [HAO.out]
  have hbw1 := nxt ((Below.refl w.heap.size w).alloc (Nat.le_refl _) (.cells Fr.zero.cells 24)) hb1
  have B0 := Lib.hid (A0.out.below hb1 (by simp))
  have hc1 : w1.cell? ad = some (.int .i64 0) := (hbw1.cell hblk).trans HC0.out
  have HBW1 := Lib.hid hbw1
  have hlw : w.heap.size < w1.heap.size := by have := hb1.size; simp at this; omega
  clear hb1 A0 hbw1
  go_wp2_with fail
  refine (rwid_ok _ _ _ _ _ (HR.out.below HBW1.out) HN.out hcap HL.out).mono ?_
  rintro e w2 ⟨A2, c2, rfl, hi2, hb2⟩
  rw [HRW.out] at hi2 ⊢
  have C0 := Lib.hid (B0.out.below hb2 hlw)
  have HBW2 := Lib.hid (nxt HBW1.out hb2)
  have hlw2 : w.heap.size < w2.heap.size := by have := hb2.size; omega
  have HI2 := Lib.hid hi2
  obtain ⟨ad2, rfl, hb2k, -⟩ := HI2.out.2 (by simp)
  have hc12 : w2.cell? ⟨ad.block, ad.off + 12, none⟩ = some (.int .i64 z12) := (HBW2.out.cell (p := ⟨ad.block, ad.off + 12, none⟩) hblk).trans HC12.out
  have hc13 : w2.cell? ⟨ad.block, ad.off + 13, none⟩ = some (.int .i64 z13) := (HBW2.out.cell (p := ⟨ad.block, ad.off + 13, none⟩) hblk).trans HC13.out
  have i12 : (12 : Int) ≤ (cap : Int) := by omega
  have i13 : (13 : Int) < (n : Int) := by omega
  have j12 : (12 : Int) < (n : Int) := by omega
  have i1 : ¬ cap = 1 := by omega
  have HIC := Lib.hid ((HR.out.below HBW2.out).cut 1 11 (by omega))
  rw [add_pos ad (by omega)] at HIC
  clear hb2 B0 HBW1 hc1 hi2
  go_upto_region 7 with fail
  go_cut [6] (fun s6 wx => s6 = .pointer (some ⟨w2.heap.size, 0, none⟩) ∧ wx = (w2.alloc (.cells (Fr.cells ⟨(v1 : Int), true, (z12 == 1), 0, fun _ => 0⟩) 24)).drew)
  case first =>
    have HC1 := Lib.hid (show ((w2.alloc (.cells Fr.zero.cells 24)).drew).cell? ⟨ad.block, ad.off + 12, none⟩ = some (.int .i64 z12) ∧ ((w2.alloc (.cells Fr.zero.cells 24)).drew).cell? ⟨ad.block, ad.off + 13, none⟩ = some (.int .i64 z13) from
      ⟨((below_drew ((Below.refl _ _).alloc (Nat.le_refl _) _)).cell (p := ⟨ad.block, ad.off + 12, none⟩) (Nat.lt_trans hblk hlw2)).trans hc12, ((below_drew ((Below.refl _ _).alloc (Nat.le_refl _) _)).cell (p := ⟨ad.block, ad.off + 13, none⟩) (Nat.lt_trans hblk hlw2)).trans hc13⟩)
    have HC2 := Lib.hid (show ((w2.alloc (.cells (Fr.cells ⟨(v1 : Int), true, (z12 == 1), 0, fun _ => 0⟩) 24)).drew).cell? ⟨ad.block, ad.off + 12, none⟩ = some (.int .i64 z12) ∧ ((w2.alloc (.cells (Fr.cells ⟨(v1 : Int), true, (z12 == 1), 0, fun _ => 0⟩) 24)).drew).cell? ⟨ad.block, ad.off + 13, none⟩ = some (.int .i64 z13) from
      ⟨((below_drew ((Below.refl _ _).alloc (Nat.le_refl _) _)).cell (p := ⟨ad.block, ad.off + 12, none⟩) (Nat.lt_trans hblk hlw2)).trans hc12, ((below_drew ((Below.refl _ _).alloc (Nat.le_refl _) _)).cell (p := ⟨ad.block, ad.off + 13, none⟩) (Nat.lt_trans hblk hlw2)).trans hc13⟩)
    have HIA := Lib.hid (HIC.out.below (below_drew ((Below.refl _ _).alloc (Nat.le_refl _) (.cells Fr.zero.cells 24))))
    have HID := Lib.hid (HIC.out.below (below_drew (Below.refl _ _)))
    refine wp_region_held_drew (S := fun w' => w'.cell? ⟨ad.block, ad.off + 12, none⟩ = some (.int .i64 z12) ∧ w'.cell? ⟨ad.block, ad.off + 13, none⟩ = some (.int .i64 z13)) (by kernel_rfl) ⟨hc12, hc13⟩ (fun hHeld => ?_)
    refine takeH (i := 0) (v := .slice (some ad) n cap) rfl (by kernel_rfl) (by kernel_rfl) (by kernel_rfl) (fun _ _ _ h => h) (Or.inl ⟨by rfl, fun w hSw => ?_⟩) hHeld ?_
    · (obtain ⟨d12, d13⟩ := hSw; go_simp)
    simp only [Act.put, List.setIfInBounds_toArray, List.set_cons_zero, List.set_cons_succ]
    refine takeH (i := 1) (v := .slice (some ⟨ad.block, ad.off + 1, none⟩) 11 (cap - 1)) rfl (by kernel_rfl) (by kernel_rfl) (by kernel_rfl) (fun _ _ _ h => h) (Or.inl ⟨by rfl, fun w hSw => ?_⟩) hHeld ?_
    · (obtain ⟨d12, d13⟩ := hSw; go_simp)
    simp only [Act.put, List.setIfInBounds_toArray, List.set_cons_zero, List.set_cons_succ]
    refine takeH (i := 3) (v := .slice (some ad) n cap) rfl (by kernel_rfl) (by kernel_rfl) (by kernel_rfl) (fun _ _ _ h => h) (Or.inl ⟨by rfl, fun w hSw => ?_⟩) hHeld ?_
    · (obtain ⟨d12, d13⟩ := hSw; go_simp)
    simp only [Act.put, List.setIfInBounds_toArray, List.set_cons_zero, List.set_cons_succ]
    refine takeH (i := 4) (v := .pointer (some ⟨ad.block, ad.off + 13, none⟩)) rfl (by kernel_rfl) (by kernel_rfl) (by kernel_rfl) (fun _ _ _ h => h) (Or.inl ⟨by rfl, fun w hSw => ?_⟩) hHeld ?_
    · (obtain ⟨d12, d13⟩ := hSw; go_simp)
    simp only [Act.put, List.setIfInBounds_toArray, List.set_cons_zero, List.set_cons_succ]
    refine takeH (i := 5) (v := .int .i64 z13) rfl (by kernel_rfl) (by kernel_rfl) (by kernel_rfl) (fun _ _ _ h => h) (Or.inl ⟨by rfl, fun w hSw => ?_⟩) hHeld ?_
    · (obtain ⟨d12, d13⟩ := hSw; go_simp)
    simp only [Act.put, List.setIfInBounds_toArray, List.set_cons_zero, List.set_cons_succ]
    refine takeH (i := 6) (v := .bool true) rfl (by kernel_rfl) (by kernel_rfl) (by kernel_rfl) (fun _ _ _ h => h) (Or.inl ⟨by rfl, fun w hSw => ?_⟩) hHeld ?_
    · (obtain ⟨d12, d13⟩ := hSw; go_simp)
    simp only [Act.put, List.setIfInBounds_toArray, List.set_cons_zero, List.set_cons_succ]
    refine takeH (i := 7) (v := .slice (some ad) n cap) rfl (by kernel_rfl) (by kernel_rfl) (by kernel_rfl) (fun _ _ _ h => h) (Or.inl ⟨by rfl, fun w hSw => ?_⟩) hHeld ?_
    · (obtain ⟨d12, d13⟩ := hSw; go_simp)
    simp only [Act.put, List.setIfInBounds_toArray, List.set_cons_zero, List.set_cons_succ]
    refine takeH (i := 8) (v := .pointer (some ⟨ad.block, ad.off + 12, none⟩)) rfl (by kernel_rfl) (by kernel_rfl) (by kernel_rfl) (fun _ _ _ h => h) (Or.inl ⟨by rfl, fun w hSw => ?_⟩) hHeld ?_
    · (obtain ⟨d12, d13⟩ := hSw; go_simp)
    simp only [Act.put, List.setIfInBounds_toArray, List.set_cons_zero, List.set_cons_succ]
    refine takeH (i := 9) (v := .int .i64 z12) rfl (by kernel_rfl) (by kernel_rfl) (by kernel_rfl) (fun _ _ _ h => h) (Or.inl ⟨by rfl, fun w hSw => ?_⟩) hHeld ?_
    · (obtain ⟨d12, d13⟩ := hSw; go_simp)
    simp only [Act.put, List.setIfInBounds_toArray, List.set_cons_zero, List.set_cons_succ]
    refine takeH (i := 10) (v := .bool (z12 == 1)) rfl (by kernel_rfl) (by kernel_rfl) (by kernel_rfl) (fun _ _ _ h => h) (Or.inl ⟨by rfl, fun w hSw => ?_⟩) hHeld ?_
    · (obtain ⟨d12, d13⟩ := hSw; go_simp)
    simp only [Act.put, List.setIfInBounds_toArray, List.set_cons_zero, List.set_cons_succ]
    refine wpAnyH_ready (rs := [2, 12]) (by kernel_rfl) (by simp) ?_
    refine AllReadyH.cons rfl (fun K hK => ?_) (AllReadyH.cons rfl (fun K hK => ?_) AllReadyH.nil)
    · skip
      go_simp
      refine (rv4_ok _ 11 _ _ _ HID.out (by omega) (all_cut HL.out 1 11)).mono ?_
      rintro e w3 ⟨rfl, rfl⟩
      rw [HV.out]
      dsimp only
      refine hK.out _ _ ⟨hc12, hc13⟩ (fun hHeld => ?_)
      clear hK K
      try simp only [Act.put, List.setIfInBounds_toArray, List.set_cons_zero, List.set_cons_succ]
      refine takeH (i := 11) (v := Fr.val ⟨(v1 : Int), true, (z12 == 1), 0, fun _ => 0⟩) rfl (by kernel_rfl) (by kernel_rfl) (by kernel_rfl) (fun _ _ _ h => h) (Or.inl ⟨by rfl, fun w hSw => ?_⟩) hHeld ?_
      · (obtain ⟨d12, d13⟩ := hSw; go_simp)
      simp only [Act.put, List.setIfInBounds_toArray, List.set_cons_zero, List.set_cons_succ]
      refine wpAnyH_ready (rs := [12]) (by kernel_rfl) (by simp) ?_
      refine AllReadyH.cons rfl (fun K hK => ?_) AllReadyH.nil
      go_simp
      refine hK.out _ _ HC1.out (fun hHeld => ?_)
      clear hK K
      try simp only [Act.put, List.setIfInBounds_toArray, List.set_cons_zero, List.set_cons_succ]
      refine wpAnyH_ready (rs := [13]) (by kernel_rfl) (by simp) ?_
      refine AllReadyH.cons rfl (fun K hK => ?_) AllReadyH.nil
      go_simp
      refine hK.out _ _ HC2.out (fun hHeld => ?_)
      clear hK K
      try simp only [Act.put, List.setIfInBounds_toArray, List.set_cons_zero, List.set_cons_succ]
      refine wpAnyH_done (by kernel_rfl) ?_ _
      clear hHeld
      go_wp2_with fail
      go_meet
      exact ⟨rfl, rfl⟩
    · go_simp
      refine hK.out _ _ HC1.out (fun hHeld => ?_)
      clear hK K
      try simp only [Act.put, List.setIfInBounds_toArray, List.set_cons_zero, List.set_cons_succ]
      refine wpAnyH_ready (rs := [2]) (by kernel_rfl) (by simp) ?_
      refine AllReadyH.cons rfl (fun K hK => ?_) AllReadyH.nil
      go_simp
      refine (rv4_ok _ 11 _ _ _ HIA.out (by omega) (all_cut HL.out 1 11)).mono ?_
      rintro e w3 ⟨rfl, rfl⟩
      rw [HV.out]
      dsimp only
      refine hK.out _ _ HC1.out (fun hHeld => ?_)
      clear hK K
      try simp only [Act.put, List.setIfInBounds_toArray, List.set_cons_zero, List.set_cons_succ]
      refine takeH (i := 11) (v := Fr.val ⟨(v1 : Int), true, (z12 == 1), 0, fun _ => 0⟩) rfl (by kernel_rfl) (by kernel_rfl) (by kernel_rfl) (fun _ _ _ h => h) (Or.inl ⟨by rfl, fun w hSw => ?_⟩) hHeld ?_
      · (obtain ⟨d12, d13⟩ := hSw; go_simp)
      simp only [Act.put, List.setIfInBounds_toArray, List.set_cons_zero, List.set_cons_succ]
      refine wpAnyH_ready (rs := [13]) (by kernel_rfl) (by simp) ?_
      refine AllReadyH.cons rfl (fun K hK => ?_) AllReadyH.nil
      go_simp
      refine hK.out _ _ HC2.out (fun hHeld => ?_)
      clear hK K
      try simp only [Act.put, List.setIfInBounds_toArray, List.set_cons_zero, List.set_cons_succ]
      refine wpAnyH_done (by kernel_rfl) ?_ _
      clear hHeld
      go_wp2_with fail
      go_meet
      exact ⟨rfl, rfl⟩
  case rest =>
    obtain ⟨rfl, rfl⟩ := hcut
    clear HIC hc12 hc13
    have F1 := Lib.hid (show Fb (w2.alloc (.cells (Fr.cells ⟨(v1 : Int), true, (z12 == 1), 0, fun _ => 0⟩) 24)).drew w2.heap.size ⟨(v1 : Int), true, (z12 == 1), 0, fun _ => 0⟩ from fb_new w2 _)
    have F2 := Lib.hid (show Below w2.heap.size w2 (w2.alloc (.cells (Fr.cells ⟨(v1 : Int), true, (z12 == 1), 0, fun _ => 0⟩) 24)).drew from below_drew ((Below.refl _ _).alloc (Nat.le_refl _) _))
    generalize (w2.alloc (.cells (Fr.cells ⟨(v1 : Int), true, (z12 == 1), 0, fun _ => 0⟩) 24)).drew = wd at *
    obtain ⟨_, y0, e, hy0, k0⟩ := HI2.out.at_ (show 0 < 9 by omega)
    injection e with e; subst e
    obtain ⟨_, y1, e, hy1, k1⟩ := HI2.out.at_ (show 1 < 9 by omega)
    injection e with e; subst e
    obtain ⟨_, y2, e, hy2, k2⟩ := HI2.out.at_ (show 2 < 9 by omega)
    injection e with e; subst e
    obtain ⟨_, y3, e, hy3, k3⟩ := HI2.out.at_ (show 3 < 9 by omega)
    injection e with e; subst e
    simp only [List.getElem?_cons_zero, List.getElem?_cons_succ, Option.some.injEq] at hy0 hy1 hy2 hy3
    subst hy0 hy1 hy2 hy3
    rw [at_zero] at k0
    rw [add_pos ad2 (by omega)] at k1 k2 k3
    have K0 := Lib.hid k0; have K1 := Lib.hid k1; have K2 := Lib.hid k2; have K3 := Lib.hid k3
    clear k0 k1 k2 k3
    obtain ⟨u, hu⟩ : ∃ u, v1 * 262144 + v2 = u := ⟨_, rfl⟩
    have HU := Lib.hid (show fid zs = u by rw [fid_long HX.out, HV.out, HV2.out, hu])
    have hub : u < 536870912 := by omega
    have HUE := Lib.hid (show 262144 * (v1 : Int) + (v2 : Int) = (u : Int) by omega)
    have HRR := HRT
    obtain ⟨r, hr0⟩ : ∃ r, (z32 == 1) = r := ⟨_, rfl⟩
    rw [hr0] at HRT
    have E1 := Lib.hid (show Fb (World.drew wd) w2.heap.size ⟨(v1 : Int), true, (z12 == 1), 0, fun _ => 0⟩ from F1.out.below (below_drew (Below.refl _ _)) F1.out.lt)
    have E2 := Lib.hid (below_drew F2.out)
    obtain ⟨b0, b1, b2, b3, b4, b5, b6, b7, b8, b9, b10, b11⟩ := F1.out.bx
    clear hu HRR
    go_wp2_with fail
    clear b0 b1 b2 b3 b4 b5 b6 b7 b8 b9 b10 b11
    refine wp_region_still_tail 8 (by kernel_rfl) (by kernel_rfl) ?_
    simp only [List.take_succ_cons, List.take_zero, List.drop_succ_cons, List.drop_zero]
    change wpStill Try.prog _ (World.drew wd) _ _ _
    obtain ⟨wf, hwf⟩ : ∃ wf, World.drew wd = wf := ⟨_, rfl⟩
    rw [hwf] at E1 E2 ⊢
    have HWF := Lib.hid hwf
    clear hwf
    have fy := fun i => E1.out.frozen i
    obtain ⟨b0, b1, b2, b3, b4, b5, b6, b7, b8, b9, b10, b11⟩ := E1.out.bx
    have j1 : (32 : Int) ≤ (cap : Int) := by omega
    have j2 : ¬ cap = 14 := by omega
    repeat still_step
    still_call ((rv4_ok _ 18 _ _ _ ((HR.out.below (HBW2.out.trans (E2.out.mono (Nat.le_of_lt hlw2)))).cut 14 18 (by omega)) (by omega) (all_cut HL.out 14 18)).mono fun e w'' h => ⟨h.1, h.2.symm⟩)
    rw [HV2.out]
    repeat still_step
    refine wpStill_nil ?_
    change wpList Try.prog _ _ _ _ (World.drew wd)
    rw [HWF.out]
    go_upto_region 10 with fail
    clear F1 F2 HWF
    clear b0 b1 b2 b3 b4 b5 b6 b7 b8 b9 b10 b11 fy
    have P1 := Lib.hid (E1.out.setId (262144 * (v1 : Int) + (v2 : Int)))
    have P2 := Lib.hid (E2.out.setCell (p := ⟨w2.heap.size, 0, none⟩) (Nat.le_refl _) (.int .i64 (262144 * (v1 : Int) + (v2 : Int))))
    generalize wf.setCell ⟨w2.heap.size, 0, none⟩ (.int .i64 (262144 * (v1 : Int) + (v2 : Int))) = wg at *
    rw [HUE.out] at P1
    have fy := fun i => P1.out.frozen i
    obtain ⟨b0, b1, b2, b3, b4, b5, b6, b7, b8, b9, b10, b11⟩ := P1.out.bx
    have l32 := ((HBW2.out.trans (P2.out.mono (Nat.le_of_lt hlw2))).cell (p := ⟨ad.block, ad.off + 32, none⟩) hblk).trans HC32.out
    have i32 : (32 : Int) < (n : Int) := by omega
    go_upto_region 11 with fail
    clear b0 b1 b2 b3 b4 b5 b6 b7 b8 b9 b10 b11 fy E1 E2 l32 hr0
    have F1 := Lib.hid (P1.out.setRtr r)
    have F2 := Lib.hid (P2.out.setCell (p := ⟨w2.heap.size, 2, none⟩) (Nat.le_refl _) (.bool r))
    clear P1 P2
    generalize wg.setCell ⟨w2.heap.size, 2, none⟩ (.bool r) = wd at *
    have l0 := (F2.out.cell (p := ad2) hb2k).trans K0.out
    have l1 := (F2.out.cell (p := ⟨ad2.block, ad2.off + 1, none⟩) hb2k).trans K1.out
    have l2 := (F2.out.cell (p := ⟨ad2.block, ad2.off + 2, none⟩) hb2k).trans K2.out
    obtain ⟨b0, b1, b2, b3, b4, b5, b6, b7, b8, b9, b10, b11⟩ := F1.out.bx
    go_quiet (fail)
    generalize IntKind.i64.wrap (IntKind.i64.wrap (262144 * (v1 : Int)) + (v2 : Int)) = q2
    generalize IntKind.i64.wrap (262144 * (v1 : Int)) = q1
    have G1 := Lib.hid (F1.out.below (belowN (Below.refl _ _) nq) F1.out.lt)
    have G2 := Lib.hid (belowN F2.out nq)
    generalize wd.drewN nq = we at *
    clear F1 F2 l0 l1 l2 b0 b1 b2 b3 b4 b5 b6 b7 b8 b9 b10 b11
    have HI4 := Lib.hid ((HR.out.below (HBW2.out.trans (G2.out.mono (Nat.le_of_lt hlw2)))).cut 35 4 (by omega))
    rw [add_pos ad (by omega)] at HI4
    have fy := fun i => G1.out.frozen i
    obtain ⟨b0, b1, b2, b3, b4, b5, b6, b7, b8, b9, b10, b11⟩ := G1.out.bx
    have i19 : (39 : Int) ≤ (cap : Int) := by omega
    go_wp2_with fail
    refine (rv4_ok _ 4 _ _ _ HI4.out (by omega) (all_cut HL.out 35 4)).mono ?_
    rintro e w' ⟨rfl, rfl⟩
    rw [HV4.out]
    by_cases h8 : v4 > 8
    · have HLL := Lib.hid (show hLn zs = 8 by rw [HS.out]; omega)
      have M1 := Lib.hid ((G1.out.setLen (v4 : Int)).setLen 8)
      have M2 := Lib.hid ((G2.out.setCell (p := ⟨w2.heap.size, 3, none⟩) (Nat.le_refl _) (.int .i64 (v4 : Int))).setCell (p := ⟨w2.heap.size, 3, none⟩) (Nat.le_refl _) (.int .i64 8))
      have HD0 := Lib.hid (show frk zs 0 = ⟨(u : Int), true, r, (8 : Nat), fun _ => 0⟩ by rw [HFR.out, HU.out, HX.out, HRT.out, HLL.out])
      have HFL := Lib.hid (show ∀ k, (frk zs k).id = (u : Int) ∧ (frk zs k).ext = true ∧ (frk zs k).rtr = r ∧ (frk zs k).len = ((8 : Nat) : Int) from fun k => ⟨by show (fid zs : Int) = _; rw [HU.out], HX.out, HRT.out, by show (hLn zs : Int) = _; rw [HLL.out]⟩)
      go_wp2
      generalize decide (8 < (v4 : Int)) = bb
      go_loopw [8] (fun i wr => ∃ k : Nat, k ≤ m ∧ i = .int .i64 k ∧ Fb wr w2.heap.size (frk zs k) ∧ Below w2.heap.size w2 wr) (fun i _ => m - (intOf i).toNat)
      case atStart => exact ⟨0, Nat.zero_le _, rfl, by rw [HD0.out]; exact M1.out, M2.out⟩
      case round =>
        obtain ⟨k, hk, rfl, hfb, hbel⟩ := hrel
        clear h8 hx13
        obtain ⟨f1, f2, f3, f4⟩ := HFL.out k
        have HFB := Lib.hid hfb; have HF1 := Lib.hid f1; have HF2 := Lib.hid f2; have HF3 := Lib.hid f3; have HF4 := Lib.hid f4
        have hz := C0.out.below hbel hlw2
        have hbw := HBW2.out.trans (hbel.mono (Nat.le_of_lt hlw2))
        have l3 := (hbel.cell (p := ⟨ad2.block, ad2.off + 3, none⟩) hb2k).trans K3.out
        have fz := fun i => hz.frozen i
        have fy := fun i => hfb.frozen i
        clear b0 b1 b2 b3 b4 b5 b6 b7 b8 b9 b10 b11
        obtain ⟨c0, c1, c2, c3, c4, c5, c6, c7, c8, c9, c10, c11⟩ := hz.bx
        obtain ⟨b0, b1, b2, b3, b4, b5, b6, b7, b8, b9, b10, b11⟩ := hfb.bx
        rw [f1] at b0; rw [f2] at b1; rw [f3] at b2; rw [f4] at b3
        clear hz hfb f1 f2 f3 f4
        have hdiv : (8 * (m : Int)).tdiv 8 = (m : Int) := Int.mul_tdiv_cancel_left _ (by omega)
        by_cases hlt : k < m
        · have HI := Lib.hid ((HR.out.below hbw).cut (39 + 8 * k) 8 (by omega))
          have hb8 := val_k (all_cut HL.out (39 + 8 * k) 8) (cutL_len (zs := zs) (a := 39 + 8 * k) (n := 8) (by rw [HZ.out]; omega))
          have HBY := Lib.hid (show byt zs k = val (cutL zs (39 + 8 * k) 8) by unfold byt; rw [HE.out, Nat.mul_comm k 8])
          obtain ⟨v, hv0⟩ : ∃ v, val (cutL zs (39 + 8 * k) 8) = v := ⟨_, rfl⟩
          rw [hv0] at hb8 HBY
          have HV0 := Lib.hid hv0
          clear hv0
          have HST := Lib.hid (frk_step zs k)
          rw [HBY.out] at HST
          have dcell := HFB.out.bx.data k (by omega)
          generalize (frk zs k).d k = y at dcell
          have i3 : (39 : Int) + 8 * (k : Int) + 8 ≤ (cap : Int) := by omega
          have i4 : (k : Int) < 8 := by omega
          have i5 : (v : Int) < 256 := by omega
          have i6 : ¬ cap = 39 + 8 * k := by omega
          go_wp2_with fail
          refine (rv4_ok _ 8 _ _ _ HI.out (by omega) (all_cut HL.out _ _)).mono ?_
          rintro e w' ⟨rfl, rfl⟩
          rw [HV0.out]
          go_wp2
          go_roundw
          case rel =>
            refine ⟨k + 1, by omega, by go_num, ?_, hbel.setCell (by simp) _⟩
            rw [← HST.out]; exact HFB.out.put k (by omega) _
          case measure => simp [intOf]; omega
        · have HKM := Lib.hid (show k = m by omega)
          go_wp2
          refine bodyPost_ret (v := .tuple #[(frk zs k).val, .int .i64 0]) (by rw [results_cell_tmp rfl]; go_simp; exact ⟨by rw [HF1.out], by rw [HF2.out], by rw [HF3.out], by rw [HF4.out]; rfl⟩) rfl ⟨by unfold frm; rw [HEM.out, ← HKM.out], ?_⟩
          exact set12 hbw (Nat.le_refl _) _ _ _ _ _ _ _ _ _ _ _ _
    · have HLL := Lib.hid (show hLn zs = v4 by rw [HS.out]; omega)
      have M1 := Lib.hid (G1.out.setLen (v4 : Int))
      have M2 := Lib.hid (G2.out.setCell (p := ⟨w2.heap.size, 3, none⟩) (Nat.le_refl _) (.int .i64 (v4 : Int)))
      have HD0 := Lib.hid (show frk zs 0 = ⟨(u : Int), true, r, (v4 : Nat), fun _ => 0⟩ by rw [HFR.out, HU.out, HX.out, HRT.out, HLL.out])
      have HFL := Lib.hid (show ∀ k, (frk zs k).id = (u : Int) ∧ (frk zs k).ext = true ∧ (frk zs k).rtr = r ∧ (frk zs k).len = ((v4 : Nat) : Int) from fun k => ⟨by show (fid zs : Int) = _; rw [HU.out], HX.out, HRT.out, by show (hLn zs : Int) = _; rw [HLL.out]⟩)
      go_wp2
      generalize decide (8 < (v4 : Int)) = bb
      go_loopw [8] (fun i wr => ∃ k : Nat, k ≤ m ∧ i = .int .i64 k ∧ Fb wr w2.heap.size (frk zs k) ∧ Below w2.heap.size w2 wr) (fun i _ => m - (intOf i).toNat)
      case atStart => exact ⟨0, Nat.zero_le _, rfl, by rw [HD0.out]; exact M1.out, M2.out⟩
      case round =>
        obtain ⟨k, hk, rfl, hfb, hbel⟩ := hrel
        clear h8 hx13
        obtain ⟨f1, f2, f3, f4⟩ := HFL.out k
        have HFB := Lib.hid hfb; have HF1 := Lib.hid f1; have HF2 := Lib.hid f2; have HF3 := Lib.hid f3; have HF4 := Lib.hid f4
        have hz := C0.out.below hbel hlw2
        have hbw := HBW2.out.trans (hbel.mono (Nat.le_of_lt hlw2))
        have l3 := (hbel.cell (p := ⟨ad2.block, ad2.off + 3, none⟩) hb2k).trans K3.out
        have fz := fun i => hz.frozen i
        have fy := fun i => hfb.frozen i
        clear b0 b1 b2 b3 b4 b5 b6 b7 b8 b9 b10 b11
        obtain ⟨c0, c1, c2, c3, c4, c5, c6, c7, c8, c9, c10, c11⟩ := hz.bx
        obtain ⟨b0, b1, b2, b3, b4, b5, b6, b7, b8, b9, b10, b11⟩ := hfb.bx
        rw [f1] at b0; rw [f2] at b1; rw [f3] at b2; rw [f4] at b3
        clear hz hfb f1 f2 f3 f4
        have hdiv : (8 * (m : Int)).tdiv 8 = (m : Int) := Int.mul_tdiv_cancel_left _ (by omega)
        by_cases hlt : k < m
        · have HI := Lib.hid ((HR.out.below hbw).cut (39 + 8 * k) 8 (by omega))
          have hb8 := val_k (all_cut HL.out (39 + 8 * k) 8) (cutL_len (zs := zs) (a := 39 + 8 * k) (n := 8) (by rw [HZ.out]; omega))
          have HBY := Lib.hid (show byt zs k = val (cutL zs (39 + 8 * k) 8) by unfold byt; rw [HE.out, Nat.mul_comm k 8])
          obtain ⟨v, hv0⟩ : ∃ v, val (cutL zs (39 + 8 * k) 8) = v := ⟨_, rfl⟩
          rw [hv0] at hb8 HBY
          have HV0 := Lib.hid hv0
          clear hv0
          have HST := Lib.hid (frk_step zs k)
          rw [HBY.out] at HST
          have dcell := HFB.out.bx.data k (by omega)
          generalize (frk zs k).d k = y at dcell
          have i3 : (39 : Int) + 8 * (k : Int) + 8 ≤ (cap : Int) := by omega
          have i4 : (k : Int) < 8 := by omega
          have i5 : (v : Int) < 256 := by omega
          have i6 : ¬ cap = 39 + 8 * k := by omega
          go_wp2_with fail
          refine (rv4_ok _ 8 _ _ _ HI.out (by omega) (all_cut HL.out _ _)).mono ?_
          rintro e w' ⟨rfl, rfl⟩
          rw [HV0.out]
          go_wp2
          go_roundw
          case rel =>
            refine ⟨k + 1, by omega, by go_num, ?_, hbel.setCell (by simp) _⟩
            rw [← HST.out]; exact HFB.out.put k (by omega) _
          case measure => simp [intOf]; omega
        · have HKM := Lib.hid (show k = m by omega)
          go_wp2
          refine bodyPost_ret (v := .tuple #[(frk zs k).val, .int .i64 0]) (by rw [results_cell_tmp rfl]; go_simp; exact ⟨by rw [HF1.out], by rw [HF2.out], by rw [HF3.out], by rw [HF4.out]⟩) rfl ⟨by unfold frm; rw [HEM.out, ← HKM.out], ?_⟩
          exact set12 hbw (Nat.le_refl _) _ _ _ _ _ _ _ _ _ _ _ _

theorem rframe_any (A : Option Addr) (n cap : Nat) (zs : List Int) (w : World) (hr : Il w A n zs) (hn : n ≤ 100000) (hcap : n ≤ cap) (hl : ∀ z ∈ zs, lvl z = true) :
    Calls Try.prog 33 #[.slice A n cap] w fun e w' => e = .returned (fout zs) ∧ Below w.heap.size w w' := by
  unfold fout
  by_cases hs : zs.length < hEnd (hEx zs) ∨ zs.length < ahead zs
  · rw [if_pos hs]; exact rframe_short A n cap zs w hr hn hcap hl hs
  · rw [if_neg hs]
    have hz := hr.1
    have h1 : hEnd (hEx zs) ≤ n := by omega
    have h2 : ahead zs ≤ n := by omega
    have hpos : 0 < hEnd (hEx zs) := by cases hEx zs <;> decide
    obtain ⟨ad, rfl, _⟩ := hr.2 (by omega)
    cases h0 : one zs 0
    · simp only [Bool.false_eq_true, if_false]
      cases hx : one zs 13
      · have e : hEx zs = false := hx
        rw [e] at h1
        exact rframe_false ad n cap zs w hr hn hcap hl hx h1 h2 h0
      · have e : hEx zs = true := hx
        rw [e] at h1
        exact rframe_true ad n cap zs w hr hn hcap hl hx h1 h2 h0
    · simp only [if_true]
      exact rframe_form ad n cap zs w hr hn hcap hl h1 h2 h0
end Go.Proofs.Ytffhhegpkejdgaa

/- The contracts of the reference's Five and Add. -/
namespace Go.Proofs.Ytffhhegpkejdgaa
open Go.RowKit

theorem il_getD {w : World} {ad : Addr} {n k : Nat} {zs : List Int} (h : Il w (some ad) n zs) (hk : k < n) : w.cell? (ad.add k) = some (.int .i64 (zs.getD k 0)) := by
  obtain ⟨ad', e, _, hc⟩ := h.2 (by omega)
  injection e with e
  subst e
  exact hc k hk

set_option maxHeartbeats 800000 in
theorem five_any (A : Option Addr) (n cap : Nat) (zs : List Int) (w : World) (hr : Il w A n zs) (hn : n ≤ 100000) :
    Calls Try.prog 48 #[.slice A n cap] w (QuietBool (decide (5 ≤ alk zs)) w) := by
  by_cases h5 : n < 5
  · have e : decide (5 ≤ alk zs) = false := by have := (alk_spec zs).1; rw [hr.1] at this; simp; omega
    rw [e]
    go_enter Try.func48, Try.ntmps48
    go_wp2
    go_ret
    exact ⟨rfl, 0, rfl⟩
  · obtain ⟨m, rfl⟩ : ∃ m, n = m + 5 := ⟨n - 5, by omega⟩
    obtain ⟨ad, rfl, -, -⟩ := hr.2 (by omega)
    have HL := Lib.hid hr.1
    have HR := Lib.hid hr
    have hb := il_getD hr (k := m) (by omega)
    clear hr h5
    go_enter Try.func48, Try.ntmps48
    go_wp2
    go_loopw [4] (fun i wr => ∃ k q : Nat, m + 1 ≤ k ∧ k ≤ m + 5 ∧ i = .int .i64 k ∧ (∀ j, m + 1 ≤ j → j < k → zs.getD j 0 = zs.getD m 0) ∧ wr = w.drewN q) (fun i _ => m + 5 - (intOf i).toNat)
    case atStart => exact ⟨m + 1, 0, Nat.le_refl _, by omega, by go_num, fun j h1 h2 => by omega, rfl⟩
    case round =>
      obtain ⟨k, q, hk1, hk2, rfl, hall, rfl⟩ := hrel
      have HA := Lib.hid hall
      clear hall
      by_cases hlt : k < m + 5
      · have hc := il_getD HR.out hlt
        cases hxy : (zs.getD k 0 != zs.getD m 0)
        · generalize hx : zs.getD k 0 = x at *
          generalize hy : zs.getD m 0 = y at *
          have HX := Lib.hid hx; have HY := Lib.hid hy
          clear hx hy
          go_wp2
          go_quiet (fail)
          go_wp2
          go_roundw
          case rel =>
            refine ⟨k + 1, _, by omega, by omega, by go_num, fun j h1 h2 => ?_, rfl⟩
            rcases Nat.lt_or_ge j k with hj | hj
            · rw [HA.out j h1 hj]
            · rw [show j = k by omega, HX.out]; try simpa using hxy
          case measure => simp [intOf]; omega
        · have HF := Lib.hid (show decide (5 ≤ alk zs) = false from by
            simp
            rcases Nat.lt_or_ge (alk zs) 5 with h | h
            · exact h
            · obtain ⟨_, hf⟩ := five_yes h
              rw [hf k (by rw [HL.out]; omega) (by rw [HL.out]; omega), hf m (by rw [HL.out]; omega) (by rw [HL.out]; omega)] at hxy
              simp at hxy)
          generalize zs.getD k 0 = x at *
          generalize zs.getD m 0 = y at *
          go_wp2
          go_quiet (fail)
          go_wp2
          go_ret
          exact ⟨ret_bool HF.out.symm, _, World.drewN_drewN _ _ _⟩
      · have HF := Lib.hid (show decide (5 ≤ alk zs) = true from by
          simp
          rcases Nat.lt_or_ge (alk zs) 5 with h | h
          · obtain ⟨i, i1, i2, i3⟩ := five_no h (by rw [HL.out]; omega)
            rw [HL.out] at i1 i2 i3
            rw [Nat.add_sub_cancel] at i3
            exact absurd (HA.out i (by omega) (by omega)) i3
          · exact h)
        go_wp2
        go_ret
        exact ⟨ret_bool HF.out.symm, _, rfl⟩
theorem five_b (A : Option Addr) (n cap : Nat) (zs : List Int) (w : World) (hr : Il w A n zs) (hn : n ≤ 100000) :
    Calls Try.prog 48 #[.slice A n cap] w fun e w' => e = .returned (.bool (decide (5 ≤ alk zs))) ∧ Below w.heap.size w w' :=
  (five_any A n cap zs w hr hn).mono fun _ _ ⟨he, q, hq⟩ => ⟨he, by rw [hq]; exact belowN (Below.refl _ _) q⟩

set_option maxHeartbeats 400000 in
theorem radd_bad (A : Option Addr) (n cap : Nat) (zs : List Int) (w : World) (hr : Il w A n zs) (hn : n ≤ 10000) (hl : 0 ≤ chk zs) :
    Calls Try.prog 27 #[.slice A n cap] w (SlIn [] w) := by
  have HR := Lib.hid (hr.below ((Below.refl w.heap.size w).alloc (Nat.le_refl _) (.cells #[] 3)))
  clear hr
  go_enter Try.func27, Try.ntmps27
  go_wp2_with fail
  refine (rcheck_any _ _ _ _ _ HR.out (by omega)).mono ?_
  rintro e w' ⟨rfl, rfl⟩
  go_wp2
  go_ret
  exact ⟨_, _, rfl, ⟨rfl, fun h => by simp at h⟩, Nat.le_refl _, (Below.refl _ _).alloc (Nat.le_refl _) _⟩

set_option maxHeartbeats 800000 in
theorem radd_own (A : Option Addr) (n cap : Nat) (zs : List Int) (w : World) (hr : Il w A n zs) (hn : n ≤ 10000) (hl : ∀ z ∈ zs, lvl z = true) :
    Calls Try.prog 27 #[.slice A n cap] w fun e w' => ∃ v, e = .returned v ∧ Own w' w.heap.size v (stf zs) ∧ Below w.heap.size w w' := by
  have HC := Lib.hid (show chk zs = -1 from fst_of_all lvl zs hl)
  have HV := Lib.hid hl
  have HR := Lib.hid hr
  have HR1 := Lib.hid (hr.below ((Below.refl w.heap.size w).alloc (Nat.le_refl _) (.cells #[] 3)))
  have HO := Lib.hid (Own.lit w w.heap.size [] (Nat.le_refl _) (by simp))
  clear hl hr
  go_enter Try.func27, Try.ntmps27
  go_wp2_with fail
  refine (rcheck_any _ _ _ _ _ HR1.out (by omega)).mono ?_
  rintro e w' ⟨rfl, rfl⟩
  rw [HC.out]
  go_wp2
  go_loopw [3, 4] (fun v i wr => ∃ k : Nat, k ≤ n ∧ i = .int .i64 k ∧ Own wr w.heap.size v (stf (zs.take k)) ∧ Below w.heap.size w wr) (fun _ i _ => n - (intOf i).toNat)
  case atStart => exact ⟨0, Nat.zero_le _, rfl, HO.out, (Below.refl _ _).alloc (Nat.le_refl _) _⟩
  case round =>
    obtain ⟨k, hk, rfl, ho, hbel⟩ := hrel
    by_cases hlt : k < n
    · obtain ⟨ad, z, rfl, hz, hc⟩ := (HR.out.below hbel).at_ hlt
      have hz01 := lvl_01 (HV.out z (List.mem_of_getElem? hz))
      have HZ := Lib.hid hz
      have HS := Lib.hid (stf_step hz)
      have hol : (stf (zs.take k)).length ≤ 2 * k := by have := (stf_len (zs.take k)).2; rw [List.length_take] at this; omega
      have HAK := Lib.hid (alk_stf (zs.take k))
      have hsz := hbel.size
      have HO := Lib.hid ho
      have z1 : 0 ≤ z := by omega
      have z2 : z ≤ 1 := by omega
      clear hz ho hz01
      generalize stf (zs.take k) = o at *
      have HLEN := Lib.hid (show (o ++ [z]).length = o.length + 1 by simp)
      go_wp2_with (first | (at_builtin; (refine append_ints2 _ rfl (.tmp 16) (.tmp 21) rfl w.heap.size u3 o rfl (HO.out.alloc _) _ 1 1 [z] rfl (Arr.new wr .i64 3 [z]).il (by omega) (by simp; omega) ?_); intro v1 w1 ho1 hg1 hl1; have HO1 := Lib.hid ho1; have HB1 := Lib.hid (push_lit hbel hsz HO.out hg1); obtain ⟨A1, cap1, rfl, hi1⟩ := ho1.il; have HI1 := Lib.hid hi1; rw [HLEN.out] at HI1 HO1 ⊢; clear ho1 hg1 hl1 hi1) | fail)
      refine (five_b _ _ _ _ _ HI1.out (by omega)).mono ?_
      rintro e w2 ⟨rfl, hb2⟩
      have HO2 := Lib.hid (HO1.out.below hb2)
      have HB2 := Lib.hid (nxt HB1.out hb2)
      have hsz2 := HB2.out.size
      have HAU := Lib.hid (alk_up o z)
      have hc2 : w2.cell? (ad.add k) = some (.int .i64 z) := by
        obtain ⟨ad', z', e1, e2, e3⟩ := (HR.out.below HB2.out).at_ hlt
        injection e1 with e1
        rw [HZ.out] at e2
        injection e2 with e2
        rw [e1, e2]; exact e3
      clear hb2 hbel HI1 HO1 HB1 hc
      by_cases h5 : alk (o ++ [z]) = 5
      · have HS5 := Lib.hid (sput_five h5)
        rw [show decide (5 ≤ alk (o ++ [z])) = true from by simp; omega]
        clear h5
        go_wp2_with (first | (at_builtin; (refine append_ints2 _ rfl (.tmp 25) (.tmp 31) rfl w.heap.size (.slice A1 (o.length + 1) cap1) (o ++ [z]) rfl (HO2.out.alloc _) _ 1 1 [1 - z] rfl (Arr.new w2 .i64 3 [1 - z]).il (by simp; omega) (by simp; omega) ?_); intro v4 w4 ho4 hg4 hl4; have HO4 := Lib.hid ho4; have HB4 := Lib.hid (push_lit HB2.out hsz2 HO2.out hg4); clear ho4 hg4 hl4) | fail)
        go_roundw
        case rel => exact ⟨k + 1, by omega, by go_num, by rw [HS.out, HS5.out]; exact HO4.out, HB4.out⟩
        case measure => simp [intOf]; omega
      · have HS5 := Lib.hid (sput_else h5)
        rw [show decide (5 ≤ alk (o ++ [z])) = false from by have := HAK.out; have := HAU.out; simp; omega]
        clear h5
        go_wp2
        go_roundw
        case rel => exact ⟨k + 1, by omega, by go_num, by rw [HS.out, HS5.out]; exact HO2.out, HB2.out⟩
        case measure => simp [intOf]; omega
    · have HS := Lib.hid (show zs.take k = zs from List.take_of_length_le (by rw [HR.out.1]; omega))
      rw [HS.out] at ho
      have HO := Lib.hid ho
      clear ho
      go_wp2
      go_ret
      exact ⟨_, rfl, HO.out, hbel⟩
theorem radd_ok (A : Option Addr) (n cap : Nat) (zs : List Int) (w : World) (hr : Il w A n zs) (hn : n ≤ 10000) (hl : ∀ z ∈ zs, lvl z = true) :
    Calls Try.prog 27 #[.slice A n cap] w (SlIn (stf zs) w) :=
  (radd_own A n cap zs w hr hn hl).mono fun _ _ ⟨_, he, ho, hb⟩ => by
    obtain ⟨A', cap', rfl, hil, hcap⟩ := ho.il2
    exact ⟨A', cap', he, hil, hcap, hb⟩
end Go.Proofs.Ytffhhegpkejdgaa

/- The contract of the reference's Take. -/
namespace Go.Proofs.Ytffhhegpkejdgaa
open Go.RowKit

theorem lst_take {t : List Int} {k : Nat} (h : k + 1 ≤ t.length) : lst (t.take (k + 1)) = t.getD k 0 := by
  rw [take_snoc t k _ (getD_some t k (by omega)), lst_snoc]

end Go.Proofs.Ytffhhegpkejdgaa

