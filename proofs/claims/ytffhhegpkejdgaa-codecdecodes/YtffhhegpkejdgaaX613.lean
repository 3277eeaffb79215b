/- The reference of layer 4: Frame, of what is a frame. -/
import Derived.Test.YtffhhegpkejdgaaX612
import Derived.Deep.DeepCutAuto
namespace Go.Proofs.Ytffhhegpkejdgaa
open Go.RowKit

theorem Fb.setLen {w : World} {g : Nat} {f : Fr} (h : Fb w g f) (z : Int) : Fb (w.setCell ⟨g, 3, none⟩ (.int .i64 z)) g { f with len := z } := by
  unfold Fb at h ⊢
  have e : ({ f with len := z } : Fr).cells = f.cells.setIfInBounds 3 (.int .i64 z) := rfl
  rw [e]
  generalize f.cells = cs at *
  simp [World.setCell, Array.getElem?_modify, h]
theorem Fb.setRtr {w : World} {g : Nat} {f : Fr} (h : Fb w g f) (b : Bool) : Fb (w.setCell ⟨g, 2, none⟩ (.bool b)) g { f with rtr := b } := by
  unfold Fb at h ⊢
  have e : ({ f with rtr := b } : Fr).cells = f.cells.setIfInBounds 2 (.bool b) := rfl
  rw [e]
  generalize f.cells = cs at *
  simp [World.setCell, Array.getElem?_modify, h]

set_option maxRecDepth 100000 in
set_option maxHeartbeats 6400000 in
theorem rframe_false (ad : Addr) (n cap : Nat) (zs : List Int) (w : World) (hr : Il w (some ad) n zs) (hn : n ≤ 100000) (hcap : n ≤ cap) (hl : ∀ z ∈ zs, lvl z = true) (hx : one zs 13 = false)
    (h1 : 19 ≤ n) (h2 : ahead zs ≤ n) (h0 : one zs 0 = false) :
    Calls Try.prog 33 #[.slice (some ad) n cap] w fun e w' => e = .returned (.tuple #[(frm zs).val, .int .i64 0]) ∧ Below w.heap.size w w' := by
  have HR := Lib.hid hr; have HL := Lib.hid hl; have HN := Lib.hid hn; have HZ := Lib.hid hr.1
  have HX := Lib.hid (show hEx zs = false from hx)
  have HE := Lib.hid (show hEnd (hEx zs) = 19 by rw [HX.out]; rfl)
  obtain ⟨ad', z, e, hz, hc0⟩ := hr.at_ (show 0 < n by omega)
  injection e with e
  subst e
  have hz01 : z = 0 := by
    rw [one_at hz] at h0
    rcases all_at hl hz with h | h
    · exact h
    · subst h; simp at h0
  subst hz01
  rw [at_zero] at hc0
  obtain ⟨_, z12, e, hz12, hc12⟩ := hr.at_ (show 12 < n by omega)
  injection e with e
  subst e
  obtain ⟨_, z13, e, hz13, hc13⟩ := hr.at_ (show 13 < n by omega)
  injection e with e
  subst e
  rw [add_pos ad (by omega)] at hc12 hc13
  have hx13 : (z13 == 1) = false := by rw [one_at hz13] at hx; exact hx
  have HC0 := Lib.hid hc0; have HC12 := Lib.hid hc12; have HC13 := Lib.hid hc13
  have HRT := Lib.hid (show hRt zs = (z12 == 1) by unfold hRt; rw [HX.out]; exact one_at hz12)
  obtain ⟨m, hm8, hm⟩ := hDat_8 zs
  have HA := Lib.hid (show ahead zs = 19 + 8 * m by unfold ahead; rw [HE.out, hm8])
  have HAO := Lib.hid (show raout zs = ((19 + 8 * m : Nat) : Int) by unfold raout; rw [if_neg (by rw [HE.out, HZ.out]; omega), HA.out])
  rw [HA.out] at h2
  have HRW := Lib.hid (show nats (rW zs) = [1, 13, 5, 8 * (m : Int), 15, 1, 1, 1, 7] by rw [rW_full (by rw [HE.out, HZ.out]; omega)]; unfold hW; rw [HX.out, hm8]; simp [nats, wds, aW, cW])
  have HEM := Lib.hid (show hDat zs / 8 = m by rw [hm8]; omega)
  have HFR := Lib.hid (frk_zero zs)
  have hv1 := val_k (all_cut hl 1 11) (cutL_len (zs := zs) (a := 1) (n := 11) (by rw [HZ.out]; omega))
  obtain ⟨v1, hvv⟩ : ∃ v1, val (cutL zs 1 11) = v1 := ⟨_, rfl⟩
  rw [hvv] at hv1
  have HV := Lib.hid hvv
  have HS := Lib.hid (hLn_far (zs := zs) (by rw [HE.out, HZ.out]; omega))
  rw [HX.out, show hEnd false - 4 = 15 from rfl] at HS
  have hv4 := val_4 (all_cut HL.out 15 4) (cutL_len (by rw [HZ.out]; omega))
  obtain ⟨v4, hv40⟩ : ∃ v, val (cutL zs 15 4) = v := ⟨_, rfl⟩
  rw [hv40] at hv4 HS
  have HV4 := Lib.hid hv40
  have hblk : ad.block < w.heap.size := by obtain ⟨a, e, hl, _⟩ := hr.2 (by omega); injection e with e; subst e; exact hl
  clear hr hl h0 hz hc0 hm8 hz12 hz13 hc12 hc13 hvv hx hv40
  have A0 := Lib.hid (fb_new w Fr.zero)
  go_enter Try.func33, Try.ntmps33
  go_wp2_with fail
  refine (rahead_ok _ _ _ _ _ (HR.out.below ((Below.refl _ _).alloc (Nat.le_refl _) _)) hn hcap HL.out).mono ?_
  rintro e w1 ⟨rfl, hb1⟩
  rw [HAO.out]
  have hbw1 := nxt ((Below.refl w.heap.size w).alloc (Nat.le_refl _) (.cells Fr.zero.cells 24)) hb1
  have B0 := Lib.hid (A0.out.below hb1 (by simp))
  have hc1 : w1.cell? ad = some (.int .i64 0) := (hbw1.cell hblk).trans HC0.out
  have HBW1 := Lib.hid hbw1
  have hlw : w.heap.size < w1.heap.size := by have := hb1.size; simp at this; omega
  clear hb1 A0 hbw1
  go_wp2_with fail
  refine (rwid_ok _ _ _ _ _ (HR.out.below HBW1.out) HN.out hcap HL.out).mono ?_
  rintro e w2 ⟨A2, c2, rfl, hi2, hb2⟩
  rw [HRW.out] at hi2 ⊢
  have C0 := Lib.hid (B0.out.below hb2 hlw)
  have HBW2 := Lib.hid (nxt HBW1.out hb2)
  have hlw2 : w.heap.size < w2.heap.size := by have := hb2.size; omega
  have HI2 := Lib.hid hi2
  obtain ⟨ad2, rfl, hb2k, -⟩ := HI2.out.2 (by simp)
  have hc12 : w2.cell? ⟨ad.block, ad.off + 12, none⟩ = some (.int .i64 z12) := (HBW2.out.cell (p := ⟨ad.block, ad.off + 12, none⟩) hblk).trans HC12.out
  have hc13 : w2.cell? ⟨ad.block, ad.off + 13, none⟩ = some (.int .i64 z13) := (HBW2.out.cell (p := ⟨ad.block, ad.off + 13, none⟩) hblk).trans HC13.out
  have i12 : (12 : Int) ≤ (cap : Int) := by omega
  have i13 : (13 : Int) < (n : Int) := by omega
  have j12 : (12 : Int) < (n : Int) := by omega
  have i1 : ¬ cap = 1 := by omega
  have HIC := Lib.hid ((HR.out.below HBW2.out).cut 1 11 (by omega))
  rw [add_pos ad (by omega)] at HIC
  clear hb2 B0 HBW1 hc1 hi2
  go_upto_region 7 with fail
  go_cut [6] (fun s6 wx => s6 = .pointer (some ⟨w2.heap.size, 0, none⟩) ∧ wx = (w2.alloc (.cells (Fr.cells ⟨(v1 : Int), false, (z12 == 1), 0, fun _ => 0⟩) 24)).drew)
  case first =>
    have HC1 := Lib.hid (show ((w2.alloc (.cells Fr.zero.cells 24)).drew).cell? ⟨ad.block, ad.off + 12, none⟩ = some (.int .i64 z12) ∧ ((w2.alloc (.cells Fr.zero.cells 24)).drew).cell? ⟨ad.block, ad.off + 13, none⟩ = some (.int .i64 z13) from
      ⟨((below_drew ((Below.refl _ _).alloc (Nat.le_refl _) _)).cell (p := ⟨ad.block, ad.off + 12, none⟩) (Nat.lt_trans hblk hlw2)).trans hc12, ((below_drew ((Below.refl _ _).alloc (Nat.le_refl _) _)).cell (p := ⟨ad.block, ad.off + 13, none⟩) (Nat.lt_trans hblk hlw2)).trans hc13⟩)
    have HC2 := Lib.hid (show ((w2.alloc (.cells (Fr.cells ⟨(v1 : Int), false, (z12 == 1), 0, fun _ => 0⟩) 24)).drew).cell? ⟨ad.block, ad.off + 12, none⟩ = some (.int .i64 z12) ∧ ((w2.alloc (.cells (Fr.cells ⟨(v1 : Int), false, (z12 == 1), 0, fun _ => 0⟩) 24)).drew).cell? ⟨ad.block, ad.off + 13, none⟩ = some (.int .i64 z13) from
      ⟨((below_drew ((Below.refl _ _).alloc (Nat.le_refl _) _)).cell (p := ⟨ad.block, ad.off + 12, none⟩) (Nat.lt_trans hblk hlw2)).trans hc12, ((below_drew ((Below.refl _ _).alloc (Nat.le_refl _) _)).cell (p := ⟨ad.block, ad.off + 13, none⟩) (Nat.lt_trans hblk hlw2)).trans hc13⟩)
    have HIA := Lib.hid (HIC.out.below (below_drew ((Below.refl _ _).alloc (Nat.le_refl _) (.cells Fr.zero.cells 24))))
    have HID := Lib.hid (HIC.out.below (below_drew (Below.refl _ _)))
    refine wp_region_held_drew (S := fun w' => w'.cell? ⟨ad.block, ad.off + 12, none⟩ = some (.int .i64 z12) ∧ w'.cell? ⟨ad.block, ad.off + 13, none⟩ = some (.int .i64 z13)) (by kernel_rfl) ⟨hc12, hc13⟩ (fun hHeld => ?_)
    refine takeH (i := 0) (v := .slice (some ad) n cap) rfl (by kernel_rfl) (by kernel_rfl) (by kernel_rfl) (fun _ _ _ h => h) (Or.inl ⟨by rfl, fun w hSw => ?_⟩) hHeld ?_
    · (obtain ⟨d12, d13⟩ := hSw; go_simp)
    simp only [Act.put, List.setIfInBounds_toArray, List.set_cons_zero, List.set_cons_succ]
    refine takeH (i := 1) (v := .slice (some ⟨ad.block, ad.off + 1, none⟩) 11 (cap - 1)) rfl (by kernel_rfl) (by kernel_rfl) (by kernel_rfl) (fun _ _ _ h => h) (Or.inl ⟨by rfl, fun w hSw => ?_⟩) hHeld ?_
    · (obtain ⟨d12, d13⟩ := hSw; go_simp)
    simp only [Act.put, List.setIfInBounds_toArray, List.set_cons_zero, List.set_cons_succ]
    refine takeH (i := 3) (v := .slice (some ad) n cap) rfl (by kernel_rfl) (by kernel_rfl) (by kernel_rfl) (fun _ _ _ h => h) (Or.inl ⟨by rfl, fun w hSw => ?_⟩) hHeld ?_
    · (obtain ⟨d12, d13⟩ := hSw; go_simp)
    simp only [Act.put, List.setIfInBounds_toArray, List.set_cons_zero, List.set_cons_succ]
    refine takeH (i := 4) (v := .pointer (some ⟨ad.block, ad.off + 13, none⟩)) rfl (by kernel_rfl) (by kernel_rfl) (by kernel_rfl) (fun _ _ _ h => h) (Or.inl ⟨by rfl, fun w hSw => ?_⟩) hHeld ?_
    · (obtain ⟨d12, d13⟩ := hSw; go_simp)
    simp only [Act.put, List.setIfInBounds_toArray, List.set_cons_zero, List.set_cons_succ]
    refine takeH (i := 5) (v := .int .i64 z13) rfl (by kernel_rfl) (by kernel_rfl) (by kernel_rfl) (fun _ _ _ h => h) (Or.inl ⟨by rfl, fun w hSw => ?_⟩) hHeld ?_
    · (obtain ⟨d12, d13⟩ := hSw; go_simp)
    simp only [Act.put, List.setIfInBounds_toArray, List.set_cons_zero, List.set_cons_succ]
    refine takeH (i := 6) (v := .bool false) rfl (by kernel_rfl) (by kernel_rfl) (by kernel_rfl) (fun _ _ _ h => h) (Or.inl ⟨by rfl, fun w hSw => ?_⟩) hHeld ?_
    · (obtain ⟨d12, d13⟩ := hSw; go_simp)
    simp only [Act.put, List.setIfInBounds_toArray, List.set_cons_zero, List.set_cons_succ]
    refine takeH (i := 7) (v := .slice (some ad) n cap) rfl (by kernel_rfl) (by kernel_rfl) (by kernel_rfl) (fun _ _ _ h => h) (Or.inl ⟨by rfl, fun w hSw => ?_⟩) hHeld ?_
    · (obtain ⟨d12, d13⟩ := hSw; go_simp)
    simp only [Act.put, List.setIfInBounds_toArray, List.set_cons_zero, List.set_cons_succ]
    refine takeH (i := 8) (v := .pointer (some ⟨ad.block, ad.off + 12, none⟩)) rfl (by kernel_rfl) (by kernel_rfl) (by kernel_rfl) (fun _ _ _ h => h) (Or.inl ⟨by rfl, fun w hSw => ?_⟩) hHeld ?_
    · (obtain ⟨d12, d13⟩ := hSw; go_simp)
    simp only [Act.put, List.setIfInBounds_toArray, List.set_cons_zero, List.set_cons_succ]
    refine takeH (i := 9) (v := .int .i64 z12) rfl (by kernel_rfl) (by kernel_rfl) (by kernel_rfl) (fun _ _ _ h => h) (Or.inl ⟨by rfl, fun w hSw => ?_⟩) hHeld ?_
    · (obtain ⟨d12, d13⟩ := hSw; go_simp)
    simp only [Act.put, List.setIfInBounds_toArray, List.set_cons_zero, List.set_cons_succ]
    refine takeH (i := 10) (v := .bool (z12 == 1)) rfl (by kernel_rfl) (by kernel_rfl) (by kernel_rfl) (fun _ _ _ h => h) (Or.inl ⟨by rfl, fun w hSw => ?_⟩) hHeld ?_
    · (obtain ⟨d12, d13⟩ := hSw; go_simp)
    simp only [Act.put, List.setIfInBounds_toArray, List.set_cons_zero, List.set_cons_succ]
    refine wpAnyH_ready (rs := [2, 12]) (by kernel_rfl) (by simp) ?_
    refine AllReadyH.cons rfl (fun K hK => ?_) (AllReadyH.cons rfl (fun K hK => ?_) AllReadyH.nil)
    · skip
      go_simp
      refine (rv4_ok _ 11 _ _ _ HID.out (by omega) (all_cut HL.out 1 11)).mono ?_
      rintro e w3 ⟨rfl, rfl⟩
      rw [HV.out]
      dsimp only
      refine hK.out _ _ ⟨hc12, hc13⟩ (fun hHeld => ?_)
      clear hK K
      try simp only [Act.put, List.setIfInBounds_toArray, List.set_cons_zero, List.set_cons_succ]
      refine takeH (i := 11) (v := Fr.val ⟨(v1 : Int), false, (z12 == 1), 0, fun _ => 0⟩) rfl (by kernel_rfl) (by kernel_rfl) (by kernel_rfl) (fun _ _ _ h => h) (Or.inl ⟨by rfl, fun w hSw => ?_⟩) hHeld ?_
      · (obtain ⟨d12, d13⟩ := hSw; go_simp)
      simp only [Act.put, List.setIfInBounds_toArray, List.set_cons_zero, List.set_cons_succ]
      refine wpAnyH_ready (rs := [12]) (by kernel_rfl) (by simp) ?_
      refine AllReadyH.cons rfl (fun K hK => ?_) AllReadyH.nil
      go_simp
      refine hK.out _ _ HC1.out (fun hHeld => ?_)
      clear hK K
      try simp only [Act.put, List.setIfInBounds_toArray, List.set_cons_zero, List.set_cons_succ]
      refine wpAnyH_ready (rs := [13]) (by kernel_rfl) (by simp) ?_
      refine AllReadyH.cons rfl (fun K hK => ?_) AllReadyH.nil
      go_simp
      refine hK.out _ _ HC2.out (fun hHeld => ?_)
      clear hK K
      try simp only [Act.put, List.setIfInBounds_toArray, List.set_cons_zero, List.set_cons_succ]
      refine wpAnyH_done (by kernel_rfl) ?_ _
      clear hHeld
      go_wp2_with fail
      go_meet
      exact ⟨rfl, rfl⟩
    · go_simp
      refine hK.out _ _ HC1.out (fun hHeld => ?_)
      clear hK K
      try simp only [Act.put, List.setIfInBounds_toArray, List.set_cons_zero, List.set_cons_succ]
      refine wpAnyH_ready (rs := [2]) (by kernel_rfl) (by simp) ?_
      refine AllReadyH.cons rfl (fun K hK => ?_) AllReadyH.nil
      go_simp
      refine (rv4_ok _ 11 _ _ _ HIA.out (by omega) (all_cut HL.out 1 11)).mono ?_
      rintro e w3 ⟨rfl, rfl⟩
      rw [HV.out]
      dsimp only
      refine hK.out _ _ HC1.out (fun hHeld => ?_)
      clear hK K
      try simp only [Act.put, List.setIfInBounds_toArray, List.set_cons_zero, List.set_cons_succ]
      refine takeH (i := 11) (v := Fr.val ⟨(v1 : Int), false, (z12 == 1), 0, fun _ => 0⟩) rfl (by kernel_rfl) (by kernel_rfl) (by kernel_rfl) (fun _ _ _ h => h) (Or.inl ⟨by rfl, fun w hSw => ?_⟩) hHeld ?_
      · (obtain ⟨d12, d13⟩ := hSw; go_simp)
      simp only [Act.put, List.setIfInBounds_toArray, List.set_cons_zero, List.set_cons_succ]
      refine wpAnyH_ready (rs := [13]) (by kernel_rfl) (by simp) ?_
      refine AllReadyH.cons rfl (fun K hK => ?_) AllReadyH.nil
      go_simp
      refine hK.out _ _ HC2.out (fun hHeld => ?_)
      clear hK K
      try simp only [Act.put, List.setIfInBounds_toArray, List.set_cons_zero, List.set_cons_succ]
      refine wpAnyH_done (by kernel_rfl) ?_ _
      clear hHeld
      go_wp2_with fail
      go_meet
      exact ⟨rfl, rfl⟩
  case rest =>
    obtain ⟨rfl, rfl⟩ := hcut
    clear HIC hc12 hc13
    have F1 := Lib.hid (show Fb (w2.alloc (.cells (Fr.cells ⟨(v1 : Int), false, (z12 == 1), 0, fun _ => 0⟩) 24)).drew w2.heap.size ⟨(v1 : Int), false, (z12 == 1), 0, fun _ => 0⟩ from fb_new w2 _)
    have F2 := Lib.hid (show Below w2.heap.size w2 (w2.alloc (.cells (Fr.cells ⟨(v1 : Int), false, (z12 == 1), 0, fun _ => 0⟩) 24)).drew from below_drew ((Below.refl _ _).alloc (Nat.le_refl _) _))
    generalize (w2.alloc (.cells (Fr.cells ⟨(v1 : Int), false, (z12 == 1), 0, fun _ => 0⟩) 24)).drew = wd at *
    obtain ⟨_, y0, e, hy0, k0⟩ := HI2.out.at_ (show 0 < 9 by omega)
    injection e with e; subst e
    obtain ⟨_, y1, e, hy1, k1⟩ := HI2.out.at_ (show 1 < 9 by omega)
    injection e with e; subst e
    obtain ⟨_, y2, e, hy2, k2⟩ := HI2.out.at_ (show 2 < 9 by omega)
    injection e with e; subst e
    obtain ⟨_, y3, e, hy3, k3⟩ := HI2.out.at_ (show 3 < 9 by omega)
    injection e with e; subst e
    simp only [List.getElem?_cons_zero, List.getElem?_cons_succ, Option.some.injEq] at hy0 hy1 hy2 hy3
    subst hy0 hy1 hy2 hy3
    rw [at_zero] at k0
    rw [add_pos ad2 (by omega)] at k1 k2 k3
    have K0 := Lib.hid k0; have K1 := Lib.hid k1; have K2 := Lib.hid k2; have K3 := Lib.hid k3
    clear k0 k1 k2 k3
    obtain ⟨u, hu⟩ : ∃ u, v1 = u := ⟨_, rfl⟩
    have HU := Lib.hid (show fid zs = u by rw [fid_short HX.out, HV.out, hu])
    subst hu
    have hub : v1 < 536870912 := by omega
    obtain ⟨r, hr0⟩ : ∃ r, (z12 == 1) = r := ⟨_, rfl⟩
    rw [hr0] at F1 HRT
    have l0 := (F2.out.cell (p := ad2) hb2k).trans K0.out
    have l1 := (F2.out.cell (p := ⟨ad2.block, ad2.off + 1, none⟩) hb2k).trans K1.out
    have l2 := (F2.out.cell (p := ⟨ad2.block, ad2.off + 2, none⟩) hb2k).trans K2.out
    obtain ⟨b0, b1, b2, b3, b4, b5, b6, b7, b8, b9, b10, b11⟩ := F1.out.bx
    clear hr0
    go_wp2_with fail
    go_quiet (fail)
    have G1 := Lib.hid (F1.out.below (belowN (Below.refl _ _) nq) F1.out.lt)
    have G2 := Lib.hid (belowN F2.out nq)
    generalize wd.drewN nq = we at *
    clear F1 F2 l0 l1 l2 b0 b1 b2 b3 b4 b5 b6 b7 b8 b9 b10 b11
    have HI4 := Lib.hid ((HR.out.below (HBW2.out.trans (G2.out.mono (Nat.le_of_lt hlw2)))).cut 15 4 (by omega))
    rw [add_pos ad (by omega)] at HI4
    have fy := fun i => G1.out.frozen i
    obtain ⟨b0, b1, b2, b3, b4, b5, b6, b7, b8, b9, b10, b11⟩ := G1.out.bx
    have i19 : (19 : Int) ≤ (cap : Int) := by omega
    go_wp2_with fail
    refine (rv4_ok _ 4 _ _ _ HI4.out (by omega) (all_cut HL.out 15 4)).mono ?_
    rintro e w' ⟨rfl, rfl⟩
    rw [HV4.out]
    by_cases h8 : v4 > 8
    · have HLL := Lib.hid (show hLn zs = 8 by rw [HS.out]; omega)
      have M1 := Lib.hid ((G1.out.setLen (v4 : Int)).setLen 8)
      have M2 := Lib.hid ((G2.out.setCell (p := ⟨w2.heap.size, 3, none⟩) (Nat.le_refl _) (.int .i64 (v4 : Int))).setCell (p := ⟨w2.heap.size, 3, none⟩) (Nat.le_refl _) (.int .i64 8))
      have HD0 := Lib.hid (show frk zs 0 = ⟨(v1 : Int), false, r, (8 : Nat), fun _ => 0⟩ by rw [HFR.out, HU.out, HX.out, HRT.out, HLL.out])
      have HFL := Lib.hid (show ∀ k, (frk zs k).id = (v1 : Int) ∧ (frk zs k).ext = false ∧ (frk zs k).rtr = r ∧ (frk zs k).len = ((8 : Nat) : Int) from fun k => ⟨by show (fid zs : Int) = _; rw [HU.out], HX.out, HRT.out, by show (hLn zs : Int) = _; rw [HLL.out]⟩)
      go_wp2
      generalize decide (8 < (v4 : Int)) = bb
      go_loopw [8] (fun i wr => ∃ k : Nat, k ≤ m ∧ i = .int .i64 k ∧ Fb wr w2.heap.size (frk zs k) ∧ Below w2.heap.size w2 wr) (fun i _ => m - (intOf i).toNat)
      case atStart => exact ⟨0, Nat.zero_le _, rfl, by rw [HD0.out]; exact M1.out, M2.out⟩
      case round =>
        obtain ⟨k, hk, rfl, hfb, hbel⟩ := hrel
        clear h8 hx13
        obtain ⟨f1, f2, f3, f4⟩ := HFL.out k
        have HFB := Lib.hid hfb; have HF1 := Lib.hid f1; have HF2 := Lib.hid f2; have HF3 := Lib.hid f3; have HF4 := Lib.hid f4
        have hz := C0.out.below hbel hlw2
        have hbw := HBW2.out.trans (hbel.mono (Nat.le_of_lt hlw2))
        have l3 := (hbel.cell (p := ⟨ad2.block, ad2.off + 3, none⟩) hb2k).trans K3.out
        have fz := fun i => hz.frozen i
        have fy := fun i => hfb.frozen i
        clear b0 b1 b2 b3 b4 b5 b6 b7 b8 b9 b10 b11
        obtain ⟨c0, c1, c2, c3, c4, c5, c6, c7, c8, c9, c10, c11⟩ := hz.bx
        obtain ⟨b0, b1, b2, b3, b4, b5, b6, b7, b8, b9, b10, b11⟩ := hfb.bx
        rw [f1] at b0; rw [f2] at b1; rw [f3] at b2; rw [f4] at b3
        clear hz hfb f1 f2 f3 f4
        have hdiv : (8 * (m : Int)).tdiv 8 = (m : Int) := Int.mul_tdiv_cancel_left _ (by omega)
        by_cases hlt : k < m
        · have HI := Lib.hid ((HR.out.below hbw).cut (19 + 8 * k) 8 (by omega))
          have hb8 := val_k (all_cut HL.out (19 + 8 * k) 8) (cutL_len (zs := zs) (a := 19 + 8 * k) (n := 8) (by rw [HZ.out]; omega))
          have HBY := Lib.hid (show byt zs k = val (cutL zs (19 + 8 * k) 8) by unfold byt; rw [HE.out, Nat.mul_comm k 8])
          obtain ⟨v, hv0⟩ : ∃ v, val (cutL zs (19 + 8 * k) 8) = v := ⟨_, rfl⟩
          rw [hv0] at hb8 HBY
          have HV0 := Lib.hid hv0
          clear hv0
          have HST := Lib.hid (frk_step zs k)
          rw [HBY.out] at HST
          have dcell := HFB.out.bx.data k (by omega)
          generalize (frk zs k).d k = y at dcell
          have i3 : (19 : Int) + 8 * (k : Int) + 8 ≤ (cap : Int) := by omega
          have i4 : (k : Int) < 8 := by omega
          have i5 : (v : Int) < 256 := by omega
          have i6 : ¬ cap = 19 + 8 * k := by omega
          go_wp2_with fail
          refine (rv4_ok _ 8 _ _ _ HI.out (by omega) (all_cut HL.out _ _)).mono ?_
          rintro e w' ⟨rfl, rfl⟩
          rw [HV0.out]
          go_wp2
          go_roundw
          case rel =>
            refine ⟨k + 1, by omega, by go_num, ?_, hbel.setCell (by simp) _⟩
            rw [← HST.out]; exact HFB.out.put k (by omega) _
          case measure => simp [intOf]; omega
        · have HKM := Lib.hid (show k = m by omega)
          go_wp2
          refine bodyPost_ret (v := .tuple #[(frk zs k).val, .int .i64 0]) (by rw [results_cell_tmp rfl]; go_simp; exact ⟨by rw [HF1.out], by rw [HF2.out], by rw [HF3.out], by rw [HF4.out]; rfl⟩) rfl ⟨by unfold frm; rw [HEM.out, ← HKM.out], ?_⟩
          exact set12 hbw (Nat.le_refl _) _ _ _ _ _ _ _ _ _ _ _ _
    · have HLL := Lib.hid (show hLn zs = v4 by rw [HS.out]; omega)
      have M1 := Lib.hid (G1.out.setLen (v4 : Int))
      have M2 := Lib.hid (G2.out.setCell (p := ⟨w2.heap.size, 3, none⟩) (Nat.le_refl _) (.int .i64 (v4 : Int)))
      have HD0 := Lib.hid (show frk zs 0 = ⟨(v1 : Int), false, r, (v4 : Nat), fun _ => 0⟩ by rw [HFR.out, HU.out, HX.out, HRT.out, HLL.out])
      have HFL := Lib.hid (show ∀ k, (frk zs k).id = (v1 : Int) ∧ (frk zs k).ext = false ∧ (frk zs k).rtr = r ∧ (frk zs k).len = ((v4 : Nat) : Int) from fun k => ⟨by show (fid zs : Int) = _; rw [HU.out], HX.out, HRT.out, by show (hLn zs : Int) = _; rw [HLL.out]⟩)
      go_wp2
      generalize decide (8 < (v4 : Int)) = bb
      go_loopw [8] (fun i wr => ∃ k : Nat, k ≤ m ∧ i = .int .i64 k ∧ Fb wr w2.heap.size (frk zs k) ∧ Below w2.heap.size w2 wr) (fun i _ => m - (intOf i).toNat)
      case atStart => exact ⟨0, Nat.zero_le _, rfl, by rw [HD0.out]; exact M1.out, M2.out⟩
      case round =>
        obtain ⟨k, hk, rfl, hfb, hbel⟩ := hrel
        clear h8 hx13
        obtain ⟨f1, f2, f3, f4⟩ := HFL.out k
        have HFB := Lib.hid hfb; have HF1 := Lib.hid f1; have HF2 := Lib.hid f2; have HF3 := Lib.hid f3; have HF4 := Lib.hid f4
        have hz := C0.out.below hbel hlw2
        have hbw := HBW2.out.trans (hbel.mono (Nat.le_of_lt hlw2))
        have l3 := (hbel.cell (p := ⟨ad2.block, ad2.off + 3, none⟩) hb2k).trans K3.out
        have fz := fun i => hz.frozen i
        have fy := fun i => hfb.frozen i
        clear b0 b1 b2 b3 b4 b5 b6 b7 b8 b9 b10 b11
        obtain ⟨c0, c1, c2, c3, c4, c5, c6, c7, c8, c9, c10, c11⟩ := hz.bx
        obtain ⟨b0, b1, b2, b3, b4, b5, b6, b7, b8, b9, b10, b11⟩ := hfb.bx
        rw [f1] at b0; rw [f2] at b1; rw [f3] at b2; rw [f4] at b3
        clear hz hfb f1 f2 f3 f4
        have hdiv : (8 * (m : Int)).tdiv 8 = (m : Int) := Int.mul_tdiv_cancel_left _ (by omega)
        by_cases hlt : k < m
        · have HI := Lib.hid ((HR.out.below hbw).cut (19 + 8 * k) 8 (by omega))
          have hb8 := val_k (all_cut HL.out (19 + 8 * k) 8) (cutL_len (zs := zs) (a := 19 + 8 * k) (n := 8) (by rw [HZ.out]; omega))
          have HBY := Lib.hid (show byt zs k = val (cutL zs (19 + 8 * k) 8) by unfold byt; rw [HE.out, Nat.mul_comm k 8])
          obtain ⟨v, hv0⟩ : ∃ v, val (cutL zs (19 + 8 * k) 8) = v := ⟨_, rfl⟩
          rw [hv0] at hb8 HBY
          have HV0 := Lib.hid hv0
          clear hv0
          have HST := Lib.hid (frk_step zs k)
          rw [HBY.out] at HST
          have dcell := HFB.out.bx.data k (by omega)
          generalize (frk zs k).d k = y at dcell
          have i3 : (19 : Int) + 8 * (k : Int) + 8 ≤ (cap : Int) := by omega
          have i4 : (k : Int) < 8 := by omega
          have i5 : (v : Int) < 256 := by omega
          have i6 : ¬ cap = 19 + 8 * k := by omega
          go_wp2_with fail
          refine (rv4_ok _ 8 _ _ _ HI.out (by omega) (all_cut HL.out _ _)).mono ?_
          rintro e w' ⟨rfl, rfl⟩
          rw [HV0.out]
          go_wp2
          go_roundw
          case rel =>
            refine ⟨k + 1, by omega, by go_num, ?_, hbel.setCell (by simp) _⟩
            rw [← HST.out]; exact HFB.out.put k (by omega) _
          case measure => simp [intOf]; omega
        · have HKM := Lib.hid (show k = m by omega)
          go_wp2
          refine bodyPost_ret (v := .tuple #[(frk zs k).val, .int .i64 0]) (by rw [results_cell_tmp rfl]; go_simp; exact ⟨by rw [HF1.out], by rw [HF2.out], by rw [HF3.out], by rw [HF4.out]⟩) rfl ⟨by unfold frm; rw [HEM.out, ← HKM.out], ?_⟩
          exact set12 hbw (Nat.le_refl _) _ _ _ _ _ _ _ _ _ _ _ _
end Go.Proofs.Ytffhhegpkejdgaa

