/- The contract of field's head. -/
import Derived.Test.YtalpbnfebcafgaaGreatFa
namespace Go.Proofs.YtalpbnfebcafgaaGreat
set_option maxRecDepth 20000
open Go.RowKit

theorem Il.cut {w : World} {ad : Addr} {n : Nat} {zs : List Int} (h : Il w (some ad) n zs) (a m : Nat) (hk : a + m ≤ n) : Il w (some (ad.add a)) m (cutL zs a m) := by
  have := (h.take (a + m) hk).drop a (by omega)
  rwa [show a + m - a = m by omega] at this
theorem hLn_short {zs : List Int} (h : zs.length < hEnd (hEx zs)) : hLn zs = 0 := by unfold hLn; rw [if_neg (by omega)]
theorem hLn_far {zs : List Int} (h : hEnd (hEx zs) ≤ zs.length) : hLn zs = min (val (cutL zs (hEnd (hEx zs) - 4) 4)) 8 := by unfold hLn; rw [if_pos h]
theorem val_4 {zs : List Int} (h : ∀ z ∈ zs, lvl z = true) (hl : zs.length = 4) : val zs < 16 := by
  have h1 := val_lt zs h
  rw [hl] at h1; exact h1

set_option maxHeartbeats 1600000 in
theorem head_false (A : Option Addr) (n cap : Nat) (zs : List Int) (w : World) (hr : Il w A n zs) (hn : n ≤ 100000) (hcap : n ≤ cap) (hl : ∀ z ∈ zs, lvl z = true) (hx : one zs 13 = false) :
    Calls Tryz.prog 129 #[.slice A n cap] w fun e w' => e = .returned (Fr.val ⟨0, false, one zs 12, (hLn zs : Int), fun _ => 0⟩) ∧ Below w.heap.size w w' := by
  have HR := Lib.hid hr; have HL := Lib.hid hl; have HN := Lib.hid hn; have HZ := Lib.hid hr.1
  have HX := Lib.hid (show hEx zs = false from hx)
  clear hr hl
  obtain ⟨r, hrt⟩ : ∃ r, one zs 12 = r := ⟨_, rfl⟩
  rw [hrt]
  have A0 := Lib.hid (fb_two1 w Fr.zero ⟨0, false, r, 0, fun _ => 0⟩)
  have A1 := Lib.hid (fb_two2 w Fr.zero ⟨0, false, r, 0, fun _ => 0⟩)
  have A2 := Lib.hid (alloc2 w (.cells Fr.zero.cells 31) (.cells (Fr.cells ⟨0, false, r, 0, fun _ => 0⟩) 31))
  go_enter Tryz.func129, Tryz.ntmps129
  go_wp2_with fail
  refine (isOne_any A n cap zs 13 _ (HR.out.below ((Below.refl _ _).alloc (Nat.le_refl _) _)) HN.out (by omega)).mono ?_
  rintro e w' ⟨rfl, rfl⟩
  rw [hx]
  go_wp2_with fail
  refine (isOne_any A n cap zs 12 _ (HR.out.below (alloc2 _ _ _)) HN.out (by omega)).mono ?_
  rintro e w' ⟨rfl, rfl⟩
  rw [hrt]
  go_wp2_with fail
  refine (widths_any ⟨0, false, r, 0, fun _ => 0⟩ 0 (by omega) rfl _).mono ?_
  rintro e w1 ⟨rfl, hb1⟩
  have hb1' : Below (w.heap.size + 2) _ w1 := hb1.mono (by simp)
  have B0 := Lib.hid (A0.out.below hb1' (by omega))
  have B1 := Lib.hid (A1.out.below hb1' (by omega))
  have B2 := Lib.hid (A2.out.trans (hb1'.mono (by omega)))
  have hs1 : w.heap.size + 2 ≤ w1.heap.size := by have := hb1.size; simp at this; omega
  clear hb1 hb1' A0 A1 A2
  go_wp2_with fail
  refine (upTo2 _ _ _ (by decide) (by decide) (by unfold dW; split <;> decide) _).mono ?_
  rintro e w2 ⟨rfl, hb2⟩
  rw [show ((1 + aW false + cW false : Nat) : Int) = 19 from rfl]
  have C0 := B0.out.below hb2 (by omega)
  have C1 := B1.out.below hb2 (by omega)
  have C2 := Lib.hid (B2.out.trans (hb2.mono (by omega)))
  clear hb2 B0 B1 B2
  have fz := fun i => C0.frozen i
  have fy := fun i => C1.frozen i
  obtain ⟨c0, c1, c2, c3, c4, c5, c6, c7, c8, c9, c10, c11⟩ := C0.bx
  obtain ⟨b0, b1, b2, b3, b4, b5, b6, b7, b8, b9, b10, b11⟩ := C1.bx
  clear C0 C1 hrt hx
  by_cases hlt : n < 19
  · have HS := Lib.hid (hLn_short (zs := zs) (by rw [HX.out, HZ.out]; exact hlt))
    go_wp2
    refine bodyPost_ret (v := Fr.val ⟨0, false, r, 0, fun _ => 0⟩) (by rw [results_cell1 rfl]; go_simp) rfl ⟨by rw [HS.out]; rfl, ?_⟩
    exact set12 C2.out (Nat.le_refl _) _ _ _ _ _ _ _ _ _ _ _ _
  · obtain ⟨ad, rfl, hblk, -⟩ := HR.out.2 (by omega)
    have HI := Lib.hid ((HR.out.below C2.out).cut 15 4 (by omega))
    have hv := val_4 (all_cut HL.out 15 4) (cutL_len (by rw [HZ.out]; omega))
    have HS := Lib.hid (hLn_far (zs := zs) (by rw [HX.out, HZ.out]; simp [hEnd]; omega))
    rw [HX.out, show hEnd false - 4 = 15 from rfl] at HS
    obtain ⟨v, hv0⟩ : ∃ v, val (cutL zs 15 4) = v := ⟨_, rfl⟩
    rw [hv0] at hv
    have HV := Lib.hid hv0
    rw [HV.out] at HS
    clear hv0
    have i1 : (v : Int) < 16 := by omega
    go_wp2_with fail
    refine (fvalue_ok _ 4 _ _ _ HI.out (by omega) (all_cut HL.out _ _)).mono ?_
    rintro e w' ⟨rfl, rfl⟩
    rw [HV.out]
    go_wp2
    · refine bodyPost_ret (v := Fr.val ⟨0, false, r, 8, fun _ => 0⟩) (by rw [results_cell1 rfl]; go_simp) rfl ⟨by rw [HS.out, show min v 8 = 8 by omega]; rfl, ?_⟩
      exact set12 (C2.out.setCell (by simp) _) (Nat.le_refl _) _ _ _ _ _ _ _ _ _ _ _ _
    · refine bodyPost_ret (v := Fr.val ⟨0, false, r, (v : Int), fun _ => 0⟩) (by rw [results_cell1 rfl]; go_simp) rfl ⟨by rw [HS.out, show min v 8 = v by omega], ?_⟩
      exact set12 (C2.out.setCell (by simp) _) (Nat.le_refl _) _ _ _ _ _ _ _ _ _ _ _ _

set_option maxHeartbeats 1600000 in
theorem head_true (A : Option Addr) (n cap : Nat) (zs : List Int) (w : World) (hr : Il w A n zs) (hn : n ≤ 100000) (hcap : n ≤ cap) (hl : ∀ z ∈ zs, lvl z = true) (hx : one zs 13 = true) :
    Calls Tryz.prog 129 #[.slice A n cap] w fun e w' => e = .returned (Fr.val ⟨0, true, one zs 32, (hLn zs : Int), fun _ => 0⟩) ∧ Below w.heap.size w w' := by
  have HR := Lib.hid hr; have HL := Lib.hid hl; have HN := Lib.hid hn; have HZ := Lib.hid hr.1
  have HX := Lib.hid (show hEx zs = true from hx)
  clear hr hl
  obtain ⟨r, hrt⟩ : ∃ r, one zs 32 = r := ⟨_, rfl⟩
  rw [hrt]
  have A0 := Lib.hid (fb_two1 w Fr.zero ⟨0, true, r, 0, fun _ => 0⟩)
  have A1 := Lib.hid (fb_two2 w Fr.zero ⟨0, true, r, 0, fun _ => 0⟩)
  have A2 := Lib.hid (alloc2 w (.cells Fr.zero.cells 31) (.cells (Fr.cells ⟨0, true, r, 0, fun _ => 0⟩) 31))
  go_enter Tryz.func129, Tryz.ntmps129
  go_wp2_with fail
  refine (isOne_any A n cap zs 13 _ (HR.out.below ((Below.refl _ _).alloc (Nat.le_refl _) _)) HN.out (by omega)).mono ?_
  rintro e w' ⟨rfl, rfl⟩
  rw [hx]
  go_wp2_with fail
  refine (isOne_any A n cap zs 32 _ (HR.out.below (alloc2 _ _ _)) HN.out (by omega)).mono ?_
  rintro e w' ⟨rfl, rfl⟩
  rw [hrt]
  go_wp2_with fail
  refine (widths_any ⟨0, true, r, 0, fun _ => 0⟩ 0 (by omega) rfl _).mono ?_
  rintro e w1 ⟨rfl, hb1⟩
  have hb1' : Below (w.heap.size + 2) _ w1 := hb1.mono (by simp)
  have B0 := Lib.hid (A0.out.below hb1' (by omega))
  have B1 := Lib.hid (A1.out.below hb1' (by omega))
  have B2 := Lib.hid (A2.out.trans (hb1'.mono (by omega)))
  have hs1 : w.heap.size + 2 ≤ w1.heap.size := by have := hb1.size; simp at this; omega
  clear hb1 hb1' A0 A1 A2
  go_wp2_with fail
  refine (upTo2 _ _ _ (by decide) (by decide) (by unfold dW; split <;> decide) _).mono ?_
  rintro e w2 ⟨rfl, hb2⟩
  rw [show ((1 + aW true + cW true : Nat) : Int) = 39 from rfl]
  have C0 := B0.out.below hb2 (by omega)
  have C1 := B1.out.below hb2 (by omega)
  have C2 := Lib.hid (B2.out.trans (hb2.mono (by omega)))
  clear hb2 B0 B1 B2
  have fz := fun i => C0.frozen i
  have fy := fun i => C1.frozen i
  obtain ⟨c0, c1, c2, c3, c4, c5, c6, c7, c8, c9, c10, c11⟩ := C0.bx
  obtain ⟨b0, b1, b2, b3, b4, b5, b6, b7, b8, b9, b10, b11⟩ := C1.bx
  clear C0 C1 hrt hx
  by_cases hlt : n < 39
  · have HS := Lib.hid (hLn_short (zs := zs) (by rw [HX.out, HZ.out]; exact hlt))
    go_wp2
    refine bodyPost_ret (v := Fr.val ⟨0, true, r, 0, fun _ => 0⟩) (by rw [results_cell1 rfl]; go_simp) rfl ⟨by rw [HS.out]; rfl, ?_⟩
    exact set12 C2.out (Nat.le_refl _) _ _ _ _ _ _ _ _ _ _ _ _
  · obtain ⟨ad, rfl, hblk, -⟩ := HR.out.2 (by omega)
    have HI := Lib.hid ((HR.out.below C2.out).cut 35 4 (by omega))
    have hv := val_4 (all_cut HL.out 35 4) (cutL_len (by rw [HZ.out]; omega))
    have HS := Lib.hid (hLn_far (zs := zs) (by rw [HX.out, HZ.out]; simp [hEnd]; omega))
    rw [HX.out, show hEnd true - 4 = 35 from rfl] at HS
    obtain ⟨v, hv0⟩ : ∃ v, val (cutL zs 35 4) = v := ⟨_, rfl⟩
    rw [hv0] at hv
    have HV := Lib.hid hv0
    rw [HV.out] at HS
    clear hv0
    have i1 : (v : Int) < 16 := by omega
    go_wp2_with fail
    refine (fvalue_ok _ 4 _ _ _ HI.out (by omega) (all_cut HL.out _ _)).mono ?_
    rintro e w' ⟨rfl, rfl⟩
    rw [HV.out]
    go_wp2
    · refine bodyPost_ret (v := Fr.val ⟨0, true, r, 8, fun _ => 0⟩) (by rw [results_cell1 rfl]; go_simp) rfl ⟨by rw [HS.out, show min v 8 = 8 by omega]; rfl, ?_⟩
      exact set12 (C2.out.setCell (by simp) _) (Nat.le_refl _) _ _ _ _ _ _ _ _ _ _ _ _
    · refine bodyPost_ret (v := Fr.val ⟨0, true, r, (v : Int), fun _ => 0⟩) (by rw [results_cell1 rfl]; go_simp) rfl ⟨by rw [HS.out, show min v 8 = v by omega], ?_⟩
      exact set12 (C2.out.setCell (by simp) _) (Nat.le_refl _) _ _ _ _ _ _ _ _ _ _ _ _

theorem head_ok (A : Option Addr) (n cap : Nat) (zs : List Int) (w : World) (hr : Il w A n zs) (hn : n ≤ 100000) (hcap : n ≤ cap) (hl : ∀ z ∈ zs, lvl z = true) :
    Calls Tryz.prog 129 #[.slice A n cap] w fun e w' => e = .returned (hd zs).val ∧ Below w.heap.size w w' := by
  cases hx : one zs 13
  · have := head_false A n cap zs w hr hn hcap hl hx
    unfold hd hRt hEx
    rw [hx]
    exact this
  · have := head_true A n cap zs w hr hn hcap hl hx
    unfold hd hRt hEx
    rw [hx]
    exact this
end Go.Proofs.YtalpbnfebcafgaaGreat
