/- The contract of field's Frame: what is a frame. -/
import Derived.Test.YtalpbnfebcafgaaGreatFf
namespace Go.Proofs.YtalpbnfebcafgaaGreat
set_option maxRecDepth 20000
open Go.RowKit

theorem i64_or_low (a b k : Nat) (hb : b < 2 ^ k) (ha : a * 2 ^ k < 9223372036854775808) (hk : b < 9223372036854775808) : bits .or .i64 ((a * 2 ^ k : Nat) : Int) (b : Int) = ((a * 2 ^ k + b : Nat) : Int) := by
  have hx : a * 2 ^ k ||| b < 2 ^ 63 := Nat.or_lt_two_pow (by omega) (by omega)
  have e : a * 2 ^ k ||| b = a * 2 ^ k + b := by rw [Nat.mul_comm a, Nat.two_pow_add_eq_or_of_lt hb]
  show IntKind.i64.wrap ((BitVec.ofInt 64 ((a * 2 ^ k : Nat) : Int) ||| BitVec.ofInt 64 (b : Int)).toNat : Int) = _
  rw [BitVec.toNat_or, ofInt_u64 _ (by omega), ofInt_u64 b (by omega), IntKind.wrap_i64, e]
  rw [e] at hx
  omega
theorem val_k {zs : List Int} {k : Nat} (h : ∀ z ∈ zs, lvl z = true) (hl : zs.length = k) : val zs < 2 ^ k := by
  have h1 := val_lt zs h
  rw [hl] at h1; exact h1
theorem fid_short {zs : List Int} (h : hEx zs = false) : fid zs = val (cutL zs 1 11) := by unfold fid; rw [h]; rfl
theorem fid_long {zs : List Int} (h : hEx zs = true) : fid zs = val (cutL zs 1 11) * 262144 + val (cutL zs 14 18) := by unfold fid; rw [h]; rfl
theorem frk_zero (zs : List Int) : frk zs 0 = ⟨(fid zs : Int), hEx zs, hRt zs, (hLn zs : Int), fun _ => 0⟩ := by unfold frk; simp
theorem hDat_8 (zs : List Int) : ∃ m, hDat zs = 8 * m ∧ m ≤ 8 := by
  have := hLn_le zs
  unfold hDat
  cases hRt zs
  · exact ⟨hLn zs, by simp; omega, by omega⟩
  · exact ⟨0, by simp, by omega⟩
theorem cut_cut {zs : List Int} {a n b m : Nat} (h : b + m ≤ n) : cutL (cutL zs a n) b m = cutL zs (a + b) m := by
  unfold cutL
  rw [List.take_drop, List.drop_drop, List.take_take, show min (a + (b + m)) (a + n) = a + b + m by omega]
theorem Fb.setId {w : World} {g : Nat} {f : Fr} (h : Fb w g f) (z : Int) : Fb (w.setCell ⟨g, 0, none⟩ (.int .i64 z)) g { f with id := z } := by
  unfold Fb at h ⊢
  have e : ({ f with id := z } : Fr).cells = f.cells.setIfInBounds 0 (.int .i64 z) := rfl
  rw [e]
  generalize f.cells = cs at *
  simp [World.setCell, Array.getElem?_modify, h]
theorem below_drew {B : Nat} {a w : World} (h : Below B a w) : Below B a w.drew := ⟨h.os, h.tape, h.output, h.size, h.block⟩

set_option maxHeartbeats 3200000 in
set_option maxRecDepth 100000 in
theorem frame_false (ad : Addr) (n cap : Nat) (zs : List Int) (w : World) (hr : Il w (some ad) n zs) (hn : n ≤ 100000) (hcap : n ≤ cap) (hl : ∀ z ∈ zs, lvl z = true) (hx : one zs 13 = false)
    (h1 : 19 ≤ n) (h2 : ahead zs ≤ n) (h0 : one zs 0 = false) :
    Calls Tryz.prog 135 #[.slice (some ad) n cap] w fun e w' => e = .returned (.tuple #[(frm zs).val, .int .i64 0]) ∧ Below w.heap.size w w' := by
  have HR := Lib.hid hr; have HL := Lib.hid hl; have HN := Lib.hid hn; have HZ := Lib.hid hr.1
  have HX := Lib.hid (show hEx zs = false from hx)
  have HE : hEnd (hEx zs) = 19 := by rw [HX.out]; rfl
  obtain ⟨ad', z, e, hz, hc0⟩ := hr.at_ (show 0 < n by omega)
  injection e with e
  subst e
  have hz01 : z = 0 := by
    rw [one_at hz] at h0
    rcases all_at hl hz with h | h
    · exact h
    · subst h; simp at h0
  subst hz01
  rw [at_zero] at hc0
  have HC0 := Lib.hid hc0
  obtain ⟨m, hm8, hm⟩ := hDat_8 zs
  have HA := Lib.hid (show ahead zs = 19 + 8 * m by unfold ahead; rw [HE, hm8])
  have HAO := Lib.hid (show aout zs = .tuple #[.int .i64 ((19 + 8 * m : Nat) : Int), .int .i64 0] by unfold aout; rw [if_neg (by rw [HE, HZ.out]; omega), HA.out])
  rw [HA.out] at h2
  have HM8 := Lib.hid hm8
  have HFR := Lib.hid (frk_zero zs)
  have HRT := Lib.hid (show hRt zs = one zs 12 by unfold hRt; rw [HX.out]; rfl)
  have hL := hLn_le zs
  have hv1 := val_k (all_cut hl 1 11) (cutL_len (zs := zs) (a := 1) (n := 11) (by rw [HZ.out]; omega))
  clear hr hl h0 hz hc0 hm8
  have A0 := Lib.hid (fb_new w Fr.zero)
  go_enter Tryz.func135, Tryz.ntmps135
  go_wp2_with fail
  refine (ahead_any _ _ _ _ _ (HR.out.below ((Below.refl _ _).alloc (Nat.le_refl _) _)) hn hcap HL.out).mono ?_
  rintro e w1 ⟨rfl, hb1⟩
  rw [HAO.out]
  have hbw1 := nxt ((Below.refl w.heap.size w).alloc (Nat.le_refl _) (.cells Fr.zero.cells 31)) hb1
  have B0 := Lib.hid (A0.out.below hb1 (by simp))
  have hc1 : w1.cell? ad = some (.int .i64 0) := (hbw1.cell (by obtain ⟨a, e, hl, _⟩ := HR.out.2 (by omega); injection e with e; subst e; exact hl)).trans HC0.out
  have HBW1 := Lib.hid hbw1
  have hlw : w.heap.size < w1.heap.size := by have := hb1.size; simp at this; omega
  clear hb1 A0 hbw1
  go_wp2_with fail
  refine (head_false _ _ _ _ _ (HR.out.below HBW1.out) HN.out hcap HL.out hx).mono ?_
  rintro e w2 ⟨rfl, hb2⟩
  rw [← HRT.out]
  have C0 := Lib.hid (B0.out.below hb2 hlw)
  have HBW2 := Lib.hid (nxt HBW1.out hb2)
  have hlw2 : w.heap.size < w2.heap.size := by have := hb2.size; omega
  clear hb2 B0 HBW1 hc1 hx HRT
  obtain ⟨r, hrt⟩ : ∃ r, hRt zs = r := ⟨_, rfl⟩
  obtain ⟨L, hLL⟩ : ∃ L, hLn zs = L := ⟨_, rfl⟩
  obtain ⟨v1, hvv⟩ : ∃ v1, val (cutL zs 1 11) = v1 := ⟨_, rfl⟩
  rw [hvv] at hv1
  rw [hrt, hLL] at HFR ⊢
  rw [hLL] at hL
  have HV := Lib.hid hvv; have HLL := Lib.hid hLL; have HRR := Lib.hid hrt
  clear hrt hLL hvv
  go_wp2_with fail
  refine (fvalue_ok _ 11 _ _ _ ((HR.out.below (nxt HBW2.out ((Below.refl _ _).alloc (Nat.le_refl _) _))).cut 1 11 (by omega)) (by omega) (all_cut HL.out 1 11)).mono ?_
  rintro e w' ⟨rfl, rfl⟩
  rw [HV.out]
  obtain ⟨u, hu⟩ : ∃ u, v1 = u := ⟨_, rfl⟩
  have HU := Lib.hid (show fid zs = u by rw [fid_short HX.out, HV.out, hu])
  subst hu
  have hub : v1 < 536870912 := by omega
  have E0 := Lib.hid (C0.out.below ((Below.refl _ _).alloc (Nat.le_refl _) (.cells (Fr.cells ⟨(v1 : Int), false, r, (L : Int), fun _ => 0⟩) 31)) hlw2)
  have E1 := Lib.hid (fb_new w2 ⟨(v1 : Int), false, r, (L : Int), fun _ => 0⟩)
  have EB := Lib.hid (nxt HBW2.out ((Below.refl _ _).alloc (Nat.le_refl _) (.cells (Fr.cells ⟨(v1 : Int), false, r, (L : Int), fun _ => 0⟩) 31)))
  have ES : w2.heap.size + 1 = (w2.alloc (.cells (Fr.cells ⟨(v1 : Int), false, r, (L : Int), fun _ => 0⟩) 31)).heap.size := by simp
  go_wp2_with fail
  refine (widths_any ⟨(v1 : Int), false, r, (L : Int), fun _ => 0⟩ L (by omega) rfl _).mono ?_
  rintro e w3 ⟨rfl, hb3⟩
  have hb3' := hb3.mono (Nat.le_of_eq ES)
  have G0 := Lib.hid (E0.out.below hb3' (by omega))
  have G1 := Lib.hid (E1.out.below hb3' (by omega))
  have GB := Lib.hid (nxt EB.out hb3)
  have GS : w2.heap.size + 1 ≤ w3.heap.size := Nat.le_trans (Nat.le_of_eq ES) hb3.size
  clear hb3 hb3' E0 E1 EB ES C0
  go_wp2_with fail
  refine (upTo2 _ _ _ (by decide) (by decide) (by unfold dW; split <;> omega) _).mono ?_
  rintro e w4 ⟨rfl, hb4⟩
  rw [show ((1 + aW false + cW false : Nat) : Int) = 19 from rfl]
  have H0 := Lib.hid (G0.out.below hb4 (by omega))
  have H1 := Lib.hid (G1.out.below hb4 (by omega))
  have HB4 := Lib.hid (nxt GB.out hb4)
  have HS4 : w2.heap.size + 1 ≤ w4.heap.size := by have := hb4.size; omega
  clear hb4 G0 G1 GB GS
  have i1 : (19 : Int) + 8 * (m : Int) ≤ (cap : Int) := by omega
  have HD0 := Lib.hid (show frk zs 0 = ⟨(v1 : Int), false, r, (L : Int), fun _ => 0⟩ by rw [HFR.out, HU.out, HX.out])
  rw [← HD0.out] at H1
  have HFL := Lib.hid (show ∀ k, (frk zs k).id = (v1 : Int) ∧ (frk zs k).ext = false ∧ (frk zs k).rtr = r ∧ (frk zs k).len = (L : Int) from fun k => ⟨by show (fid zs : Int) = _; rw [HU.out], HX.out, HRR.out, by show (hLn zs : Int) = _; rw [HLL.out]⟩)
  have HEM := Lib.hid (show hDat zs / 8 = m by rw [HM8.out]; omega)
  clear HFR HAO HA
  go_wp2
  · go_loopw [53] (fun i wr => ∃ k : Nat, k ≤ m ∧ i = .int .i64 k ∧ Fb wr w.heap.size Fr.zero ∧ Fb wr w2.heap.size (frk zs k) ∧ Below w.heap.size w wr) (fun i _ => m - (intOf i).toNat)
    case atStart => exact ⟨0, Nat.zero_le _, rfl, H0.out, H1.out, HB4.out⟩
    case round =>
      obtain ⟨k, hk, rfl, hz, hfb, hbel⟩ := hrel
      obtain ⟨f1, f2, f3, f4⟩ := HFL.out k
      have HZ0 := Lib.hid hz; have HFB := Lib.hid hfb; have HF1 := Lib.hid f1; have HF2 := Lib.hid f2; have HF3 := Lib.hid f3; have HF4 := Lib.hid f4
      have fz := fun i => hz.frozen i
      have fy := fun i => hfb.frozen i
      obtain ⟨c0, c1, c2, c3, c4, c5, c6, c7, c8, c9, c10, c11⟩ := hz.bx
      obtain ⟨b0, b1, b2, b3, b4, b5, b6, b7, b8, b9, b10, b11⟩ := hfb.bx
      rw [f1] at b0; rw [f2] at b1; rw [f3] at b2; rw [f4] at b3
      clear hz hfb f1 f2 f3 f4
      by_cases hlt : k < m
      · exfalso; omega
      · have HKM := Lib.hid (show k = m by omega)
        go_wp2
        refine bodyPost_ret (v := .tuple #[(frk zs k).val, .int .i64 0]) (by rw [results_cell_tmp rfl]; go_simp; exact ⟨by rw [HF1.out], by rw [HF2.out], by rw [HF3.out], by rw [HF4.out]⟩) rfl ⟨by unfold frm; rw [HEM.out, ← HKM.out], ?_⟩
        exact set12 hbel (Nat.le_refl _) _ _ _ _ _ _ _ _ _ _ _ _
  · go_loopw [53] (fun i wr => ∃ k : Nat, k ≤ m ∧ i = .int .i64 k ∧ Fb wr w.heap.size Fr.zero ∧ Fb wr w2.heap.size (frk zs k) ∧ Below w.heap.size w wr) (fun i _ => m - (intOf i).toNat)
    case atStart => exact ⟨0, Nat.zero_le _, rfl, H0.out, H1.out, HB4.out⟩
    case round =>
      obtain ⟨k, hk, rfl, hz, hfb, hbel⟩ := hrel
      obtain ⟨f1, f2, f3, f4⟩ := HFL.out k
      have HZ0 := Lib.hid hz; have HFB := Lib.hid hfb; have HF1 := Lib.hid f1; have HF2 := Lib.hid f2; have HF3 := Lib.hid f3; have HF4 := Lib.hid f4
      have fz := fun i => hz.frozen i
      have fy := fun i => hfb.frozen i
      obtain ⟨c0, c1, c2, c3, c4, c5, c6, c7, c8, c9, c10, c11⟩ := hz.bx
      obtain ⟨b0, b1, b2, b3, b4, b5, b6, b7, b8, b9, b10, b11⟩ := hfb.bx
      rw [f1] at b0; rw [f2] at b1; rw [f3] at b2; rw [f4] at b3
      clear hz hfb f1 f2 f3 f4
      by_cases hlt : k < m
      · have HI := Lib.hid ((HR.out.below hbel).cut (19 + k * 8) 8 (by omega))
        rw [add_pos ad (by omega), ← Nat.add_assoc] at HI
        have hb8 := val_k (all_cut HL.out (19 + k * 8) 8) (cutL_len (zs := zs) (a := 19 + k * 8) (n := 8) (by rw [HZ.out]; omega))
        have HBY := Lib.hid (show byt zs k = val (cutL zs (19 + k * 8) 8) by unfold byt; rw [HE])
        obtain ⟨v, hv0⟩ : ∃ v, val (cutL zs (19 + k * 8) 8) = v := ⟨_, rfl⟩
        rw [hv0] at hb8 HBY
        have HV0 := Lib.hid hv0
        clear hv0
        have HST := Lib.hid (frk_step zs k)
        rw [HBY.out] at HST
        have dcell := HFB.out.bx.data k (by omega)
        generalize (frk zs k).d k = y at dcell
        have i2 : (k : Int) * 8 ≤ ((k : Int) + 1) * 8 := by omega
        have i3 : ((k : Int) + 1) * 8 ≤ (cap : Int) - 19 := by omega
        have i4 : (k : Int) < 8 := by omega
        have i5 : (v : Int) < 256 := by omega
        have i6 : ¬ cap - 19 = k * 8 := by omega
        go_wp2_with fail
        rw [show (k + 1) * 8 - k * 8 = 8 by omega]
        refine (fvalue_ok _ 8 _ _ _ HI.out (by omega) (all_cut HL.out _ _)).mono ?_
        rintro e w' ⟨rfl, rfl⟩
        rw [HV0.out]
        go_wp2
        go_roundw
        case rel =>
          refine ⟨k + 1, by omega, by go_num, HZ0.out.away (by omega), ?_, hbel.setCell (by simp; omega) _⟩
          rw [← HST.out]; exact HFB.out.put k (by omega) _
        case measure => simp [intOf]; omega
      · have HKM := Lib.hid (show k = m by omega)
        go_wp2
        refine bodyPost_ret (v := .tuple #[(frk zs k).val, .int .i64 0]) (by rw [results_cell_tmp rfl]; go_simp; exact ⟨by rw [HF1.out], by rw [HF2.out], by rw [HF3.out], by rw [HF4.out]⟩) rfl ⟨by unfold frm; rw [HEM.out, ← HKM.out], ?_⟩
        exact set12 hbel (Nat.le_refl _) _ _ _ _ _ _ _ _ _ _ _ _

set_option maxHeartbeats 3200000 in
set_option maxRecDepth 100000 in
theorem frame_true (ad : Addr) (n cap : Nat) (zs : List Int) (w : World) (hr : Il w (some ad) n zs) (hn : n ≤ 100000) (hcap : n ≤ cap) (hl : ∀ z ∈ zs, lvl z = true) (hx : one zs 13 = true)
    (h1 : 39 ≤ n) (h2 : ahead zs ≤ n) (h0 : one zs 0 = false) :
    Calls Tryz.prog 135 #[.slice (some ad) n cap] w fun e w' => e = .returned (.tuple #[(frm zs).val, .int .i64 0]) ∧ Below w.heap.size w w' := by
  have HR := Lib.hid hr; have HL := Lib.hid hl; have HN := Lib.hid hn; have HZ := Lib.hid hr.1
  have HX := Lib.hid (show hEx zs = true from hx)
  have HE : hEnd (hEx zs) = 39 := by rw [HX.out]; rfl
  obtain ⟨ad', z, e, hz, hc0⟩ := hr.at_ (show 0 < n by omega)
  injection e with e
  subst e
  have hz01 : z = 0 := by
    rw [one_at hz] at h0
    rcases all_at hl hz with h | h
    · exact h
    · subst h; simp at h0
  subst hz01
  rw [at_zero] at hc0
  have HC0 := Lib.hid hc0
  obtain ⟨m, hm8, hm⟩ := hDat_8 zs
  have HA := Lib.hid (show ahead zs = 39 + 8 * m by unfold ahead; rw [HE, hm8])
  have HAO := Lib.hid (show aout zs = .tuple #[.int .i64 ((39 + 8 * m : Nat) : Int), .int .i64 0] by unfold aout; rw [if_neg (by rw [HE, HZ.out]; omega), HA.out])
  rw [HA.out] at h2
  have HM8 := Lib.hid hm8
  have HFR := Lib.hid (frk_zero zs)
  have HRT := Lib.hid (show hRt zs = one zs 32 by unfold hRt; rw [HX.out]; rfl)
  have hL := hLn_le zs
  have hv1 := val_k (all_cut hl 1 11) (cutL_len (zs := zs) (a := 1) (n := 11) (by rw [HZ.out]; omega))
  clear hr hl h0 hz hc0 hm8
  have A0 := Lib.hid (fb_new w Fr.zero)
  go_enter Tryz.func135, Tryz.ntmps135
  go_wp2_with fail
  refine (ahead_any _ _ _ _ _ (HR.out.below ((Below.refl _ _).alloc (Nat.le_refl _) _)) hn hcap HL.out).mono ?_
  rintro e w1 ⟨rfl, hb1⟩
  rw [HAO.out]
  have hbw1 := nxt ((Below.refl w.heap.size w).alloc (Nat.le_refl _) (.cells Fr.zero.cells 31)) hb1
  have B0 := Lib.hid (A0.out.below hb1 (by simp))
  have hc1 : w1.cell? ad = some (.int .i64 0) := (hbw1.cell (by obtain ⟨a, e, hl, _⟩ := HR.out.2 (by omega); injection e with e; subst e; exact hl)).trans HC0.out
  have HBW1 := Lib.hid hbw1
  have hlw : w.heap.size < w1.heap.size := by have := hb1.size; simp at this; omega
  clear hb1 A0 hbw1
  go_wp2_with fail
  refine (head_true _ _ _ _ _ (HR.out.below HBW1.out) HN.out hcap HL.out hx).mono ?_
  rintro e w2 ⟨rfl, hb2⟩
  rw [← HRT.out]
  have C0 := Lib.hid (B0.out.below hb2 hlw)
  have HBW2 := Lib.hid (nxt HBW1.out hb2)
  have hlw2 : w.heap.size < w2.heap.size := by have := hb2.size; omega
  clear hb2 B0 HBW1 hc1 hx HRT
  obtain ⟨r, hrt⟩ : ∃ r, hRt zs = r := ⟨_, rfl⟩
  obtain ⟨L, hLL⟩ : ∃ L, hLn zs = L := ⟨_, rfl⟩
  obtain ⟨v1, hvv⟩ : ∃ v1, val (cutL zs 1 11) = v1 := ⟨_, rfl⟩
  rw [hvv] at hv1
  rw [hrt, hLL] at HFR ⊢
  rw [hLL] at hL
  have HV := Lib.hid hvv; have HLL := Lib.hid hLL; have HRR := Lib.hid hrt
  clear hrt hLL hvv
  go_wp2_with fail
  refine (fvalue_ok _ 11 _ _ _ ((HR.out.below (nxt HBW2.out ((Below.refl _ _).alloc (Nat.le_refl _) _))).cut 1 11 (by omega)) (by omega) (all_cut HL.out 1 11)).mono ?_
  rintro e w' ⟨rfl, rfl⟩
  rw [HV.out]

  have hv2 := val_k (all_cut HL.out 14 18) (cutL_len (zs := zs) (a := 14) (n := 18) (by rw [HZ.out]; omega))
  obtain ⟨v2, hvv2⟩ : ∃ v2, val (cutL zs 14 18) = v2 := ⟨_, rfl⟩
  rw [hvv2] at hv2
  have HV2 := Lib.hid hvv2
  clear hvv2
  have hor : bits .or .i64 ((v1 : Int) * 262144) (v2 : Int) = ((v1 * 262144 + v2 : Nat) : Int) := by
    have := i64_or_low v1 v2 18 (by omega) (by omega) (by omega)
    simpa using this
  obtain ⟨u, hu⟩ : ∃ u, v1 * 262144 + v2 = u := ⟨_, rfl⟩
  have HU := Lib.hid (show fid zs = u by rw [fid_long HX.out, HV.out, HV2.out, hu])
  have hub : u < 536870912 := by omega
  rw [hu] at hor
  clear hu
  go_wp2_with fail
  refine wp_region_still_tail 8 (by kernel_rfl) (by kernel_rfl) ?_
  simp only [List.take_succ_cons, List.take_zero, List.drop_succ_cons, List.drop_zero]
  have F0 := Lib.hid (show Fb (World.drew (w2.alloc (.cells (Fr.cells ⟨(v1 : Int), true, r, (L : Int), fun _ => 0⟩) 31))) w.heap.size Fr.zero from C0.out.below (below_drew ((Below.refl _ _).alloc (Nat.le_refl _) _)) hlw2)
  have F1 := show Fb (World.drew (w2.alloc (.cells (Fr.cells ⟨(v1 : Int), true, r, (L : Int), fun _ => 0⟩) 31))) w2.heap.size ⟨(v1 : Int), true, r, (L : Int), fun _ => 0⟩ from fb_new w2 _
  have F2 := Lib.hid (show Below w.heap.size w (World.drew (w2.alloc (.cells (Fr.cells ⟨(v1 : Int), true, r, (L : Int), fun _ => 0⟩) 31))) from below_drew (nxt HBW2.out ((Below.refl _ _).alloc (Nat.le_refl _) _)))
  have F3 := show (World.drew (w2.alloc (.cells (Fr.cells ⟨(v1 : Int), true, r, (L : Int), fun _ => 0⟩) 31))).heap.size = w2.heap.size + 1 from by show (w2.alloc _).heap.size = _; simp
  change wpStill Tryz.prog _ (World.drew (w2.alloc (.cells (Fr.cells ⟨(v1 : Int), true, r, (L : Int), fun _ => 0⟩) 31))) _ _ _
  obtain ⟨wd, hwd⟩ : ∃ wd, World.drew (w2.alloc (.cells (Fr.cells ⟨(v1 : Int), true, r, (L : Int), fun _ => 0⟩) 31)) = wd := ⟨_, rfl⟩
  rw [hwd] at F0 F1 F2 F3 ⊢
  have HWD := Lib.hid hwd
  clear hwd
  have HF1 := Lib.hid F1; have HF3 := Lib.hid F3
  have fz := fun i => F1.frozen i
  obtain ⟨b0, b1, b2, b3, b4, b5, b6, b7, b8, b9, b10, b11⟩ := F1.bx
  clear F1 F3
  have j1 : (32 : Int) ≤ (cap : Int) := by omega
  have j2 : ¬ cap = 14 := by omega
  have j3 : IntKind.i64.wrap ((v1 : Int) * 262144) = (v1 : Int) * 262144 := by rw [IntKind.wrap_i64]; omega
  repeat still_step
  still_call ((fvalue_ok _ 18 _ _ _ ((HR.out.below F2.out).cut 14 18 (by omega)) (by omega) (all_cut HL.out 14 18)).mono fun e w'' h => ⟨h.1, h.2.symm⟩)
  rw [HV2.out]
  repeat still_step
  refine wpStill_nil ?_
  change wpList Tryz.prog _ _ _ _ (World.drew (w2.alloc (.cells (Fr.cells ⟨(v1 : Int), true, r, (L : Int), fun _ => 0⟩) 31)))
  rw [HWD.out]
  go_wp2_with fail
  have E0 := Lib.hid (F0.out.away (g' := w2.heap.size) (i := 0) (v := .int .i64 (u : Int)) (by omega))
  have E1 := Lib.hid (HF1.out.setId (u : Int))
  have EB := Lib.hid (F2.out.setCell (p := ⟨w2.heap.size, 0, none⟩) (by simp; omega) (.int .i64 (u : Int)))
  have ES : w2.heap.size + 1 = (wd.setCell ⟨w2.heap.size, 0, none⟩ (.int .i64 (u : Int))).heap.size := by rw [World.size_setCell, HF3.out]
  clear F0 HF1 F2 HF3 b0 b1 b2 b3 b4 b5 b6 b7 b8 b9 b10 b11
  refine (widths_any ⟨(u : Int), true, r, (L : Int), fun _ => 0⟩ L (by omega) rfl _).mono ?_
  rintro e w3 ⟨rfl, hb3⟩
  have hb3' := hb3.mono (Nat.le_of_eq ES)
  have G0 := Lib.hid (E0.out.below hb3' (by omega))
  have G1 := Lib.hid (E1.out.below hb3' (by omega))
  have GB := Lib.hid (nxt EB.out hb3)
  have GS : w2.heap.size + 1 ≤ w3.heap.size := Nat.le_trans (Nat.le_of_eq ES) hb3.size
  clear hb3 hb3' E0 E1 EB ES C0
  go_wp2_with fail
  refine (upTo2 _ _ _ (by decide) (by decide) (by unfold dW; split <;> omega) _).mono ?_
  rintro e w4 ⟨rfl, hb4⟩
  rw [show ((1 + aW true + cW true : Nat) : Int) = 39 from rfl]
  have H0 := Lib.hid (G0.out.below hb4 (by omega))
  have H1 := Lib.hid (G1.out.below hb4 (by omega))
  have HB4 := Lib.hid (nxt GB.out hb4)
  have HS4 : w2.heap.size + 1 ≤ w4.heap.size := by have := hb4.size; omega
  clear hb4 G0 G1 GB GS
  have i1 : (39 : Int) + 8 * (m : Int) ≤ (cap : Int) := by omega
  have HD0 := Lib.hid (show frk zs 0 = ⟨(u : Int), true, r, (L : Int), fun _ => 0⟩ by rw [HFR.out, HU.out, HX.out])
  rw [← HD0.out] at H1
  have HFL := Lib.hid (show ∀ k, (frk zs k).id = (u : Int) ∧ (frk zs k).ext = true ∧ (frk zs k).rtr = r ∧ (frk zs k).len = (L : Int) from fun k => ⟨by show (fid zs : Int) = _; rw [HU.out], HX.out, HRR.out, by show (hLn zs : Int) = _; rw [HLL.out]⟩)
  have HEM := Lib.hid (show hDat zs / 8 = m by rw [HM8.out]; omega)
  clear HFR HAO HA
  go_wp2
  · go_loopw [53] (fun i wr => ∃ k : Nat, k ≤ m ∧ i = .int .i64 k ∧ Fb wr w.heap.size Fr.zero ∧ Fb wr w2.heap.size (frk zs k) ∧ Below w.heap.size w wr) (fun i _ => m - (intOf i).toNat)
    case atStart => exact ⟨0, Nat.zero_le _, rfl, H0.out, H1.out, HB4.out⟩
    case round =>
      obtain ⟨k, hk, rfl, hz, hfb, hbel⟩ := hrel
      obtain ⟨f1, f2, f3, f4⟩ := HFL.out k
      have HZ0 := Lib.hid hz; have HFB := Lib.hid hfb; have HF1 := Lib.hid f1; have HF2 := Lib.hid f2; have HF3 := Lib.hid f3; have HF4 := Lib.hid f4
      have fz := fun i => hz.frozen i
      have fy := fun i => hfb.frozen i
      obtain ⟨c0, c1, c2, c3, c4, c5, c6, c7, c8, c9, c10, c11⟩ := hz.bx
      obtain ⟨b0, b1, b2, b3, b4, b5, b6, b7, b8, b9, b10, b11⟩ := hfb.bx
      rw [f1] at b0; rw [f2] at b1; rw [f3] at b2; rw [f4] at b3
      clear hz hfb f1 f2 f3 f4
      by_cases hlt : k < m
      · exfalso; omega
      · have HKM := Lib.hid (show k = m by omega)
        go_wp2
        refine bodyPost_ret (v := .tuple #[(frk zs k).val, .int .i64 0]) (by rw [results_cell_tmp rfl]; go_simp; exact ⟨by rw [HF1.out], by rw [HF2.out], by rw [HF3.out], by rw [HF4.out]⟩) rfl ⟨by unfold frm; rw [HEM.out, ← HKM.out], ?_⟩
        exact set12 hbel (Nat.le_refl _) _ _ _ _ _ _ _ _ _ _ _ _
  · go_loopw [53] (fun i wr => ∃ k : Nat, k ≤ m ∧ i = .int .i64 k ∧ Fb wr w.heap.size Fr.zero ∧ Fb wr w2.heap.size (frk zs k) ∧ Below w.heap.size w wr) (fun i _ => m - (intOf i).toNat)
    case atStart => exact ⟨0, Nat.zero_le _, rfl, H0.out, H1.out, HB4.out⟩
    case round =>
      obtain ⟨k, hk, rfl, hz, hfb, hbel⟩ := hrel
      obtain ⟨f1, f2, f3, f4⟩ := HFL.out k
      have HZ0 := Lib.hid hz; have HFB := Lib.hid hfb; have HF1 := Lib.hid f1; have HF2 := Lib.hid f2; have HF3 := Lib.hid f3; have HF4 := Lib.hid f4
      have fz := fun i => hz.frozen i
      have fy := fun i => hfb.frozen i
      obtain ⟨c0, c1, c2, c3, c4, c5, c6, c7, c8, c9, c10, c11⟩ := hz.bx
      obtain ⟨b0, b1, b2, b3, b4, b5, b6, b7, b8, b9, b10, b11⟩ := hfb.bx
      rw [f1] at b0; rw [f2] at b1; rw [f3] at b2; rw [f4] at b3
      clear hz hfb f1 f2 f3 f4
      by_cases hlt : k < m
      · have HI := Lib.hid ((HR.out.below hbel).cut (39 + k * 8) 8 (by omega))
        rw [add_pos ad (by omega), ← Nat.add_assoc] at HI
        have hb8 := val_k (all_cut HL.out (39 + k * 8) 8) (cutL_len (zs := zs) (a := 39 + k * 8) (n := 8) (by rw [HZ.out]; omega))
        have HBY := Lib.hid (show byt zs k = val (cutL zs (39 + k * 8) 8) by unfold byt; rw [HE])
        obtain ⟨v, hv0⟩ : ∃ v, val (cutL zs (39 + k * 8) 8) = v := ⟨_, rfl⟩
        rw [hv0] at hb8 HBY
        have HV0 := Lib.hid hv0
        clear hv0
        have HST := Lib.hid (frk_step zs k)
        rw [HBY.out] at HST
        have dcell := HFB.out.bx.data k (by omega)
        generalize (frk zs k).d k = y at dcell
        have i2 : (k : Int) * 8 ≤ ((k : Int) + 1) * 8 := by omega
        have i3 : ((k : Int) + 1) * 8 ≤ (cap : Int) - 39 := by omega
        have i4 : (k : Int) < 8 := by omega
        have i5 : (v : Int) < 256 := by omega
        have i6 : ¬ cap - 39 = k * 8 := by omega
        go_wp2_with fail
        rw [show (k + 1) * 8 - k * 8 = 8 by omega]
        refine (fvalue_ok _ 8 _ _ _ HI.out (by omega) (all_cut HL.out _ _)).mono ?_
        rintro e w' ⟨rfl, rfl⟩
        rw [HV0.out]
        go_wp2
        go_roundw
        case rel =>
          refine ⟨k + 1, by omega, by go_num, HZ0.out.away (by omega), ?_, hbel.setCell (by simp; omega) _⟩
          rw [← HST.out]; exact HFB.out.put k (by omega) _
        case measure => simp [intOf]; omega
      · have HKM := Lib.hid (show k = m by omega)
        go_wp2
        refine bodyPost_ret (v := .tuple #[(frk zs k).val, .int .i64 0]) (by rw [results_cell_tmp rfl]; go_simp; exact ⟨by rw [HF1.out], by rw [HF2.out], by rw [HF3.out], by rw [HF4.out]⟩) rfl ⟨by unfold frm; rw [HEM.out, ← HKM.out], ?_⟩
        exact set12 hbel (Nat.le_refl _) _ _ _ _ _ _ _ _ _ _ _ _

end Go.Proofs.YtalpbnfebcafgaaGreat
