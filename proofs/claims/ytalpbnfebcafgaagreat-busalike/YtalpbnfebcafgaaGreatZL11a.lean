/- The walk of the law BusAlike. -/
import Derived.Test.YtalpbnfebcafgaaGreatY11
namespace Go.Proofs.YtalpbnfebcafgaaGreat
set_option maxRecDepth 20000
open Go.RowKit
set_option linter.unusedSimpArgs false

set_option maxHeartbeats 16000000 in
set_option maxRecDepth 100000 in
theorem alike_any (A : Option Addr) (m c : Nat) (l : List Ac) (NI TI x0 x1 : Int) (w : World) (hg : Gs acT w A m l) (hwf : ∀ a ∈ l, a.f.wf ∧ (Lit.int .i64 a.t).wf = true) :
    Calls Tryz.prog 4 #[.slice A m c, .agg #[.int .i64 NI, .int .i64 TI], .agg #[.int .i64 x0, .int .i64 x1]] w fun e w' => e = .returned (.bool true) ∧ Below w.heap.size w w' := by
  have HG := Lib.hid hg
  have HWF := Lib.hid hwf
  have HB3 := Lib.hid (alloc2 w (.cells #[.int .i64 NI, .int .i64 TI] 61) (.cells #[.int .i64 x0, .int .i64 x1] 62))
  have HX3 := Lib.hid (show ((w.alloc (.cells #[.int .i64 NI, .int .i64 TI] 61)).alloc (.cells #[.int .i64 x0, .int .i64 x1] 62)).heap[w.heap.size]? = some (.cells #[.int .i64 NI, .int .i64 TI] 61) from (heap_alloc_old _ _ (r := w.heap.size) (by simp)).trans (heap_alloc_new w _))
  have HY3 := Lib.hid (show ((w.alloc (.cells #[.int .i64 NI, .int .i64 TI] 61)).alloc (.cells #[.int .i64 x0, .int .i64 x1] 62)).heap[w.heap.size + 1]? = some (.cells #[.int .i64 x0, .int .i64 x1] 62) by have h := heap_alloc_new (w.alloc (.cells #[.int .i64 NI, .int .i64 TI] 61)) (.cells #[.int .i64 x0, .int .i64 x1] 62); rwa [show (w.alloc (.cells #[.int .i64 NI, .int .i64 TI] 61)).heap.size = w.heap.size + 1 by simp] at h)
  clear hg hwf
  go_enter Tryz.func4, Tryz.ntmps4
  go_upto_region 1 with fail
  obtain ⟨w3, hw3⟩ : ∃ w3, (w.alloc (.cells #[.int .i64 NI, .int .i64 TI] 61)).alloc (.cells #[.int .i64 x0, .int .i64 x1] 62) = w3 := ⟨_, rfl⟩
  rw [hw3] at HB3 HX3 HY3 ⊢
  clear hw3
  have s0 : w3.cell? ⟨w.heap.size, 0, none⟩ = some (.int .i64 NI) := cell_of_row _ _ 0 _ _ (0, 0) HX3.out
  have s1 : w3.cell? ⟨w.heap.size, 1, none⟩ = some (.int .i64 TI) := cell_of_row _ _ 1 _ _ (0, 0) HX3.out
  by_cases h40 : 40 < m
  · have h40' : decide ((40 : Int) < (m : Int)) = true := by simp; omega
    have HBK := Lib.hid HB3.out
    go_wp2_with fail
    refine (awake11 _).mono ?_
    rintro e wz ⟨rfl, hbz⟩
    have HBZ := Lib.hid (nxt HBK.out hbz)
    clear hbz
    go_wp2
    go_ret
    exact ⟨rfl, HBZ.out⟩
  have h40' : decide ((40 : Int) < (m : Int)) = false := by simp; omega
  by_cases hN2 : NI < 2
  · have hN2' : decide (NI < 2) = true := decide_eq_true hN2
    have HBK := Lib.hid HB3.out
    go_wp2_with fail
    refine (awake11 _).mono ?_
    rintro e wz ⟨rfl, hbz⟩
    have HBZ := Lib.hid (nxt HBK.out hbz)
    clear hbz
    go_wp2
    go_ret
    exact ⟨rfl, HBZ.out⟩
  have hN2' : decide (NI < 2) = false := decide_eq_false hN2
  by_cases hN8 : 8 < NI
  · have hN8' : decide (8 < NI) = true := decide_eq_true hN8
    have HBK := Lib.hid HB3.out
    go_wp2_with fail
    refine (awake11 _).mono ?_
    rintro e wz ⟨rfl, hbz⟩
    have HBZ := Lib.hid (nxt HBK.out hbz)
    clear hbz
    go_wp2
    go_ret
    exact ⟨rfl, HBZ.out⟩
  have hN8' : decide (8 < NI) = false := decide_eq_false hN8
  by_cases hT0 : TI < 0
  · have hT0' : decide (TI < 0) = true := decide_eq_true hT0
    have HBK := Lib.hid HB3.out
    go_wp2_with fail
    refine (awake11 _).mono ?_
    rintro e wz ⟨rfl, hbz⟩
    have HBZ := Lib.hid (nxt HBK.out hbz)
    clear hbz
    go_wp2
    go_ret
    exact ⟨rfl, HBZ.out⟩
  have hT0' : decide (TI < 0) = false := decide_eq_false hT0
  by_cases hT3 : 400 < TI
  · have hT3' : decide (400 < TI) = true := decide_eq_true hT3
    have HBK := Lib.hid HB3.out
    go_wp2_with fail
    refine (awake11 _).mono ?_
    rintro e wz ⟨rfl, hbz⟩
    have HBZ := Lib.hid (nxt HBK.out hbz)
    clear hbz
    go_wp2
    go_ret
    exact ⟨rfl, HBZ.out⟩
  have hT3' : decide (400 < TI) = false := decide_eq_false hT3
  have HCK := Lib.hid (check11 (c := c) (HG.out.below HB3.out) NI (by omega) (by omega))
  by_cases hc : chkA NI l = 0
  rotate_left
  · have hc' : (chkA NI l != 0) = true := by simpa using hc
    go_wp2_with fail
    refine HCK.out.mono ?_
    rintro e w4 ⟨rfl, hb4⟩
    have HB4 := Lib.hid (nxt HB3.out hb4)
    clear hb4
    have HBK := Lib.hid HB4.out
    go_wp2_with fail
    refine (awake11 _).mono ?_
    rintro e wz ⟨rfl, hbz⟩
    have HBZ := Lib.hid (nxt HBK.out hbz)
    clear hbz
    go_wp2
    go_ret
    exact ⟨rfl, HBZ.out⟩
  obtain ⟨N, rfl⟩ := Int.eq_ofNat_of_zero_le (show 0 ≤ NI by omega)
  obtain ⟨T, rfl⟩ := Int.eq_ofNat_of_zero_le (show 0 ≤ TI by omega)
  rw [hc] at HCK
  have HC := Lib.hid (chkA_ok.1 hc)
  have HCC := Lib.hid hc
  clear hc
  go_wp2_with fail
  refine HCK.out.mono ?_
  rintro e w4 ⟨rfl, hb4⟩
  have HB4 := Lib.hid (nxt HB3.out hb4)
  have HX4 := Lib.hid ((hb4.block _ (typed_lt HX3.out)).trans HX3.out)
  have HY4 := Lib.hid ((hb4.block _ (typed_lt HY3.out)).trans HY3.out)
  have s0 : w4.cell? ⟨w.heap.size, 0, none⟩ = some (.int .i64 (N : Nat)) := cell_of_row _ _ 0 _ _ (0, 0) HX4.out
  have t0 : w4.cell? ⟨w.heap.size + 1, 0, none⟩ = some (.int .i64 x0) := cell_of_row _ _ 0 _ _ (0, 0) HY4.out
  have t1 : w4.cell? ⟨w.heap.size + 1, 1, none⟩ = some (.int .i64 x1) := cell_of_row _ _ 1 _ _ (0, 0) HY4.out
  clear hb4 HB3 HX3 HY3 HCK
  have hN0 : ((N : Nat) : Int) ≠ 0 := by omega
  have hNl : (2 : Int) ≤ (N : Int) := by omega
  have hNu : (N : Int) ≤ 8 := by omega
  obtain ⟨p, hp, pm1, -, pb1, pb2⟩ := mod_in x0 N (by omega)
  obtain ⟨q, hq, qm1, -, qb1, qb2⟩ := mod_in x1 N (by omega)
  go_wp2_with fail
  go_quiet (fail)
  obtain ⟨w5, hw5⟩ : ∃ W, w4.drewN nq = W := ⟨_, rfl⟩
  rw [hw5]
  have HB5 := Lib.hid (show Below w.heap.size w w5 by rw [← hw5]; exact belowN HB4.out nq)
  have HX5 := Lib.hid (show w5.heap[w.heap.size]? = some (.cells #[.int .i64 (N : Nat), .int .i64 (T : Nat)] 61) by rw [← hw5]; exact HX4.out)
  have HY5 := Lib.hid (show w5.heap[w.heap.size + 1]? = some (.cells #[.int .i64 x0, .int .i64 x1] 62) by rw [← hw5]; exact HY4.out)
  have s0 : w5.cell? ⟨w.heap.size, 0, none⟩ = some (.int .i64 (N : Nat)) := cell_of_row _ _ 0 _ _ (0, 0) HX5.out
  have t1 : w5.cell? ⟨w.heap.size + 1, 1, none⟩ = some (.int .i64 x1) := cell_of_row _ _ 1 _ _ (0, 0) HY5.out
  clear hw5 HB4 HX4 HY4 t0
  go_wp2_with fail
  go_quiet (fail)
  obtain ⟨w6, hw6⟩ : ∃ W, w5.drewN nq = W := ⟨_, rfl⟩
  rw [hw6]
  have HB6 := Lib.hid (show Below w.heap.size w w6 by rw [← hw6]; exact belowN HB5.out nq)
  have HX6 := Lib.hid (show w6.heap[w.heap.size]? = some (.cells #[.int .i64 (N : Nat), .int .i64 (T : Nat)] 61) by rw [← hw6]; exact HX5.out)
  clear hw6 HB5 HX5 HY5 s0 s1 t1 pm1 pb1 pb2 qm1 qb1 qb2
  have hm40 : m ≤ 40 := by omega
  go_wp2
  go_loopw [9, 10] (fun v i wr => ∃ k : Nat, k ≤ m ∧ i = .int .i64 k ∧ Gown acT wr w6.heap.size v ((l.take k).map (chA p q)) ∧ Below w6.heap.size w6 wr) (fun _ i _ => m - (intOf i).toNat)
  case atStart => exact ⟨0, Nat.zero_le _, rfl, Gown.nil _ _ _, Below.refl _ _⟩
  case round =>
    obtain ⟨k, hk, rfl, hgv, hb⟩ := hrel
    have HB := Lib.hid hb
    obtain ⟨Av, cv, hv, -⟩ := hgv.len
    have hlk : ((l.take k).map (chA p q)).length = k := by rw [List.length_map, List.length_take, HG.out.1]; omega
    rw [hlk] at hv
    subst hv
    have HGV := Lib.hid hgv
    by_cases hlt : k < m
    · have hlt' : (k : Int) < (m : Int) := by omega
      have hkl : k < l.length := by rw [HG.out.1]; exact hlt
      obtain ⟨a, ha⟩ : ∃ a, l[k] = a := ⟨_, rfl⟩
      have hla : l[k]? = some a := by rw [List.getElem?_eq_getElem hkl, ha]
      have HTK := Lib.hid (show (l.take (k + 1)).map (chA p q) = (l.take k).map (chA p q) ++ [chA p q a] by rw [List.take_add_one, hla]; simp)
      obtain ⟨ad, rfl, hal, c0, c1, c2, c3, c4, c5, c6, c7, c8, c9, c10, c11, c12, c13, c14⟩ := (HG.out.below (nxt HB6.out hb)).ac hla
      have hch := fun W => change_any a.n p q W
      obtain ⟨y, hy⟩ : ∃ y, (if a.n = (p : Int) then (q : Int) else if a.n = (q : Int) then (p : Int) else a.n) = y := ⟨_, rfl⟩
      have hcy : chA p q a = ⟨a.t, y, a.ft, a.f⟩ := by unfold chA; rw [hy]
      rw [hy] at hch
      rw [hcy] at HTK
      obtain ⟨at_, an, aft, af⟩ := a
      simp only at *
      have HAL := Lib.hid (alloc2 wr (.cells (accs ⟨at_, y, aft, af⟩).toArray 35) (.cells (accs ⟨at_, y, aft, af⟩).toArray 35))
      have HGA := Lib.hid (HGV.out.below HAL.out)
      have HGS := Lib.hid (show Gs acT ((wr.alloc (.cells (accs ⟨at_, y, aft, af⟩).toArray 35)).alloc (.cells (accs ⟨at_, y, aft, af⟩).toArray 35)) (some ⟨wr.heap.size + 1, 0, none⟩) 1 [⟨at_, y, aft, af⟩] from by have h2 := Gown.lit1 acT (wr.alloc (.cells (accs ⟨at_, y, aft, af⟩).toArray 35)) ⟨at_, y, aft, af⟩; rw [show (wr.alloc (.cells (accs ⟨at_, y, aft, af⟩).toArray 35)).heap.size = wr.heap.size + 1 by simp] at h2; exact h2)
      have HBA := Lib.hid (Nat.le_trans hb.size HAL.out.size)
      have HLN := Lib.hid (show ((l.take k).map (chA p q)).length + 1 ≤ 1000000 by rw [hlk]; omega)
      have HBN := Lib.hid (nxt hb HAL.out)
      clear hla ha hcy hy hb hgv hkl hlk
      go_wp2_with fail
      refine (hch _).mono ?_
      rintro e wx ⟨rfl, rfl⟩
      go_wp2_with (first | (at_builtin; refine append_E11 acT _ (by rfl) _ _ rfl w6.heap.size _ _ rfl HGA.out _ 1 1 [⟨at_, y, aft, af⟩] rfl HGS.out HLN.out HBA.out ?_; intro v7 w7 h7 g7 l7) | fail)
      have HB7 := Lib.hid (HBN.out.grown g7 HBA.out (own_ge HGA.out))
      rw [← HTK.out] at h7
      have H7 := Lib.hid h7
      obtain ⟨A7, c7', hv7, -⟩ := h7.len
      obtain ⟨n7, hn7⟩ : ∃ n7, ((l.take (k + 1)).map (chA p q)).length = n7 := ⟨_, rfl⟩
      rw [hn7] at hv7
      subst hv7
      clear h7 g7 l7 hn7
      go_wp2
      go_roundw
      case rel => exact ⟨k + 1, by omega, by go_num, H7.out, HB7.out⟩
      case measure => simp [intOf]; omega
    · have hlt' : ¬ (k : Int) < (m : Int) := by omega
      have hkm : k = m := by omega
      subst hkm
      rw [List.take_of_length_le (by rw [HG.out.1]; exact Nat.le_refl _)] at hgv hlk
      have HGO := Lib.hid hgv
      have HLO := Lib.hid hlk
      have HBR := Lib.hid (nxt HB6.out hb)
      have HXR := Lib.hid ((hb.block _ (typed_lt HX6.out)).trans HX6.out)
      clear hgv hlk hb HGV
      rename World => w7
      have s0 : w7.cell? ⟨w.heap.size, 0, none⟩ = some (.int .i64 (N : Nat)) := cell_of_row _ _ 0 _ _ (0, 0) HXR.out
      have s1 : w7.cell? ⟨w.heap.size, 1, none⟩ = some (.int .i64 (T : Nat)) := cell_of_row _ _ 1 _ _ (0, 0) HXR.out
      go_wp2_with fail
      refine (play_any (c := c) (HG.out.below HBR.out) (by omega) N (by omega) (by omega) HCC.out HWF.out T (by omega)).mono ?_
      rintro e w8 ⟨u1, v1, rfl, hu1, hv1, hb8⟩
      have HB8 := Lib.hid (nxt HBR.out hb8)
      have hx8 := (hb8.block _ (typed_lt HXR.out)).trans HXR.out
      have s0 : w8.cell? ⟨w.heap.size, 0, none⟩ = some (.int .i64 (N : Nat)) := cell_of_row _ _ 0 _ _ (0, 0) hx8
      have s1 : w8.cell? ⟨w.heap.size, 1, none⟩ = some (.int .i64 (T : Nat)) := cell_of_row _ _ 1 _ _ (0, 0) hx8
      have HGO8 := Lib.hid (show Gs acT w8 Av k (l.map (chA p q)) by have h := HGO.out.gs; rw [HLO.out] at h; exact h.below hb8)
      have HCC2 := Lib.hid (show chkA (N : Int) (l.map (chA p q)) = 0 from chkA_ok.2 fun a ha => by
        obtain ⟨a0, h0, rfl⟩ := List.mem_map.1 ha
        have h1 := HC.out a0 h0
        obtain ⟨i, hi⟩ := Int.eq_ofNat_of_zero_le h1.2.1
        have h2 := chA_n (p := p) (q := q) hi
        have h3 := chg_lt (i := i) hp hq (by omega)
        exact ⟨h1.1, by rw [h2]; omega, by rw [h2]; omega, h1.2.2.2⟩)
      have HWF2 := Lib.hid (show ∀ a ∈ l.map (chA p q), a.f.wf ∧ (Lit.int .i64 a.t).wf = true from fun a ha => by
        obtain ⟨a0, h0, rfl⟩ := List.mem_map.1 ha
        exact HWF.out a0 h0)
      have HSW := Lib.hid (sw_plays (l := l) hp hq (by omega) (fun a ha => ⟨(HC.out a ha).2.1, (HC.out a ha).2.2.1⟩) T)
      have HPO := Lib.hid (plays_ok (N := N) (l := l) (by omega) (fun a ha => (HWF.out a ha).1) T)
      obtain ⟨P1, hP1⟩ : ∃ P1, plays N l T = P1 := ⟨_, rfl⟩
      obtain ⟨P2, hP2⟩ : ∃ P2, plays N (l.map (chA p q)) T = P2 := ⟨_, rfl⟩
      rw [hP1] at hu1 hv1 HSW HPO
      rw [hP2] at HSW
      have HP2 := Lib.hid hP2
      have HU1 := Lib.hid hu1
      have HV1 := Lib.hid hv1
      obtain ⟨A1, k1, hu1', -⟩ := hu1.len
      obtain ⟨A2, k2, hv1', -⟩ := hv1.len
      obtain ⟨nr, hnr⟩ : ∃ nr, P1.rs.length = nr := ⟨_, rfl⟩
      obtain ⟨ne, hne⟩ : ∃ ne, P1.es.length = ne := ⟨_, rfl⟩
      rw [hnr] at hu1'
      rw [hne] at hv1'
      subst hu1'; subst hv1'
      have HNR := Lib.hid hnr
      have HNE := Lib.hid hne
      clear hu1 hv1 hnr hne hP1 hP2 hx8
      go_wp2_with fail
      refine (play_any (c := cv) HGO8.out (by omega) N (by omega) (by omega) HCC2.out HWF2.out T (by omega)).mono ?_
      rintro e w9 ⟨u2, v2, rfl, hu2, hv2, hb9⟩
      rw [HP2.out] at hu2 hv2
      have HB9 := Lib.hid (nxt HB8.out hb9)
      obtain ⟨A3, k3, hu2', -⟩ := hu2.len
      obtain ⟨A4, k4, hv2', -⟩ := hv2.len
      have hl3 : P2.rs.length = nr := by rw [HSW.out.r, List.length_map]; exact HNR.out
      have hl4 : P2.es.length = ne := by rw [HSW.out.e.length_eq, List.length_map]; exact HNE.out
      rw [hl3] at hu2'
      rw [hl4] at hv2'
      subst hu2'; subst hv2'
      have hnr5 : nr ≤ 1000 := by have h := HPO.out.rl; rw [HNR.out] at h; omega
      have hne5 : ne ≤ 100000 := by have h := HPO.out.el; rw [HNE.out] at h; omega
      have HR1 := Lib.hid (show Gs rnT w9 A1 nr P1.rs by have h := (HU1.out.below hb9).gs; rw [HNR.out] at h; exact h)
      have HR2 := Lib.hid (show Gs rnT w9 A3 nr P2.rs by have h := hu2.gs; rw [hl3] at h; exact h)
      have HE1 := Lib.hid (show Gs evT w9 A2 ne P1.es by have h := (HV1.out.below hb9).gs; rw [HNE.out] at h; exact h)
      have HE2 := Lib.hid (show Gs evT w9 A4 ne P2.es by have h := hv2.gs; rw [hl4] at h; exact h)
      clear hu2 hv2 hl3 hl4 hb9 HU1 HV1 HGO8 HCC2 HWF2 s0 s1 HXR HBR HB8 HGO HLO
      have hpq : p < 8 ∧ q < 8 := by omega
      go_wp2
      go_loopw [18] (fun i wr => ∃ j : Nat, j ≤ nr ∧ i = .int .i64 j ∧ Below w9.heap.size w9 wr) (fun i _ => nr - (intOf i).toNat)
      case atStart => exact ⟨0, Nat.zero_le _, rfl, Below.refl _ _⟩
      case round =>
        rename World => wr
        obtain ⟨j, hj, rfl, hb⟩ := hrel
        have HBJ := Lib.hid hb
        by_cases hlj : j < nr
        · have hlj' : (j : Int) < (nr : Int) := by omega
          have hjl : j < P1.rs.length := by rw [HNR.out]; exact hlj
          obtain ⟨r, hr⟩ : ∃ r, P1.rs[j] = r := ⟨_, rfl⟩
          have hrj : P1.rs[j]? = some r := by rw [List.getElem?_eq_getElem hjl, hr]
          have hd := HSW.out.d r (List.mem_of_getElem? hrj)
          have hr2 : P2.rs[j]? = some (swR p q r) := by rw [HSW.out.r, List.getElem?_map, hrj]; rfl
          obtain ⟨ad1, rfl, hal1, a0, a1, a2⟩ := (HR1.out.below hb).rn hrj
          obtain ⟨ad2, rfl, hal2, b0, b1, b2⟩ := (HR2.out.below hb).rn hr2
          obtain ⟨rn, rb, rd⟩ := r
          simp only [swR] at a0 a1 a2 b0 b1 b2 hd
          have hp32 : 2 ^ p < 4294967296 := Nat.lt_of_lt_of_le (Nat.pow_lt_pow_right (n := 32) (by omega) (by omega)) (by decide)
          have hq32 : 2 ^ q < 4294967296 := Nat.lt_of_lt_of_le (Nat.pow_lt_pow_right (n := 32) (by omega) (by omega)) (by decide)
          have hU : bits .and .u32 ((rd : Int) / 2 ^ p) 1 = ((rd / 2 ^ p % 2 : Nat) : Int) := by
            have h := u32_and_nat (rd / 2 ^ p) 1 (Nat.lt_of_le_of_lt (Nat.div_le_self _ _) hd) (by omega)
            rw [nat_mask1] at h
            rw [← h]; simp
          have hV : bits .and .u32 ((rd : Int) / 2 ^ q) 1 = ((rd / 2 ^ q % 2 : Nat) : Int) := by
            have h := u32_and_nat (rd / 2 ^ q) 1 (Nat.lt_of_le_of_lt (Nat.div_le_self _ _) hd) (by omega)
            rw [nat_mask1] at h
            rw [← h]; simp
          have hu1 : rd / 2 ^ p % 2 ≤ 1 := by omega
          have hv1 : rd / 2 ^ q % 2 ≤ 1 := by omega
          have hfin : ((rd &&& (4294967295 - 2 ^ p)) &&& (4294967295 - 2 ^ q)) ||| ((rd / 2 ^ q % 2) * 2 ^ p) ||| ((rd / 2 ^ p % 2) * 2 ^ q) = swD p q rd := rfl
          rw [← hfin] at b2
          clear hfin
          have sp : (2 : Int) ^ p % 4294967296 = ((2 ^ p : Nat) : Int) := shl_form hp32 (by simp)
          have sq : (2 : Int) ^ q % 4294967296 = ((2 ^ q : Nat) : Int) := shl_form hq32 (by simp)
          generalize rd / 2 ^ p % 2 = u at *
          generalize rd / 2 ^ q % 2 = v at *
          have mu : u * 2 ^ q ≤ 1 * 2 ^ q := Nat.mul_le_mul_right _ hu1
          have mv : v * 2 ^ p ≤ 1 * 2 ^ p := Nat.mul_le_mul_right _ hv1
          have su : (u : Int) * 2 ^ q % 4294967296 = ((u * 2 ^ q : Nat) : Int) := shl_form (by omega) (by simp)
          have sv : (v : Int) * 2 ^ p % 4294967296 = ((v * 2 ^ p : Nat) : Int) := shl_form (by omega) (by simp)
          have o1 := u32_andNot_nat rd (2 ^ p) hd hp32
          have o2 := u32_andNot_nat (rd &&& (4294967295 - 2 ^ p)) (2 ^ q) (and_lt hd) hq32
          have o3 := u32_or_nat ((rd &&& (4294967295 - 2 ^ p)) &&& (4294967295 - 2 ^ q)) (v * 2 ^ p) (and_lt (and_lt hd)) (by omega)
          have o4 := u32_or_nat (((rd &&& (4294967295 - 2 ^ p)) &&& (4294967295 - 2 ^ q)) ||| (v * 2 ^ p)) (u * 2 ^ q) (or_lt (and_lt (and_lt hd)) (by omega)) (by omega)
          generalize ((rd &&& (4294967295 - 2 ^ p)) &&& (4294967295 - 2 ^ q)) ||| (v * 2 ^ p) ||| (u * 2 ^ q) = d4 at *
          generalize ((rd &&& (4294967295 - 2 ^ p)) &&& (4294967295 - 2 ^ q)) ||| (v * 2 ^ p) = d3 at *
          generalize (rd &&& (4294967295 - 2 ^ p)) &&& (4294967295 - 2 ^ q) = d2 at *
          generalize rd &&& (4294967295 - 2 ^ p) = d1 at *
          generalize (v * 2 ^ p : Nat) = vp at *
          generalize (u * 2 ^ q : Nat) = uq at *
          generalize (2 ^ p : Nat) = PP at *
          generalize (2 ^ q : Nat) = QQ at *
          have hne := fun W => rneqA rn rb d4 W
          have b0' : ∀ o, (wr.alloc o).cell? (ad2.add (j * 3)) = some (.int .i64 rn) := fun o => (((Below.refl wr.heap.size wr).alloc (Nat.le_refl _) o).cell (by rw [block_of_add]; exact hal2)).trans b0
          have b1' : ∀ o, (wr.alloc o).cell? ⟨(ad2.add (j * 3)).block, (ad2.add (j * 3)).off + 1, none⟩ = some (.int .i64 rb) := fun o => (((Below.refl wr.heap.size wr).alloc (Nat.le_refl _) o).cell (p := ⟨(ad2.add (j * 3)).block, (ad2.add (j * 3)).off + 1, none⟩) (by show (ad2.add (j * 3)).block < _; rw [block_of_add]; exact hal2)).trans b1
          have b2' : ∀ o, (wr.alloc o).cell? ⟨(ad2.add (j * 3)).block, (ad2.add (j * 3)).off + 2, none⟩ = some (.int .u32 (d4 : Nat)) := fun o => (((Below.refl wr.heap.size wr).alloc (Nat.le_refl _) o).cell (p := ⟨(ad2.add (j * 3)).block, (ad2.add (j * 3)).off + 2, none⟩) (by show (ad2.add (j * 3)).block < _; rw [block_of_add]; exact hal2)).trans b2
          clear hd hu1 hv1 mu mv hp32 hq32 hr hrj hr2 hjl hb
          go_upto_region 22 with fail
          go_wp2_with fail
          go_region
          go_wp2_with fail
          go_region
          go_wp2_with fail
          go_quiet (fail)
          go_wp2
          go_roundw
          case rel => exact ⟨j + 1, by omega, by go_num, belowN (nxt HBJ.out ((Below.refl _ _).alloc (Nat.le_refl _) _)) _⟩
          case measure => simp [intOf]; omega
        · have hlj' : ¬ (j : Int) < (nr : Int) := by omega
          clear hb
          as_aux_lemma =>
          go_wp2
          go_loopw [22] (fun i wi => ∃ j2 : Nat, j2 ≤ ne ∧ i = .int .i64 j2 ∧ Below w9.heap.size w9 wi) (fun i _ => ne - (intOf i).toNat)
          case atStart => exact ⟨0, Nat.zero_le _, rfl, HBJ.out⟩
          case round =>
            rename World => wi
            obtain ⟨j2, hj2, rfl, hb2⟩ := hrel
            have HB2 := Lib.hid hb2
            by_cases hlj2 : j2 < ne
            · have hlj2' : (j2 : Int) < (ne : Int) := by omega
              have hjl : j2 < P1.es.length := by rw [HNE.out]; exact hlj2
              obtain ⟨e, he⟩ : ∃ e, P1.es[j2] = e := ⟨_, rfl⟩
              have hej : P1.es[j2]? = some e := by rw [List.getElem?_eq_getElem hjl, he]
              obtain ⟨ad3, rfl, hal3, e0, e1, e2, e3, e4, e5, e6, e7, e8, e9, e10, e11, e12, e13, e14⟩ := (HE1.out.below hb2).ev hej
              have hch := fun W => change_any ((e.2.1 : Nat) : Int) p q W
              obtain ⟨y, hy⟩ : ∃ y, chE p q e = y := ⟨_, rfl⟩
              have hcn : (if ((e.2.1 : Nat) : Int) = (p : Int) then (q : Int) else if ((e.2.1 : Nat) : Int) = (q : Int) then (p : Int) else ((e.2.1 : Nat) : Int)) = ((y.2.1 : Nat) : Int) := by rw [← hy]; exact chA_n (a := ⟨0, ((e.2.1 : Nat) : Int), false, Fr.zero⟩) rfl
              have hy1 : y.1 = e.1 ∧ y.2.2 = e.2.2 := by rw [← hy]; exact ⟨rfl, rfl⟩
              have HCS := Lib.hid (count_same HSW.out.e y)
              rw [hcn] at hch
              obtain ⟨yt, yn, yk, yf⟩ := y
              obtain ⟨et, en, ek, ef⟩ := e
              obtain ⟨h1, h2⟩ := hy1
              simp only at h1
              injection h2 with h2 h3
              subst h1; subst h2; subst h3
              simp only at e0 e1 e2 e3 e4 e5 e6 e7 e8 e9 e10 e11 e12 e13 e14 hch
              clear hcn hy he hej hjl hb2
              go_wp2_with fail
              refine (hch _).mono ?_
              rintro e wx ⟨rfl, rfl⟩
              go_upto_region 31 with fail
              have HBG := Lib.hid (show Below w9.heap.size w9 (wi.alloc (.cells (becs (yt, yn, yk, yf)).toArray 41)) from nxt HB2.out ((Below.refl _ _).alloc (Nat.le_refl _) _))
              have hvg : (wi.alloc (.cells (becs (yt, yn, yk, yf)).toArray 41)).heap[wi.heap.size]? = some (.cells (becs (yt, yn, yk, yf)).toArray 41) := heap_alloc_new wi _
              obtain ⟨wg, hwg⟩ : ∃ wg, wi.alloc (.cells (becs (yt, yn, yk, yf)).toArray 41) = wg := ⟨_, rfl⟩
              have hwg' : wi.alloc (.cells #[.int .i64 (yt : Nat), .int .i64 (yn : Nat), .int .i64 yk, .int .i64 yf.id, .bool yf.ext, .bool yf.rtr, .int .i64 yf.len, .int .u8 (yf.d 0), .int .u8 (yf.d 1), .int .u8 (yf.d 2), .int .u8 (yf.d 3), .int .u8 (yf.d 4), .int .u8 (yf.d 5), .int .u8 (yf.d 6), .int .u8 (yf.d 7)] 41) = wg := hwg
              rw [hwg] at HBG hvg
              rw [hwg']
              have HVG := Lib.hid hvg
              obtain ⟨G, hG⟩ : ∃ G, wi.heap.size = G := ⟨_, rfl⟩
              rw [hG] at HVG ⊢
              clear hwg hwg' hvg e0 e1 e2 e3 e4 e5 e6 e7 e8 e9 e10 e11 e12 e13 e14 hch HB2 hG hal3
              go_wp2
              go_loopw [24, 25] (fun th k2 wk => ∃ a : Nat, a ≤ ne ∧ k2 = .int .i64 a ∧ th = .int .i64 (((P2.es.take a).countP (fun s => sameE s (yt, yn, yk, yf)) : Nat) : Int) ∧ Below wg.heap.size wg wk) (fun _ k2 _ => ne - (intOf k2).toNat)
              case atStart => exact ⟨0, Nat.zero_le _, rfl, rfl, Below.refl _ _⟩
              case round =>
                rename World => wk
                obtain ⟨a, ha, rfl, rfl, hbk⟩ := hrel
                have HBK := Lib.hid hbk
                have hvk := (hbk.block _ (typed_lt HVG.out)).trans HVG.out
                have f0 : wk.cell? ⟨G, 0, none⟩ = _ := cell_of_row _ _ 0 _ _ (0, 0) hvk
                have f1 : wk.cell? ⟨G, 1, none⟩ = _ := cell_of_row _ _ 1 _ _ (0, 0) hvk
                have f2 : wk.cell? ⟨G, 2, none⟩ = _ := cell_of_row _ _ 2 _ _ (0, 0) hvk
                have f3 : wk.cell? ⟨G, 3, none⟩ = _ := cell_of_row _ _ 3 _ _ (0, 0) hvk
                have f4 : wk.cell? ⟨G, 4, none⟩ = _ := cell_of_row _ _ 4 _ _ (0, 0) hvk
                have f5 : wk.cell? ⟨G, 5, none⟩ = _ := cell_of_row _ _ 5 _ _ (0, 0) hvk
                have f6 : wk.cell? ⟨G, 6, none⟩ = _ := cell_of_row _ _ 6 _ _ (0, 0) hvk
                have f7 : wk.cell? ⟨G, 7, none⟩ = _ := cell_of_row _ _ 7 _ _ (0, 0) hvk
                have f8 : wk.cell? ⟨G, 8, none⟩ = _ := cell_of_row _ _ 8 _ _ (0, 0) hvk
                have f9 : wk.cell? ⟨G, 9, none⟩ = _ := cell_of_row _ _ 9 _ _ (0, 0) hvk
                have f10 : wk.cell? ⟨G, 10, none⟩ = _ := cell_of_row _ _ 10 _ _ (0, 0) hvk
                have f11 : wk.cell? ⟨G, 11, none⟩ = _ := cell_of_row _ _ 11 _ _ (0, 0) hvk
                have f12 : wk.cell? ⟨G, 12, none⟩ = _ := cell_of_row _ _ 12 _ _ (0, 0) hvk
                have f13 : wk.cell? ⟨G, 13, none⟩ = _ := cell_of_row _ _ 13 _ _ (0, 0) hvk
                have f14 : wk.cell? ⟨G, 14, none⟩ = _ := cell_of_row _ _ 14 _ _ (0, 0) hvk
                by_cases hla : a < ne
                · have hla' : (a : Int) < (ne : Int) := by omega
                  have hal : a < P2.es.length := by have h := HE2.out.1; omega
                  obtain ⟨z, hz⟩ : ∃ z, P2.es[a] = z := ⟨_, rfl⟩
                  have hza : P2.es[a]? = some z := by rw [List.getElem?_eq_getElem hal, hz]
                  obtain ⟨ad4, rfl, hal4, e0, e1, e2, e3, e4, e5, e6, e7, e8, e9, e10, e11, e12, e13, e14⟩ := (HE2.out.below (nxt HBG.out hbk)).ev hza
                  have hcs := count_step (fun s => sameE s (yt, yn, yk, yf)) P2.es hza
                  have hle := List.countP_le_length (p := fun s => sameE s (yt, yn, yk, yf)) (l := P2.es.take a)
                  rw [List.length_take] at hle
                  have heq := fun W => beveqG z (yt, yn, yk, yf) W
                  obtain ⟨cn, hcn⟩ : ∃ cn, (P2.es.take a).countP (fun s => sameE s (yt, yn, yk, yf)) = cn := ⟨_, rfl⟩
                  rw [hcn] at hcs hle ⊢
                  have hcl : cn ≤ 100000 := by omega
                  obtain ⟨zt, zn, zk, zf⟩ := z
                  simp only at e0 e1 e2 e3 e4 e5 e6 e7 e8 e9 e10 e11 e12 e13 e14 heq hcs
                  cases hs : sameE (zt, zn, zk, zf) (yt, yn, yk, yf)
                  · rw [hs] at heq hcs
                    have HCS2 := Lib.hid hcs
                    clear hz hza hal hle hcn hcs hbk hvk hs
                    as_aux_lemma =>
                    go_wp2_with fail
                    go_quiet (fail)
                    go_wp2
                    go_roundw
                    case rel => exact ⟨a + 1, by omega, by go_num, by rw [HCS2.out]; rfl, belowN HBK.out _⟩
                    case measure => simp [intOf]; omega
                  · rw [hs] at heq hcs
                    have HCS2 := Lib.hid hcs
                    clear hz hza hal hle hcn hcs hbk hvk hs
                    as_aux_lemma =>
                    go_wp2_with fail
                    go_quiet (fail)
                    go_wp2
                    go_roundw
                    case rel => exact ⟨a + 1, by omega, by go_num, by rw [HCS2.out]; go_num, belowN HBK.out _⟩
                    case measure => simp [intOf]; omega
                · have hla' : ¬ (a : Int) < (ne : Int) := by omega
                  have hane : a = ne := by omega
                  rw [List.take_of_length_le (by have h := HE2.out.1; omega), HCS.out]
                  obtain ⟨C, hC⟩ : ∃ C, P1.es.countP (fun s => sameE (chE p q s) (yt, yn, yk, yf)) = C := ⟨_, rfl⟩
                  have HCC3 := Lib.hid hC
                  have hC5 : C ≤ 100000 := by rw [← hC]; exact Nat.le_trans List.countP_le_length (by rw [HNE.out]; exact hne5)
                  rw [hC]
                  clear hbk hvk f0 f1 f2 f3 f4 f5 f6 f7 f8 f9 f10 f11 f12 f13 f14 hC
                  as_aux_lemma =>
                  go_wp2
                  go_loopw [24, 26] (fun th k3 wq => ∃ b : Nat, b ≤ ne ∧ k3 = .int .i64 b ∧ th = .int .i64 ((C : Int) - (((P1.es.take b).countP (fun s => sameE (chE p q s) (yt, yn, yk, yf)) : Nat) : Int)) ∧ Below wg.heap.size wg wq) (fun _ k3 _ => ne - (intOf k3).toNat)
                  case atStart => exact ⟨0, Nat.zero_le _, rfl, by simp, HBK.out⟩
                  case round =>
                    rename World => wq
                    obtain ⟨b, hb', rfl, rfl, hbq⟩ := hrel
                    have HBQ := Lib.hid hbq
                    by_cases hlb : b < ne
                    · have hlb' : (b : Int) < (ne : Int) := by omega
                      have hbl : b < P1.es.length := by rw [HNE.out]; exact hlb
                      obtain ⟨z, hz⟩ : ∃ z, P1.es[b] = z := ⟨_, rfl⟩
                      have hzb : P1.es[b]? = some z := by rw [List.getElem?_eq_getElem hbl, hz]
                      obtain ⟨ad5, hA5, hal5, e0, e1, e2, e3, e4, e5, e6, e7, e8, e9, e10, e11, e12, e13, e14⟩ := (HE1.out.below (nxt HBG.out hbq)).ev hzb
                      injection hA5 with hA5
                      subst hA5
                      have hch := fun W => change_any ((z.2.1 : Nat) : Int) p q W
                      have hcs := count_step (fun s => sameE (chE p q s) (yt, yn, yk, yf)) P1.es hzb
                      have hle := List.countP_le_length (p := fun s => sameE (chE p q s) (yt, yn, yk, yf)) (l := P1.es.take b)
                      rw [List.length_take] at hle
                      obtain ⟨y2, hy2⟩ : ∃ y2, chE p q z = y2 := ⟨_, rfl⟩
                      have hcn : (if ((z.2.1 : Nat) : Int) = (p : Int) then (q : Int) else if ((z.2.1 : Nat) : Int) = (q : Int) then (p : Int) else ((z.2.1 : Nat) : Int)) = ((y2.2.1 : Nat) : Int) := by rw [← hy2]; exact chA_n (a := ⟨0, ((z.2.1 : Nat) : Int), false, Fr.zero⟩) rfl
                      have hyy : y2.1 = z.1 ∧ y2.2.2 = z.2.2 := by rw [← hy2]; exact ⟨rfl, rfl⟩
                      rw [hcn] at hch
                      simp only [hy2] at hcs
                      have heq := fun W => beveqG y2 (yt, yn, yk, yf) W
                      obtain ⟨cn, hcm⟩ : ∃ cn, (P1.es.take b).countP (fun s => sameE (chE p q s) (yt, yn, yk, yf)) = cn := ⟨_, rfl⟩
                      rw [hcm] at hcs hle ⊢
                      have hcl : cn ≤ 100000 := by omega
                      have hvq := fun o => (((Below.refl wq.heap.size wq).alloc (Nat.le_refl _) o).block G (typed_lt ((hbq.block _ (typed_lt HVG.out)).trans HVG.out))).trans ((hbq.block _ (typed_lt HVG.out)).trans HVG.out)
                      have f0 : ∀ o, (wq.alloc o).cell? ⟨G, 0, none⟩ = _ := fun o => cell_of_row _ _ 0 _ _ (0, 0) (hvq o)
                      have f1 : ∀ o, (wq.alloc o).cell? ⟨G, 1, none⟩ = _ := fun o => cell_of_row _ _ 1 _ _ (0, 0) (hvq o)
                      have f2 : ∀ o, (wq.alloc o).cell? ⟨G, 2, none⟩ = _ := fun o => cell_of_row _ _ 2 _ _ (0, 0) (hvq o)
                      have f3 : ∀ o, (wq.alloc o).cell? ⟨G, 3, none⟩ = _ := fun o => cell_of_row _ _ 3 _ _ (0, 0) (hvq o)
                      have f4 : ∀ o, (wq.alloc o).cell? ⟨G, 4, none⟩ = _ := fun o => cell_of_row _ _ 4 _ _ (0, 0) (hvq o)
                      have f5 : ∀ o, (wq.alloc o).cell? ⟨G, 5, none⟩ = _ := fun o => cell_of_row _ _ 5 _ _ (0, 0) (hvq o)
                      have f6 : ∀ o, (wq.alloc o).cell? ⟨G, 6, none⟩ = _ := fun o => cell_of_row _ _ 6 _ _ (0, 0) (hvq o)
                      have f7 : ∀ o, (wq.alloc o).cell? ⟨G, 7, none⟩ = _ := fun o => cell_of_row _ _ 7 _ _ (0, 0) (hvq o)
                      have f8 : ∀ o, (wq.alloc o).cell? ⟨G, 8, none⟩ = _ := fun o => cell_of_row _ _ 8 _ _ (0, 0) (hvq o)
                      have f9 : ∀ o, (wq.alloc o).cell? ⟨G, 9, none⟩ = _ := fun o => cell_of_row _ _ 9 _ _ (0, 0) (hvq o)
                      have f10 : ∀ o, (wq.alloc o).cell? ⟨G, 10, none⟩ = _ := fun o => cell_of_row _ _ 10 _ _ (0, 0) (hvq o)
                      have f11 : ∀ o, (wq.alloc o).cell? ⟨G, 11, none⟩ = _ := fun o => cell_of_row _ _ 11 _ _ (0, 0) (hvq o)
                      have f12 : ∀ o, (wq.alloc o).cell? ⟨G, 12, none⟩ = _ := fun o => cell_of_row _ _ 12 _ _ (0, 0) (hvq o)
                      have f13 : ∀ o, (wq.alloc o).cell? ⟨G, 13, none⟩ = _ := fun o => cell_of_row _ _ 13 _ _ (0, 0) (hvq o)
                      have f14 : ∀ o, (wq.alloc o).cell? ⟨G, 14, none⟩ = _ := fun o => cell_of_row _ _ 14 _ _ (0, 0) (hvq o)
                      obtain ⟨at2, an2, ak2, af2⟩ := y2
                      obtain ⟨zt, zn, zk, zf⟩ := z
                      obtain ⟨h1, h2⟩ := hyy
                      simp only at h1
                      injection h2 with h2 h3
                      subst h1; subst h2; subst h3
                      simp only at e0 e1 e2 e3 e4 e5 e6 e7 e8 e9 e10 e11 e12 e13 e14 heq hcs hch
                      cases hs : sameE (at2, an2, ak2, af2) (yt, yn, yk, yf)
                      · rw [hs] at heq hcs
                        have HCS2 := Lib.hid hcs
                        clear hz hzb hbl hle hcm hcs hbq hs hcn hy2 hvq
                        as_aux_lemma =>
                        go_wp2_with fail
                        refine (hch _).mono ?_
                        rintro e wx ⟨rfl, rfl⟩
                        go_wp2
                        go_roundw
                        case rel => exact ⟨b + 1, by omega, by go_num, by rw [HCS2.out]; rfl, nxt HBQ.out ((Below.refl _ _).alloc (Nat.le_refl _) _)⟩
                        case measure => simp [intOf]; omega
                      · rw [hs] at heq hcs
                        have HCS2 := Lib.hid hcs
                        clear hz hzb hbl hle hcm hcs hbq hs hcn hy2 hvq
                        as_aux_lemma =>
                        go_wp2_with fail
                        refine (hch _).mono ?_
                        rintro e wx ⟨rfl, rfl⟩
                        go_wp2
                        go_roundw
                        case rel => exact ⟨b + 1, by omega, by go_num, by rw [HCS2.out]; go_num, nxt HBQ.out ((Below.refl _ _).alloc (Nat.le_refl _) _)⟩
                        case measure => simp [intOf]; omega
                    · have hlb' : ¬ (b : Int) < (ne : Int) := by omega
                      have hbne : b = ne := by omega
                      rw [List.take_of_length_le (by rw [HNE.out]; omega), HCC3.out, Int.sub_self]
                      clear hbq
                      go_wp2
                      go_roundw
                      case rel => exact ⟨j2 + 1, by omega, by go_num, nxt HBG.out HBQ.out⟩
                      case measure => simp [intOf]; omega
            · have hlj2' : ¬ (j2 : Int) < (ne : Int) := by omega
              clear hb2
              as_aux_lemma =>
              go_wp2_with fail
              refine (awake11 _).mono ?_
              rintro e wz ⟨rfl, hbz⟩
              have HBZ := Lib.hid (nxt (nxt HB9.out HB2.out) hbz)
              clear hbz
              go_wp2
              go_ret
              exact ⟨rfl, HBZ.out⟩
end Go.Proofs.YtalpbnfebcafgaaGreat
