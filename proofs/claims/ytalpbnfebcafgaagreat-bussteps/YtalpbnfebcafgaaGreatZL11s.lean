/- The walk of the law BusSteps. -/
import Derived.Test.YtalpbnfebcafgaaGreatY10
namespace Go.Proofs.YtalpbnfebcafgaaGreat
set_option maxRecDepth 20000
open Go.RowKit
set_option linter.unusedSimpArgs false

set_option maxHeartbeats 16000000 in
set_option maxRecDepth 100000 in
theorem steps_any (A : Option Addr) (m c : Nat) (l : List Ac) (NI TI at_ : Int) (w : World) (hg : Gs acT w A m l) (hwf : ∀ a ∈ l, a.f.wf ∧ (Lit.int .i64 a.t).wf = true) :
    Calls Tryz.prog 5 #[.slice A m c, .agg #[.int .i64 NI, .int .i64 TI], .int .i64 at_] w fun e w' => e = .returned (.bool true) ∧ Below w.heap.size w w' := by
  have HG := Lib.hid hg
  have HWF := Lib.hid hwf
  have HB0 := Lib.hid ((Below.refl w.heap.size w).alloc (Nat.le_refl _) (.cells #[.int .i64 NI, .int .i64 TI] 61))
  have HX0 := Lib.hid (heap_alloc_new w (.cells #[.int .i64 NI, .int .i64 TI] 61))
  have rz : ∀ W, (binOp .neq 50 run0 run0).run Tryz.prog W = .ok (.bool false) W := fun W => rneqA 0 0 0 W
  have lz : ∀ W, (binOp .neq 56 look0 look0).run Tryz.prog W = .ok (.bool false) W := fun W => lkneqA 0 0 0 0 false false W
  clear hg hwf
  go_enter Tryz.func5, Tryz.ntmps5
  go_wp2_with fail
  refine (bstep_nil 0 _).mono ?_
  rintro e w1 ⟨rfl, hb1⟩
  have HB1 := Lib.hid (nxt HB0.out hb1)
  have HX1 := Lib.hid ((hb1.block _ (typed_lt HX0.out)).trans HX0.out)
  have HB1a := Lib.hid (nxt HB1.out ((Below.refl w1.heap.size w1).alloc (Nat.le_refl _) (.cells #[.int .i64 0, .int .i64 0, .int .u32 0] 50)))
  have HX1a := Lib.hid ((heap_alloc_old w1 (.cells #[.int .i64 0, .int .i64 0, .int .u32 0] 50) (r := w.heap.size) (typed_lt HX1.out)).trans HX1.out)
  have HR1 := Lib.hid (heap_alloc_new w1 (.cells #[.int .i64 0, .int .i64 0, .int .u32 0] 50))
  clear hb1
  go_wp2_with fail
  refine (blook_nil 0 _).mono ?_
  rintro e w2 ⟨rfl, hb2⟩
  have HB2 := Lib.hid (nxt HB1a.out hb2)
  have HX2 := Lib.hid ((hb2.block _ (typed_lt HX1a.out)).trans HX1a.out)
  have HR2 := Lib.hid ((hb2.block _ (typed_lt HR1.out)).trans HR1.out)
  clear hb2
  have q : ∀ o, (w2.alloc o).heap[w1.heap.size]? = some (.cells #[.int .i64 0, .int .i64 0, .int .u32 0] 50) := fun o => (heap_alloc_old w2 o (r := w1.heap.size) (typed_lt HR2.out)).trans HR2.out
  have q0 : ∀ o, (w2.alloc o).cell? ⟨w1.heap.size, 0, none⟩ = some (.int .i64 0) := fun o => cell_of_row _ _ 0 _ _ (0, 0) (q o)
  have q1 : ∀ o, (w2.alloc o).cell? ⟨w1.heap.size, 1, none⟩ = some (.int .i64 0) := fun o => cell_of_row _ _ 1 _ _ (0, 0) (q o)
  have q2 : ∀ o, (w2.alloc o).cell? ⟨w1.heap.size, 2, none⟩ = some (.int .u32 0) := fun o => cell_of_row _ _ 2 _ _ (0, 0) (q o)
  clear q
  have HB2a := Lib.hid (nxt HB2.out ((Below.refl w2.heap.size w2).alloc (Nat.le_refl _) (.cells #[.int .i64 0, .bool false, .int .i64 0, .int .i64 0, .bool false, .int .i64 0] 56)))
  have HX2a := Lib.hid ((heap_alloc_old w2 (.cells #[.int .i64 0, .bool false, .int .i64 0, .int .i64 0, .bool false, .int .i64 0] 56) (r := w.heap.size) (typed_lt HX2.out)).trans HX2.out)
  go_wp2_with fail
  refine (bput_nil 0 Fr.zero _).mono ?_
  rintro e w3 ⟨rfl, hb3⟩
  have HB3 := Lib.hid (nxt HB2a.out hb3)
  have hx3 := (hb3.block _ (typed_lt HX2a.out)).trans HX2a.out
  have s0 : w3.cell? ⟨w.heap.size, 0, none⟩ = some (.int .i64 NI) := cell_of_row _ _ 0 _ _ (0, 0) hx3
  have s1 : w3.cell? ⟨w.heap.size, 1, none⟩ = some (.int .i64 TI) := cell_of_row _ _ 1 _ _ (0, 0) hx3
  have HX3 := Lib.hid hx3
  clear hb3 hx3 q0 q1 q2 rz lz HB1 HX1 HB1a HX1a HR1 HB2 HX2 HR2 HB2a HX2a HX0 HB0
  go_wp2_with fail
  refine (nodes_nil _).mono ?_
  rintro e wx ⟨rfl, rfl⟩
  go_wp2_with fail
  refine (tick_nil _).mono ?_
  rintro e wx ⟨rfl, rfl⟩
  go_wp2_with fail
  refine (bclone_nil _).mono ?_
  rintro e wx ⟨rfl, rfl⟩
  by_cases h40 : 40 < m
  · have h40' : decide ((40 : Int) < (m : Int)) = true := by simp; omega
    have HBK := Lib.hid HB3.out
    go_wp2_with fail
    refine (awake11 _).mono ?_
    rintro e wz ⟨rfl, hbz⟩
    have HBZ := Lib.hid (nxt HBK.out hbz)
    clear hbz
    go_wp2
    go_ret
    exact ⟨rfl, HBZ.out⟩
  have h40' : decide ((40 : Int) < (m : Int)) = false := by simp; omega
  by_cases hT0 : TI < 0
  · have hT0' : decide (TI < 0) = true := decide_eq_true hT0
    have HBK := Lib.hid HB3.out
    go_wp2_with fail
    refine (awake11 _).mono ?_
    rintro e wz ⟨rfl, hbz⟩
    have HBZ := Lib.hid (nxt HBK.out hbz)
    clear hbz
    go_wp2
    go_ret
    exact ⟨rfl, HBZ.out⟩
  have hT0' : decide (TI < 0) = false := decide_eq_false hT0
  by_cases hT3 : 300 < TI
  · have hT3' : decide (300 < TI) = true := decide_eq_true hT3
    have HBK := Lib.hid HB3.out
    go_wp2_with fail
    refine (awake11 _).mono ?_
    rintro e wz ⟨rfl, hbz⟩
    have HBZ := Lib.hid (nxt HBK.out hbz)
    clear hbz
    go_wp2
    go_ret
    exact ⟨rfl, HBZ.out⟩
  have hT3' : decide (300 < TI) = false := decide_eq_false hT3
  by_cases hN : ¬ (1 ≤ NI ∧ NI ≤ 32)
  · go_wp2_with fail
    refine (check_off NI _ hN _ ⟨_, _, _, rfl⟩).mono ?_
    rintro e wx ⟨rfl, rfl⟩
    have HBK := Lib.hid HB3.out
    go_wp2_with fail
    refine (awake11 _).mono ?_
    rintro e wz ⟨rfl, hbz⟩
    have HBZ := Lib.hid (nxt HBK.out hbz)
    clear hbz
    go_wp2
    go_ret
    exact ⟨rfl, HBZ.out⟩
  have hN := Classical.not_not.1 hN
  have HCK := Lib.hid (check11 (c := c) (HG.out.below HB3.out) NI hN (by omega))
  by_cases hc : chkA NI l = 0
  rotate_left
  · have hc' : (chkA NI l != 0) = true := by simpa using hc
    go_wp2_with fail
    refine HCK.out.mono ?_
    rintro e w4 ⟨rfl, hb4⟩
    have HB4 := Lib.hid (nxt HB3.out hb4)
    clear hb4
    have HBK := Lib.hid HB4.out
    go_wp2_with fail
    refine (awake11 _).mono ?_
    rintro e wz ⟨rfl, hbz⟩
    have HBZ := Lib.hid (nxt HBK.out hbz)
    clear hbz
    go_wp2
    go_ret
    exact ⟨rfl, HBZ.out⟩
  obtain ⟨N, rfl⟩ := Int.eq_ofNat_of_zero_le (show 0 ≤ NI by omega)
  obtain ⟨T, rfl⟩ := Int.eq_ofNat_of_zero_le (show 0 ≤ TI by omega)
  rw [hc] at HCK
  have HC := Lib.hid (chkA_ok.1 hc)
  have HCC := Lib.hid hc
  clear hc
  go_wp2_with fail
  refine HCK.out.mono ?_
  rintro e w4 ⟨rfl, hb4⟩
  have HB4 := Lib.hid (nxt HB3.out hb4)
  have hx4 := (hb4.block _ (typed_lt HX3.out)).trans HX3.out
  have s0 : w4.cell? ⟨w.heap.size, 0, none⟩ = some (.int .i64 (N : Nat)) := cell_of_row _ _ 0 _ _ (0, 0) hx4
  have s1 : w4.cell? ⟨w.heap.size, 1, none⟩ = some (.int .i64 (T : Nat)) := cell_of_row _ _ 1 _ _ (0, 0) hx4
  have HX4 := Lib.hid hx4
  clear hb4 hx4 HB3 HX3 HCK
  go_wp2_with fail
  refine (play_any (c := c) (HG.out.below HB4.out) (by omega) N (by omega) (by omega) HCC.out HWF.out T (by omega)).mono ?_
  rintro e w5 ⟨u, v, rfl, hu, hv, hb5⟩
  have HU := Lib.hid hu
  have HV := Lib.hid hv
  have HB5 := Lib.hid (nxt HB4.out hb5)
  have hx5 := (hb5.block _ (typed_lt HX4.out)).trans HX4.out
  have s0 : w5.cell? ⟨w.heap.size, 0, none⟩ = some (.int .i64 (N : Nat)) := cell_of_row _ _ 0 _ _ (0, 0) hx5
  have HX5 := Lib.hid hx5
  obtain ⟨Au, cu, hu', -⟩ := hu.len
  obtain ⟨Av, cv, hv', -⟩ := hv.len
  obtain ⟨nu, hnu⟩ : ∃ nu, (plays N l T).rs.length = nu := ⟨_, rfl⟩
  obtain ⟨nv, hnv⟩ : ∃ nv, (plays N l T).es.length = nv := ⟨_, rfl⟩
  rw [hnu] at hu'
  rw [hnv] at hv'
  subst hu'; subst hv'
  have HNU := Lib.hid hnu
  have HNV := Lib.hid hnv
  clear hb5 hx5 HB4 HX4 hu hv hnu hnv
  go_wp2_with fail
  refine (bnew_any N (by omega) (by omega) _).mono ?_
  rintro e w6 ⟨p0, rfl, hl, hb6⟩
  have HL6 := Lib.hid hl
  have HB6 := Lib.hid hb6
  have hx6 := (hb6.block _ (typed_lt HX5.out)).trans HX5.out
  have s0 : w6.cell? ⟨w.heap.size, 0, none⟩ = some (.int .i64 (N : Nat)) := cell_of_row _ _ 0 _ _ (0, 0) hx6
  clear hl hb6 hx6
  have hNl : (Bs.new N).L.length = N := by simp [Bs.new]
  go_wp2_with fail
  refine (bput_out HL6.out (N : Int) (by rw [hNl]; omega) Fr.zero).mono ?_
  rintro e w7 ⟨rfl, hb7⟩
  have HL7 := Lib.hid (HL6.out.next hb7)
  have HB7 := Lib.hid (nxt HB6.out hb7)
  clear hb7
  go_wp2_with fail
  refine (bput_out HL7.out (-1) (by omega) Fr.zero).mono ?_
  rintro e w8 ⟨rfl, hb8⟩
  have HB8 := Lib.hid (nxt HB7.out hb8)
  have HS8 := Lib.hid (show Sst w5 w8 p0 (.slice none 0 0) (.slice none 0 0) (Bs.new N) [] [] from ⟨HL7.out.next hb8, Gown.nil _ _ _, Gown.nil _ _ _, HB8.out⟩)
  clear hb8 HL6 HL7 HB6 HB7
  have HOK := Lib.hid (fun k => plays_ok (N := N) (l := l) (by omega) (fun a ha => (HWF.out a ha).1) k)
  have HOW := Lib.hid (fun k => plays_ow (N := N) (l := l) (fun a ha => (HWF.out a ha).1) k)
  obtain ⟨gf, hgf⟩ : ∃ gf, p0.g = gf := ⟨_, rfl⟩
  have HGF := Lib.hid hgf
  rw [hgf]
  have hTN : T ≤ 300 := by omega
  have hmN : m ≤ 40 := by omega
  have hN32 : N ≤ 32 := by omega
  clear hgf s0 hT0 hT3 h40 hNl
  go_wp2
  go_loopw [16, 19, 20, 21] (fun vb gv tv i wr => ∃ (k : Nat) (pb : BP), k ≤ T ∧ i = .int .i64 k ∧ vb = .pointer (some ⟨pb.g, 0, none⟩) ∧ Sst w5 wr pb gv tv (plays N l k).b (rawR N l k) (plays N l k).es ∧ Fst wr gf pb at_ k) (fun _ _ _ i _ => T - (intOf i).toNat)
  case atStart => exact ⟨0, p0, Nat.zero_le _, rfl, by rw [HGF.out], HS8.out, ⟨fun h => by omega, fun _ => HGF.out⟩⟩
  case round =>
    obtain ⟨k, pb, hk, rfl, rfl, hst, hft⟩ := hrel
    have hok := HOK.out k
    have how := HOW.out k
    have hpn : plays N l (k + 1) = (plays N l k).next l := rfl
    have hrn : rawR N l (k + 1) = rawR N l k ++ [((plays N l k).b.dos (atT l k)).1.run 0 4294967295] := rfl
    have hrl := rawR_len N l k
    obtain ⟨p, hpp⟩ : ∃ p, plays N l k = p := ⟨_, rfl⟩
    obtain ⟨rw_, hrw⟩ : ∃ r, rawR N l k = r := ⟨_, rfl⟩
    rw [hpp] at hst hok how hpn hrn
    rw [hrw] at hst hrn hrl
    obtain ⟨⟨L, t⟩, prs, es⟩ := p
    have hkt : t = k := hok.t
    subst hkt
    have hS := hok.snd
    have hLl : L.length = N := hok.len
    have hel := hok.el
    unfold Pl.next at hpn
    simp only at hst hpn hrn how hel hS
    obtain ⟨Ag, cg, hgv, -⟩ := hst.runs.len
    obtain ⟨At, ct, htv, -⟩ := hst.evs.len
    rw [hrl] at hgv
    obtain ⟨nt, hnt⟩ : ∃ nt, es.length = nt := ⟨_, rfl⟩
    rw [hnt] at htv
    subst hgv; subst htv
    have hx : wr.heap[w.heap.size]? = some (.cells #[.int .i64 (N : Nat), .int .i64 (T : Nat)] 61) := (hst.bel.block _ (typed_lt HX5.out)).trans HX5.out
    have s1 : wr.cell? ⟨w.heap.size, 1, none⟩ = some (.int .i64 (T : Nat)) := cell_of_row _ _ 1 _ _ (0, 0) hx
    have HX := Lib.hid hx
    have HST := Lib.hid hst
    have HFT := Lib.hid hft
    clear hx hst hft
    by_cases hlt : t < T
    · have hlt' : (t : Int) < (T : Int) := by omega
      have HPN := Lib.hid hpn
      have HRN := Lib.hid hrn
      have HEL := Lib.hid hel
      have HSN := Lib.hid hS
      have HRL := Lib.hid hrl
      have HLL := Lib.hid hLl
      have HNT := Lib.hid hnt
      clear hpn hrn hel hS hrl hLl hok hnt hpp hrw
      by_cases hat : (t : Int) = at_
      · have hat' : ((t : Int) == at_) = true := by simpa using hat
        have HCL := Lib.hid (bclone_any HST.out.bus (by show L.length ≤ 32; rw [HLL.out]; exact hN32) (fun n hn => by have h := how n hn; have h2 := h.short; exact ⟨by have := h.s.ql; omega, h2.1, h2.2⟩))
        clear how
        go_wp2_with fail
        refine HCL.out.mono ?_
        rintro e wc ⟨p2, rfl, hl2, hb2⟩
        have HST1 := Lib.hid (show Sst w5 wc p2 (.slice Ag t cg) (.slice At nt ct) ⟨L, t⟩ rw_ es from ⟨hl2.base HST.out.bel.size, HST.out.runs.below hb2, HST.out.evs.below hb2, nxt HST.out.bel hb2⟩)
        have HFT1 := Lib.hid (HFT.out.clone hat.symm HST.out.bus rfl hb2 (fun j hj => hl2.fp_ge j hj))
        clear hl2 hb2 hat hat' HCL HST HFT HX s1
        have HLLp := HLL.out
        go_wp2
        go_loopw [22, 23] (fun x j wi => ∃ (jj : Nat) (p3 : BP), jj ≤ m ∧ j = .int .i64 jj ∧ x = .int .u32 ((Bs.dos ⟨L, t⟩ (atT (l.take jj) t)).2 : Nat) ∧ p3.g = p2.g ∧ Sst w5 wi p3 (.slice Ag t cg) (.slice At nt ct) (Bs.dos ⟨L, t⟩ (atT (l.take jj) t)).1 rw_ es ∧ Fst wi gf p3 at_ (t + 1)) (fun _ j _ => m - (intOf j).toNat)
        case atStart => exact ⟨0, p2, Nat.zero_le _, rfl, rfl, rfl, HST1.out, HFT1.out⟩
        case round =>
          rename World => wi
          obtain ⟨jj, p3, hj, rfl, rfl, hp3, hs3, hf3⟩ := hrel
          have HS3 := Lib.hid hs3
          have HF3 := Lib.hid hf3
          have HP3 := Lib.hid hp3
          have hb3 := nxt HB5.out hs3.bel
          by_cases hlj : jj < m
          · have hlj' : (jj : Int) < (m : Int) := by omega
            have hjl : jj < l.length := by rw [HG.out.1]; exact hlj
            obtain ⟨a, ha⟩ : ∃ a, l[jj] = a := ⟨_, rfl⟩
            have hla : l[jj]? = some a := by rw [List.getElem?_eq_getElem hjl, ha]
            have hmem := List.mem_of_getElem? hla
            have hia := HC.out a hmem
            have hsn := atT_snoc (l.take jj) a t
            rw [show l.take jj ++ [a] = l.take (jj + 1) by rw [List.take_add_one, hla]; rfl] at hsn
            obtain ⟨ad, rfl, hal, c0, c1, c2, c3, c4, c5, c6, c7, c8, c9, c10, c11, c12, c13, c14⟩ := (HG.out.below hb3).ac hla
            have hx2 := dos_lt (N := N) ⟨L, t⟩ (atT (l.take jj) t) fun x hx => by have h := HC.out x (List.mem_of_mem_take (List.mem_filter.1 hx).1); exact ⟨h.2.1, h.2.2.1⟩
            have hx32 : (Bs.dos ⟨L, t⟩ (atT (l.take jj) t)).2 < 4294967296 := Nat.lt_of_lt_of_le hx2 (Nat.le_trans (Nat.pow_le_pow_right (n := 2) (i := N) (j := 32) (by omega) hN32) (by decide))
            have hsd := dos_sound (b := ⟨L, t⟩) HSN.out (atT (l.take jj) t) fun x hx => (HWF.out x (List.mem_of_mem_take (List.mem_filter.1 hx).1)).1
            have hlen := dos_len ⟨L, t⟩ (atT (l.take jj) t)
            obtain ⟨at2, an, aft, af⟩ := a
            simp only at *
            obtain ⟨i, rfl⟩ := Int.eq_ofNat_of_zero_le hia.2.1
            have hi : i < N := by omega
            by_cases hta : at2 = (t : Int)
            · rw [if_pos hta] at hsn
              have hta' : (at2 != (t : Int)) = false := by simpa using hta
              have hdo : Bs.dos ⟨L, t⟩ (atT (l.take (jj + 1)) t) = Bs.do1 (Bs.dos ⟨L, t⟩ (atT (l.take jj) t)) ⟨at2, i, aft, af⟩ := by rw [hsn]; exact dos_snoc _ _ _
              obtain ⟨⟨b1, x⟩, hb'⟩ : ∃ b', Bs.dos ⟨L, t⟩ (atT (l.take jj) t) = b' := ⟨_, rfl⟩
              rw [hb'] at hs3 hx32 hsd hlen hdo HS3 ⊢
              simp only at hs3 hx32 hsd hlen HS3 ⊢
              have hi2 : i < b1.L.length := by rw [hlen, HLLp]; exact hi
              cases aft
              · have hgs := getD_sound (i := i) hsd
                have HP := Lib.hid (bput_in hs3.bus.drew hi2 af hgs.q (by have := hgs.ql; omega))
                have HDO := Lib.hid (show Bs.dos ⟨L, t⟩ (atT (l.take (jj + 1)) t) = (b1.put i af, x) by rw [hdo]; unfold Bs.do1; simp)
                rw [hp3] at HP
                clear hs3 hf3 hla ha hsd hgs hx2 hb' hmem hia hdo hsn hb3 hjl hp3
                go_wp2_with fail
                go_still_tail 11, (by kernel_rfl)
                go_wp2_with fail
                refine HP.out.mono ?_
                rintro e wj ⟨rs2, rfl, k1, k2⟩
                have HS4 := Lib.hid (HS3.out.turn (p' := ⟨p2.g, p3.v, rs2⟩) k2.undrew k1)
                have HF4 := Lib.hid (HF3.out.turn (p' := ⟨p2.g, p3.v, rs2⟩) k2.undrew HP3.out.symm)
                clear k1 k2
                go_wp2
                go_roundw
                case rel => exact ⟨jj + 1, ⟨p2.g, p3.v, rs2⟩, by omega, by go_num, by rw [HDO.out], rfl, by rw [HDO.out]; exact HS4.out, HF4.out⟩
                case measure => simp [intOf]; omega
              · have hp : 2 ^ i < 4294967296 := Nat.lt_of_lt_of_le (Nat.pow_lt_pow_right (n := 32) (by omega) (by omega)) (by decide)
                have hshl := u32_shl_one_var (i : Int) (Int.natCast_nonneg _)
                rw [show (if (32 : Int) ≤ (i : Int) then 0 else (2 : Int) ^ ((i : Int)).toNat) = ((2 ^ i : Nat) : Int) by rw [if_neg (by omega), Int.toNat_natCast]; simp] at hshl
                have hsh2 : (2 : Int) ^ i % 4294967296 = ((2 ^ i : Nat) : Int) := by
                  have h := Nat.mod_eq_of_lt hp
                  rw [show (2 : Int) ^ i = ((2 ^ i : Nat) : Int) by simp]
                  omega
                have hor := u32_or_nat x (2 ^ i) hx32 hp
                have HDO := Lib.hid (show Bs.dos ⟨L, t⟩ (atT (l.take (jj + 1)) t) = (b1, x ||| 2 ^ i) by rw [hdo]; unfold Bs.do1; simp)
                generalize x ||| 2 ^ i = y at *
                generalize (2 ^ i : Nat) = P at *
                clear hs3 hf3 hla ha hsd hx2 hb' hmem hia hdo hsn hb3 hjl hp3
                go_wp2
                go_roundw
                case rel => exact ⟨jj + 1, p3, by omega, by go_num, by rw [HDO.out], HP3.out, by rw [HDO.out]; exact HS3.out, HF3.out⟩
                case measure => simp [intOf]; omega
            · rw [if_neg hta] at hsn
              have hta' : (at2 != (t : Int)) = true := by simpa using hta
              have HSNN := Lib.hid hsn
              clear hs3 hf3 hla ha hsd hx2 hmem hia hsn hb3 hjl hp3 hx32 hlen
              go_wp2
              go_roundw
              case rel => exact ⟨jj + 1, p3, by omega, by go_num, by rw [HSNN.out], HP3.out, by rw [HSNN.out]; exact HS3.out, HF3.out⟩
              case measure => simp [intOf]; omega
          · have hlj' : ¬ (jj : Int) < (m : Int) := by omega
            have hjm : jj = m := by omega
            subst hjm
            rw [List.take_of_length_le (by rw [HG.out.1]; exact Nat.le_refl _)] at hs3 HS3 ⊢
            have hd1 := dos_len ⟨L, t⟩ (atT l t)
            have hd2 := dos_t ⟨L, t⟩ (atT l t)
            have hd3 := dos_sound (b := ⟨L, t⟩) HSN.out (atT l t) (fun a ha => (HWF.out a (List.mem_filter.1 ha).1).1)
            have hd4 := dos_lt (N := N) ⟨L, t⟩ (atT l t) (fun a ha => by have h2 := HC.out a (List.mem_filter.1 ha).1; exact ⟨h2.2.1, h2.2.2.1⟩)
            simp only at hd1 hd2
            rw [HLLp] at hd1
            obtain ⟨⟨bd, x⟩, hbx⟩ : ∃ bx, Bs.dos ⟨L, t⟩ (atT l t) = bx := ⟨_, rfl⟩
            rw [hbx] at hd1 hd2 hd3 hd4 hs3 HS3 ⊢
            have HPNx := Lib.hid HPN.out
            have HRNx := Lib.hid HRN.out
            rw [hbx] at HPNx HRNx
            simp only at hd1 hd2 hd3 hd4 hs3 HS3 HPNx HRNx ⊢
            have hx32 : x < 4294967296 := Nat.lt_of_lt_of_le hd4 (Nat.le_trans (Nat.pow_le_pow_right (n := 2) (i := N) (j := 32) (by omega) hN32) (by decide))
            have hmk := mask_in hd4 hN32
            have HEV := Lib.hid (evs_len hd3 (by omega) x 4294967295)
            have HSTP := Lib.hid (bstep_any (T := t) hs3.bus (by omega) hd3 (by omega) (by omega) x hx32 (by rw [hd1]; exact hmk))
            rw [hp3] at HSTP
            obtain ⟨dr, hdr⟩ : ∃ dr, drvO bd.L 0 4294967295 = dr := ⟨_, rfl⟩
            obtain ⟨rn, hrn⟩ : ∃ rn, bd.run 0 4294967295 = rn := ⟨_, rfl⟩
            have hrn' : rn = ⟨1, lvO dr, dr⟩ := by rw [← hrn, ← hdr]; rfl
            obtain ⟨ev, hev⟩ : ∃ ev, bd.evs x 0 4294967295 = ev := ⟨_, rfl⟩
            rw [hev] at HEV HSTP HPNx
            rw [hrn] at HSTP HPNx HRNx
            rw [hrn'] at HSTP HPNx HRNx
            clear hd1 hd2 hd3 hd4 hmk hbx hdr hrn hrn' hev hs3 hf3 hb3 hx32
            go_wp2_with fail
            refine HSTP.out.mono ?_
            rintro e wk ⟨ue, q5, rfl, he5, h5, m5⟩
            have HS5 := Lib.hid (HS3.out.turn (p' := ⟨p2.g, p3.v, q5⟩) m5 h5)
            have HF5 := Lib.hid (HF3.out.turn (p' := ⟨p2.g, p3.v, q5⟩) m5 HP3.out.symm)
            have HE5 := Lib.hid (he5.base HS3.out.bel.size)
            obtain ⟨Ae, ce, hue, -⟩ := he5.len
            obtain ⟨ne, hne⟩ : ∃ ne, ev.length = ne := ⟨_, rfl⟩
            rw [hne] at hue
            subst hue
            have HNE := Lib.hid hne
            clear he5 h5 m5 hne HSTP HS3 HF3
            by_cases hdo : dr = 4294967295
            · subst hdo
              rw [show lvO 4294967295 = 1 from rfl] at HPNx HRNx ⊢
              have HAL := Lib.hid (alloc2 wk (.cells (Rn.c ⟨1, 1, 4294967295⟩) 50) (.cells (Rn.c ⟨1, 1, 4294967295⟩) 50))
              have HS6 := Lib.hid (HS5.out.next HAL.out)
              have HF6 := Lib.hid (HF5.out.next HAL.out)
              have HE6 := Lib.hid (HE5.out.below HAL.out)
              have HLT := Lib.hid (show Gs rnT ((wk.alloc (.cells (Rn.c ⟨1, 1, 4294967295⟩) 50)).alloc (.cells (Rn.c ⟨1, 1, 4294967295⟩) 50)) (some ⟨wk.heap.size + 1, 0, none⟩) 1 [⟨1, 1, 4294967295⟩] by have h2 := Gown.lit1 rnT (wk.alloc (.cells (Rn.c ⟨1, 1, 4294967295⟩) 50)) ⟨1, 1, 4294967295⟩; rw [show (wk.alloc (.cells (Rn.c ⟨1, 1, 4294967295⟩) 50)).heap.size = wk.heap.size + 1 by simp] at h2; exact h2)
              go_upto_region 34 with (first | (at_builtin; refine append_E11 rnT _ (by rfl) _ _ rfl w5.heap.size _ rw_ rfl HS6.out.runs _ 1 1 [⟨1, 1, 4294967295⟩] rfl HLT.out (by rw [HRL.out]; omega) HS6.out.bel.size ?_; intro v7 w7 h7 g7 l7) | fail)
              have HS7 := Lib.hid (HS6.out.run (Moves.row g7 l7) h7)
              have HF7 := Lib.hid (HF6.out.row HS6.out.runs (by decide) (Moves.row g7 l7))
              have HE7 := Lib.hid (HE6.out.moves (Moves.row g7 l7) (rows_ne HE6.out HS6.out.runs (by decide))).1
              have hgs7 := HE7.out.gs
              rw [HNE.out] at hgs7
              have HGS7 := Lib.hid hgs7
              obtain ⟨A7, c7, hv7, -⟩ := h7.len
              have hl7 : (rw_ ++ [(⟨1, 1, 4294967295⟩ : Rn)]).length = t + 1 := by rw [List.length_append, HRL.out]; rfl
              rw [hl7] at hv7
              subst hv7
              clear h7 g7 l7 hgs7 HS6 HF6 HE6 HS5 HF5 HE5 hl7
              go_wp2_with (first | (at_builtin; refine append_E11 evT _ (by rfl) _ _ rfl w5.heap.size _ es rfl HS7.out.evs _ ne ce ev rfl HGS7.out (by have h1 := HEL.out; have h2 := HEV.out; have h3 := HNE.out; omega) HS7.out.bel.size ?_; intro v8 w8' h8 g8 l8) | fail)
              have HS8' := Lib.hid (HS7.out.ev (Moves.row g8 l8) h8)
              have HF8 := Lib.hid (HF7.out.row HS7.out.evs (by decide) (Moves.row g8 l8))
              obtain ⟨A8, c8, hv8, -⟩ := h8.len
              obtain ⟨n8, hn8⟩ : ∃ n8, (es ++ ev).length = n8 := ⟨_, rfl⟩
              rw [hn8] at hv8
              subst hv8
              clear h8 g8 l8 hn8 HS7 HF7
              go_wp2
              go_roundw
              case rel => exact ⟨t + 1, ⟨p2.g, p3.v, q5⟩, by omega, by go_num, rfl, by rw [HPNx.out, HRNx.out]; exact HS8'.out, HF8.out⟩
              case measure => simp [intOf]; omega
            · rw [show lvO dr = 0 from if_neg hdo] at HPNx HRNx ⊢
              have hb2 : (((dr : Nat) : Int) == 4294967295) = false := by simp; omega
              clear hdo
              have HAL := Lib.hid (alloc2 wk (.cells (Rn.c ⟨1, 0, dr⟩) 50) (.cells (Rn.c ⟨1, 0, dr⟩) 50))
              have HS6 := Lib.hid (HS5.out.next HAL.out)
              have HF6 := Lib.hid (HF5.out.next HAL.out)
              have HE6 := Lib.hid (HE5.out.below HAL.out)
              have HLT := Lib.hid (show Gs rnT ((wk.alloc (.cells (Rn.c ⟨1, 0, dr⟩) 50)).alloc (.cells (Rn.c ⟨1, 0, dr⟩) 50)) (some ⟨wk.heap.size + 1, 0, none⟩) 1 [⟨1, 0, dr⟩] by have h2 := Gown.lit1 rnT (wk.alloc (.cells (Rn.c ⟨1, 0, dr⟩) 50)) ⟨1, 0, dr⟩; rw [show (wk.alloc (.cells (Rn.c ⟨1, 0, dr⟩) 50)).heap.size = wk.heap.size + 1 by simp] at h2; exact h2)
              go_upto_region 34 with (first | (at_builtin; refine append_E11 rnT _ (by rfl) _ _ rfl w5.heap.size _ rw_ rfl HS6.out.runs _ 1 1 [⟨1, 0, dr⟩] rfl HLT.out (by rw [HRL.out]; omega) HS6.out.bel.size ?_; intro v7 w7 h7 g7 l7) | fail)
              have HS7 := Lib.hid (HS6.out.run (Moves.row g7 l7) h7)
              have HF7 := Lib.hid (HF6.out.row HS6.out.runs (by decide) (Moves.row g7 l7))
              have HE7 := Lib.hid (HE6.out.moves (Moves.row g7 l7) (rows_ne HE6.out HS6.out.runs (by decide))).1
              have hgs7 := HE7.out.gs
              rw [HNE.out] at hgs7
              have HGS7 := Lib.hid hgs7
              obtain ⟨A7, c7, hv7, -⟩ := h7.len
              have hl7 : (rw_ ++ [(⟨1, 0, dr⟩ : Rn)]).length = t + 1 := by rw [List.length_append, HRL.out]; rfl
              rw [hl7] at hv7
              subst hv7
              clear h7 g7 l7 hgs7 HS6 HF6 HE6 HS5 HF5 HE5 hl7
              go_wp2_with (first | (at_builtin; refine append_E11 evT _ (by rfl) _ _ rfl w5.heap.size _ es rfl HS7.out.evs _ ne ce ev rfl HGS7.out (by have h1 := HEL.out; have h2 := HEV.out; have h3 := HNE.out; omega) HS7.out.bel.size ?_; intro v8 w8' h8 g8 l8) | fail)
              have HS8' := Lib.hid (HS7.out.ev (Moves.row g8 l8) h8)
              have HF8 := Lib.hid (HF7.out.row HS7.out.evs (by decide) (Moves.row g8 l8))
              obtain ⟨A8, c8, hv8, -⟩ := h8.len
              obtain ⟨n8, hn8⟩ : ∃ n8, (es ++ ev).length = n8 := ⟨_, rfl⟩
              rw [hn8] at hv8
              subst hv8
              clear h8 g8 l8 hn8 HS7 HF7
              go_wp2
              go_roundw
              case rel => exact ⟨t + 1, ⟨p2.g, p3.v, q5⟩, by omega, by go_num, rfl, by rw [HPNx.out, HRNx.out]; exact HS8'.out, HF8.out⟩
              case measure => simp [intOf]; omega
      · have hat' : ((t : Int) == at_) = false := by simpa using hat
        have HST1 := Lib.hid HST.out
        have HFT1 := Lib.hid (HFT.out.wait (fun e => hat e.symm))
        obtain ⟨wc, hwc⟩ : ∃ wc, wr = wc := ⟨_, rfl⟩
        subst hwc
        obtain ⟨p2, hp2⟩ : ∃ p2, pb = p2 := ⟨_, rfl⟩
        subst hp2
        clear how hat HST HFT HX
        have HLLp := HLL.out
        go_wp2
        go_loopw [22, 23] (fun x j wi => ∃ (jj : Nat) (p3 : BP), jj ≤ m ∧ j = .int .i64 jj ∧ x = .int .u32 ((Bs.dos ⟨L, t⟩ (atT (l.take jj) t)).2 : Nat) ∧ p3.g = pb.g ∧ Sst w5 wi p3 (.slice Ag t cg) (.slice At nt ct) (Bs.dos ⟨L, t⟩ (atT (l.take jj) t)).1 rw_ es ∧ Fst wi gf p3 at_ (t + 1)) (fun _ j _ => m - (intOf j).toNat)
        case atStart => exact ⟨0, pb, Nat.zero_le _, rfl, rfl, rfl, HST1.out, HFT1.out⟩
        case round =>
          rename World => wi
          obtain ⟨jj, p3, hj, rfl, rfl, hp3, hs3, hf3⟩ := hrel
          have HS3 := Lib.hid hs3
          have HF3 := Lib.hid hf3
          have HP3 := Lib.hid hp3
          have hb3 := nxt HB5.out hs3.bel
          by_cases hlj : jj < m
          · have hlj' : (jj : Int) < (m : Int) := by omega
            have hjl : jj < l.length := by rw [HG.out.1]; exact hlj
            obtain ⟨a, ha⟩ : ∃ a, l[jj] = a := ⟨_, rfl⟩
            have hla : l[jj]? = some a := by rw [List.getElem?_eq_getElem hjl, ha]
            have hmem := List.mem_of_getElem? hla
            have hia := HC.out a hmem
            have hsn := atT_snoc (l.take jj) a t
            rw [show l.take jj ++ [a] = l.take (jj + 1) by rw [List.take_add_one, hla]; rfl] at hsn
            obtain ⟨ad, rfl, hal, c0, c1, c2, c3, c4, c5, c6, c7, c8, c9, c10, c11, c12, c13, c14⟩ := (HG.out.below hb3).ac hla
            have hx2 := dos_lt (N := N) ⟨L, t⟩ (atT (l.take jj) t) fun x hx => by have h := HC.out x (List.mem_of_mem_take (List.mem_filter.1 hx).1); exact ⟨h.2.1, h.2.2.1⟩
            have hx32 : (Bs.dos ⟨L, t⟩ (atT (l.take jj) t)).2 < 4294967296 := Nat.lt_of_lt_of_le hx2 (Nat.le_trans (Nat.pow_le_pow_right (n := 2) (i := N) (j := 32) (by omega) hN32) (by decide))
            have hsd := dos_sound (b := ⟨L, t⟩) HSN.out (atT (l.take jj) t) fun x hx => (HWF.out x (List.mem_of_mem_take (List.mem_filter.1 hx).1)).1
            have hlen := dos_len ⟨L, t⟩ (atT (l.take jj) t)
            obtain ⟨at2, an, aft, af⟩ := a
            simp only at *
            obtain ⟨i, rfl⟩ := Int.eq_ofNat_of_zero_le hia.2.1
            have hi : i < N := by omega
            by_cases hta : at2 = (t : Int)
            · rw [if_pos hta] at hsn
              have hta' : (at2 != (t : Int)) = false := by simpa using hta
              have hdo : Bs.dos ⟨L, t⟩ (atT (l.take (jj + 1)) t) = Bs.do1 (Bs.dos ⟨L, t⟩ (atT (l.take jj) t)) ⟨at2, i, aft, af⟩ := by rw [hsn]; exact dos_snoc _ _ _
              obtain ⟨⟨b1, x⟩, hb'⟩ : ∃ b', Bs.dos ⟨L, t⟩ (atT (l.take jj) t) = b' := ⟨_, rfl⟩
              rw [hb'] at hs3 hx32 hsd hlen hdo HS3 ⊢
              simp only at hs3 hx32 hsd hlen HS3 ⊢
              have hi2 : i < b1.L.length := by rw [hlen, HLLp]; exact hi
              cases aft
              · have hgs := getD_sound (i := i) hsd
                have HP := Lib.hid (bput_in hs3.bus.drew hi2 af hgs.q (by have := hgs.ql; omega))
                have HDO := Lib.hid (show Bs.dos ⟨L, t⟩ (atT (l.take (jj + 1)) t) = (b1.put i af, x) by rw [hdo]; unfold Bs.do1; simp)
                rw [hp3] at HP
                clear hs3 hf3 hla ha hsd hgs hx2 hb' hmem hia hdo hsn hb3 hjl hp3
                go_wp2_with fail
                go_still_tail 11, (by kernel_rfl)
                go_wp2_with fail
                refine HP.out.mono ?_
                rintro e wj ⟨rs2, rfl, k1, k2⟩
                have HS4 := Lib.hid (HS3.out.turn (p' := ⟨pb.g, p3.v, rs2⟩) k2.undrew k1)
                have HF4 := Lib.hid (HF3.out.turn (p' := ⟨pb.g, p3.v, rs2⟩) k2.undrew HP3.out.symm)
                clear k1 k2
                go_wp2
                go_roundw
                case rel => exact ⟨jj + 1, ⟨pb.g, p3.v, rs2⟩, by omega, by go_num, by rw [HDO.out], rfl, by rw [HDO.out]; exact HS4.out, HF4.out⟩
                case measure => simp [intOf]; omega
              · have hp : 2 ^ i < 4294967296 := Nat.lt_of_lt_of_le (Nat.pow_lt_pow_right (n := 32) (by omega) (by omega)) (by decide)
                have hshl := u32_shl_one_var (i : Int) (Int.natCast_nonneg _)
                rw [show (if (32 : Int) ≤ (i : Int) then 0 else (2 : Int) ^ ((i : Int)).toNat) = ((2 ^ i : Nat) : Int) by rw [if_neg (by omega), Int.toNat_natCast]; simp] at hshl
                have hsh2 : (2 : Int) ^ i % 4294967296 = ((2 ^ i : Nat) : Int) := by
                  have h := Nat.mod_eq_of_lt hp
                  rw [show (2 : Int) ^ i = ((2 ^ i : Nat) : Int) by simp]
                  omega
                have hor := u32_or_nat x (2 ^ i) hx32 hp
                have HDO := Lib.hid (show Bs.dos ⟨L, t⟩ (atT (l.take (jj + 1)) t) = (b1, x ||| 2 ^ i) by rw [hdo]; unfold Bs.do1; simp)
                generalize x ||| 2 ^ i = y at *
                generalize (2 ^ i : Nat) = P at *
                clear hs3 hf3 hla ha hsd hx2 hb' hmem hia hdo hsn hb3 hjl hp3
                go_wp2
                go_roundw
                case rel => exact ⟨jj + 1, p3, by omega, by go_num, by rw [HDO.out], HP3.out, by rw [HDO.out]; exact HS3.out, HF3.out⟩
                case measure => simp [intOf]; omega
            · rw [if_neg hta] at hsn
              have hta' : (at2 != (t : Int)) = true := by simpa using hta
              have HSNN := Lib.hid hsn
              clear hs3 hf3 hla ha hsd hx2 hmem hia hsn hb3 hjl hp3 hx32 hlen
              go_wp2
              go_roundw
              case rel => exact ⟨jj + 1, p3, by omega, by go_num, by rw [HSNN.out], HP3.out, by rw [HSNN.out]; exact HS3.out, HF3.out⟩
              case measure => simp [intOf]; omega
          · have hlj' : ¬ (jj : Int) < (m : Int) := by omega
            have hjm : jj = m := by omega
            subst hjm
            rw [List.take_of_length_le (by rw [HG.out.1]; exact Nat.le_refl _)] at hs3 HS3 ⊢
            have hd1 := dos_len ⟨L, t⟩ (atT l t)
            have hd2 := dos_t ⟨L, t⟩ (atT l t)
            have hd3 := dos_sound (b := ⟨L, t⟩) HSN.out (atT l t) (fun a ha => (HWF.out a (List.mem_filter.1 ha).1).1)
            have hd4 := dos_lt (N := N) ⟨L, t⟩ (atT l t) (fun a ha => by have h2 := HC.out a (List.mem_filter.1 ha).1; exact ⟨h2.2.1, h2.2.2.1⟩)
            simp only at hd1 hd2
            rw [HLLp] at hd1
            obtain ⟨⟨bd, x⟩, hbx⟩ : ∃ bx, Bs.dos ⟨L, t⟩ (atT l t) = bx := ⟨_, rfl⟩
            rw [hbx] at hd1 hd2 hd3 hd4 hs3 HS3 ⊢
            have HPNx := Lib.hid HPN.out
            have HRNx := Lib.hid HRN.out
            rw [hbx] at HPNx HRNx
            simp only at hd1 hd2 hd3 hd4 hs3 HS3 HPNx HRNx ⊢
            have hx32 : x < 4294967296 := Nat.lt_of_lt_of_le hd4 (Nat.le_trans (Nat.pow_le_pow_right (n := 2) (i := N) (j := 32) (by omega) hN32) (by decide))
            have hmk := mask_in hd4 hN32
            have HEV := Lib.hid (evs_len hd3 (by omega) x 4294967295)
            have HSTP := Lib.hid (bstep_any (T := t) hs3.bus (by omega) hd3 (by omega) (by omega) x hx32 (by rw [hd1]; exact hmk))
            rw [hp3] at HSTP
            obtain ⟨dr, hdr⟩ : ∃ dr, drvO bd.L 0 4294967295 = dr := ⟨_, rfl⟩
            obtain ⟨rn, hrn⟩ : ∃ rn, bd.run 0 4294967295 = rn := ⟨_, rfl⟩
            have hrn' : rn = ⟨1, lvO dr, dr⟩ := by rw [← hrn, ← hdr]; rfl
            obtain ⟨ev, hev⟩ : ∃ ev, bd.evs x 0 4294967295 = ev := ⟨_, rfl⟩
            rw [hev] at HEV HSTP HPNx
            rw [hrn] at HSTP HPNx HRNx
            rw [hrn'] at HSTP HPNx HRNx
            clear hd1 hd2 hd3 hd4 hmk hbx hdr hrn hrn' hev hs3 hf3 hb3 hx32
            go_wp2_with fail
            refine HSTP.out.mono ?_
            rintro e wk ⟨ue, q5, rfl, he5, h5, m5⟩
            have HS5 := Lib.hid (HS3.out.turn (p' := ⟨pb.g, p3.v, q5⟩) m5 h5)
            have HF5 := Lib.hid (HF3.out.turn (p' := ⟨pb.g, p3.v, q5⟩) m5 HP3.out.symm)
            have HE5 := Lib.hid (he5.base HS3.out.bel.size)
            obtain ⟨Ae, ce, hue, -⟩ := he5.len
            obtain ⟨ne, hne⟩ : ∃ ne, ev.length = ne := ⟨_, rfl⟩
            rw [hne] at hue
            subst hue
            have HNE := Lib.hid hne
            clear he5 h5 m5 hne HSTP HS3 HF3
            by_cases hdo : dr = 4294967295
            · subst hdo
              rw [show lvO 4294967295 = 1 from rfl] at HPNx HRNx ⊢
              have HAL := Lib.hid (alloc2 wk (.cells (Rn.c ⟨1, 1, 4294967295⟩) 50) (.cells (Rn.c ⟨1, 1, 4294967295⟩) 50))
              have HS6 := Lib.hid (HS5.out.next HAL.out)
              have HF6 := Lib.hid (HF5.out.next HAL.out)
              have HE6 := Lib.hid (HE5.out.below HAL.out)
              have HLT := Lib.hid (show Gs rnT ((wk.alloc (.cells (Rn.c ⟨1, 1, 4294967295⟩) 50)).alloc (.cells (Rn.c ⟨1, 1, 4294967295⟩) 50)) (some ⟨wk.heap.size + 1, 0, none⟩) 1 [⟨1, 1, 4294967295⟩] by have h2 := Gown.lit1 rnT (wk.alloc (.cells (Rn.c ⟨1, 1, 4294967295⟩) 50)) ⟨1, 1, 4294967295⟩; rw [show (wk.alloc (.cells (Rn.c ⟨1, 1, 4294967295⟩) 50)).heap.size = wk.heap.size + 1 by simp] at h2; exact h2)
              go_upto_region 34 with (first | (at_builtin; refine append_E11 rnT _ (by rfl) _ _ rfl w5.heap.size _ rw_ rfl HS6.out.runs _ 1 1 [⟨1, 1, 4294967295⟩] rfl HLT.out (by rw [HRL.out]; omega) HS6.out.bel.size ?_; intro v7 w7 h7 g7 l7) | fail)
              have HS7 := Lib.hid (HS6.out.run (Moves.row g7 l7) h7)
              have HF7 := Lib.hid (HF6.out.row HS6.out.runs (by decide) (Moves.row g7 l7))
              have HE7 := Lib.hid (HE6.out.moves (Moves.row g7 l7) (rows_ne HE6.out HS6.out.runs (by decide))).1
              have hgs7 := HE7.out.gs
              rw [HNE.out] at hgs7
              have HGS7 := Lib.hid hgs7
              obtain ⟨A7, c7, hv7, -⟩ := h7.len
              have hl7 : (rw_ ++ [(⟨1, 1, 4294967295⟩ : Rn)]).length = t + 1 := by rw [List.length_append, HRL.out]; rfl
              rw [hl7] at hv7
              subst hv7
              clear h7 g7 l7 hgs7 HS6 HF6 HE6 HS5 HF5 HE5 hl7
              go_wp2_with (first | (at_builtin; refine append_E11 evT _ (by rfl) _ _ rfl w5.heap.size _ es rfl HS7.out.evs _ ne ce ev rfl HGS7.out (by have h1 := HEL.out; have h2 := HEV.out; have h3 := HNE.out; omega) HS7.out.bel.size ?_; intro v8 w8' h8 g8 l8) | fail)
              have HS8' := Lib.hid (HS7.out.ev (Moves.row g8 l8) h8)
              have HF8 := Lib.hid (HF7.out.row HS7.out.evs (by decide) (Moves.row g8 l8))
              obtain ⟨A8, c8, hv8, -⟩ := h8.len
              obtain ⟨n8, hn8⟩ : ∃ n8, (es ++ ev).length = n8 := ⟨_, rfl⟩
              rw [hn8] at hv8
              subst hv8
              clear h8 g8 l8 hn8 HS7 HF7
              go_wp2
              go_roundw
              case rel => exact ⟨t + 1, ⟨pb.g, p3.v, q5⟩, by omega, by go_num, rfl, by rw [HPNx.out, HRNx.out]; exact HS8'.out, HF8.out⟩
              case measure => simp [intOf]; omega
            · rw [show lvO dr = 0 from if_neg hdo] at HPNx HRNx ⊢
              have hb2 : (((dr : Nat) : Int) == 4294967295) = false := by simp; omega
              clear hdo
              have HAL := Lib.hid (alloc2 wk (.cells (Rn.c ⟨1, 0, dr⟩) 50) (.cells (Rn.c ⟨1, 0, dr⟩) 50))
              have HS6 := Lib.hid (HS5.out.next HAL.out)
              have HF6 := Lib.hid (HF5.out.next HAL.out)
              have HE6 := Lib.hid (HE5.out.below HAL.out)
              have HLT := Lib.hid (show Gs rnT ((wk.alloc (.cells (Rn.c ⟨1, 0, dr⟩) 50)).alloc (.cells (Rn.c ⟨1, 0, dr⟩) 50)) (some ⟨wk.heap.size + 1, 0, none⟩) 1 [⟨1, 0, dr⟩] by have h2 := Gown.lit1 rnT (wk.alloc (.cells (Rn.c ⟨1, 0, dr⟩) 50)) ⟨1, 0, dr⟩; rw [show (wk.alloc (.cells (Rn.c ⟨1, 0, dr⟩) 50)).heap.size = wk.heap.size + 1 by simp] at h2; exact h2)
              go_upto_region 34 with (first | (at_builtin; refine append_E11 rnT _ (by rfl) _ _ rfl w5.heap.size _ rw_ rfl HS6.out.runs _ 1 1 [⟨1, 0, dr⟩] rfl HLT.out (by rw [HRL.out]; omega) HS6.out.bel.size ?_; intro v7 w7 h7 g7 l7) | fail)
              have HS7 := Lib.hid (HS6.out.run (Moves.row g7 l7) h7)
              have HF7 := Lib.hid (HF6.out.row HS6.out.runs (by decide) (Moves.row g7 l7))
              have HE7 := Lib.hid (HE6.out.moves (Moves.row g7 l7) (rows_ne HE6.out HS6.out.runs (by decide))).1
              have hgs7 := HE7.out.gs
              rw [HNE.out] at hgs7
              have HGS7 := Lib.hid hgs7
              obtain ⟨A7, c7, hv7, -⟩ := h7.len
              have hl7 : (rw_ ++ [(⟨1, 0, dr⟩ : Rn)]).length = t + 1 := by rw [List.length_append, HRL.out]; rfl
              rw [hl7] at hv7
              subst hv7
              clear h7 g7 l7 hgs7 HS6 HF6 HE6 HS5 HF5 HE5 hl7
              go_wp2_with (first | (at_builtin; refine append_E11 evT _ (by rfl) _ _ rfl w5.heap.size _ es rfl HS7.out.evs _ ne ce ev rfl HGS7.out (by have h1 := HEL.out; have h2 := HEV.out; have h3 := HNE.out; omega) HS7.out.bel.size ?_; intro v8 w8' h8 g8 l8) | fail)
              have HS8' := Lib.hid (HS7.out.ev (Moves.row g8 l8) h8)
              have HF8 := Lib.hid (HF7.out.row HS7.out.evs (by decide) (Moves.row g8 l8))
              obtain ⟨A8, c8, hv8, -⟩ := h8.len
              obtain ⟨n8, hn8⟩ : ∃ n8, (es ++ ev).length = n8 := ⟨_, rfl⟩
              rw [hn8] at hv8
              subst hv8
              clear h8 g8 l8 hn8 HS7 HF7
              go_wp2
              go_roundw
              case rel => exact ⟨t + 1, ⟨pb.g, p3.v, q5⟩, by omega, by go_num, rfl, by rw [HPNx.out, HRNx.out]; exact HS8'.out, HF8.out⟩
              case measure => simp [intOf]; omega
    · have hlt' : ¬ (t : Int) < (T : Int) := by omega
      have htT : t = T := by omega
      subst htT
      have hjp : joinsR rw_ = prs := by rw [← hrw, rawR_joins, hpp]
      have hpu : prs.length = nu := by have h := HNU.out; rw [hpp] at h; exact h
      have hpv : es.length = nv := by have h := HNV.out; rw [hpp] at h; exact h
      have hvt : nv = nt := by rw [← hpv, hnt]
      subst hvt
      have HN2 := Lib.hid (show (joinsR rw_).length = nu by rw [hjp]; exact hpu)
      have HJP := Lib.hid hjp
      have HR1 := Lib.hid (show ∀ r ∈ rw_, r.n = 1 by rw [← hrw]; exact rawR_n N l t)
      have HRL := Lib.hid hrl
      have hnu5 : nu ≤ 1000000 := by have h := hok.rl; simp only at h; omega
      have hnv5 : nv ≤ 1000000 := by omega
      have HN5 := Lib.hid (And.intro hnu5 hnv5)
      have HXL := Lib.hid (typed_lt HX.out)
      have HS1 := Lib.hid s1
      have HUa := Lib.hid (fun (W : World) (hW : Below wr.heap.size wr W) => show Gs rnT W Au nu prs by have h := (HU.out.below HST.out.bel).below hW; have h2 := h.gs; rw [hpp, hpu] at h2; exact h2)
      have HVa := Lib.hid (fun (W : World) (hW : Below wr.heap.size wr W) => show Gs evT W Av nv es by have h := (HV.out.below HST.out.bel).below hW; have h2 := h.gs; rw [hpp, hpv] at h2; exact h2)
      have HTa := Lib.hid (fun (W : World) (hW : Below wr.heap.size wr W) => show Gs evT W At nv es by have h := HST.out.evs.below hW; have h2 := h.gs; rw [hnt] at h2; exact h2)
      have HGOT := Lib.hid (show Gown rnT wr.drew w5.heap.size (.slice Ag t cg) rw_ from HST.out.runs.below (below_drew (Below.refl _ _)))
      have HTB := Lib.hid (fun (W : World) (hW : Below wr.heap.size wr W) => show W.heap[pb.g]? = some (.cells #[pb.v, .int .i64 (t : Nat)] 84) from (hW.block _ HST.out.bus.lt).trans HST.out.bus.blk)
      have HBW := Lib.hid (nxt HB5.out HST.out.bel)
      clear hpn hrn how hel hS hLl hrl hok hnt hpp hrw hjp hpu hpv hnu5 hnv5
      by_cases ha0 : 0 ≤ at_
      · have ha0' : decide (0 ≤ at_) = true := decide_eq_true ha0
        by_cases ha1 : at_ < (t : Int)
        · have ha1' : decide (at_ < (t : Int)) = true := decide_eq_true ha1
          obtain ⟨⟨vf, hvf⟩, -⟩ := HFT.out.gone ⟨ha0, ha1⟩
          have HTF := Lib.hid (fun (W : World) (hW : Below wr.heap.size wr W) => show W.heap[gf]? = some (.cells #[vf, .int .i64 at_] 84) from (hW.block _ (typed_lt hvf)).trans hvf)
          clear hvf HFT HST
          go_upto_region 38 with fail
          refine wp_region_held_drew (S := fun w' => Below wr.heap.size wr w') (by kernel_rfl) (below_drew (Below.refl _ _)) (fun hHeld => ?_)
          refine takeH (i := 0) (v := .slice Ag t cg) rfl (by kernel_rfl) (by kernel_rfl) (by kernel_rfl) (fun _ _ _ h => h) (Or.inl ⟨by rfl, fun wS hSw => ?_⟩) hHeld ?_
          · (clear hSw; go_simp)
          simp only [Act.put, List.setIfInBounds_toArray, List.set_cons_zero, List.set_cons_succ]
          refine takeH (i := 2) (v := .slice Au nu cu) rfl (by kernel_rfl) (by kernel_rfl) (by kernel_rfl) (fun _ _ _ h => h) (Or.inl ⟨by rfl, fun wS hSw => ?_⟩) hHeld ?_
          · (clear hSw; go_simp)
          simp only [Act.put, List.setIfInBounds_toArray, List.set_cons_zero, List.set_cons_succ]
          refine wpAnyH_ready (rs := [1]) (by kernel_rfl) (by simp) ?_
          refine AllReadyH.cons rfl (fun K hK => ?_) AllReadyH.nil
          go_simp
          refine (joined_any11 HGOT.out HRL.out (by omega) HR1.out).mono ?_
          rintro e wa ⟨v2, rfl, g2, hb2⟩
          obtain ⟨A2, c2, hv2, -⟩ := g2.len
          rw [HN2.out] at hv2
          subst hv2
          have HBa := Lib.hid (undrew hb2)
          have HJ := Lib.hid (show Gs rnT wa A2 nu prs by have h := g2.gs; rw [HN2.out, HJP.out] at h; exact h)
          clear g2 hb2
          clear hHeld
          dsimp only
          refine hK.out _ _ (HBa.out) (fun hHeld => ?_)
          clear hK K
          try simp only [Act.put, List.setIfInBounds_toArray, List.set_cons_zero, List.set_cons_succ]
          refine wpAnyH_ready (rs := [3]) (by kernel_rfl) (by simp) ?_
          refine AllReadyH.cons rfl (fun K hK => ?_) AllReadyH.nil
          go_simp
          refine (runs_same (c := c2) (c' := cu) HJ.out (HUa.out wa HBa.out) HN5.out.1).mono ?_
          rintro e wb ⟨rfl, hbb⟩
          have HBb := Lib.hid (nxt HBa.out hbb)
          clear hbb
          clear hHeld
          dsimp only
          refine hK.out _ _ (HBb.out) (fun hHeld => ?_)
          clear hK K
          try simp only [Act.put, List.setIfInBounds_toArray, List.set_cons_zero, List.set_cons_succ]
          refine takeH (i := 4) (v := .bool true) rfl (by kernel_rfl) (by kernel_rfl) (by kernel_rfl) (fun _ _ _ h => h) (Or.inl ⟨by rfl, fun wS hSw => ?_⟩) hHeld ?_
          · (clear hSw; go_simp)
          simp only [Act.put, List.setIfInBounds_toArray, List.set_cons_zero, List.set_cons_succ]
          refine takeH (i := 5) (v := .slice At nv ct) rfl (by kernel_rfl) (by kernel_rfl) (by kernel_rfl) (fun _ _ _ h => h) (Or.inl ⟨by rfl, fun wS hSw => ?_⟩) hHeld ?_
          · (clear hSw; go_simp)
          simp only [Act.put, List.setIfInBounds_toArray, List.set_cons_zero, List.set_cons_succ]
          refine takeH (i := 6) (v := .slice Av nv cv) rfl (by kernel_rfl) (by kernel_rfl) (by kernel_rfl) (fun _ _ _ h => h) (Or.inl ⟨by rfl, fun wS hSw => ?_⟩) hHeld ?_
          · (clear hSw; go_simp)
          simp only [Act.put, List.setIfInBounds_toArray, List.set_cons_zero, List.set_cons_succ]
          refine wpAnyH_ready (rs := [7]) (by kernel_rfl) (by simp) ?_
          refine AllReadyH.cons rfl (fun K hK => ?_) AllReadyH.nil
          go_simp
          refine (events_same (c := ct) (c' := cv) (HTa.out wb HBb.out) (HVa.out wb HBb.out) HN5.out.2).mono ?_
          rintro e wd ⟨rfl, hbd⟩
          have HBd := Lib.hid (nxt HBb.out hbd)
          clear hbd
          clear hHeld
          dsimp only
          refine hK.out _ _ (HBd.out) (fun hHeld => ?_)
          clear hK K
          try simp only [Act.put, List.setIfInBounds_toArray, List.set_cons_zero, List.set_cons_succ]
          refine takeH (i := 8) (v := .bool true) rfl (by kernel_rfl) (by kernel_rfl) (by kernel_rfl) (fun _ _ _ h => h) (Or.inl ⟨by rfl, fun wS hSw => ?_⟩) hHeld ?_
          · (clear hSw; go_simp)
          simp only [Act.put, List.setIfInBounds_toArray, List.set_cons_zero, List.set_cons_succ]
          refine takeH (i := 9) (v := .bool true) rfl (by kernel_rfl) (by kernel_rfl) (by kernel_rfl) (fun _ _ _ h => h) (Or.inl ⟨by rfl, fun wS hSw => ?_⟩) hHeld ?_
          · (clear hSw; go_simp)
          simp only [Act.put, List.setIfInBounds_toArray, List.set_cons_zero, List.set_cons_succ]
          refine takeH (i := 10) (v := .pointer (some ⟨pb.g, 0, none⟩)) rfl (by kernel_rfl) (by kernel_rfl) (by kernel_rfl) (fun _ _ _ h => h) (Or.inl ⟨by rfl, fun wS hSw => ?_⟩) hHeld ?_
          · (clear hSw; go_simp)
          simp only [Act.put, List.setIfInBounds_toArray, List.set_cons_zero, List.set_cons_succ]
          refine takeH (i := 12) (v := .pointer (some ⟨w.heap.size, 1, none⟩)) rfl (by kernel_rfl) (by kernel_rfl) (by kernel_rfl) (fun _ _ _ h => h) (Or.inl ⟨by rfl, fun wS hSw => ?_⟩) hHeld ?_
          · (clear hSw; go_simp)
          simp only [Act.put, List.setIfInBounds_toArray, List.set_cons_zero, List.set_cons_succ]
          refine takeH (i := 13) (v := .int .i64 (t : Nat)) rfl (by kernel_rfl) (by kernel_rfl) (by kernel_rfl) (fun _ _ _ h => h) (Or.inl ⟨by rfl, fun wS hSw => ?_⟩) hHeld ?_
          · (have r1 : wS.cell? ⟨w.heap.size, 1, none⟩ = some (.int .i64 (t : Nat)) := (Below.cell (p := ⟨w.heap.size, 1, none⟩) hSw HXL.out).trans HS1.out; clear hSw; go_simp)
          simp only [Act.put, List.setIfInBounds_toArray, List.set_cons_zero, List.set_cons_succ]
          refine wpAnyH_ready (rs := [11]) (by kernel_rfl) (by simp) ?_
          refine AllReadyH.cons rfl (fun K hK => ?_) AllReadyH.nil
          go_simp
          refine (tick_at (HTB.out wd HBd.out)).mono ?_
          rintro e we ⟨rfl, rfl⟩
          clear hHeld
          dsimp only
          refine hK.out _ _ (HBd.out) (fun hHeld => ?_)
          clear hK K
          try simp only [Act.put, List.setIfInBounds_toArray, List.set_cons_zero, List.set_cons_succ]
          refine takeH (i := 14) (v := .bool true) rfl (by kernel_rfl) (by kernel_rfl) (by kernel_rfl) (fun _ _ _ h => h) (Or.inl ⟨by rfl, fun wS hSw => ?_⟩) hHeld ?_
          · (clear hSw; go_simp)
          simp only [Act.put, List.setIfInBounds_toArray, List.set_cons_zero, List.set_cons_succ]
          refine takeH (i := 15) (v := .bool true) rfl (by kernel_rfl) (by kernel_rfl) (by kernel_rfl) (fun _ _ _ h => h) (Or.inl ⟨by rfl, fun wS hSw => ?_⟩) hHeld ?_
          · (clear hSw; go_simp)
          simp only [Act.put, List.setIfInBounds_toArray, List.set_cons_zero, List.set_cons_succ]
          refine takeH (i := 16) (v := .bool true) rfl (by kernel_rfl) (by kernel_rfl) (by kernel_rfl) (fun _ _ _ h => h) (Or.inl ⟨by rfl, fun wS hSw => ?_⟩) hHeld ?_
          · (clear hSw; go_simp)
          simp only [Act.put, List.setIfInBounds_toArray, List.set_cons_zero, List.set_cons_succ]
          refine takeH (i := 17) (v := .pointer (some ⟨gf, 0, none⟩)) rfl (by kernel_rfl) (by kernel_rfl) (by kernel_rfl) (fun _ _ _ h => h) (Or.inl ⟨by rfl, fun wS hSw => ?_⟩) hHeld ?_
          · (clear hSw; go_simp)
          simp only [Act.put, List.setIfInBounds_toArray, List.set_cons_zero, List.set_cons_succ]
          refine takeH (i := 19) (v := .int .i64 at_) rfl (by kernel_rfl) (by kernel_rfl) (by kernel_rfl) (fun _ _ _ h => h) (Or.inl ⟨by rfl, fun wS hSw => ?_⟩) hHeld ?_
          · (clear hSw; go_simp)
          simp only [Act.put, List.setIfInBounds_toArray, List.set_cons_zero, List.set_cons_succ]
          refine wpAnyH_ready (rs := [18]) (by kernel_rfl) (by simp) ?_
          refine AllReadyH.cons rfl (fun K hK => ?_) AllReadyH.nil
          go_simp
          refine (tick_at (HTF.out wd HBd.out)).mono ?_
          rintro e we ⟨rfl, rfl⟩
          clear hHeld
          dsimp only
          refine hK.out _ _ (HBd.out) (fun hHeld => ?_)
          clear hK K
          try simp only [Act.put, List.setIfInBounds_toArray, List.set_cons_zero, List.set_cons_succ]
          refine takeH (i := 20) (v := .bool true) rfl (by kernel_rfl) (by kernel_rfl) (by kernel_rfl) (fun _ _ _ h => h) (Or.inl ⟨by rfl, fun wS hSw => ?_⟩) hHeld ?_
          · (clear hSw; go_simp)
          simp only [Act.put, List.setIfInBounds_toArray, List.set_cons_zero, List.set_cons_succ]
          refine takeH (i := 21) (v := .bool true) rfl (by kernel_rfl) (by kernel_rfl) (by kernel_rfl) (fun _ _ _ h => h) (Or.inl ⟨by rfl, fun wS hSw => ?_⟩) hHeld ?_
          · (clear hSw; go_simp)
          simp only [Act.put, List.setIfInBounds_toArray, List.set_cons_zero, List.set_cons_succ]
          refine takeH (i := 22) (v := .bool true) rfl (by kernel_rfl) (by kernel_rfl) (by kernel_rfl) (fun _ _ _ h => h) (Or.inl ⟨by rfl, fun wS hSw => ?_⟩) hHeld ?_
          · (clear hSw; go_simp)
          simp only [Act.put, List.setIfInBounds_toArray, List.set_cons_zero, List.set_cons_succ]
          refine wpAnyH_ready (rs := [23]) (by kernel_rfl) (by simp) ?_
          refine AllReadyH.cons rfl (fun K hK => ?_) AllReadyH.nil
          go_simp
          refine (awake11 wd).mono ?_
          rintro e wf ⟨rfl, hbf⟩
          have HBf := Lib.hid (nxt HBd.out hbf)
          clear hbf
          clear hHeld
          dsimp only
          refine hK.out _ _ (HBf.out) (fun hHeld => ?_)
          clear hK K
          try simp only [Act.put, List.setIfInBounds_toArray, List.set_cons_zero, List.set_cons_succ]
          refine takeH (i := 24) (v := .bool true) rfl (by kernel_rfl) (by kernel_rfl) (by kernel_rfl) (fun _ _ _ h => h) (Or.inl ⟨by rfl, fun wS hSw => ?_⟩) hHeld ?_
          · (clear hSw; go_simp)
          simp only [Act.put, List.setIfInBounds_toArray, List.set_cons_zero, List.set_cons_succ]
          refine takeH (i := 25) (v := .bool true) rfl (by kernel_rfl) (by kernel_rfl) (by kernel_rfl) (fun _ _ _ h => h) (Or.inl ⟨by rfl, fun wS hSw => ?_⟩) hHeld ?_
          · (clear hSw; go_simp)
          simp only [Act.put, List.setIfInBounds_toArray, List.set_cons_zero, List.set_cons_succ]
          refine wpAnyH_done (by kernel_rfl) ?_ _
          clear hHeld
          go_wp2
          go_ret
          exact ⟨rfl, nxt HBW.out HBf.out⟩
        · have ha1' : decide (at_ < (t : Int)) = false := decide_eq_false ha1
          have hsm := HFT.out.same fun h => ha1 h.2
          have HTF := Lib.hid (show ∀ (W : World) (hW : Below wr.heap.size wr W), W.heap[gf]? = some (.cells #[pb.v, .int .i64 (t : Nat)] 84) by rw [← hsm]; exact HTB.out)
          clear hsm HFT HST
          go_upto_region 38 with fail
          refine wp_region_held_drew (S := fun w' => Below wr.heap.size wr w') (by kernel_rfl) (below_drew (Below.refl _ _)) (fun hHeld => ?_)
          refine takeH (i := 0) (v := .slice Ag t cg) rfl (by kernel_rfl) (by kernel_rfl) (by kernel_rfl) (fun _ _ _ h => h) (Or.inl ⟨by rfl, fun wS hSw => ?_⟩) hHeld ?_
          · (clear hSw; go_simp)
          simp only [Act.put, List.setIfInBounds_toArray, List.set_cons_zero, List.set_cons_succ]
          refine takeH (i := 2) (v := .slice Au nu cu) rfl (by kernel_rfl) (by kernel_rfl) (by kernel_rfl) (fun _ _ _ h => h) (Or.inl ⟨by rfl, fun wS hSw => ?_⟩) hHeld ?_
          · (clear hSw; go_simp)
          simp only [Act.put, List.setIfInBounds_toArray, List.set_cons_zero, List.set_cons_succ]
          refine wpAnyH_ready (rs := [1]) (by kernel_rfl) (by simp) ?_
          refine AllReadyH.cons rfl (fun K hK => ?_) AllReadyH.nil
          go_simp
          refine (joined_any11 HGOT.out HRL.out (by omega) HR1.out).mono ?_
          rintro e wa ⟨v2, rfl, g2, hb2⟩
          obtain ⟨A2, c2, hv2, -⟩ := g2.len
          rw [HN2.out] at hv2
          subst hv2
          have HBa := Lib.hid (undrew hb2)
          have HJ := Lib.hid (show Gs rnT wa A2 nu prs by have h := g2.gs; rw [HN2.out, HJP.out] at h; exact h)
          clear g2 hb2
          clear hHeld
          dsimp only
          refine hK.out _ _ (HBa.out) (fun hHeld => ?_)
          clear hK K
          try simp only [Act.put, List.setIfInBounds_toArray, List.set_cons_zero, List.set_cons_succ]
          refine wpAnyH_ready (rs := [3]) (by kernel_rfl) (by simp) ?_
          refine AllReadyH.cons rfl (fun K hK => ?_) AllReadyH.nil
          go_simp
          refine (runs_same (c := c2) (c' := cu) HJ.out (HUa.out wa HBa.out) HN5.out.1).mono ?_
          rintro e wb ⟨rfl, hbb⟩
          have HBb := Lib.hid (nxt HBa.out hbb)
          clear hbb
          clear hHeld
          dsimp only
          refine hK.out _ _ (HBb.out) (fun hHeld => ?_)
          clear hK K
          try simp only [Act.put, List.setIfInBounds_toArray, List.set_cons_zero, List.set_cons_succ]
          refine takeH (i := 4) (v := .bool true) rfl (by kernel_rfl) (by kernel_rfl) (by kernel_rfl) (fun _ _ _ h => h) (Or.inl ⟨by rfl, fun wS hSw => ?_⟩) hHeld ?_
          · (clear hSw; go_simp)
          simp only [Act.put, List.setIfInBounds_toArray, List.set_cons_zero, List.set_cons_succ]
          refine takeH (i := 5) (v := .slice At nv ct) rfl (by kernel_rfl) (by kernel_rfl) (by kernel_rfl) (fun _ _ _ h => h) (Or.inl ⟨by rfl, fun wS hSw => ?_⟩) hHeld ?_
          · (clear hSw; go_simp)
          simp only [Act.put, List.setIfInBounds_toArray, List.set_cons_zero, List.set_cons_succ]
          refine takeH (i := 6) (v := .slice Av nv cv) rfl (by kernel_rfl) (by kernel_rfl) (by kernel_rfl) (fun _ _ _ h => h) (Or.inl ⟨by rfl, fun wS hSw => ?_⟩) hHeld ?_
          · (clear hSw; go_simp)
          simp only [Act.put, List.setIfInBounds_toArray, List.set_cons_zero, List.set_cons_succ]
          refine wpAnyH_ready (rs := [7]) (by kernel_rfl) (by simp) ?_
          refine AllReadyH.cons rfl (fun K hK => ?_) AllReadyH.nil
          go_simp
          refine (events_same (c := ct) (c' := cv) (HTa.out wb HBb.out) (HVa.out wb HBb.out) HN5.out.2).mono ?_
          rintro e wd ⟨rfl, hbd⟩
          have HBd := Lib.hid (nxt HBb.out hbd)
          clear hbd
          clear hHeld
          dsimp only
          refine hK.out _ _ (HBd.out) (fun hHeld => ?_)
          clear hK K
          try simp only [Act.put, List.setIfInBounds_toArray, List.set_cons_zero, List.set_cons_succ]
          refine takeH (i := 8) (v := .bool true) rfl (by kernel_rfl) (by kernel_rfl) (by kernel_rfl) (fun _ _ _ h => h) (Or.inl ⟨by rfl, fun wS hSw => ?_⟩) hHeld ?_
          · (clear hSw; go_simp)
          simp only [Act.put, List.setIfInBounds_toArray, List.set_cons_zero, List.set_cons_succ]
          refine takeH (i := 9) (v := .bool true) rfl (by kernel_rfl) (by kernel_rfl) (by kernel_rfl) (fun _ _ _ h => h) (Or.inl ⟨by rfl, fun wS hSw => ?_⟩) hHeld ?_
          · (clear hSw; go_simp)
          simp only [Act.put, List.setIfInBounds_toArray, List.set_cons_zero, List.set_cons_succ]
          refine takeH (i := 10) (v := .pointer (some ⟨pb.g, 0, none⟩)) rfl (by kernel_rfl) (by kernel_rfl) (by kernel_rfl) (fun _ _ _ h => h) (Or.inl ⟨by rfl, fun wS hSw => ?_⟩) hHeld ?_
          · (clear hSw; go_simp)
          simp only [Act.put, List.setIfInBounds_toArray, List.set_cons_zero, List.set_cons_succ]
          refine takeH (i := 12) (v := .pointer (some ⟨w.heap.size, 1, none⟩)) rfl (by kernel_rfl) (by kernel_rfl) (by kernel_rfl) (fun _ _ _ h => h) (Or.inl ⟨by rfl, fun wS hSw => ?_⟩) hHeld ?_
          · (clear hSw; go_simp)
          simp only [Act.put, List.setIfInBounds_toArray, List.set_cons_zero, List.set_cons_succ]
          refine takeH (i := 13) (v := .int .i64 (t : Nat)) rfl (by kernel_rfl) (by kernel_rfl) (by kernel_rfl) (fun _ _ _ h => h) (Or.inl ⟨by rfl, fun wS hSw => ?_⟩) hHeld ?_
          · (have r1 : wS.cell? ⟨w.heap.size, 1, none⟩ = some (.int .i64 (t : Nat)) := (Below.cell (p := ⟨w.heap.size, 1, none⟩) hSw HXL.out).trans HS1.out; clear hSw; go_simp)
          simp only [Act.put, List.setIfInBounds_toArray, List.set_cons_zero, List.set_cons_succ]
          refine wpAnyH_ready (rs := [11]) (by kernel_rfl) (by simp) ?_
          refine AllReadyH.cons rfl (fun K hK => ?_) AllReadyH.nil
          go_simp
          refine (tick_at (HTB.out wd HBd.out)).mono ?_
          rintro e we ⟨rfl, rfl⟩
          clear hHeld
          dsimp only
          refine hK.out _ _ (HBd.out) (fun hHeld => ?_)
          clear hK K
          try simp only [Act.put, List.setIfInBounds_toArray, List.set_cons_zero, List.set_cons_succ]
          refine takeH (i := 14) (v := .bool true) rfl (by kernel_rfl) (by kernel_rfl) (by kernel_rfl) (fun _ _ _ h => h) (Or.inl ⟨by rfl, fun wS hSw => ?_⟩) hHeld ?_
          · (clear hSw; go_simp)
          simp only [Act.put, List.setIfInBounds_toArray, List.set_cons_zero, List.set_cons_succ]
          refine takeH (i := 15) (v := .bool true) rfl (by kernel_rfl) (by kernel_rfl) (by kernel_rfl) (fun _ _ _ h => h) (Or.inl ⟨by rfl, fun wS hSw => ?_⟩) hHeld ?_
          · (clear hSw; go_simp)
          simp only [Act.put, List.setIfInBounds_toArray, List.set_cons_zero, List.set_cons_succ]
          refine takeH (i := 16) (v := .bool true) rfl (by kernel_rfl) (by kernel_rfl) (by kernel_rfl) (fun _ _ _ h => h) (Or.inl ⟨by rfl, fun wS hSw => ?_⟩) hHeld ?_
          · (clear hSw; go_simp)
          simp only [Act.put, List.setIfInBounds_toArray, List.set_cons_zero, List.set_cons_succ]
          refine takeH (i := 17) (v := .pointer (some ⟨gf, 0, none⟩)) rfl (by kernel_rfl) (by kernel_rfl) (by kernel_rfl) (fun _ _ _ h => h) (Or.inl ⟨by rfl, fun wS hSw => ?_⟩) hHeld ?_
          · (clear hSw; go_simp)
          simp only [Act.put, List.setIfInBounds_toArray, List.set_cons_zero, List.set_cons_succ]
          refine takeH (i := 19) (v := .int .i64 (t : Nat)) rfl (by kernel_rfl) (by kernel_rfl) (by kernel_rfl) (fun _ _ _ h => h) (Or.inl ⟨by rfl, fun wS hSw => ?_⟩) hHeld ?_
          · (clear hSw; go_simp)
          simp only [Act.put, List.setIfInBounds_toArray, List.set_cons_zero, List.set_cons_succ]
          refine wpAnyH_ready (rs := [18]) (by kernel_rfl) (by simp) ?_
          refine AllReadyH.cons rfl (fun K hK => ?_) AllReadyH.nil
          go_simp
          refine (tick_at (HTF.out wd HBd.out)).mono ?_
          rintro e we ⟨rfl, rfl⟩
          clear hHeld
          dsimp only
          refine hK.out _ _ (HBd.out) (fun hHeld => ?_)
          clear hK K
          try simp only [Act.put, List.setIfInBounds_toArray, List.set_cons_zero, List.set_cons_succ]
          refine takeH (i := 20) (v := .bool true) rfl (by kernel_rfl) (by kernel_rfl) (by kernel_rfl) (fun _ _ _ h => h) (Or.inl ⟨by rfl, fun wS hSw => ?_⟩) hHeld ?_
          · (clear hSw; go_simp)
          simp only [Act.put, List.setIfInBounds_toArray, List.set_cons_zero, List.set_cons_succ]
          refine takeH (i := 21) (v := .bool true) rfl (by kernel_rfl) (by kernel_rfl) (by kernel_rfl) (fun _ _ _ h => h) (Or.inl ⟨by rfl, fun wS hSw => ?_⟩) hHeld ?_
          · (clear hSw; go_simp)
          simp only [Act.put, List.setIfInBounds_toArray, List.set_cons_zero, List.set_cons_succ]
          refine takeH (i := 22) (v := .bool true) rfl (by kernel_rfl) (by kernel_rfl) (by kernel_rfl) (fun _ _ _ h => h) (Or.inl ⟨by rfl, fun wS hSw => ?_⟩) hHeld ?_
          · (clear hSw; go_simp)
          simp only [Act.put, List.setIfInBounds_toArray, List.set_cons_zero, List.set_cons_succ]
          refine wpAnyH_ready (rs := [23]) (by kernel_rfl) (by simp) ?_
          refine AllReadyH.cons rfl (fun K hK => ?_) AllReadyH.nil
          go_simp
          refine (awake11 wd).mono ?_
          rintro e wf ⟨rfl, hbf⟩
          have HBf := Lib.hid (nxt HBd.out hbf)
          clear hbf
          clear hHeld
          dsimp only
          refine hK.out _ _ (HBf.out) (fun hHeld => ?_)
          clear hK K
          try simp only [Act.put, List.setIfInBounds_toArray, List.set_cons_zero, List.set_cons_succ]
          refine takeH (i := 24) (v := .bool true) rfl (by kernel_rfl) (by kernel_rfl) (by kernel_rfl) (fun _ _ _ h => h) (Or.inl ⟨by rfl, fun wS hSw => ?_⟩) hHeld ?_
          · (clear hSw; go_simp)
          simp only [Act.put, List.setIfInBounds_toArray, List.set_cons_zero, List.set_cons_succ]
          refine takeH (i := 25) (v := .bool true) rfl (by kernel_rfl) (by kernel_rfl) (by kernel_rfl) (fun _ _ _ h => h) (Or.inl ⟨by rfl, fun wS hSw => ?_⟩) hHeld ?_
          · (clear hSw; go_simp)
          simp only [Act.put, List.setIfInBounds_toArray, List.set_cons_zero, List.set_cons_succ]
          refine wpAnyH_done (by kernel_rfl) ?_ _
          clear hHeld
          go_wp2
          go_ret
          exact ⟨rfl, nxt HBW.out HBf.out⟩
      · have ha0' : decide (0 ≤ at_) = false := decide_eq_false ha0
        have hsm := HFT.out.same fun h => ha0 h.1
        have HTF := Lib.hid (show ∀ (W : World) (hW : Below wr.heap.size wr W), W.heap[gf]? = some (.cells #[pb.v, .int .i64 (t : Nat)] 84) by rw [← hsm]; exact HTB.out)
        clear hsm HFT HST
        go_upto_region 38 with fail
        refine wp_region_held_drew (S := fun w' => Below wr.heap.size wr w') (by kernel_rfl) (below_drew (Below.refl _ _)) (fun hHeld => ?_)
        refine takeH (i := 0) (v := .slice Ag t cg) rfl (by kernel_rfl) (by kernel_rfl) (by kernel_rfl) (fun _ _ _ h => h) (Or.inl ⟨by rfl, fun wS hSw => ?_⟩) hHeld ?_
        · (clear hSw; go_simp)
        simp only [Act.put, List.setIfInBounds_toArray, List.set_cons_zero, List.set_cons_succ]
        refine takeH (i := 2) (v := .slice Au nu cu) rfl (by kernel_rfl) (by kernel_rfl) (by kernel_rfl) (fun _ _ _ h => h) (Or.inl ⟨by rfl, fun wS hSw => ?_⟩) hHeld ?_
        · (clear hSw; go_simp)
        simp only [Act.put, List.setIfInBounds_toArray, List.set_cons_zero, List.set_cons_succ]
        refine wpAnyH_ready (rs := [1]) (by kernel_rfl) (by simp) ?_
        refine AllReadyH.cons rfl (fun K hK => ?_) AllReadyH.nil
        go_simp
        refine (joined_any11 HGOT.out HRL.out (by omega) HR1.out).mono ?_
        rintro e wa ⟨v2, rfl, g2, hb2⟩
        obtain ⟨A2, c2, hv2, -⟩ := g2.len
        rw [HN2.out] at hv2
        subst hv2
        have HBa := Lib.hid (undrew hb2)
        have HJ := Lib.hid (show Gs rnT wa A2 nu prs by have h := g2.gs; rw [HN2.out, HJP.out] at h; exact h)
        clear g2 hb2
        clear hHeld
        dsimp only
        refine hK.out _ _ (HBa.out) (fun hHeld => ?_)
        clear hK K
        try simp only [Act.put, List.setIfInBounds_toArray, List.set_cons_zero, List.set_cons_succ]
        refine wpAnyH_ready (rs := [3]) (by kernel_rfl) (by simp) ?_
        refine AllReadyH.cons rfl (fun K hK => ?_) AllReadyH.nil
        go_simp
        refine (runs_same (c := c2) (c' := cu) HJ.out (HUa.out wa HBa.out) HN5.out.1).mono ?_
        rintro e wb ⟨rfl, hbb⟩
        have HBb := Lib.hid (nxt HBa.out hbb)
        clear hbb
        clear hHeld
        dsimp only
        refine hK.out _ _ (HBb.out) (fun hHeld => ?_)
        clear hK K
        try simp only [Act.put, List.setIfInBounds_toArray, List.set_cons_zero, List.set_cons_succ]
        refine takeH (i := 4) (v := .bool true) rfl (by kernel_rfl) (by kernel_rfl) (by kernel_rfl) (fun _ _ _ h => h) (Or.inl ⟨by rfl, fun wS hSw => ?_⟩) hHeld ?_
        · (clear hSw; go_simp)
        simp only [Act.put, List.setIfInBounds_toArray, List.set_cons_zero, List.set_cons_succ]
        refine takeH (i := 5) (v := .slice At nv ct) rfl (by kernel_rfl) (by kernel_rfl) (by kernel_rfl) (fun _ _ _ h => h) (Or.inl ⟨by rfl, fun wS hSw => ?_⟩) hHeld ?_
        · (clear hSw; go_simp)
        simp only [Act.put, List.setIfInBounds_toArray, List.set_cons_zero, List.set_cons_succ]
        refine takeH (i := 6) (v := .slice Av nv cv) rfl (by kernel_rfl) (by kernel_rfl) (by kernel_rfl) (fun _ _ _ h => h) (Or.inl ⟨by rfl, fun wS hSw => ?_⟩) hHeld ?_
        · (clear hSw; go_simp)
        simp only [Act.put, List.setIfInBounds_toArray, List.set_cons_zero, List.set_cons_succ]
        refine wpAnyH_ready (rs := [7]) (by kernel_rfl) (by simp) ?_
        refine AllReadyH.cons rfl (fun K hK => ?_) AllReadyH.nil
        go_simp
        refine (events_same (c := ct) (c' := cv) (HTa.out wb HBb.out) (HVa.out wb HBb.out) HN5.out.2).mono ?_
        rintro e wd ⟨rfl, hbd⟩
        have HBd := Lib.hid (nxt HBb.out hbd)
        clear hbd
        clear hHeld
        dsimp only
        refine hK.out _ _ (HBd.out) (fun hHeld => ?_)
        clear hK K
        try simp only [Act.put, List.setIfInBounds_toArray, List.set_cons_zero, List.set_cons_succ]
        refine takeH (i := 8) (v := .bool true) rfl (by kernel_rfl) (by kernel_rfl) (by kernel_rfl) (fun _ _ _ h => h) (Or.inl ⟨by rfl, fun wS hSw => ?_⟩) hHeld ?_
        · (clear hSw; go_simp)
        simp only [Act.put, List.setIfInBounds_toArray, List.set_cons_zero, List.set_cons_succ]
        refine takeH (i := 9) (v := .bool true) rfl (by kernel_rfl) (by kernel_rfl) (by kernel_rfl) (fun _ _ _ h => h) (Or.inl ⟨by rfl, fun wS hSw => ?_⟩) hHeld ?_
        · (clear hSw; go_simp)
        simp only [Act.put, List.setIfInBounds_toArray, List.set_cons_zero, List.set_cons_succ]
        refine takeH (i := 10) (v := .pointer (some ⟨pb.g, 0, none⟩)) rfl (by kernel_rfl) (by kernel_rfl) (by kernel_rfl) (fun _ _ _ h => h) (Or.inl ⟨by rfl, fun wS hSw => ?_⟩) hHeld ?_
        · (clear hSw; go_simp)
        simp only [Act.put, List.setIfInBounds_toArray, List.set_cons_zero, List.set_cons_succ]
        refine takeH (i := 12) (v := .pointer (some ⟨w.heap.size, 1, none⟩)) rfl (by kernel_rfl) (by kernel_rfl) (by kernel_rfl) (fun _ _ _ h => h) (Or.inl ⟨by rfl, fun wS hSw => ?_⟩) hHeld ?_
        · (clear hSw; go_simp)
        simp only [Act.put, List.setIfInBounds_toArray, List.set_cons_zero, List.set_cons_succ]
        refine takeH (i := 13) (v := .int .i64 (t : Nat)) rfl (by kernel_rfl) (by kernel_rfl) (by kernel_rfl) (fun _ _ _ h => h) (Or.inl ⟨by rfl, fun wS hSw => ?_⟩) hHeld ?_
        · (have r1 : wS.cell? ⟨w.heap.size, 1, none⟩ = some (.int .i64 (t : Nat)) := (Below.cell (p := ⟨w.heap.size, 1, none⟩) hSw HXL.out).trans HS1.out; clear hSw; go_simp)
        simp only [Act.put, List.setIfInBounds_toArray, List.set_cons_zero, List.set_cons_succ]
        refine wpAnyH_ready (rs := [11]) (by kernel_rfl) (by simp) ?_
        refine AllReadyH.cons rfl (fun K hK => ?_) AllReadyH.nil
        go_simp
        refine (tick_at (HTB.out wd HBd.out)).mono ?_
        rintro e we ⟨rfl, rfl⟩
        clear hHeld
        dsimp only
        refine hK.out _ _ (HBd.out) (fun hHeld => ?_)
        clear hK K
        try simp only [Act.put, List.setIfInBounds_toArray, List.set_cons_zero, List.set_cons_succ]
        refine takeH (i := 14) (v := .bool true) rfl (by kernel_rfl) (by kernel_rfl) (by kernel_rfl) (fun _ _ _ h => h) (Or.inl ⟨by rfl, fun wS hSw => ?_⟩) hHeld ?_
        · (clear hSw; go_simp)
        simp only [Act.put, List.setIfInBounds_toArray, List.set_cons_zero, List.set_cons_succ]
        refine takeH (i := 15) (v := .bool true) rfl (by kernel_rfl) (by kernel_rfl) (by kernel_rfl) (fun _ _ _ h => h) (Or.inl ⟨by rfl, fun wS hSw => ?_⟩) hHeld ?_
        · (clear hSw; go_simp)
        simp only [Act.put, List.setIfInBounds_toArray, List.set_cons_zero, List.set_cons_succ]
        refine takeH (i := 16) (v := .bool true) rfl (by kernel_rfl) (by kernel_rfl) (by kernel_rfl) (fun _ _ _ h => h) (Or.inl ⟨by rfl, fun wS hSw => ?_⟩) hHeld ?_
        · (clear hSw; go_simp)
        simp only [Act.put, List.setIfInBounds_toArray, List.set_cons_zero, List.set_cons_succ]
        refine takeH (i := 17) (v := .pointer (some ⟨gf, 0, none⟩)) rfl (by kernel_rfl) (by kernel_rfl) (by kernel_rfl) (fun _ _ _ h => h) (Or.inl ⟨by rfl, fun wS hSw => ?_⟩) hHeld ?_
        · (clear hSw; go_simp)
        simp only [Act.put, List.setIfInBounds_toArray, List.set_cons_zero, List.set_cons_succ]
        refine takeH (i := 19) (v := .int .i64 (t : Nat)) rfl (by kernel_rfl) (by kernel_rfl) (by kernel_rfl) (fun _ _ _ h => h) (Or.inl ⟨by rfl, fun wS hSw => ?_⟩) hHeld ?_
        · (clear hSw; go_simp)
        simp only [Act.put, List.setIfInBounds_toArray, List.set_cons_zero, List.set_cons_succ]
        refine wpAnyH_ready (rs := [18]) (by kernel_rfl) (by simp) ?_
        refine AllReadyH.cons rfl (fun K hK => ?_) AllReadyH.nil
        go_simp
        refine (tick_at (HTF.out wd HBd.out)).mono ?_
        rintro e we ⟨rfl, rfl⟩
        clear hHeld
        dsimp only
        refine hK.out _ _ (HBd.out) (fun hHeld => ?_)
        clear hK K
        try simp only [Act.put, List.setIfInBounds_toArray, List.set_cons_zero, List.set_cons_succ]
        refine takeH (i := 20) (v := .bool true) rfl (by kernel_rfl) (by kernel_rfl) (by kernel_rfl) (fun _ _ _ h => h) (Or.inl ⟨by rfl, fun wS hSw => ?_⟩) hHeld ?_
        · (clear hSw; go_simp)
        simp only [Act.put, List.setIfInBounds_toArray, List.set_cons_zero, List.set_cons_succ]
        refine takeH (i := 21) (v := .bool true) rfl (by kernel_rfl) (by kernel_rfl) (by kernel_rfl) (fun _ _ _ h => h) (Or.inl ⟨by rfl, fun wS hSw => ?_⟩) hHeld ?_
        · (clear hSw; go_simp)
        simp only [Act.put, List.setIfInBounds_toArray, List.set_cons_zero, List.set_cons_succ]
        refine takeH (i := 22) (v := .bool true) rfl (by kernel_rfl) (by kernel_rfl) (by kernel_rfl) (fun _ _ _ h => h) (Or.inl ⟨by rfl, fun wS hSw => ?_⟩) hHeld ?_
        · (clear hSw; go_simp)
        simp only [Act.put, List.setIfInBounds_toArray, List.set_cons_zero, List.set_cons_succ]
        refine wpAnyH_ready (rs := [23]) (by kernel_rfl) (by simp) ?_
        refine AllReadyH.cons rfl (fun K hK => ?_) AllReadyH.nil
        go_simp
        refine (awake11 wd).mono ?_
        rintro e wf ⟨rfl, hbf⟩
        have HBf := Lib.hid (nxt HBd.out hbf)
        clear hbf
        clear hHeld
        dsimp only
        refine hK.out _ _ (HBf.out) (fun hHeld => ?_)
        clear hK K
        try simp only [Act.put, List.setIfInBounds_toArray, List.set_cons_zero, List.set_cons_succ]
        refine takeH (i := 24) (v := .bool true) rfl (by kernel_rfl) (by kernel_rfl) (by kernel_rfl) (fun _ _ _ h => h) (Or.inl ⟨by rfl, fun wS hSw => ?_⟩) hHeld ?_
        · (clear hSw; go_simp)
        simp only [Act.put, List.setIfInBounds_toArray, List.set_cons_zero, List.set_cons_succ]
        refine takeH (i := 25) (v := .bool true) rfl (by kernel_rfl) (by kernel_rfl) (by kernel_rfl) (fun _ _ _ h => h) (Or.inl ⟨by rfl, fun wS hSw => ?_⟩) hHeld ?_
        · (clear hSw; go_simp)
        simp only [Act.put, List.setIfInBounds_toArray, List.set_cons_zero, List.set_cons_succ]
        refine wpAnyH_done (by kernel_rfl) ?_ _
        clear hHeld
        go_wp2
        go_ret
        exact ⟨rfl, nxt HBW.out HBf.out⟩
end Go.Proofs.YtalpbnfebcafgaaGreat
