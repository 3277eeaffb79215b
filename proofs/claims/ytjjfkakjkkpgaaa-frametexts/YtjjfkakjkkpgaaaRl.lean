/- The contract of the reference's Parse: bytes. -/
import Derived.Test.YtjjfkakjkkpgaaaRp
namespace Go.Proofs.Ytjjfkakjkkpgaaa
open Go.RowKit

theorem pr_cut {s2 : ByteArray} {r : List UInt8} (h : s2 = str r) (k : Nat) : s2.extract (2 * k) (2 * k + 2) = str (pr r k) := by
  rw [h, str_extract]
  unfold pr
  rw [show (k + 1) * 2 = 2 * k + 2 by omega, show k * 2 = 2 * k by omega]
theorem frq_zero (id n : Nat) (x : Bool) (r : List UInt8) (h : r.length = 2 * n) : frq id x r 0 = ⟨(id : Int), x, false, (n : Int), fun _ => 0⟩ := by
  unfold frq frp; rw [h, show 2 * n / 2 = n by omega]; rfl
theorem frq_len (id n k : Nat) (x : Bool) (r : List UInt8) (h : r.length = 2 * n) : (frq id x r k).len = (n : Int) := by
  unfold frq frp; rw [h, show 2 * n / 2 = n by omega]

set_option maxRecDepth 20000 in
set_option maxHeartbeats 1600000 in
theorem rp_loop_nn_8 (s s1 s2 : ByteArray) (id : Nat) (w : World) (hv : ∃ h : 8 < s.size, s[8] = 35) (hx0 : s.extract 0 8 = s1) (hx1 : s.extract (8 + 1) s.size = s2) (hs : s.size ≤ 100) (HN : Hid (∀ w : World, Calls Try.prog 36 #[.string s1] w fun e w' => e = .returned (.int .i64 (id : Int)) ∧ w = w')) (g1 : ((s2.size : Int) == 2) = false) (r : List UInt8) (n : Nat) (hs2 : s2 = str r) (hl : r.length = 2 * n) (hn8 : n ≤ 8) (z : Int) (hz : decide (z < 0) = false) (HR : Hid (∀ w : World, Calls Try.prog 36 #[.string s2] w fun e w' => e = .returned (.int .i64 z) ∧ w = w')) (fo : Fr) (er : Int) (H : Hid ((∀ c ∈ r, hok c = true) ∧ ((frq id true r n).err = 0 ∧ er = 0 ∧ fo = frq id true r n ∨ (frq id true r n).err = 14 ∧ er = 14 ∧ fo = Fr.zero) ∨ (¬ ∀ c ∈ r, hok c = true) ∧ er = 11 ∧ fo = Fr.zero)) :
    Calls Try.prog 21 #[.string s] w fun e w' => e = .returned (.tuple #[fo.val, .int .i64 er]) ∧ Below w.heap.size w w' := by
  obtain ⟨h8, e8⟩ := hv
  have a1 : (8 : Int) < (s.size : Int) := by omega
  have a2 := is35 e8
  have a3 := isnt35 e8
  have a4 : decide ((s.size : Int) ≤ 8) = false := by simp; omega
  have a5 : (9 : Int) ≤ (s.size : Int) := by omega
  have a6 : (8 : Int) ≤ (s.size : Int) := by omega
  clear e8
  have hs2s : s2.size = 2 * n := by rw [hs2, str_size, hl]
  have HCUT := Lib.hid (pr_cut hs2)
  have h2 : ((s2.size : Int) % 2 != 0) = false := by simp; omega
  have h3 : decide (16 < (s2.size : Int)) = false := by simp; omega
  have hd2 : (s2.size : Int) / 2 = (n : Int) := by omega
  have H0 := Lib.hid (frq_zero id n true r hl)
  have HLN := Lib.hid (fun k => frq_len id n k true r hl)
  have HL := Lib.hid hl
  have HS2 := Lib.hid hs2s
  have A0 := Lib.hid (fb_two1 w Fr.zero ⟨(id : Int), true, false, (n : Int), fun _ => 0⟩)
  have A1 := Lib.hid (fb_two2 w Fr.zero ⟨(id : Int), true, false, (n : Int), fun _ => 0⟩)
  have A2 := Lib.hid (alloc2 w (.cells Fr.zero.cells 24) (.cells (Fr.cells ⟨(id : Int), true, false, (n : Int), fun _ => 0⟩) 24))
  clear hs2 hl hs2s
  go_enter Try.func21, Try.ntmps21
  go_wp2_with fail
  refine (HN.out _).mono ?_
  rintro e w' ⟨rfl, rfl⟩
  go_wp2_with fail
  refine (HR.out _).mono ?_
  rintro e w' ⟨rfl, rfl⟩
  go_wp2
  go_loopw [7] (fun j wr => ∃ k : Nat, k ≤ n ∧ j = .int .i64 k ∧ (∀ i, i < k → ∀ c ∈ pr r i, hok c = true) ∧ Fb wr w.heap.size Fr.zero ∧ Fb wr (w.heap.size + 1) (frq id true r k) ∧ Below w.heap.size w wr) (fun j _ => n - (intOf j).toNat)
  case atStart => exact ⟨0, Nat.zero_le _, rfl, fun j hj => by omega, A0.out, by rw [H0.out]; exact A1.out, A2.out⟩
  case round =>
    obtain ⟨k, hk, rfl, hp, hz', hfb, hbel⟩ := hrel
    have HZ := Lib.hid hz'; have HFB := Lib.hid hfb; have HP := Lib.hid hp
    obtain ⟨c0, c1, c2, c3, c4, c5, c6, c7, c8, c9, c10, c11⟩ := hz'.bx
    obtain ⟨b0, b1, b2, b3, b4, b5, b6, b7, b8, b9, b10, b11⟩ := hfb.bx
    have fz := fun i => hz'.frozen i
    have fy := fun i => hfb.frozen i
    rw [HLN.out k] at b3
    clear hp hz' hfb A0 A1 A2 hd2 h2 h3
    by_cases hlt : k < n
    · have hlt' : (k : Int) < (n : Int) := by omega
      have HX := Lib.hid (HCUT.out k)
      have i1 : 2 * (k : Int) + 2 ≤ (s2.size : Int) := by have := HS2.out; omega
      have i2 : 2 * (k : Int) ≤ 2 * (k : Int) + 2 := by omega
      have hpl : (pr r k).length = 2 := pr_len (by have := HL.out; omega)
      have HPL := Lib.hid hpl
      have hsz100 : (s2.size : Int) ≤ 100 := by have := HS2.out; omega
      clear hpl
      by_cases hall : ∀ c ∈ pr r k, hok c = true
      · have HA := Lib.hid hall
        clear hall
        have hv1 : hval (pr r k) < 256 := by
          have := hval_lt (pr r k); rw [HPL.out] at this; exact this
        have HST := Lib.hid (frq_step id true r k)
        obtain ⟨v, hv0⟩ : ∃ v, hval (pr r k) = v := ⟨_, rfl⟩
        rw [hv0] at hv1
        have HV := Lib.hid hv0
        clear hv0
        have dcell := HFB.out.bx.data k (by omega)
        have i3 : (k : Int) < 8 := by omega
        have i4 : (v : Int) < 256 := by omega
        generalize (frq id true r k).d k = y at dcell
        go_wp2_with fail
        rw [HX.out]
        refine (rnum_ok _ _ (by rw [HPL.out]; omega) HA.out).mono ?_
        rintro e w' ⟨rfl, rfl⟩
        rw [HV.out]
        go_wp2
        go_roundw
        case rel =>
          refine ⟨k + 1, by omega, by go_num, fun j hj => ?_, HZ.out.away (by omega), ?_, hbel.setCell (by simp) _⟩
          · rcases Nat.lt_or_ge j k with h | h
            · exact HP.out j h
            · rw [show j = k by omega]; exact HA.out
          · rw [← HST.out, HV.out]; exact HFB.out.put k (by omega) _
        case measure => simp [intOf]; omega
      · have HA := Lib.hid hall
        clear hall
        have HE := Lib.hid (show er = 11 ∧ fo = Fr.zero by
          rcases H.out with ⟨h, _⟩ | ⟨_, h⟩
          · exact absurd (fun c hc => h c (pr_sub hc)) HA.out
          · exact h)
        obtain ⟨rfl, hfo⟩ := HE.out
        have HFO := Lib.hid hfo
        clear hfo HE
        go_wp2_with fail
        rw [HX.out]
        refine (rnum_bad _ _ (by rw [HPL.out]; omega) HA.out).mono ?_
        rintro e w' ⟨rfl, rfl⟩
        go_wp2
        rw [HFO.out]
        refine bodyPost_ret (v := .tuple #[Fr.zero.val, .int .i64 11]) (by rw [results_cell_tmp rfl]; go_simp; decide) rfl ⟨rfl, ?_⟩
        exact set12 hbel (Nat.le_refl _) _ _ _ _ _ _ _ _ _ _ _ _
    · have ek : k = n := by omega
      have HE := Lib.hid (show (frq id true r n).err = 0 ∧ er = 0 ∧ fo = frq id true r n ∨ (frq id true r n).err = 14 ∧ er = 14 ∧ fo = Fr.zero by
        rcases H.out with ⟨_, h⟩ | ⟨h, _⟩
        · exact h
        · exact absurd (pr_all HL.out (fun j hj => HP.out j (by omega))) h)
      rw [← ek] at HE
      have hnn : decide ((n : Int) < 0) = false := by simp
      have HLK := Lib.hid (HLN.out k)
      obtain ⟨F, hF⟩ : ∃ F, frq id true r k = F := ⟨_, rfl⟩
      rw [hF] at HE HFB HLK
      simp only [hF] at b0 b1 b2 b4 b5 b6 b7 b8 b9 b10 b11
      clear hF
      have HCK := Lib.hid (rcheck_any F)
      go_wp2_with fail
      rw [← HLK.out]
      refine (HCK.out _).mono ?_
      rintro e w5 ⟨rfl, hb5⟩
      have HZ5 := Lib.hid (HZ.out.below hb5 HZ.out.lt)
      have HG5 := Lib.hid (HFB.out.below hb5 HFB.out.lt)
      have HB5 := Lib.hid (nxt hbel hb5)
      clear c0 c1 c2 c3 c4 c5 c6 c7 c8 c9 c10 c11 b0 b1 b2 b3 b4 b5 b6 b7 b8 b9 b10 b11
      clear HZ HFB hb5 fz fy hbel
      obtain ⟨c0, c1, c2, c3, c4, c5, c6, c7, c8, c9, c10, c11⟩ := HZ5.out.bx
      obtain ⟨b0, b1, b2, b3, b4, b5, b6, b7, b8, b9, b10, b11⟩ := HG5.out.bx
      have fz := fun i => HZ5.out.frozen i
      rcases HE.out with ⟨h4, rfl, h5⟩ | ⟨h4, rfl, h5⟩
      · rw [h4]
        have H5 := Lib.hid h5
        clear h4 h5
        go_wp2
        rw [H5.out]
        refine bodyPost_ret (v := .tuple #[F.val, .int .i64 0]) (by rw [results_cell_tmp rfl]; go_simp) rfl ⟨rfl, ?_⟩
        exact set12 HB5.out (Nat.le_refl _) _ _ _ _ _ _ _ _ _ _ _ _
      · rw [h4]
        have H5 := Lib.hid h5
        clear h4 h5
        go_wp2
        rw [H5.out]
        refine bodyPost_ret (v := .tuple #[Fr.zero.val, .int .i64 14]) (by rw [results_cell_tmp rfl]; go_simp; decide) rfl ⟨rfl, ?_⟩
        exact set12 HB5.out (Nat.le_refl _) _ _ _ _ _ _ _ _ _ _ _ _

set_option maxRecDepth 20000 in
set_option maxHeartbeats 1600000 in
theorem rp_loop_nz_8 (s s1 s2 : ByteArray) (id : Nat) (w : World) (hv : ∃ h : 8 < s.size, s[8] = 35) (hx0 : s.extract 0 8 = s1) (hx1 : s.extract (8 + 1) s.size = s2) (hs : s.size ≤ 100) (HN : Hid (∀ w : World, Calls Try.prog 36 #[.string s1] w fun e w' => e = .returned (.int .i64 (id : Int)) ∧ w = w')) (g1 : ((s2.size : Int) == 2) = false) (r : List UInt8) (n : Nat) (hs2 : s2 = str r) (hl : r.length = 2 * n) (hn8 : n ≤ 8) (z : Int) (hz : z < 0) (h15 : decide ((s2.size : Int) < 15) = false) (HR : Hid (∀ w : World, Calls Try.prog 36 #[.string s2] w fun e w' => e = .returned (.int .i64 z) ∧ w = w')) (fo : Fr) (er : Int) (H : Hid ((∀ c ∈ r, hok c = true) ∧ ((frq id true r n).err = 0 ∧ er = 0 ∧ fo = frq id true r n ∨ (frq id true r n).err = 14 ∧ er = 14 ∧ fo = Fr.zero) ∨ (¬ ∀ c ∈ r, hok c = true) ∧ er = 11 ∧ fo = Fr.zero)) :
    Calls Try.prog 21 #[.string s] w fun e w' => e = .returned (.tuple #[fo.val, .int .i64 er]) ∧ Below w.heap.size w w' := by
  obtain ⟨h8, e8⟩ := hv
  have a1 : (8 : Int) < (s.size : Int) := by omega
  have a2 := is35 e8
  have a3 := isnt35 e8
  have a4 : decide ((s.size : Int) ≤ 8) = false := by simp; omega
  have a5 : (9 : Int) ≤ (s.size : Int) := by omega
  have a6 : (8 : Int) ≤ (s.size : Int) := by omega
  clear e8
  have hs2s : s2.size = 2 * n := by rw [hs2, str_size, hl]
  have HCUT := Lib.hid (pr_cut hs2)
  have h2 : ((s2.size : Int) % 2 != 0) = false := by simp; omega
  have h3 : decide (16 < (s2.size : Int)) = false := by simp; omega
  have hd2 : (s2.size : Int) / 2 = (n : Int) := by omega
  have H0 := Lib.hid (frq_zero id n true r hl)
  have HLN := Lib.hid (fun k => frq_len id n k true r hl)
  have HL := Lib.hid hl
  have HS2 := Lib.hid hs2s
  have A0 := Lib.hid (fb_two1 w Fr.zero ⟨(id : Int), true, false, (n : Int), fun _ => 0⟩)
  have A1 := Lib.hid (fb_two2 w Fr.zero ⟨(id : Int), true, false, (n : Int), fun _ => 0⟩)
  have A2 := Lib.hid (alloc2 w (.cells Fr.zero.cells 24) (.cells (Fr.cells ⟨(id : Int), true, false, (n : Int), fun _ => 0⟩) 24))
  clear hs2 hl hs2s
  go_enter Try.func21, Try.ntmps21
  go_wp2_with fail
  refine (HN.out _).mono ?_
  rintro e w' ⟨rfl, rfl⟩
  go_wp2_with fail
  refine (HR.out _).mono ?_
  rintro e w' ⟨rfl, rfl⟩
  go_wp2
  go_loopw [7] (fun j wr => ∃ k : Nat, k ≤ n ∧ j = .int .i64 k ∧ (∀ i, i < k → ∀ c ∈ pr r i, hok c = true) ∧ Fb wr w.heap.size Fr.zero ∧ Fb wr (w.heap.size + 1) (frq id true r k) ∧ Below w.heap.size w wr) (fun j _ => n - (intOf j).toNat)
  case atStart => exact ⟨0, Nat.zero_le _, rfl, fun j hj => by omega, A0.out, by rw [H0.out]; exact A1.out, A2.out⟩
  case round =>
    obtain ⟨k, hk, rfl, hp, hz', hfb, hbel⟩ := hrel
    have HZ := Lib.hid hz'; have HFB := Lib.hid hfb; have HP := Lib.hid hp
    obtain ⟨c0, c1, c2, c3, c4, c5, c6, c7, c8, c9, c10, c11⟩ := hz'.bx
    obtain ⟨b0, b1, b2, b3, b4, b5, b6, b7, b8, b9, b10, b11⟩ := hfb.bx
    have fz := fun i => hz'.frozen i
    have fy := fun i => hfb.frozen i
    rw [HLN.out k] at b3
    clear hp hz' hfb A0 A1 A2 hd2 h2 h3
    by_cases hlt : k < n
    · have hlt' : (k : Int) < (n : Int) := by omega
      have HX := Lib.hid (HCUT.out k)
      have i1 : 2 * (k : Int) + 2 ≤ (s2.size : Int) := by have := HS2.out; omega
      have i2 : 2 * (k : Int) ≤ 2 * (k : Int) + 2 := by omega
      have hpl : (pr r k).length = 2 := pr_len (by have := HL.out; omega)
      have HPL := Lib.hid hpl
      have hsz100 : (s2.size : Int) ≤ 100 := by have := HS2.out; omega
      clear hpl
      by_cases hall : ∀ c ∈ pr r k, hok c = true
      · have HA := Lib.hid hall
        clear hall
        have hv1 : hval (pr r k) < 256 := by
          have := hval_lt (pr r k); rw [HPL.out] at this; exact this
        have HST := Lib.hid (frq_step id true r k)
        obtain ⟨v, hv0⟩ : ∃ v, hval (pr r k) = v := ⟨_, rfl⟩
        rw [hv0] at hv1
        have HV := Lib.hid hv0
        clear hv0
        have dcell := HFB.out.bx.data k (by omega)
        have i3 : (k : Int) < 8 := by omega
        have i4 : (v : Int) < 256 := by omega
        generalize (frq id true r k).d k = y at dcell
        go_wp2_with fail
        rw [HX.out]
        refine (rnum_ok _ _ (by rw [HPL.out]; omega) HA.out).mono ?_
        rintro e w' ⟨rfl, rfl⟩
        rw [HV.out]
        go_wp2
        go_roundw
        case rel =>
          refine ⟨k + 1, by omega, by go_num, fun j hj => ?_, HZ.out.away (by omega), ?_, hbel.setCell (by simp) _⟩
          · rcases Nat.lt_or_ge j k with h | h
            · exact HP.out j h
            · rw [show j = k by omega]; exact HA.out
          · rw [← HST.out, HV.out]; exact HFB.out.put k (by omega) _
        case measure => simp [intOf]; omega
      · have HA := Lib.hid hall
        clear hall
        have HE := Lib.hid (show er = 11 ∧ fo = Fr.zero by
          rcases H.out with ⟨h, _⟩ | ⟨_, h⟩
          · exact absurd (fun c hc => h c (pr_sub hc)) HA.out
          · exact h)
        obtain ⟨rfl, hfo⟩ := HE.out
        have HFO := Lib.hid hfo
        clear hfo HE
        go_wp2_with fail
        rw [HX.out]
        refine (rnum_bad _ _ (by rw [HPL.out]; omega) HA.out).mono ?_
        rintro e w' ⟨rfl, rfl⟩
        go_wp2
        rw [HFO.out]
        refine bodyPost_ret (v := .tuple #[Fr.zero.val, .int .i64 11]) (by rw [results_cell_tmp rfl]; go_simp; decide) rfl ⟨rfl, ?_⟩
        exact set12 hbel (Nat.le_refl _) _ _ _ _ _ _ _ _ _ _ _ _
    · have ek : k = n := by omega
      have HE := Lib.hid (show (frq id true r n).err = 0 ∧ er = 0 ∧ fo = frq id true r n ∨ (frq id true r n).err = 14 ∧ er = 14 ∧ fo = Fr.zero by
        rcases H.out with ⟨_, h⟩ | ⟨h, _⟩
        · exact h
        · exact absurd (pr_all HL.out (fun j hj => HP.out j (by omega))) h)
      rw [← ek] at HE
      have hnn : decide ((n : Int) < 0) = false := by simp
      have HLK := Lib.hid (HLN.out k)
      obtain ⟨F, hF⟩ : ∃ F, frq id true r k = F := ⟨_, rfl⟩
      rw [hF] at HE HFB HLK
      simp only [hF] at b0 b1 b2 b4 b5 b6 b7 b8 b9 b10 b11
      clear hF
      have HCK := Lib.hid (rcheck_any F)
      go_wp2_with fail
      rw [← HLK.out]
      refine (HCK.out _).mono ?_
      rintro e w5 ⟨rfl, hb5⟩
      have HZ5 := Lib.hid (HZ.out.below hb5 HZ.out.lt)
      have HG5 := Lib.hid (HFB.out.below hb5 HFB.out.lt)
      have HB5 := Lib.hid (nxt hbel hb5)
      clear c0 c1 c2 c3 c4 c5 c6 c7 c8 c9 c10 c11 b0 b1 b2 b3 b4 b5 b6 b7 b8 b9 b10 b11
      clear HZ HFB hb5 fz fy hbel
      obtain ⟨c0, c1, c2, c3, c4, c5, c6, c7, c8, c9, c10, c11⟩ := HZ5.out.bx
      obtain ⟨b0, b1, b2, b3, b4, b5, b6, b7, b8, b9, b10, b11⟩ := HG5.out.bx
      have fz := fun i => HZ5.out.frozen i
      rcases HE.out with ⟨h4, rfl, h5⟩ | ⟨h4, rfl, h5⟩
      · rw [h4]
        have H5 := Lib.hid h5
        clear h4 h5
        go_wp2
        rw [H5.out]
        refine bodyPost_ret (v := .tuple #[F.val, .int .i64 0]) (by rw [results_cell_tmp rfl]; go_simp) rfl ⟨rfl, ?_⟩
        exact set12 HB5.out (Nat.le_refl _) _ _ _ _ _ _ _ _ _ _ _ _
      · rw [h4]
        have H5 := Lib.hid h5
        clear h4 h5
        go_wp2
        rw [H5.out]
        refine bodyPost_ret (v := .tuple #[Fr.zero.val, .int .i64 14]) (by rw [results_cell_tmp rfl]; go_simp; decide) rfl ⟨rfl, ?_⟩
        exact set12 HB5.out (Nat.le_refl _) _ _ _ _ _ _ _ _ _ _ _ _

set_option maxRecDepth 20000 in
set_option maxHeartbeats 1600000 in
theorem rp_loop_en_8 (s s1 s2 : ByteArray) (id : Nat) (w : World) (hv : ∃ h : 8 < s.size, s[8] = 35) (hx0 : s.extract 0 8 = s1) (hx1 : s.extract (8 + 1) s.size = s2) (hs : s.size ≤ 100) (HN : Hid (∀ w : World, Calls Try.prog 36 #[.string s1] w fun e w' => e = .returned (.int .i64 (id : Int)) ∧ w = w')) (g1 : ((s2.size : Int) == 2) = true) (g0 : 0 < s2.size) (g2 : ((s2[0].toNat : Int) == 82) = false) (r : List UInt8) (n : Nat) (hs2 : s2 = str r) (hl : r.length = 2 * n) (hn8 : n ≤ 8) (z : Int) (hz : decide (z < 0) = false) (HR : Hid (∀ w : World, Calls Try.prog 36 #[.string s2] w fun e w' => e = .returned (.int .i64 z) ∧ w = w')) (fo : Fr) (er : Int) (H : Hid ((∀ c ∈ r, hok c = true) ∧ ((frq id true r n).err = 0 ∧ er = 0 ∧ fo = frq id true r n ∨ (frq id true r n).err = 14 ∧ er = 14 ∧ fo = Fr.zero) ∨ (¬ ∀ c ∈ r, hok c = true) ∧ er = 11 ∧ fo = Fr.zero)) :
    Calls Try.prog 21 #[.string s] w fun e w' => e = .returned (.tuple #[fo.val, .int .i64 er]) ∧ Below w.heap.size w w' := by
  obtain ⟨h8, e8⟩ := hv
  have a1 : (8 : Int) < (s.size : Int) := by omega
  have a2 := is35 e8
  have a3 := isnt35 e8
  have a4 : decide ((s.size : Int) ≤ 8) = false := by simp; omega
  have a5 : (9 : Int) ≤ (s.size : Int) := by omega
  have a6 : (8 : Int) ≤ (s.size : Int) := by omega
  clear e8
  have hs2s : s2.size = 2 * n := by rw [hs2, str_size, hl]
  have HCUT := Lib.hid (pr_cut hs2)
  have h2 : ((s2.size : Int) % 2 != 0) = false := by simp; omega
  have h3 : decide (16 < (s2.size : Int)) = false := by simp; omega
  have hd2 : (s2.size : Int) / 2 = (n : Int) := by omega
  have H0 := Lib.hid (frq_zero id n true r hl)
  have HLN := Lib.hid (fun k => frq_len id n k true r hl)
  have HL := Lib.hid hl
  have HS2 := Lib.hid hs2s
  have A0 := Lib.hid (fb_two1 w Fr.zero ⟨(id : Int), true, false, (n : Int), fun _ => 0⟩)
  have A1 := Lib.hid (fb_two2 w Fr.zero ⟨(id : Int), true, false, (n : Int), fun _ => 0⟩)
  have A2 := Lib.hid (alloc2 w (.cells Fr.zero.cells 24) (.cells (Fr.cells ⟨(id : Int), true, false, (n : Int), fun _ => 0⟩) 24))
  clear hs2 hl hs2s
  go_enter Try.func21, Try.ntmps21
  go_wp2_with fail
  refine (HN.out _).mono ?_
  rintro e w' ⟨rfl, rfl⟩
  go_wp2_with fail
  refine (HR.out _).mono ?_
  rintro e w' ⟨rfl, rfl⟩
  go_wp2
  go_loopw [7] (fun j wr => ∃ k : Nat, k ≤ n ∧ j = .int .i64 k ∧ (∀ i, i < k → ∀ c ∈ pr r i, hok c = true) ∧ Fb wr w.heap.size Fr.zero ∧ Fb wr (w.heap.size + 1) (frq id true r k) ∧ Below w.heap.size w wr) (fun j _ => n - (intOf j).toNat)
  case atStart => exact ⟨0, Nat.zero_le _, rfl, fun j hj => by omega, A0.out, by rw [H0.out]; exact A1.out, A2.out⟩
  case round =>
    obtain ⟨k, hk, rfl, hp, hz', hfb, hbel⟩ := hrel
    have HZ := Lib.hid hz'; have HFB := Lib.hid hfb; have HP := Lib.hid hp
    obtain ⟨c0, c1, c2, c3, c4, c5, c6, c7, c8, c9, c10, c11⟩ := hz'.bx
    obtain ⟨b0, b1, b2, b3, b4, b5, b6, b7, b8, b9, b10, b11⟩ := hfb.bx
    have fz := fun i => hz'.frozen i
    have fy := fun i => hfb.frozen i
    rw [HLN.out k] at b3
    clear hp hz' hfb A0 A1 A2 hd2 h2 h3
    by_cases hlt : k < n
    · have hlt' : (k : Int) < (n : Int) := by omega
      have HX := Lib.hid (HCUT.out k)
      have i1 : 2 * (k : Int) + 2 ≤ (s2.size : Int) := by have := HS2.out; omega
      have i2 : 2 * (k : Int) ≤ 2 * (k : Int) + 2 := by omega
      have hpl : (pr r k).length = 2 := pr_len (by have := HL.out; omega)
      have HPL := Lib.hid hpl
      have hsz100 : (s2.size : Int) ≤ 100 := by have := HS2.out; omega
      clear hpl
      by_cases hall : ∀ c ∈ pr r k, hok c = true
      · have HA := Lib.hid hall
        clear hall
        have hv1 : hval (pr r k) < 256 := by
          have := hval_lt (pr r k); rw [HPL.out] at this; exact this
        have HST := Lib.hid (frq_step id true r k)
        obtain ⟨v, hv0⟩ : ∃ v, hval (pr r k) = v := ⟨_, rfl⟩
        rw [hv0] at hv1
        have HV := Lib.hid hv0
        clear hv0
        have dcell := HFB.out.bx.data k (by omega)
        have i3 : (k : Int) < 8 := by omega
        have i4 : (v : Int) < 256 := by omega
        generalize (frq id true r k).d k = y at dcell
        go_wp2_with fail
        rw [HX.out]
        refine (rnum_ok _ _ (by rw [HPL.out]; omega) HA.out).mono ?_
        rintro e w' ⟨rfl, rfl⟩
        rw [HV.out]
        go_wp2
        go_roundw
        case rel =>
          refine ⟨k + 1, by omega, by go_num, fun j hj => ?_, HZ.out.away (by omega), ?_, hbel.setCell (by simp) _⟩
          · rcases Nat.lt_or_ge j k with h | h
            · exact HP.out j h
            · rw [show j = k by omega]; exact HA.out
          · rw [← HST.out, HV.out]; exact HFB.out.put k (by omega) _
        case measure => simp [intOf]; omega
      · have HA := Lib.hid hall
        clear hall
        have HE := Lib.hid (show er = 11 ∧ fo = Fr.zero by
          rcases H.out with ⟨h, _⟩ | ⟨_, h⟩
          · exact absurd (fun c hc => h c (pr_sub hc)) HA.out
          · exact h)
        obtain ⟨rfl, hfo⟩ := HE.out
        have HFO := Lib.hid hfo
        clear hfo HE
        go_wp2_with fail
        rw [HX.out]
        refine (rnum_bad _ _ (by rw [HPL.out]; omega) HA.out).mono ?_
        rintro e w' ⟨rfl, rfl⟩
        go_wp2
        rw [HFO.out]
        refine bodyPost_ret (v := .tuple #[Fr.zero.val, .int .i64 11]) (by rw [results_cell_tmp rfl]; go_simp; decide) rfl ⟨rfl, ?_⟩
        exact set12 hbel (Nat.le_refl _) _ _ _ _ _ _ _ _ _ _ _ _
    · have ek : k = n := by omega
      have HE := Lib.hid (show (frq id true r n).err = 0 ∧ er = 0 ∧ fo = frq id true r n ∨ (frq id true r n).err = 14 ∧ er = 14 ∧ fo = Fr.zero by
        rcases H.out with ⟨_, h⟩ | ⟨h, _⟩
        · exact h
        · exact absurd (pr_all HL.out (fun j hj => HP.out j (by omega))) h)
      rw [← ek] at HE
      have hnn : decide ((n : Int) < 0) = false := by simp
      have HLK := Lib.hid (HLN.out k)
      obtain ⟨F, hF⟩ : ∃ F, frq id true r k = F := ⟨_, rfl⟩
      rw [hF] at HE HFB HLK
      simp only [hF] at b0 b1 b2 b4 b5 b6 b7 b8 b9 b10 b11
      clear hF
      have HCK := Lib.hid (rcheck_any F)
      go_wp2_with fail
      rw [← HLK.out]
      refine (HCK.out _).mono ?_
      rintro e w5 ⟨rfl, hb5⟩
      have HZ5 := Lib.hid (HZ.out.below hb5 HZ.out.lt)
      have HG5 := Lib.hid (HFB.out.below hb5 HFB.out.lt)
      have HB5 := Lib.hid (nxt hbel hb5)
      clear c0 c1 c2 c3 c4 c5 c6 c7 c8 c9 c10 c11 b0 b1 b2 b3 b4 b5 b6 b7 b8 b9 b10 b11
      clear HZ HFB hb5 fz fy hbel
      obtain ⟨c0, c1, c2, c3, c4, c5, c6, c7, c8, c9, c10, c11⟩ := HZ5.out.bx
      obtain ⟨b0, b1, b2, b3, b4, b5, b6, b7, b8, b9, b10, b11⟩ := HG5.out.bx
      have fz := fun i => HZ5.out.frozen i
      rcases HE.out with ⟨h4, rfl, h5⟩ | ⟨h4, rfl, h5⟩
      · rw [h4]
        have H5 := Lib.hid h5
        clear h4 h5
        go_wp2
        rw [H5.out]
        refine bodyPost_ret (v := .tuple #[F.val, .int .i64 0]) (by rw [results_cell_tmp rfl]; go_simp) rfl ⟨rfl, ?_⟩
        exact set12 HB5.out (Nat.le_refl _) _ _ _ _ _ _ _ _ _ _ _ _
      · rw [h4]
        have H5 := Lib.hid h5
        clear h4 h5
        go_wp2
        rw [H5.out]
        refine bodyPost_ret (v := .tuple #[Fr.zero.val, .int .i64 14]) (by rw [results_cell_tmp rfl]; go_simp; decide) rfl ⟨rfl, ?_⟩
        exact set12 HB5.out (Nat.le_refl _) _ _ _ _ _ _ _ _ _ _ _ _
end Go.Proofs.Ytjjfkakjkkpgaaa
