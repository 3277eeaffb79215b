/- The walk of the law QueueOrders. -/
import Derived.Test.YtldhnbohpnkcpaaQX
import Derived.Test.YtldhnbohpnkcpaaL9l
namespace Go.Proofs.Ytldhnbohpnkcpaa
open Go.RowKit
set_option linter.unusedSimpArgs false

theorem sep_nil (z : Value) : Sep z (.slice none 0 0) := by
  rcases h : z.ownBlock with _ | k
  · exact .inl h
  · exact .inr (by rw [h]; intro e; cases e)
theorem Bxa.next9 {w w' : World} {p : Addr} {f : Fr} (h : Bxa w p f) (hb : Below w.heap.size w w') (hp : p.block < w.heap.size) : Bxa w' p f := by
  unfold Bxa at h ⊢
  have e : ∀ k, w'.cell? ⟨p.block, k, none⟩ = w.cell? ⟨p.block, k, none⟩ := fun k => hb.cell hp
  have e0 : w'.cell? p = w.cell? p := hb.cell hp
  simp only [e, e0]
  exact h
theorem getd_may {gs : List Fr} {k : Nat} (h : ∀ x ∈ gs, x.may = true) (hk : k < gs.length) : (gs.getD k Fr.zero).may = true := by rw [getD_get hk]; exact h _ (List.getElem_mem hk)

set_option maxHeartbeats 1600000 in
set_option maxRecDepth 100000 in
theorem qord_out (a : Int) (A : Option Addr) (n c : Nat) (w : World) (h : 40 < n) :
    Calls Try.prog 4 #[.slice A n c, .int .i64 a] w fun e w' => e = .returned (.bool true) ∧ Below w.heap.size w w' := by
  have g1 : (40 : Int) < (n : Int) := by omega
  clear h
  go_enter Try.func4, Try.ntmps4
  go_wp2_with fail
  refine (awake9 _).mono ?_
  rintro e w1 ⟨rfl, hb1⟩
  go_wp2
  go_ret
  exact ⟨rfl, hb1⟩

set_option maxHeartbeats 12800000 in
set_option maxRecDepth 100000 in
theorem qord_in (a : Int) (fs : Nat → Fr) (A : Option Addr) (n c : Nat) (w : World) (hr : Fl w A n fs) (hn : n ≤ 40) :
    Calls Try.prog 4 #[.slice A n c, .int .i64 a] w fun e w' => e = .returned (.bool true) ∧ Below w.heap.size w w' := by
  have HR := Lib.hid hr
  have g1 : ¬ ((40 : Int) < (n : Int)) := by omega
  clear hr
  go_enter Try.func4, Try.ntmps4
  go_wp2_with fail
  refine (new_ok 16 w (by omega) (by omega)).mono ?_
  rintro e w1 ⟨rfl, hq1, hb1⟩
  have hl1 := hb1.size
  have hql := hq1.lt
  go_wp2_with fail
  refine (new_ok 16 w1 (by omega) (by omega)).mono ?_
  rintro e w2 ⟨rfl, hp2, hb2⟩
  have hbl : Below w2.heap.size w2 (w2.alloc (.cells #[] 34)) := (Below.refl _ _).alloc (Nat.le_refl _) _
  have hl2 := (nxt hb1 hb2).size
  obtain ⟨gb, hgb⟩ : ∃ gb, w1.heap.size = gb := ⟨_, rfl⟩
  have HOD := Lib.hid (show Od w (w2.alloc (.cells #[] 34)) w.heap.size (.slice none 0 0) [] gb (.slice none 0 0) [] (.slice (some ⟨w2.heap.size, 0, none⟩) 0 0) [] 16 from
    ⟨⟨(hq1.next hb2).next hbl, by rw [← hgb]; exact (hp2.base hl1).next hbl, .inl rfl, by omega, nxt (nxt hb1 hb2) hbl⟩, (Fown.nil w2 w2.heap.size (Nat.le_refl _)).base hl2, sep_nil _, sep_nil _⟩)
  rw [hgb]
  clear hq1 hb1 hl1 hp2 hb2 hbl hl2 hgb hql
  go_wp2
  go_loopw [9, 10] (fun vu vi wr => ∃ (k : Nat) (u v : Value) (I gs : List Fr), k ≤ n ∧ vu = u ∧ vi = .int .i64 k ∧ Od w wr w.heap.size v gs gb (.slice none 0 0) [] u I 16 ∧ Std I gs ∧ Okq gs ∧ I.length ≤ 16) (fun _ vi _ => n - (intOf vi).toNat)
  case atStart => exact ⟨0, _, _, [], [], Nat.zero_le _, rfl, rfl, HOD.out, std_nil, ok_nil, by simp⟩
  case round =>
    clear HOD
    obtain ⟨k, u, v, I, gs, hk, hvu, rfl, ho, hst, hok, hle⟩ := hrel
    replace hvu := hvu.symm
    subst hvu
    obtain ⟨Au, cu, rfl, -, -⟩ := ho.ur.fl
    have HO := Lib.hid ho; have HST := Lib.hid hst; have HOK := Lib.hid hok; have HLE := Lib.hid hle
    obtain ⟨N, hN⟩ : ∃ N, I.length = N := ⟨_, rfl⟩
    have HN := Lib.hid hN
    have hN16 : N ≤ 16 := by omega
    have HGN := Lib.hid (show gs.length = N by rw [← hst.len]; exact hN)
    rw [hN] at HO ⊢
    clear ho hst hok hle hN
    by_cases hlt : k < n
    · have hlt' : (k : Int) < (n : Int) := by omega
      obtain ⟨x, hx⟩ : ∃ x, fs k = x := ⟨_, rfl⟩
      have HX := Lib.hid hx
      obtain ⟨ad, rfl, -, -⟩ := HR.out.at_ hlt
      obtain ⟨d0, d1, d2, d3, d4, d5, d6, d7, d8, d9, d10, d11⟩ := (HR.out.below HO.out.ab.bel).el hlt hx
      clear hx
      go_wp2_with fail
      refine (put_q (f := x) HO.out.ab.a HOK.out (by have := HGN.out; omega) HO.out.ab.bel.size).mono ?_
      rintro e w4 ⟨v4, rfl, hq4, ht4⟩
      have HO4 := Lib.hid (HO.out.turna hq4 ht4)
      clear hq4 ht4 HO d0 d1 d2 d3 d4 d5 d6 d7 d8 d9 d10 d11
      obtain ⟨d0, d1, d2, d3, d4, d5, d6, d7, d8, d9, d10, d11⟩ := (HR.out.below HO4.out.ab.bel).el hlt HX.out
      cases hm : x.may
      · have HM := Lib.hid hm
        have HPL := Lib.hid (show pL 16 x gs = gs by unfold pL; rw [if_pos (.inl hm)])
        rw [show pE 16 x gs = 14 by unfold pE; rw [if_pos hm]]
        clear hm
        go_wp2_with fail
        refine (fcheck_any x _).mono ?_
        rintro e w5 ⟨rfl, hb5⟩
        rw [err_no HM.out]
        have HO5 := Lib.hid (HO4.out.next hb5)
        clear hb5 HO4 d0 d1 d2 d3 d4 d5 d6 d7 d8 d9 d10 d11
        go_wp2
        go_roundw
        case rel => exact ⟨k + 1, _, v4, I, gs, by omega, rfl, by go_num, by have h := HO5.out; rwa [HPL.out] at h, HST.out, HOK.out, HLE.out⟩
        case measure => simp [intOf]; omega
      · have HM := Lib.hid hm
        by_cases hful : (16 : Int) ≤ (gs.length : Int)
        · have HPL := Lib.hid (show pL 16 x gs = gs by unfold pL; rw [if_pos (.inr hful)])
          rw [show pE 16 x gs = 15 by unfold pE; rw [if_neg (by rw [hm]; simp), if_pos hful]]
          have hNN : N = 16 := by have := HGN.out; omega
          have HNN := Lib.hid hNN
          have hlt16 : ¬ ((N : Int) < 16) := by omega
          clear hm hful hNN
          go_wp2_with fail
          refine (fcheck_any x _).mono ?_
          rintro e w5 ⟨rfl, hb5⟩
          rw [err_zero HM.out]
          have HO5 := Lib.hid (HO4.out.next hb5)
          clear hb5 HO4 d0 d1 d2 d3 d4 d5 d6 d7 d8 d9 d10 d11
          go_wp2
          go_roundw
          case rel => exact ⟨k + 1, _, v4, I, gs, by omega, rfl, by go_num, by have h := HO5.out; rwa [HPL.out] at h, HST.out, HOK.out, HLE.out⟩
          case measure => simp [intOf]; omega
        · have HPL := Lib.hid (show pL 16 x gs = ins x gs by unfold pL; rw [if_neg (by rw [hm]; simpa using hful)])
          rw [show pE 16 x gs = 0 by unfold pE; rw [if_neg (by rw [hm]; simp), if_neg hful]]
          have HN15 := Lib.hid (show N < 16 by have := HGN.out; omega)
          have hlt16 : (N : Int) < 16 := by have := HN15.out; omega
          clear hm hful
          go_wp2_with fail
          refine (fcheck_any x _).mono ?_
          rintro e w5 ⟨rfl, hb5⟩
          rw [err_zero HM.out]
          have HO5 := Lib.hid (HO4.out.next hb5)
          clear hb5 HO4 d0 d1 d2 d3 d4 d5 d6 d7 d8 d9 d10 d11
          obtain ⟨d0, d1, d2, d3, d4, d5, d6, d7, d8, d9, d10, d11⟩ := (HR.out.below HO5.out.ab.bel).el hlt HX.out
          have HV := Lib.hid (show Fown (w5.alloc (.cells x.cells 34)) w.heap.size (.slice Au N cu) I from Fown.alloc HO5.out.ur _)
          have HS1 := Lib.hid (show Fs (w5.alloc (.cells x.cells 34)) (some ⟨w5.heap.size, 0, none⟩) 1 [x] from by
            have h := fs_lit w5 [x]
            rw [fcs_one_] at h
            exact h)
          have HBM := Lib.hid (show w.heap.size ≤ (w5.alloc (.cells x.cells 34)).heap.size from (HO5.out.ab.bel.alloc HO5.out.ab.bel.size _).size)
          go_wp2_with (first | (at_builtin; refine append_F _ (by rfl) _ _ rfl w.heap.size _ _ rfl HV.out _ _ _ [x] rfl HS1.out (by have := HLE.out; omega) HBM.out ?_; intro v' w' h1 h2 h3; have HO6 := Lib.hid (HO5.out.push h1 h2 h3); clear h1 h2 h3) | fail)
          clear d0 d1 d2 d3 d4 d5 d6 d7 d8 d9 d10 d11
          go_wp2
          go_roundw
          case rel => exact ⟨k + 1, _, v4, I ++ [x], ins x gs, by omega, rfl, by go_num, by have h := HO6.out; rwa [HPL.out] at h, HST.out.ins x, ins_ok HOK.out HM.out, by rw [List.length_append, HN.out]; have := HN15.out; simp; omega⟩
          case measure => simp [intOf]; omega
    · go_wp2_with fail
      refine (all_q HO.out.ab.a (by have := HGN.out; omega)).mono ?_
      rintro e w5 ⟨z, rfl, hz, hb5⟩
      obtain ⟨Az, cz, rfl, -, -⟩ := hz.fl
      have HOE := Lib.hid (show Oe w w5 w.heap.size v gs gb (.slice none 0 0) [] (.slice Au N cu) I (.slice Az N cz) gs 16 from by
        have h := hz.base HO.out.ab.bel.size
        rw [HGN.out] at h
        exact ⟨HO.out.next hb5, h, sep_nil _⟩)
      rw [HGN.out]
      have HUR := Lib.hid HOE.out.od.ur.fl2; have HZR := Lib.hid HOE.out.zr.fl2
      have HIM := Lib.hid (show ∀ x ∈ I, x.may = true from HST.out.may HOK.out)
      clear hz hb5 HO
      go_wp2_with fail
      refine (len_q HOE.out.od.ab.a).mono ?_
      rintro e w6 ⟨rfl, hw6⟩
      subst hw6
      rw [HGN.out]
      rename World => w5
      go_wp2
      go_loopw [13] (fun vi wr => ∃ (i : Nat), 1 ≤ i ∧ i ≤ N + 1 ∧ vi = .int .i64 i ∧ Below w5.heap.size w5 wr) (fun vi _ => N + 1 - (intOf vi).toNat)
      case atStart => exact ⟨1, Nat.le_refl _, by omega, rfl, Below.refl _ _⟩
      case round =>
        obtain ⟨i, hi1, hiN, rfl, hb⟩ := hrel
        have HB := Lib.hid hb
        by_cases hlt : i < N
        · have hlt' : (i : Int) < (N : Int) := by omega
          obtain ⟨j, hj⟩ : ∃ j, i = j + 1 := ⟨i - 1, by omega⟩
          have hji : j < N := by omega
          have hji' : (j : Int) < (N : Int) := by omega
          have hwj : (i : Int) - 1 = (j : Int) := by omega
          have hwj2 : IntKind.i64.wrap (j : Int) = (j : Int) := IntWalk.i64_in _ (by omega)
          obtain ⟨x, hx⟩ : ∃ x, gs.getD i Fr.zero = x := ⟨_, rfl⟩
          obtain ⟨y, hy⟩ : ∃ y, gs.getD j Fr.zero = y := ⟨_, rfl⟩
          have HXM := Lib.hid (show x.may = true from by rw [← hx]; exact getd_may HOK.out.2 (by rw [HGN.out]; exact hlt))
          have HYM := Lib.hid (show y.may = true from by rw [← hy]; exact getd_may HOK.out.2 (by rw [HGN.out]; exact hji))
          have HLS := Lib.hid (show decide (x.plc < y.plc) = false from by
            have h := upq_get HOK.out.1 (show j ≤ i by omega) (by rw [HGN.out]; exact hlt)
            rw [hx, hy] at h
            simp; omega)
          obtain ⟨ad, rfl, -, -⟩ := HZR.out.at_ hlt
          obtain ⟨d0, d1, d2, d3, d4, d5, d6, d7, d8, d9, d10, d11⟩ := (HZR.out.below hb).el hlt hx
          obtain ⟨e0, e1, e2, e3, e4, e5, e6, e7, e8, e9, e10, e11⟩ := (HZR.out.below hb).el hji hy
          clear hb hx hy hj
          go_wp2_with fail
          go_still_tail 9, (by kernel_rfl)
          go_wp2_with fail
          refine (less_yes x y _ HXM.out HYM.out).mono ?_
          rintro e w7 ⟨rfl, hb7⟩
          rw [HLS.out]
          have HB7 := Lib.hid (nxt HB.out (undrew hb7))
          clear hb7 hwj hwj2 hji' d0 d1 d2 d3 d4 d5 d6 d7 d8 d9 d10 d11 e0 e1 e2 e3 e4 e5 e6 e7 e8 e9 e10 e11
          go_wp2
          go_roundw
          case rel => exact ⟨i + 1, by omega, by omega, by go_num, HB7.out⟩
          case measure => simp [intOf]; omega
        · clear hb
          go_wp2
          go_loopw [14] (fun vi wx => ∃ (i : Nat), i ≤ N ∧ vi = .int .i64 i ∧ Below w5.heap.size w5 wx) (fun vi _ => N - (intOf vi).toNat)
          case atStart => exact ⟨0, Nat.zero_le _, rfl, HB.out⟩
          case round =>
            clear HB
            obtain ⟨i, hiN, rfl, hb⟩ := hrel
            have HB := Lib.hid hb
            clear hb
            by_cases hlt : i < N
            · have hlt' : (i : Int) < (N : Int) := by omega
              obtain ⟨x, hx⟩ : ∃ x, I.getD i Fr.zero = x := ⟨_, rfl⟩
              have HX := Lib.hid hx
              have HXM := Lib.hid (show x.may = true from by rw [← hx]; exact getd_may HIM.out (by rw [HN.out]; exact hlt))
              obtain ⟨ad, rfl, -, -⟩ := HUR.out.at_ hlt
              obtain ⟨az, rfl, -, -⟩ := HZR.out.at_ hlt
              rename World => wS
              have HA0 := Lib.hid (show Fown ((wS.alloc (.cells #[] 34)).alloc (.cells #[] 34)) wS.heap.size (.slice (some ⟨wS.heap.size, 0, none⟩) 0 0) [] from Fown.alloc (Fown.nil wS wS.heap.size (Nat.le_refl _)) _)
              have HB0 := Lib.hid (show Fown ((wS.alloc (.cells #[] 34)).alloc (.cells #[] 34)) wS.heap.size (.slice (some ⟨wS.heap.size + 1, 0, none⟩) 0 0) [] from by
                have h := Fown.nil (wS.alloc (.cells #[] 34)) (wS.alloc (.cells #[] 34)).heap.size (Nat.le_refl _)
                have e : (wS.alloc (.cells #[] 34)).heap.size = wS.heap.size + 1 := by simp
                rw [e] at h
                exact h.base (by omega))
              have HS0 := Lib.hid (show Sep (.slice (some ⟨wS.heap.size, 0, none⟩) 0 0) (.slice (some ⟨wS.heap.size + 1, 0, none⟩) 0 0) from .inr (by intro e; injection e with e; have e : wS.heap.size = wS.heap.size + 1 := e; omega))
              have HBS := Lib.hid (show Below wS.heap.size wS ((wS.alloc (.cells #[] 34)).alloc (.cells #[] 34)) from alloc2 wS _ _)
              clear hx
              go_wp2
              go_loopw [15, 16, 17] (fun va vb vk wx => ∃ (k : Nat) (ra rb : Value), k ≤ N ∧ va = ra ∧ vb = rb ∧ vk = .int .i64 k ∧ Fown wx wS.heap.size ra (ofp x.plc (I.take k)) ∧ Fown wx wS.heap.size rb (ofp x.plc (gs.take k)) ∧ Sep ra rb ∧ Below wS.heap.size wS wx) (fun _ _ vk _ => N - (intOf vk).toNat)
              case atStart => exact ⟨0, _, _, Nat.zero_le _, rfl, rfl, rfl, HA0.out, HB0.out, HS0.out, HBS.out⟩
              case round =>
                clear HA0 HB0 HS0 HBS
                obtain ⟨k, ra, rb, hkN, hva, hvb, rfl, ha, hb, hs, hbb⟩ := hrel
                replace hva := hva.symm
                subst hva
                replace hvb := hvb.symm
                subst hvb
                have HRA := Lib.hid ha; have HRB := Lib.hid hb; have HSAB := Lib.hid hs; have HBB := Lib.hid hbb
                have HB5 := Lib.hid (nxt HB.out hbb)
                clear ha hb hs hbb
                by_cases hlk : k < N
                · have hlk' : (k : Int) < (N : Int) := by omega
                  obtain ⟨y, hy⟩ : ∃ y, I.getD k Fr.zero = y := ⟨_, rfl⟩
                  obtain ⟨t, ht⟩ : ∃ t, gs.getD k Fr.zero = t := ⟨_, rfl⟩
                  have HY := Lib.hid hy; have HT := Lib.hid ht
                  have HYM := Lib.hid (show y.may = true from by rw [← hy]; exact getd_may HIM.out (by rw [HN.out]; exact hlk))
                  have HTM := Lib.hid (show t.may = true from by rw [← ht]; exact getd_may HOK.out.2 (by rw [HGN.out]; exact hlk))
                  have HKI := Lib.hid (show k < I.length by rw [HN.out]; exact hlk); have HKG := Lib.hid (show k < gs.length by rw [HGN.out]; exact hlk)
                  have HLA := Lib.hid (show (ofp x.plc (I.take k)).length ≤ 16 from by have h1 := List.length_filter_le (fun g => g.plc == x.plc) (I.take k); rw [List.length_take] at h1; have := HN.out; show (List.filter _ _).length ≤ 16; omega)
                  have HLB := Lib.hid (show (ofp x.plc (gs.take k)).length ≤ 16 from by have h1 := List.length_filter_le (fun g => g.plc == x.plc) (gs.take k); rw [List.length_take] at h1; have := HGN.out; show (List.filter _ _).length ≤ 16; omega)
                  obtain ⟨d0, d1, d2, d3, d4, d5, d6, d7, d8, d9, d10, d11⟩ := (HUR.out.below HB5.out).el hlk hy
                  obtain ⟨c0, c1, c2, c3, c4, c5, c6, c7, c8, c9, c10, c11⟩ := (HUR.out.below HB5.out).el hlt HX.out
                  clear hy ht
                  rcases hya : (y.plc == x.plc) with _ | _
                  · have HYA := Lib.hid hya
                    clear hya
                    go_wp2_with fail
                    go_still_tail 8, (by kernel_rfl)
                    go_wp2_with fail
                    refine (rival_q HYM.out HXM.out _ HYA.out).mono ?_
                    rintro e w7 ⟨rfl, hb7⟩
                    have HB7 := Lib.hid (nxt HBB.out (undrew hb7)); have HA7 := Lib.hid (HRA.out.below (undrew hb7)); have HR7 := Lib.hid (HRB.out.below (undrew hb7)); have HB57 := Lib.hid (nxt HB5.out (undrew hb7))
                    clear hb7 d0 d1 d2 d3 d4 d5 d6 d7 d8 d9 d10 d11 c0 c1 c2 c3 c4 c5 c6 c7 c8 c9 c10 c11
                    obtain ⟨e0, e1, e2, e3, e4, e5, e6, e7, e8, e9, e10, e11⟩ := (HZR.out.below HB57.out).el hlk HT.out
                    obtain ⟨c0, c1, c2, c3, c4, c5, c6, c7, c8, c9, c10, c11⟩ := (HUR.out.below HB57.out).el hlt HX.out
                    rcases htb : (t.plc == x.plc) with _ | _
                    · have HTB := Lib.hid htb
                      clear htb
                      go_wp2_with fail
                      go_still_tail 8, (by kernel_rfl)
                      go_wp2_with fail
                      refine (rival_q HTM.out HXM.out _ HTB.out).mono ?_
                      rintro e w9 ⟨rfl, hb9⟩
                      have HB9 := Lib.hid (nxt HB7.out (undrew hb9)); have HA9 := Lib.hid ((HA7.out).below (undrew hb9)); have HR9 := Lib.hid ((HR7.out).below (undrew hb9))
                      clear hb9 c0 c1 c2 c3 c4 c5 c6 c7 c8 c9 c10 c11 e0 e1 e2 e3 e4 e5 e6 e7 e8 e9 e10 e11
                      go_wp2
                      go_roundw
                      case rel => exact ⟨k + 1, _, _, by omega, rfl, rfl, by go_num, by rw [ofp_no HKI.out (by rw [HY.out]; simpa using HYA.out)]; exact HA9.out, by rw [ofp_no HKG.out (by rw [HT.out]; simpa using HTB.out)]; exact HR9.out, HSAB.out, HB9.out⟩
                      case measure => simp [intOf]; omega
                    · have HTB := Lib.hid htb
                      clear htb
                      go_wp2_with fail
                      go_still_tail 8, (by kernel_rfl)
                      go_wp2_with fail
                      refine (rival_q HTM.out HXM.out _ HTB.out).mono ?_
                      rintro e w9 ⟨rfl, hb9⟩
                      have HB9 := Lib.hid (nxt HB7.out (undrew hb9)); have HA9 := Lib.hid ((HA7.out).below (undrew hb9)); have HR9 := Lib.hid ((HR7.out).below (undrew hb9)); have HB59 := Lib.hid (nxt (HB57.out) (undrew hb9))
                      clear hb9 c0 c1 c2 c3 c4 c5 c6 c7 c8 c9 c10 c11 e0 e1 e2 e3 e4 e5 e6 e7 e8 e9 e10 e11
                      obtain ⟨e0, e1, e2, e3, e4, e5, e6, e7, e8, e9, e10, e11⟩ := (HZR.out.below HB59.out).el hlk HT.out
                      have HV9 := Lib.hid (show Fown (w9.alloc (.cells t.cells 34)) wS.heap.size _ _ from Fown.alloc HR9.out _)
                      have HS9 := Lib.hid (show Fs (w9.alloc (.cells t.cells 34)) (some ⟨w9.heap.size, 0, none⟩) 1 [t] from by
                        have h := fs_lit w9 [t]
                        rw [fcs_one_] at h
                        exact h)
                      have HM9 := Lib.hid (show Below wS.heap.size wS (w9.alloc (.cells t.cells 34)) from HB9.out.alloc HB9.out.size _)
                      go_wp2_with (first | (at_builtin; refine append_F _ (by rfl) _ _ rfl wS.heap.size _ _ rfl HV9.out _ _ _ [t] rfl HS9.out (by have := HLB.out; omega) HM9.out.size ?_; intro v' w' h1 h2 h3; have HRX := Lib.hid (And.intro h1 (And.intro (Fown.kept (HA9.out.alloc _) h2 (HSAB.out)) (And.intro (lies_sep (HSAB.out).symm HA9.out h3 HR9.out).symm (HM9.out.grown h2 HM9.out.size HR9.out.row)))); clear h1 h2 h3) | fail)
                      clear e0 e1 e2 e3 e4 e5 e6 e7 e8 e9 e10 e11
                      go_wp2
                      go_roundw
                      case rel => exact ⟨k + 1, _, _, by omega, rfl, rfl, by go_num, by rw [ofp_no HKI.out (by rw [HY.out]; simpa using HYA.out)]; exact HRX.out.2.1, by rw [ofp_yes HKG.out (by rw [HT.out]; simpa using HTB.out), HT.out]; exact HRX.out.1, HRX.out.2.2.1, HRX.out.2.2.2⟩
                      case measure => simp [intOf]; omega
                  · have HYA := Lib.hid hya
                    clear hya
                    go_wp2_with fail
                    go_still_tail 8, (by kernel_rfl)
                    go_wp2_with fail
                    refine (rival_q HYM.out HXM.out _ HYA.out).mono ?_
                    rintro e w7 ⟨rfl, hb7⟩
                    have HB7 := Lib.hid (nxt HBB.out (undrew hb7)); have HA7 := Lib.hid (HRA.out.below (undrew hb7)); have HR7 := Lib.hid (HRB.out.below (undrew hb7)); have HB57 := Lib.hid (nxt HB5.out (undrew hb7))
                    clear hb7 d0 d1 d2 d3 d4 d5 d6 d7 d8 d9 d10 d11 c0 c1 c2 c3 c4 c5 c6 c7 c8 c9 c10 c11
                    obtain ⟨d0, d1, d2, d3, d4, d5, d6, d7, d8, d9, d10, d11⟩ := (HUR.out.below HB57.out).el hlk HY.out
                    have HV7 := Lib.hid (show Fown (w7.alloc (.cells y.cells 34)) wS.heap.size _ _ from Fown.alloc HA7.out _)
                    have HS7 := Lib.hid (show Fs (w7.alloc (.cells y.cells 34)) (some ⟨w7.heap.size, 0, none⟩) 1 [y] from by
                      have h := fs_lit w7 [y]
                      rw [fcs_one_] at h
                      exact h)
                    have HM7 := Lib.hid (show Below wS.heap.size wS (w7.alloc (.cells y.cells 34)) from HB7.out.alloc HB7.out.size _)
                    go_wp2_with (first | (at_builtin; refine append_F _ (by rfl) _ _ rfl wS.heap.size _ _ rfl HV7.out _ _ _ [y] rfl HS7.out (by have := HLA.out; omega) HM7.out.size ?_; intro v' w' h1 h2 h3; have HR8 := Lib.hid (And.intro h1 (And.intro (Fown.kept (HR7.out.alloc _) h2 HSAB.out.symm) (And.intro (lies_sep HSAB.out HR7.out h3 HA7.out) (HM7.out.grown h2 HM7.out.size HA7.out.row)))); have HB58 := Lib.hid (show Below w5.heap.size w5 w' from Below.grown (HB57.out.alloc HB57.out.size _) h2 (by have h9 := HB57.out.size; simp; omega) (fun j hj => by have h8 := HA7.out.row j hj; have h7 := HB.out.size; omega)); clear h1 h2 h3) | fail)
                    clear d0 d1 d2 d3 d4 d5 d6 d7 d8 d9 d10 d11
                    obtain ⟨e0, e1, e2, e3, e4, e5, e6, e7, e8, e9, e10, e11⟩ := (HZR.out.below HB58.out).el hlk HT.out
                    obtain ⟨c0, c1, c2, c3, c4, c5, c6, c7, c8, c9, c10, c11⟩ := (HUR.out.below HB58.out).el hlt HX.out
                    rcases htb : (t.plc == x.plc) with _ | _
                    · have HTB := Lib.hid htb
                      clear htb
                      go_wp2_with fail
                      go_still_tail 8, (by kernel_rfl)
                      go_wp2_with fail
                      refine (rival_q HTM.out HXM.out _ HTB.out).mono ?_
                      rintro e w9 ⟨rfl, hb9⟩
                      have HB9 := Lib.hid (nxt HR8.out.2.2.2 (undrew hb9)); have HA9 := Lib.hid ((HR8.out.1).below (undrew hb9)); have HR9 := Lib.hid ((HR8.out.2.1).below (undrew hb9))
                      clear hb9 c0 c1 c2 c3 c4 c5 c6 c7 c8 c9 c10 c11 e0 e1 e2 e3 e4 e5 e6 e7 e8 e9 e10 e11
                      go_wp2
                      go_roundw
                      case rel => exact ⟨k + 1, _, _, by omega, rfl, rfl, by go_num, by rw [ofp_yes HKI.out (by rw [HY.out]; simpa using HYA.out), HY.out]; exact HA9.out, by rw [ofp_no HKG.out (by rw [HT.out]; simpa using HTB.out)]; exact HR9.out, HR8.out.2.2.1, HB9.out⟩
                      case measure => simp [intOf]; omega
                    · have HTB := Lib.hid htb
                      clear htb
                      go_wp2_with fail
                      go_still_tail 8, (by kernel_rfl)
                      go_wp2_with fail
                      refine (rival_q HTM.out HXM.out _ HTB.out).mono ?_
                      rintro e w9 ⟨rfl, hb9⟩
                      have HB9 := Lib.hid (nxt HR8.out.2.2.2 (undrew hb9)); have HA9 := Lib.hid ((HR8.out.1).below (undrew hb9)); have HR9 := Lib.hid ((HR8.out.2.1).below (undrew hb9)); have HB59 := Lib.hid (nxt (HB58.out) (undrew hb9))
                      clear hb9 c0 c1 c2 c3 c4 c5 c6 c7 c8 c9 c10 c11 e0 e1 e2 e3 e4 e5 e6 e7 e8 e9 e10 e11
                      obtain ⟨e0, e1, e2, e3, e4, e5, e6, e7, e8, e9, e10, e11⟩ := (HZR.out.below HB59.out).el hlk HT.out
                      have HV9 := Lib.hid (show Fown (w9.alloc (.cells t.cells 34)) wS.heap.size _ _ from Fown.alloc HR9.out _)
                      have HS9 := Lib.hid (show Fs (w9.alloc (.cells t.cells 34)) (some ⟨w9.heap.size, 0, none⟩) 1 [t] from by
                        have h := fs_lit w9 [t]
                        rw [fcs_one_] at h
                        exact h)
                      have HM9 := Lib.hid (show Below wS.heap.size wS (w9.alloc (.cells t.cells 34)) from HB9.out.alloc HB9.out.size _)
                      go_wp2_with (first | (at_builtin; refine append_F _ (by rfl) _ _ rfl wS.heap.size _ _ rfl HV9.out _ _ _ [t] rfl HS9.out (by have := HLB.out; omega) HM9.out.size ?_; intro v' w' h1 h2 h3; have HRX := Lib.hid (And.intro h1 (And.intro (Fown.kept (HA9.out.alloc _) h2 (HR8.out.2.2.1)) (And.intro (lies_sep (HR8.out.2.2.1).symm HA9.out h3 HR9.out).symm (HM9.out.grown h2 HM9.out.size HR9.out.row)))); clear h1 h2 h3) | fail)
                      clear e0 e1 e2 e3 e4 e5 e6 e7 e8 e9 e10 e11
                      go_wp2
                      go_roundw
                      case rel => exact ⟨k + 1, _, _, by omega, rfl, rfl, by go_num, by rw [ofp_yes HKI.out (by rw [HY.out]; simpa using HYA.out), HY.out]; exact HRX.out.2.1, by rw [ofp_yes HKG.out (by rw [HT.out]; simpa using HTB.out), HT.out]; exact HRX.out.1, HRX.out.2.2.1, HRX.out.2.2.2⟩
                      case measure => simp [intOf]; omega
                · have HEQ := Lib.hid (show ofp x.plc (gs.take k) = ofp x.plc (I.take k) from by
                    rw [List.take_of_length_le (by rw [HGN.out]; omega), List.take_of_length_le (by rw [HN.out]; omega), HST.out.cls])
                  have HLA := Lib.hid (show (ofp x.plc (I.take k)).length ≤ 16 from by have h1 := List.length_filter_le (fun g => g.plc == x.plc) (I.take k); rw [List.length_take] at h1; have := HN.out; show (List.filter _ _).length ≤ 16; omega)
                  have HRB2 := Lib.hid (show Fown wr wS.heap.size _ (ofp x.plc (I.take k)) from by rw [← HEQ.out]; exact HRB.out)
                  go_wp2_with fail
                  refine (same_self HRA.out HRB2.out (by have := HLA.out; omega)).mono ?_
                  rintro e w7 ⟨rfl, hb7⟩
                  have HB7 := Lib.hid (nxt HB5.out hb7)
                  clear hb7
                  go_wp2
                  go_roundw
                  case rel => exact ⟨i + 1, by omega, by go_num, HB7.out⟩
                  case measure => simp [intOf]; omega
            · by_cases h0 : N = 0
              · have HE := Lib.hid (show gs = [] from List.eq_nil_of_length_eq_zero (by rw [HGN.out]; exact h0))
                have HQE := Lib.hid (show Que wr w.heap.size w.heap.size v 16 [] from by have h := (HOE.out.next HB.out).od.ab.a; rwa [HE.out] at h)
                have HBW := Lib.hid (HOE.out.next HB.out).bel
                subst h0
                clear HOE
                go_wp2_with fail
                refine (first_empty0 HQE.out).mono ?_
                rintro e w8 ⟨rfl, hb8⟩
                have HB8 := Lib.hid (nxt (nxt HBW.out hb8) (bel00 w8))
                clear hb8
                go_wp2_with fail
                refine (awake9 _).mono ?_
                rintro e w9 ⟨rfl, hb9⟩
                have HF := Lib.hid (nxt HB8.out hb9)
                clear hb9
                go_wp2
                go_ret
                exact ⟨rfl, HF.out⟩
              · have hNb : ((N : Int) == 0) = false := by simp; omega
                have hNp : ¬ ((N : Int) = 0) := by omega
                have hN0 : 0 < N := by omega
                obtain ⟨p0, hp0, hmod1, hmod2, tb1, tb2⟩ := mod_in a N hN0
                have HOEx := Lib.hid (HOE.out.next HB.out)
                have HP0 := Lib.hid (show p0 < I.length by rw [HN.out]; exact hp0)
                have hp0' : (p0 : Int) < (N : Int) := by omega
                clear HOE h0
                go_wp2
                go_loopw [20] (fun vi wx => ∃ (i : Nat) (vp : Value) (ps : List Fr), i ≤ N ∧ vi = .int .i64 i ∧ Oe w wx w.heap.size v gs gb vp ps (.slice Au N cu) I (.slice Az N cz) gs 16 ∧ Std ((trn I p0).take i) ps ∧ Okq ps) (fun vi _ => N - (intOf vi).toNat)
                case atStart => exact ⟨0, _, [], Nat.zero_le _, rfl, HOEx.out, by rw [List.take_zero]; exact std_nil, ok_nil⟩
                case round =>
                  clear HOEx HB
                  obtain ⟨i, vp, ps, hiN, rfl, hoe, hsp, hop⟩ := hrel
                  have HOE := Lib.hid hoe; have HSP := Lib.hid hsp; have HOP := Lib.hid hop
                  clear hoe hsp hop
                  by_cases hlt : i < N
                  · have hlt' : (i : Int) < (N : Int) := by omega
                    obtain ⟨q, hq⟩ : ∃ q, (i + p0) % N = q := ⟨_, rfl⟩
                    have hqN : q < N := by rw [← hq]; exact Nat.mod_lt _ hN0
                    have hqN' : (q : Int) < (N : Int) := by omega
                    have hm1 : ((i : Int) + (p0 : Int)) % (N : Int) = (q : Int) := by rw [← hq]; push_cast; rfl
                    have hm2 : ((i : Int) + (p0 : Int)).tmod (N : Int) = (q : Int) := by rw [Int.tmod_eq_emod_of_nonneg (by omega)]; exact hm1
                    obtain ⟨x, hx⟩ : ∃ x, I.getD q Fr.zero = x := ⟨_, rfl⟩
                    have HXT := Lib.hid (show (trn I p0).getD i Fr.zero = x from by rw [trn_get HP0.out (by rw [HN.out]; exact hlt), HN.out, hq]; exact hx)
                    have HXM := Lib.hid (show x.may = true from by rw [← hx]; exact getd_may HIM.out (by rw [HN.out]; exact hqN))
                    have HPL := Lib.hid (show ps.length = i from by rw [← HSP.out.len, List.length_take, trn_len, HN.out]; omega)
                    obtain ⟨ad, rfl, -, -⟩ := HOE.out.od.ur.fl2.at_ hqN
                    obtain ⟨d0, d1, d2, d3, d4, d5, d6, d7, d8, d9, d10, d11⟩ := HOE.out.od.ur.fl2.el hqN hx
                    clear hq hx
                    go_wp2_with fail
                    refine (put_q (f := x) HOE.out.od.ab.b HOP.out (by have := HPL.out; omega) HOE.out.bel.size).mono ?_
                    rintro e w8 ⟨v8, rfl, hq8, ht8⟩
                    rw [show pE 16 x ps = 0 by unfold pE; rw [if_neg (by rw [HXM.out]; simp), if_neg (by have := HPL.out; omega)]]
                    rw [show pL 16 x ps = ins x ps by unfold pL; rw [if_neg (by rw [HXM.out]; have := HPL.out; simp; omega)]] at hq8
                    have HOE8 := Lib.hid (HOE.out.turnb hq8 ht8)
                    have HTK := Lib.hid (show (trn I p0).take (i + 1) = (trn I p0).take i ++ [x] from by rw [take_one (by rw [trn_len, HN.out]; exact hlt), HXT.out])
                    clear hq8 ht8 d0 d1 d2 d3 d4 d5 d6 d7 d8 d9 d10 d11 hm1 hm2
                    go_wp2
                    go_roundw
                    case rel => exact ⟨i + 1, v8, ins x ps, by omega, by go_num, HOE8.out, by rw [HTK.out]; exact HSP.out.ins x, ins_ok HOP.out HXM.out⟩
                    case measure => simp [intOf]; omega
                  · have HST2 := Lib.hid (show Std (trn I p0) ps from by
                      have h := HSP.out
                      rwa [List.take_of_length_le (by rw [trn_len, HN.out]; omega)] at h)
                    have HPN := Lib.hid (show ps.length = N from by rw [← HST2.out.len, trn_len, HN.out])
                    have HAL := Lib.hid (plc_alike HOK.out.1 HOP.out.1 (fun p => by rw [HST.out.cls, HST2.out.cls, trn_cls]))
                    go_wp2_with fail
                    refine (all_q HOE.out.od.ab.b (by have := HPN.out; omega)).mono ?_
                    rintro e w8 ⟨o, rfl, ho8, hb8⟩
                    obtain ⟨Ao, co, rfl, hfo, -⟩ := ho8.fl
                    rw [HPN.out] at hfo ⊢
                    have HFO := Lib.hid hfo
                    have HOE8 := Lib.hid (HOE.out.next hb8)
                    have HZ8 := Lib.hid HOE8.out.zr.fl2
                    clear ho8 hb8 hfo HOE
                    go_wp2
                    go_loopw [22] (fun vi wx => ∃ (i : Nat), i ≤ N ∧ vi = .int .i64 i ∧ Below w8.heap.size w8 wx) (fun vi _ => N - (intOf vi).toNat)
                    case atStart => exact ⟨0, Nat.zero_le _, rfl, Below.refl _ _⟩
                    case round =>
                      obtain ⟨i, hiN, rfl, hb⟩ := hrel
                      have HB := Lib.hid hb
                      by_cases hlt : i < N
                      · have hlt' : (i : Int) < (N : Int) := by omega
                        obtain ⟨x, hx⟩ : ∃ x, gs.getD i Fr.zero = x := ⟨_, rfl⟩
                        obtain ⟨y, hy⟩ : ∃ y, ps.getD i Fr.zero = y := ⟨_, rfl⟩
                        have HXM := Lib.hid (show x.may = true from by rw [← hx]; exact getd_may HOK.out.2 (by rw [HGN.out]; exact hlt))
                        have HYM := Lib.hid (show y.may = true from by rw [← hy]; exact getd_may HOP.out.2 (by rw [HPN.out]; exact hlt))
                        have HRV := Lib.hid (show (x.plc == y.plc) = true from by
                          have h := (plc_at HAL.out (j := i) (by rw [HGN.out]; exact hlt)).1
                          rw [hx, hy] at h
                          rw [h]; simp)
                        obtain ⟨az, rfl, -, -⟩ := HZ8.out.at_ hlt
                        obtain ⟨ao, rfl, -, -⟩ := HFO.out.at_ hlt
                        obtain ⟨d0, d1, d2, d3, d4, d5, d6, d7, d8, d9, d10, d11⟩ := (HZ8.out.below hb).el hlt hx
                        obtain ⟨e0, e1, e2, e3, e4, e5, e6, e7, e8, e9, e10, e11⟩ := (HFO.out.below hb).el hlt hy
                        clear hb hx hy
                        go_wp2_with fail
                        go_still_tail 8, (by kernel_rfl)
                        go_wp2_with fail
                        refine (rival_q HXM.out HYM.out _ HRV.out).mono ?_
                        rintro e w9 ⟨rfl, hb9⟩
                        have HB9 := Lib.hid (nxt HB.out (undrew hb9))
                        clear hb9 d0 d1 d2 d3 d4 d5 d6 d7 d8 d9 d10 d11 e0 e1 e2 e3 e4 e5 e6 e7 e8 e9 e10 e11
                        go_wp2
                        go_roundw
                        case rel => exact ⟨i + 1, by omega, by go_num, HB9.out⟩
                        case measure => simp [intOf]; omega
                      · have HOE9 := Lib.hid (HOE8.out.next hb)
                        rcases hgc : gs with _ | ⟨f0, rest⟩
                        · exfalso
                          have h := HGN.out
                          rw [hgc] at h
                          simp at h
                          omega
                        · have HQE := Lib.hid (show Que _ _ _ _ _ (f0 :: rest) from by rw [← hgc]; exact HOE9.out.od.ab.a)
                          obtain ⟨az, rfl, -, hx0⟩ := fl_head HOE9.out.zr.fl2 hN0
                          have hx0' : Bxa wr az f0 := by rw [hgc] at hx0; exact hx0
                          have HX0 := Lib.hid hx0'
                          have HBW := Lib.hid HOE9.out.bel
                          have HAZ := Lib.hid (show az.block < wr.heap.size from World.block_lt_of_cell? _ _ hx0'.1)
                          have hfe := fun W => feq f0 f0 W
                          rw [same_refl] at hfe
                          clear hgc hx0 hx0' HOE9 hb
                          go_wp2_with fail
                          refine (first_q HQE.out).mono ?_
                          rintro e w9 ⟨rfl, hb9⟩
                          have HZF := Lib.hid (fb_new w9 f0)
                          have HBA := Lib.hid (nxt (nxt HBW.out hb9) (boxed f0 w9))
                          have HXA := Lib.hid (HX0.out.next9 (nxt hb9 (boxed f0 w9)) HAZ.out)
                          clear hb9
                          go_wp2_with fail
                          obtain ⟨gf, hgf⟩ : ∃ gf, w9.heap.size = gf := ⟨_, rfl⟩
                          obtain ⟨W4, hW4⟩ : ∃ W4, w9.alloc (.cells f0.cells 34) = W4 := ⟨_, rfl⟩
                          rw [hW4] at HZF HBA HXA ⊢
                          rw [hgf] at HZF
                          try rw [hgf]
                          clear hgf hW4
                          refine wp_region_held_drew (S := fun w' => Fb w' gf f0 ∧ Bxa w' az f0) (by kernel_rfl) (⟨HZF.out, HXA.out⟩) (fun hHeld => ?_)
                          refine takeH (i := 0) (v := .bool true) rfl (by kernel_rfl) (by kernel_rfl) (by kernel_rfl) (fun _ _ _ h => h) (Or.inl ⟨by rfl, fun w hSw => ?_⟩) hHeld ?_
                          · (clear hSw; go_simp)
                          simp only [Act.put, List.setIfInBounds_toArray, List.set_cons_zero, List.set_cons_succ]
                          refine takeH (i := 1) (v := .bool true) rfl (by kernel_rfl) (by kernel_rfl) (by kernel_rfl) (fun _ _ _ h => h) (Or.inl ⟨by rfl, fun w hSw => ?_⟩) hHeld ?_
                          · (clear hSw; go_simp)
                          simp only [Act.put, List.setIfInBounds_toArray, List.set_cons_zero, List.set_cons_succ]
                          refine takeH (i := 2) (v := f0.val) rfl (by kernel_rfl) (by kernel_rfl) (by kernel_rfl) (fun _ _ _ h => h) (Or.inl ⟨by rfl, fun w hSw => ?_⟩) hHeld ?_
                          · (obtain ⟨c0, c1, c2, c3, c4, c5, c6, c7, c8, c9, c10, c11⟩ := hSw.1.bx; clear hSw; go_simp)
                          simp only [Act.put, List.setIfInBounds_toArray, List.set_cons_zero, List.set_cons_succ]
                          refine takeH (i := 3) (v := .slice (some az) N cz) rfl (by kernel_rfl) (by kernel_rfl) (by kernel_rfl) (fun _ _ _ h => h) (Or.inl ⟨by rfl, fun w hSw => ?_⟩) hHeld ?_
                          · (clear hSw; go_simp)
                          simp only [Act.put, List.setIfInBounds_toArray, List.set_cons_zero, List.set_cons_succ]
                          refine takeH (i := 4) (v := .pointer (some az)) rfl (by kernel_rfl) (by kernel_rfl) (by kernel_rfl) (fun _ _ _ h => h) (Or.inl ⟨by rfl, fun w hSw => ?_⟩) hHeld ?_
                          · (have hlx := hN0; clear hSw; go_simp)
                          simp only [Act.put, List.setIfInBounds_toArray, List.set_cons_zero, List.set_cons_succ]
                          refine takeH (i := 5) (v := f0.val) rfl (by kernel_rfl) (by kernel_rfl) (by kernel_rfl) (fun _ _ _ h => h) (Or.inl ⟨by rfl, fun w hSw => ?_⟩) hHeld ?_
                          · (obtain ⟨x0, x1, x2, x3, x4, x5, x6, x7, x8, x9, x10, x11⟩ := hSw.2; clear hSw; go_simp)
                          simp only [Act.put, List.setIfInBounds_toArray, List.set_cons_zero, List.set_cons_succ]
                          refine takeH (i := 6) (v := .bool true) rfl (by kernel_rfl) (by kernel_rfl) (by kernel_rfl) (fun _ _ _ h => h) (Or.inl ⟨by rfl, fun w hSw => ?_⟩) hHeld ?_
                          · (clear hSw; go_simp)
                          simp only [Act.put, List.setIfInBounds_toArray, List.set_cons_zero, List.set_cons_succ]
                          refine takeH (i := 7) (v := .bool true) rfl (by kernel_rfl) (by kernel_rfl) (by kernel_rfl) (fun _ _ _ h => h) (Or.inl ⟨by rfl, fun w hSw => ?_⟩) hHeld ?_
                          · (clear hSw; go_simp)
                          simp only [Act.put, List.setIfInBounds_toArray, List.set_cons_zero, List.set_cons_succ]
                          refine takeH (i := 8) (v := .bool true) rfl (by kernel_rfl) (by kernel_rfl) (by kernel_rfl) (fun _ _ _ h => h) (Or.inl ⟨by rfl, fun w hSw => ?_⟩) hHeld ?_
                          · (clear hSw; go_simp)
                          simp only [Act.put, List.setIfInBounds_toArray, List.set_cons_zero, List.set_cons_succ]
                          refine wpAnyH_ready (rs := [9]) (by kernel_rfl) (by simp) ?_
                          refine AllReadyH.cons rfl (fun K hK => ?_) AllReadyH.nil
                          go_simp
                          refine (awake9 _).mono ?_
                          rintro e wz ⟨rfl, hbz⟩
                          have HSK := Lib.hid (show (Fb wz gf f0 ∧ Bxa wz az f0) ∧ Below w.heap.size w wz from ⟨⟨HZF.out.below (undrew hbz) HZF.out.lt, HXA.out.next9 (undrew hbz) (World.block_lt_of_cell? _ _ HXA.out.1)⟩, nxt HBA.out (undrew hbz)⟩)
                          clear hbz
                          clear hHeld
                          dsimp only
                          refine hK.out _ _ (HSK.out.1) (fun hHeld => ?_)
                          clear hK K
                          try simp only [Act.put, List.setIfInBounds_toArray, List.set_cons_zero, List.set_cons_succ]
                          refine takeH (i := 10) (v := .bool true) rfl (by kernel_rfl) (by kernel_rfl) (by kernel_rfl) (fun _ _ _ h => h) (Or.inl ⟨by rfl, fun w hSw => ?_⟩) hHeld ?_
                          · (clear hSw; go_simp)
                          simp only [Act.put, List.setIfInBounds_toArray, List.set_cons_zero, List.set_cons_succ]
                          refine takeH (i := 11) (v := .bool true) rfl (by kernel_rfl) (by kernel_rfl) (by kernel_rfl) (fun _ _ _ h => h) (Or.inl ⟨by rfl, fun w hSw => ?_⟩) hHeld ?_
                          · (clear hSw; go_simp)
                          simp only [Act.put, List.setIfInBounds_toArray, List.set_cons_zero, List.set_cons_succ]
                          refine wpAnyH_done (by kernel_rfl) ?_ _
                          clear hHeld
                          go_wp2
                          go_ret
                          exact ⟨rfl, HSK.out.2⟩
theorem qord_any (a : Int) (fs : Nat → Fr) (A : Option Addr) (n c : Nat) (w : World) (hr : Fl w A n fs) :
    Calls Try.prog 4 #[.slice A n c, .int .i64 a] w fun e w' => e = .returned (.bool true) ∧ Below w.heap.size w w' := by
  rcases Nat.lt_or_ge 40 n with h | h
  · exact qord_out a A n c w h
  · exact qord_in a fs A n c w hr h
end Go.Proofs.Ytldhnbohpnkcpaa
