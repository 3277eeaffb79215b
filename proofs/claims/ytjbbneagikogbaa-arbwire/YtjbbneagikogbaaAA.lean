/- The contracts of slices.Index, slices.Contains, arb.Wired and arb.Loses. -/
import Derived.Test.YtjbbneagikogbaaAM
namespace Go.Proofs.Ytjbbneagikogbaa
open Go.RowKit

set_option maxHeartbeats 400000 in
theorem index_any (A : Option Addr) (n cap : Nat) (zs : List Int) (v : Int) (w : World) (hr : Il w A n zs) (hn : n ≤ 100000) :
    Calls Try.prog 35 #[.slice A n cap, .int .i64 v] w fun e w' => e = .returned (.int .i64 (fst (fun z => z != v) zs)) ∧ w = w' := by
  go_enter Try.func35, Try.ntmps35
  go_wp2
  go_loop [8] (fun i => ∃ k : Nat, k ≤ n ∧ i = .int .i64 k ∧ k ≤ led (fun z => z != v) zs) (fun i => n - (intOf i).toNat)
  case atStart => exact ⟨0, Nat.zero_le _, rfl, Nat.zero_le _⟩
  case round =>
    obtain ⟨k, hk, rfl, hld⟩ := hrel
    by_cases hlt : k < n
    · obtain ⟨ad, z, rfl, hz, hc⟩ := hr.at_ hlt
      have HR := Lib.hid hr; have HZ := Lib.hid hz
      clear hr hz
      cases h0 : (v == z)
      · go_wp2
        go_round
        case rel => exact ⟨k + 1, by omega, by go_num, led_succ (fun z => z != v) zs k z hld HZ.out (by simp [bne] at h0 ⊢; exact fun e => h0 e.symm)⟩
        case measure => simp [intOf]; omega
      · go_wp2
        go_ret
        exact ⟨ret_int (fst_stop (fun z => z != v) zs k z hld HZ.out (by simp at h0 ⊢; exact h0.symm)).symm, rfl⟩
    · go_wp2
      go_ret
      exact ⟨ret_int (fst_end (fun z => z != v) zs (by rw [hr.1]; omega)).symm, rfl⟩

theorem contains_any (A : Option Addr) (n cap : Nat) (zs : List Int) (v : Int) (w : World) (hr : Il w A n zs) (hn : n ≤ 100000) :
    Calls Try.prog 24 #[.slice A n cap, .int .i64 v] w fun e w' => e = .returned (.bool (decide (0 ≤ fst (fun z => z != v) zs))) ∧ w = w' := by
  go_enter Try.func24, Try.ntmps24
  go_wp2_with fail
  refine (index_any A n cap zs v _ hr hn).mono ?_
  rintro e w' ⟨rfl, rfl⟩
  go_wp2
  go_ret
  exact ⟨rfl, rfl⟩

theorem wired_any (A : Option Addr) (n cap : Nat) (zs : List Int) (w : World) (hr : Il w A n zs) (hn : n ≤ 100000) :
    Calls Try.prog 10 #[.slice A n cap] w fun e w' => e = .returned (.int .i64 (wir zs)) ∧ w = w' := by
  have HR := Lib.hid hr
  clear hr
  by_cases h : fst (fun z => z != 0) zs < 0
  · have HE := Lib.hid (show decide (0 ≤ fst (fun z => z != 0) zs) = false by simpa using h)
    have HW := Lib.hid (show wir zs = 1 by unfold wir; rw [if_pos h])
    clear h
    rw [HW.out]
    go_enter Try.func10, Try.ntmps10
    go_wp2_with fail
    refine (contains_any A n cap zs 0 _ HR.out hn).mono ?_
    rintro e w' ⟨rfl, rfl⟩
    rw [HE.out]
    go_wp2
    go_ret
    exact ⟨rfl, rfl⟩
  · have HE := Lib.hid (show decide (0 ≤ fst (fun z => z != 0) zs) = true by simp; omega)
    have HW := Lib.hid (show wir zs = 0 by unfold wir; rw [if_neg h])
    clear h
    rw [HW.out]
    go_enter Try.func10, Try.ntmps10
    go_wp2_with fail
    refine (contains_any A n cap zs 0 _ HR.out hn).mono ?_
    rintro e w' ⟨rfl, rfl⟩
    rw [HE.out]
    go_wp2
    go_ret
    exact ⟨rfl, rfl⟩

set_option maxHeartbeats 800000 in
theorem loses_any (f g : Fr) (w : World) :
    Calls Try.prog 11 #[f.val, g.val] w fun e w' => e = .returned (.tuple #[.int .i64 (lsV f g), .int .i64 (lsE f g)]) ∧ Below w.heap.size w w' := by
  have HB := Lib.hid (boxed2 f g w)
  have HX := Lib.hid (bx_two2 w f g)
  cases hf : f.may with
  | false =>
    obtain ⟨e1, e2⟩ := ls_bad (f := f) (g := g) (by rw [hf]; rfl)
    have HF := Lib.hid hf
    rw [e1, e2]
    clear hf e1 e2
    go_enter Try.func11, Try.ntmps11
    go_wp2_with fail
    refine (arb_bad f _ HF.out).mono ?_
    rintro e w1 ⟨rfl, hb1⟩
    go_wp2
    go_ret2
    exact ⟨rfl, nxt HB.out hb1⟩
  | true =>
    have HF := Lib.hid hf
    cases hg : g.may with
    | false =>
      obtain ⟨e1, e2⟩ := ls_bad (f := f) (g := g) (by rw [hg, Bool.and_false])
      have HG := Lib.hid hg
      rw [e1, e2]
      clear hf hg e1 e2
      go_enter Try.func11, Try.ntmps11
      go_wp2_with fail
      refine (arb_ok f _ HF.out).mono ?_
      rintro e w1 ⟨A1, cap1, rfl, hi1, hb1⟩
      obtain ⟨c0, c1, c2, c3, c4, c5, c6, c7, c8, c9, c10, c11⟩ := HX.out.below hb1 (by simp)
      clear hi1
      go_wp2_with fail
      refine (arb_bad g _ HG.out).mono ?_
      rintro e w2 ⟨rfl, hb2⟩
      go_wp2
      go_ret2
      exact ⟨rfl, nxt (nxt HB.out hb1) hb2⟩
    | true =>
      have HG := Lib.hid hg
      clear hf hg
      have HAT := Lib.hid (fun k => @ls_at f g HF.out HG.out k)
      have HNOT := Lib.hid (fun k => @ls_not f g HF.out HG.out k)
      have HEND := Lib.hid (fun k => @ls_end f g HF.out HG.out k)
      have HOF := Lib.hid (fun k x y => @at_of f g k x y)
      have hwf := wid_32 f
      have hwg := wid_32 g
      have HLF := Lib.hid (lv_len f)
      have HLG := Lib.hid (lv_len g)
      generalize lsV f g = rv at *
      generalize lsE f g = re at *
      go_enter Try.func11, Try.ntmps11
      go_wp2_with fail
      refine (arb_ok f _ HF.out).mono ?_
      rintro e w1 ⟨A1, cap1, rfl, hi1, hb1⟩
      have HI1 := Lib.hid hi1
      rw [ofB_len] at HI1 ⊢
      obtain ⟨c0, c1, c2, c3, c4, c5, c6, c7, c8, c9, c10, c11⟩ := HX.out.below hb1 (by simp)
      clear hi1
      go_wp2_with fail
      refine (arb_ok g _ HG.out).mono ?_
      rintro e w2 ⟨A2, cap2, rfl, hi2, hb2⟩
      rw [ofB_len] at hi2 ⊢
      have H1 := Lib.hid (HI1.out.below hb2)
      have H2 := Lib.hid hi2
      have HB2 := Lib.hid (nxt (nxt HB.out hb1) hb2)
      change Hid (Il w2 A1 f.wid f.lv) at H1
      change Hid (Il w2 A2 g.wid g.lv) at H2
      clear hi2 hb1 hb2 c0 c1 c2 c3 c4 c5 c6 c7 c8 c9 c10 c11 HI1 HX HB
      generalize f.wid = nf at *
      generalize g.wid = ng at *
      rcases Nat.lt_or_ge ng nf with hmn | hmn
      · have q1 : ng ≤ nf := by omega
        have q2 : ng ≤ ng := by omega
        go_wp2
        go_loopw [31] (fun i wr => ∃ k q : Nat, k ≤ ng ∧ i = .int .i64 k ∧ f.lv.take k = g.lv.take k ∧ wr = w2.drewN q) (fun i _ => ng - (intOf i).toNat)
        case atStart => exact ⟨0, 0, Nat.zero_le _, rfl, rfl, rfl⟩
        case round =>
          obtain ⟨k, q, hk, rfl, ht, rfl⟩ := hrel
          have HT := Lib.hid ht
          clear ht
          by_cases hlt : k < ng
          · obtain ⟨ad, x, rfl, hx, hc⟩ := H1.out.at_ (k := k) (by omega)
            obtain ⟨bd, y, rfl, hy, hd⟩ := H2.out.at_ (k := k) (by omega)
            have HX := Lib.hid hx; have HY := Lib.hid hy
            clear hx hy
            cases hxy : (x == y)
            · obtain ⟨g1, g2⟩ := HOF.out k x y HT.out HX.out HY.out (by simpa using hxy)
              cases hx1 : (x == 1)
              · obtain ⟨r1, r2⟩ := HNOT.out k (g2 (by simpa using hx1))
                have R1 := Lib.hid r1; have R2 := Lib.hid r2
                clear g1 g2 r1 r2
                go_wp2
                go_quiet (fail)
                go_wp2
                go_ret2
                rw [R1.out, R2.out]
                exact ⟨rfl, belowN HB2.out _⟩
              · obtain ⟨r1, r2⟩ := HAT.out k (g1 (by simpa using hx1))
                have R1 := Lib.hid r1; have R2 := Lib.hid r2
                clear g1 g2 r1 r2
                go_wp2
                go_quiet (fail)
                go_wp2
                go_ret2
                rw [R1.out, R2.out]
                exact ⟨rfl, belowN HB2.out _⟩
            · have HS := Lib.hid (take_same HT.out HX.out HY.out (by simpa using hxy))
              go_wp2
              go_quiet (fail)
              go_wp2
              go_roundw
              case rel => exact ⟨k + 1, _, by omega, by go_num, HS.out, rfl⟩
              case measure => simp [intOf]; omega
          · obtain ⟨r1, r2⟩ := HEND.out k HT.out (by rw [HLF.out, HLG.out]; omega)
            have R1 := Lib.hid r1; have R2 := Lib.hid r2
            clear r1 r2
            go_wp2
            go_ret2
            rw [R1.out, R2.out]
            exact ⟨rfl, belowN HB2.out _⟩
      · have q1 : nf ≤ nf := by omega
        have q2 : nf ≤ ng := by omega
        go_wp2
        go_loopw [31] (fun i wr => ∃ k q : Nat, k ≤ nf ∧ i = .int .i64 k ∧ f.lv.take k = g.lv.take k ∧ wr = w2.drewN q) (fun i _ => nf - (intOf i).toNat)
        case atStart => exact ⟨0, 0, Nat.zero_le _, rfl, rfl, rfl⟩
        case round =>
          obtain ⟨k, q, hk, rfl, ht, rfl⟩ := hrel
          have HT := Lib.hid ht
          clear ht
          by_cases hlt : k < nf
          · obtain ⟨ad, x, rfl, hx, hc⟩ := H1.out.at_ (k := k) (by omega)
            obtain ⟨bd, y, rfl, hy, hd⟩ := H2.out.at_ (k := k) (by omega)
            have HX := Lib.hid hx; have HY := Lib.hid hy
            clear hx hy
            cases hxy : (x == y)
            · obtain ⟨g1, g2⟩ := HOF.out k x y HT.out HX.out HY.out (by simpa using hxy)
              cases hx1 : (x == 1)
              · obtain ⟨r1, r2⟩ := HNOT.out k (g2 (by simpa using hx1))
                have R1 := Lib.hid r1; have R2 := Lib.hid r2
                clear g1 g2 r1 r2
                go_wp2
                go_quiet (fail)
                go_wp2
                go_ret2
                rw [R1.out, R2.out]
                exact ⟨rfl, belowN HB2.out _⟩
              · obtain ⟨r1, r2⟩ := HAT.out k (g1 (by simpa using hx1))
                have R1 := Lib.hid r1; have R2 := Lib.hid r2
                clear g1 g2 r1 r2
                go_wp2
                go_quiet (fail)
                go_wp2
                go_ret2
                rw [R1.out, R2.out]
                exact ⟨rfl, belowN HB2.out _⟩
            · have HS := Lib.hid (take_same HT.out HX.out HY.out (by simpa using hxy))
              go_wp2
              go_quiet (fail)
              go_wp2
              go_roundw
              case rel => exact ⟨k + 1, _, by omega, by go_num, HS.out, rfl⟩
              case measure => simp [intOf]; omega
          · obtain ⟨r1, r2⟩ := HEND.out k HT.out (by rw [HLF.out, HLG.out]; omega)
            have R1 := Lib.hid r1; have R2 := Lib.hid r2
            clear r1 r2
            go_wp2
            go_ret2
            rw [R1.out, R2.out]
            exact ⟨rfl, belowN HB2.out _⟩
end Go.Proofs.Ytjbbneagikogbaa
