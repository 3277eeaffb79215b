/- The contract of the reference's Decode of layer 6. -/
import Derived.Test.YtffhhegpkejdgaaZCH
namespace Go.Proofs.Ytffhhegpkejdgaa
open Go.RowKit

theorem nxt5 {B : Nat} {w2 a b : World} (hs : w2.heap.size = B) (h : Below B w2 a) (h2 : Below a.heap.size a b) : Below B w2 b := h.trans (h2.mono (by rw [← hs]; exact h.size))
theorem alk_next5 {t : List Int} {p : Nat} (h : p + 1 < t.length) : alk (t.take (p + 1 + 1)) = if t.getD (p + 1) 0 = t.getD p 0 then alk (t.take (p + 1)) + 1 else 1 := by
  rw [take_snoc t (p + 1) _ (getD_some t (p + 1) h)]
  by_cases e : t.getD (p + 1) 0 = t.getD p 0
  · rw [if_pos e, alk_same (by rw [lst_take (by omega)]; exact e)]
  · rw [if_neg e, alk_other (by rw [lst_take (by omega)]; exact e)]

set_option maxRecDepth 100000 in
set_option maxHeartbeats 12800000 in
theorem rdec_any (A : Option Addr) (n cap : Nat) (zs : List Int) (w : World) (hr : Il w A n zs) (hn : n ≤ 200) :
    Calls Try.prog 18 #[.slice A n cap] w fun e w' => e = .returned (dV zs) ∧ Below w.heap.size w w' := by
  have HR := Lib.hid hr
  have HLN := Lib.hid hr.1
  obtain ⟨w2, hw2⟩ : ∃ w2, (w.alloc (.cells Fr.zero.cells 24)).alloc (.cells Fr.zero.cells 24) = w2 := ⟨_, rfl⟩
  have HS0 := Lib.hid (show w2.heap.size = w.heap.size + 2 by rw [← hw2]; simp)
  have HB0 := Lib.hid (show Below w.heap.size w w2 by rw [← hw2]; exact alloc2 w _ _)
  have HFA := Lib.hid (show ∀ wx, Below (w.heap.size + 2) w2 wx → Fb wx w.heap.size Fr.zero from fun wx h => (show Fb w2 w.heap.size Fr.zero by rw [← hw2]; exact fb_two1 w _ _).below h (by omega))
  have HFC := Lib.hid (show ∀ wx, Below (w.heap.size + 2) w2 wx → Fb wx (w.heap.size + 1) Fr.zero from fun wx h => (show Fb w2 (w.heap.size + 1) Fr.zero by rw [← hw2]; exact fb_two2 w _ _).below h (by omega))
  have HS2 := Lib.hid (show ∀ wx, Below (w.heap.size + 2) w2 wx → w.heap.size + 2 ≤ wx.heap.size from fun wx h => by have := h.size; rw [HS0.out] at this; exact this)
  have HRR := Lib.hid (show ∀ wx, Below (w.heap.size + 2) w2 wx → Il wx A n zs from fun wx h => HR.out.below (HB0.out.trans (h.mono (by omega))))
  have HW2 := Lib.hid hw2
  clear hr hw2
  go_enter Try.func18, Try.ntmps18
  go_wp2
  go_loopw [6, 7, 8] (fun v r i wr => ∃ (k rn : Nat) (o : List Int), k ≤ n ∧ i = .int .i64 k ∧ r = .int .i64 rn ∧ Rgo zs k o rn ∧ Own wr (w.heap.size + 2) v o ∧ Below (w.heap.size + 2) w2 wr) (fun _ _ i _ => n - (intOf i).toNat)
  case atStart => exact ⟨0, 0, [], Nat.zero_le _, rfl, rfl, Rgo.start zs, Own.nil _ _, by rw [← HW2.out]; exact Below.refl _ _⟩
  case round =>
    obtain ⟨k, rn, o, hk, rfl, rfl, hg, ho, hbel⟩ := hrel
    have HG := Lib.hid hg; have HO := Lib.hid ho; have HBL := Lib.hid hbel
    clear hg ho hbel
    rcases Nat.lt_or_ge k n with hlt | hge
    rotate_left
    · have hkn : k = n := by omega
      subst hkn
      have FA := HFA.out _ HBL.out; have FC := HFC.out _ HBL.out
      have fz := fun i => FA.frozen i
      obtain ⟨d0, d1, d2, d3, d4, d5, d6, d7, d8, d9, d10, d11⟩ := FA.bx
      obtain ⟨c0, c1, c2, c3, c4, c5, c6, c7, c8, c9, c10, c11⟩ := FC.bx
      have HDV := Lib.hid (dV_err (HG.out.last (by rw [HLN.out]; omega)) (by decide))
      have HBE := Lib.hid (HB0.out.trans (HBL.out.mono (by omega)))
      clear FA FC
      go_wp2
      refine bodyPost_ret (v := .tuple #[Fr.zero.val, .int .i64 (k : Nat), .int .i64 13]) (by rw [results_ctt rfl]; go_simp; try decide) rfl ⟨by rw [HDV.out]; try rfl, ?_⟩
      exact set12 HBE.out (Nat.le_refl _) _ _ _ _ _ _ _ _ _ _ _ _
    obtain ⟨ad, z, rfl, hz, hc⟩ := (HRR.out _ HBL.out).at_ hlt
    have HZ := Lib.hid hz
    clear hz
    cases hl : lvl z with
    | false =>
      have hz0 : (z != 0) = true := by simp only [lvl, Bool.or_eq_false_iff] at hl; simpa using hl.1
      have hz1 : (z != 1) = true := by simp only [lvl, Bool.or_eq_false_iff] at hl; simpa using hl.2
      have HL := Lib.hid hl
      clear hl
      have FA := HFA.out _ HBL.out; have FC := HFC.out _ HBL.out
      have fz := fun i => FA.frozen i
      obtain ⟨d0, d1, d2, d3, d4, d5, d6, d7, d8, d9, d10, d11⟩ := FA.bx
      obtain ⟨c0, c1, c2, c3, c4, c5, c6, c7, c8, c9, c10, c11⟩ := FC.bx
      have HDV := Lib.hid (dV_err (HG.out.bad HZ.out HL.out) (by decide))
      have HBE := Lib.hid (HB0.out.trans (HBL.out.mono (by omega)))
      clear FA FC
      go_wp2
      refine bodyPost_ret (v := .tuple #[Fr.zero.val, .int .i64 (k : Nat), .int .i64 10]) (by rw [results_ctt rfl]; go_simp; try decide) rfl ⟨by rw [HDV.out]; try rfl, ?_⟩
      exact set12 HBE.out (Nat.le_refl _) _ _ _ _ _ _ _ _ _ _ _ _
    | true =>
      have HL := Lib.hid hl
      have hz01 := lvl_01 hl
      clear hl
      rcases hz01 with rfl | rfl
      · rcases k with _ | p
        · have HON := Lib.hid (show o = [] from List.eq_nil_of_length_eq_zero (by have := HG.out.go.leno; omega))
          rw [HON.out] at HG HO
          clear HON
          have HRN := Lib.hid (show rn = 0 by have := HG.out.run; rw [List.take_zero, kd_nil, alk_nil] at this; simpa using this)
          have hrn : rn = 0 := HRN.out
          subst hrn
          have HGN := Lib.hid (HG.out.low (by omega) (by rw [kd_nil]; omega) HZ.out HL.out (fun _ => rfl))
          have HA := Lib.hid (show alk (zs.take (0 + 1)) = 1 by
            rw [take_snoc zs 0 0 HZ.out, List.take_zero]; rfl)
          rw [HA.out] at HGN
          obtain ⟨A6, cap6, rfl, hi6, hc6⟩ := HO.out.il2
          have HI := Lib.hid hi6
          have HL1 := Lib.hid (show (([] : List Int) ++ [0]).length = 1 by rfl)
          clear hi6
          rw [at_zero] at hc
          go_wp2_with fail
          refine (rnext_ok A6 0 cap6 [] _ HI.out (by omega) (by omega) (by simp)).mono ?_
          rintro e w3 ⟨rfl, hb3⟩
          obtain ⟨m3, hm3⟩ := rkd (o := []) (by decide)
          rw [kd_nil, List.length_nil] at hm3
          rw [hm3]
          have HB3 := Lib.hid (nxt5 (HS0.out) HBL.out hb3)
          have HO3 := Lib.hid (HO.out.below hb3)
          have z3 : w3.cell? ad = some (.int .i64 0) := by
            obtain ⟨ad', z', e, hz', hh⟩ := (HRR.out _ HB3.out).at_ hlt
            injection e with e
            subst e
            rw [HZ.out] at hz'
            injection hz' with hz'
            rw [at_zero] at hh
            rw [hz']; exact hh
          clear hm3 hb3 hc HI HO
          go_wp2
          go_quiet (fail)
          have HBQ := Lib.hid (belowN HB3.out nq)
          have HOQ := Lib.hid (show Own (w3.drewN nq) (w.heap.size + 2) _ [] from HO3.out)
          go_wp2_with (first
            | (at_builtin; (refine append_ints2 _ rfl (.tmp 83) (.tmp 88) rfl (w.heap.size + 2) _ [] rfl (HOQ.out.alloc _) _ 1 1 [0] rfl (Arr.new _ .i64 3 [0]).il (by simp) (by have := HS2.out _ HBQ.out; simp at this ⊢; omega) ?_); intro v5 w5 ho5 hg5 _; have HB5 := Lib.hid (push_lit HBQ.out (HS2.out _ HBQ.out) HOQ.out hg5); obtain ⟨A5, cap5, rfl, hi5, hc5⟩ := ho5.il2; have HO5 := Lib.hid ho5; have HI5 := Lib.hid hi5; rw [HL1.out] at HO5 HI5 hc5 ⊢; clear ho5 hg5 hi5)
            | fail)
          go_roundw
          case rel => exact ⟨1, 1, [0], by omega, rfl, rfl, HGN.out, HO5.out, HB5.out⟩
          case measure => simp [intOf]; omega
        · obtain ⟨g6, cap6, rfl, hg6, hc6⟩ := HO.out.shape (HG.out.own (by omega))
          have HI := Lib.hid HO.out.il_at
          have HC6 := Lib.hid hc6
          obtain ⟨y, hy⟩ : ∃ y, zs.getD p 0 = y := ⟨_, rfl⟩
          have HLS := Lib.hid (show lst (zs.take (p + 1)) = y by rw [lst_take (by rw [HLN.out]; omega)]; exact hy)
          have HYC := Lib.hid (show ∀ wx, Below (w.heap.size + 2) w2 wx → wx.cell? (ad.add p) = some (.int .i64 y) from fun wx h => by
            obtain ⟨ad', e, _, hh⟩ := (HRR.out wx h).2 (by omega)
            injection e with e
            subst e
            rw [hh p (by omega), hy])
          have HZC := Lib.hid (show ∀ wx, Below (w.heap.size + 2) w2 wx → wx.cell? ⟨ad.block, ad.off + (p + 1), none⟩ = some (.int .i64 0) from fun wx h => by
            rw [← add_pos ad (Nat.succ_pos p)]
            obtain ⟨ad', z', e, hz', hh⟩ := (HRR.out wx h).at_ hlt
            injection e with e
            subst e
            rw [HZ.out] at hz'
            injection hz' with hz'
            rw [hz']; exact hh)
          have HLE := Lib.hid (Nat.le_of_lt (kd_lt HG.out.go.kd9))
          rw [add_pos ad (Nat.succ_pos p)] at hc
          clear hy hg6
          go_wp2_with fail
          refine (rnext_ok _ o.length cap6 o _ HI.out (by have := HG.out.go.leno; omega) hc6 HG.out.go.lo).mono ?_
          rintro e w3 ⟨rfl, hb3⟩
          obtain ⟨m3, hm3⟩ := rkd HLE.out
          rw [hm3]
          have HB3 := Lib.hid (nxt5 (HS0.out) HBL.out hb3)
          have HO3 := Lib.hid (HO.out.below hb3)
          have HI3 := Lib.hid (HI.out.below hb3)
          have z3 := HZC.out _ HB3.out
          have y3 := HYC.out _ HB3.out
          have hrn := HG.out.six
          clear hm3 hb3 hc HI HO
          by_cases h5 : rn = 5
          · subst h5
            generalize kd o = kk at *
            by_cases hzy : 0 = y
            · have hq : (0 == y) = true := by rw [← hzy]; rfl
              have HBQ := Lib.hid (fun q => belowN HB3.out q)
              have HY := Lib.hid hzy
              clear hzy
              go_wp2
              go_quiet (fail)
              have HBD := Lib.hid (HBQ.out nq)
              have FA := HFA.out _ HBD.out; have FC := HFC.out _ HBD.out
              have fz := fun i => FA.frozen i
              obtain ⟨d0, d1, d2, d3, d4, d5, d6, d7, d8, d9, d10, d11⟩ := FA.bx
              obtain ⟨c0, c1, c2, c3, c4, c5, c6, c7, c8, c9, c10, c11⟩ := FC.bx
              have HDV := Lib.hid (dV_err (HG.out.stuff HZ.out HL.out (by rw [HLS.out]; exact HY.out)) (by decide))
              have HBE := Lib.hid (HB0.out.trans (HBD.out.mono (by omega)))
              clear FA FC
              go_wp2
              refine bodyPost_ret (v := .tuple #[Fr.zero.val, .int .i64 (p + 1 : Nat), .int .i64 17]) (by rw [results_ctt rfl]; go_simp; try decide) rfl ⟨by rw [HDV.out]; try rfl, ?_⟩
              exact set12 HBE.out (Nat.le_refl _) _ _ _ _ _ _ _ _ _ _ _ _
            · have hq : (0 == y) = false := by rw [beq_eq_false_iff_ne]; exact hzy
              have HGN := Lib.hid (HG.out.plus HZ.out HL.out (by rw [HLS.out]; exact hzy))
              clear hzy
              go_wp2
              go_quiet (fail)
              go_wp2
              go_roundw
              case rel => exact ⟨p + 1 + 1, 1, o, by omega, by go_num, rfl, HGN.out, HO3.out, belowN HB3.out _⟩
              case measure => simp [intOf]; omega
          have HR5 := Lib.hid h5
          have hq5 : ((rn : Int) == 5) = false := by rw [beq_eq_false_iff_ne]; omega
          clear h5
          rcases Nat.lt_or_ge (kd o) 5 with hk4 | hk4
          · have HH4 := Lib.hid (show kd o ≤ 4 by omega)
            have HGN := Lib.hid (HG.out.low HR5.out HH4.out HZ.out HL.out (fun h => by omega))
            have HRL := Lib.hid (HG.out.runlow HH4.out)
            have HAN := Lib.hid (alk_next5 (t := zs) (p := p) (by rw [HLN.out]; exact hlt))
            have hk4i : ((kd o : Nat) : Int) ≤ 4 := by omega
            have HL1 := Lib.hid (show (o ++ [0]).length = o.length + 1 by simp)
            have HGD := Lib.hid (show zs.getD (p + 1) 0 = 0 by rw [List.getD_eq_getElem?_getD, HZ.out]; rfl)
            have HYD := Lib.hid HLS.out
            rw [lst_take (by rw [HLN.out]; omega)] at HYD
            rw [HGD.out, HYD.out, ← HRL.out] at HAN
            generalize kd o = kk at *
            clear hk4
            by_cases hzy : 0 = y
            · have hq : (0 == y) = true := by rw [← hzy]; rfl
              have HA := Lib.hid (show alk (zs.take (p + 1 + 1)) = rn + 1 by rw [HAN.out, if_pos hzy])
              rw [HA.out] at HGN
              have hr1 : (rn : Int) ≤ 5 := by omega
              clear hzy
              go_wp2
              go_quiet (fail)
              have HBQ := Lib.hid (belowN HB3.out nq)
              have HOQ := Lib.hid (show Own (w3.drewN nq) (w.heap.size + 2) _ o from HO3.out)
              go_wp2_with (first
                | (at_builtin; (refine append_ints2 _ rfl (.tmp 83) (.tmp 88) rfl (w.heap.size + 2) _ o rfl (HOQ.out.alloc _) _ 1 1 [0] rfl (Arr.new _ .i64 3 [0]).il (by have := HG.out.go.leno; omega) (by have := HS2.out _ HBQ.out; simp at this ⊢; omega) ?_); intro v5 w5 ho5 hg5 _; have HB5 := Lib.hid (push_lit HBQ.out (HS2.out _ HBQ.out) HOQ.out hg5); obtain ⟨A5, cap5, rfl, hi5, hc5⟩ := ho5.il2; have HO5 := Lib.hid ho5; have HI5 := Lib.hid hi5; rw [HL1.out] at HO5 HI5 hc5 ⊢; clear ho5 hg5 hi5)
                | fail)
              go_roundw
              case rel => exact ⟨p + 1 + 1, rn + 1, o ++ [0], by omega, by go_num, by go_num, HGN.out, HO5.out, HB5.out⟩
              case measure => simp [intOf]; omega
            · have hq : (0 == y) = false := by rw [beq_eq_false_iff_ne]; exact hzy
              have HA := Lib.hid (show alk (zs.take (p + 1 + 1)) = 1 by rw [HAN.out, if_neg hzy])
              rw [HA.out] at HGN
              clear hzy
              go_wp2
              go_quiet (fail)
              have HBQ := Lib.hid (belowN HB3.out nq)
              have HOQ := Lib.hid (show Own (w3.drewN nq) (w.heap.size + 2) _ o from HO3.out)
              go_wp2_with (first
                | (at_builtin; (refine append_ints2 _ rfl (.tmp 83) (.tmp 88) rfl (w.heap.size + 2) _ o rfl (HOQ.out.alloc _) _ 1 1 [0] rfl (Arr.new _ .i64 3 [0]).il (by have := HG.out.go.leno; omega) (by have := HS2.out _ HBQ.out; simp at this ⊢; omega) ?_); intro v5 w5 ho5 hg5 _; have HB5 := Lib.hid (push_lit HBQ.out (HS2.out _ HBQ.out) HOQ.out hg5); obtain ⟨A5, cap5, rfl, hi5, hc5⟩ := ho5.il2; have HO5 := Lib.hid ho5; have HI5 := Lib.hid hi5; rw [HL1.out] at HO5 HI5 hc5 ⊢; clear ho5 hg5 hi5)
                | fail)
              go_roundw
              case rel => exact ⟨p + 1 + 1, 1, o ++ [0], by omega, by go_num, rfl, HGN.out, HO5.out, HB5.out⟩
              case measure => simp [intOf]; omega
          have HH5 := Lib.hid hk4
          have h9 := HG.out.go.kd9
          have hkk : kd o = 5 ∨ kd o = 6 ∨ (7 ≤ kd o ∧ kd o ≤ 8) := by omega
          clear hk4 h9
          rcases hkk with hkk | hkk | ⟨hk7, hk8⟩
          · have HH7 := Lib.hid (show kd o ≤ 7 by omega)
            have HKK := Lib.hid hkk
            have HLF := Lib.hid (kd_five hkk)
            have HRO := Lib.hid (rok_five hkk HG.out.go.lo)
            have HRA := Lib.hid (show raout o = ((ahead o : Nat) : Int) by
              have h1 := kd_five hkk
              have h2 : hEnd (hEx o) ≤ ahead o := by unfold ahead; omega
              unfold raout; rw [if_neg (by omega)])
            rw [hkk]
            obtain ⟨q, hq⟩ : ∃ q, ahead o = q := ⟨_, rfl⟩
            have hq3 : q ≤ 103 := by rw [← hq]; exact ahead_le o
            rw [hq] at HLF HRO HRA
            clear hkk hq
            go_wp2_with fail
            refine (rahead_ok _ o.length cap6 o _ HI3.out (by have := HG.out.go.leno; omega) HC6.out HG.out.go.lo).mono ?_
            rintro e w4 ⟨rfl, hb4⟩
            rw [HRA.out]
            have HB4 := Lib.hid (nxt5 (HS0.out) HB3.out hb4)
            have HO4 := Lib.hid (HO3.out.below hb4)
            have HI4 := Lib.hid (HI3.out.below hb4)
            have q1 : (0 : Int) ≤ (q : Int) := by omega
            have q2 : q ≤ cap6 := by have := HLF.out; have := HC6.out; omega
            have q3 : (q : Int) ≤ (cap6 : Int) := by omega
            clear hb4 z3 y3
            go_wp2_with fail
            refine (rs4_ok _ q cap6 (o.take q) _ (HI4.out.take q (by have := HLF.out; omega)) (by omega) (all_take HG.out.go.lo q)).mono ?_
            rintro e wi ⟨A5, cap5, rfl, hi5, hb5⟩
            have HB5 := Lib.hid (nxt5 (HS0.out) HB4.out hb5)
            have HO5 := Lib.hid (HO4.out.below hb5)
            obtain ⟨bs, hbs⟩ : ∃ bs, ofB (csum (o.take q)) 15 = bs := ⟨_, rfl⟩
            rw [hbs] at hi5 HRO
            have HI5 := Lib.hid hi5
            have HBS := Lib.hid hi5.1
            have HOL := Lib.hid (show (o.drop q).length = 15 by rw [List.length_drop]; have := HLF.out; omega)
            clear hb5 hi5 hbs
            go_wp2
            go_loopw [13] (fun i wr => ∃ j : Nat, j ≤ 15 ∧ i = .int .i64 j ∧ (o.drop q).take j = bs.take j ∧ Below wi.heap.size wi wr) (fun i _ => 15 - (intOf i).toNat)
            case atStart => exact ⟨0, Nat.zero_le _, rfl, rfl, Below.refl _ _⟩
            case round =>
              obtain ⟨j, hj, rfl, ht, hbj⟩ := hrel
              have HT := Lib.hid ht
              have HBJ := Lib.hid hbj
              have HB6 := Lib.hid (nxt5 (HS0.out) HB5.out hbj)
              have HO6 := Lib.hid (HO5.out.below hbj)
              by_cases hj15 : j < 15
              · obtain ⟨ae, b, rfl, hbz, hbc⟩ := (HI5.out.below hbj).at_ hj15
                have hac := HO6.out.cell (j := q + j) (by have := HLF.out; omega)
                obtain ⟨a, ha⟩ : ∃ a, o.getD (q + j) 0 = a := ⟨_, rfl⟩
                have HAZ := Lib.hid (show (o.drop q)[j]? = some a by rw [List.getElem?_drop, ← ha]; exact getD_some o (q + j) (by have := HLF.out; omega))
                have HBZ := Lib.hid hbz
                rw [ha] at hac
                have l1 : (q : Int) + (j : Int) < (o.length : Int) := by have := HLF.out; omega
                have l2 : (0 : Int) ≤ (q : Int) + (j : Int) := by omega
                have l3 : q + j < o.length := by have := HLF.out; omega
                have l4 : (q : Int) ≤ 103 := by omega
                clear hbz ha ht hbj
                cases hab : (a != b)
                · go_wp2
                  go_quiet (fail)
                  go_wp2
                  go_roundw
                  case rel => exact ⟨j + 1, by omega, by go_num, take_same HT.out HAZ.out HBZ.out (by simpa using hab), belowN HBJ.out _⟩
                  case measure => simp [intOf]; omega
                · have HRF := Lib.hid (show rok o = false by rw [HRO.out]; exact (beq_far HAZ.out HBZ.out hab).symm)
                  have HWE := Lib.hid (wr_sum (z := 0) HKK.out HRF.out)
                  have HBQ := Lib.hid (fun q => belowN HB6.out q)
                  go_wp2
                  go_quiet (fail)
                  have HBD := Lib.hid (HBQ.out nq)
                  have FA := HFA.out _ HBD.out; have FC := HFC.out _ HBD.out
                  have fz := fun i => FA.frozen i
                  obtain ⟨d0, d1, d2, d3, d4, d5, d6, d7, d8, d9, d10, d11⟩ := FA.bx
                  obtain ⟨c0, c1, c2, c3, c4, c5, c6, c7, c8, c9, c10, c11⟩ := FC.bx
                  have HDV := Lib.hid (dV_err (HG.out.wrong HR5.out HZ.out HL.out HWE.out (by decide)) (by decide))
                  have HBE := Lib.hid (HB0.out.trans (HBD.out.mono (by omega)))
                  clear FA FC
                  go_wp2
                  refine bodyPost_ret (v := .tuple #[Fr.zero.val, .int .i64 (p + 1 : Nat), .int .i64 18]) (by rw [results_ctt rfl]; go_simp; try decide) rfl ⟨by rw [HDV.out]; try rfl, ?_⟩
                  exact set12 HBE.out (Nat.le_refl _) _ _ _ _ _ _ _ _ _ _ _ _
              · have HRT := Lib.hid (show rok o = true by rw [HRO.out]; exact (beq_all HT.out HOL.out HBS.out (by omega)).symm)
                have z6 := HZC.out _ HB6.out
                clear ht hbj
                have HWE := Lib.hid (wr_del0 HKK.out HRT.out)
                have FA := HFA.out _ HB6.out; have FC := HFC.out _ HB6.out
                have fz := fun i => FA.frozen i
                obtain ⟨d0, d1, d2, d3, d4, d5, d6, d7, d8, d9, d10, d11⟩ := FA.bx
                obtain ⟨c0, c1, c2, c3, c4, c5, c6, c7, c8, c9, c10, c11⟩ := FC.bx
                have HDV := Lib.hid (dV_err (HG.out.wrong HR5.out HZ.out HL.out HWE.out (by decide)) (by decide))
                have HBE := Lib.hid (HB0.out.trans (HB6.out.mono (by omega)))
                clear FA FC
                go_wp2
                refine bodyPost_ret (v := .tuple #[Fr.zero.val, .int .i64 (p + 1 : Nat), .int .i64 11]) (by rw [results_ctt rfl]; go_simp; try decide) rfl ⟨by rw [HDV.out]; try rfl, ?_⟩
                exact set12 HBE.out (Nat.le_refl _) _ _ _ _ _ _ _ _ _ _ _ _
          · have HH7 := Lib.hid (show kd o ≤ 7 by omega)
            have HKK := Lib.hid hkk
            rw [hkk]
            clear hkk
            have HWR := Lib.hid (wr_six (z := 0) HKK.out)
            have HL1 := Lib.hid (show (o ++ [0]).length = o.length + 1 by simp)
            have HA1 := Lib.hid (show ∀ y ∈ o ++ [0], lvl y = true from all_push HG.out.go.lo rfl)
            have HK1 := Lib.hid (rkd (o := o ++ [0]) (by rw [HL1.out]; exact kd_next HG.out.go.kd9))
            go_wp2_with (first
              | (at_builtin; (refine append_ints2 _ rfl (.tmp 126) (.tmp 131) rfl (w.heap.size + 2) _ o rfl (HO3.out.alloc _) _ 1 1 [0] rfl (Arr.new _ .i64 3 [0]).il (by have := HG.out.go.leno; omega) (by have := HS2.out _ HB3.out; simp at this ⊢; omega) ?_); intro v5 w5 ho5 hg5 _; have HB5 := Lib.hid (push_lit HB3.out (HS2.out _ HB3.out) HO3.out hg5); obtain ⟨A5, cap5, rfl, hi5, hc5⟩ := ho5.il2; have HO5 := Lib.hid ho5; have HI5 := Lib.hid hi5; rw [HL1.out] at HO5 HI5 hc5 ⊢; clear ho5 hg5 hi5)
              | fail)
            refine (rnext_ok A5 (o.length + 1) cap5 (o ++ [0]) _ HI5.out (by have := HG.out.go.leno; omega) hc5 HA1.out).mono ?_
            rintro e w6 ⟨rfl, hb6⟩
            obtain ⟨m6, hm6⟩ := HK1.out
            rw [HL1.out] at hm6
            rw [hm6]
            have HB6 := Lib.hid (nxt5 (HS0.out) HB5.out hb6)
            have HO6 := Lib.hid (HO5.out.below hb6)
            have HI6 := Lib.hid (HI5.out.below hb6)
            clear hm6 hb6 HI5 HO5
            have HKU := Lib.hid (kd_up (z := 0) HG.out.go.kd9 HH5.out (by have := HH7.out; omega))
            have HGN := Lib.hid (HG.out.high HR5.out HH5.out HZ.out HL.out HWR.out (by have := HKU.out; have := HH7.out; omega))
            have hq9 : (((kd (o ++ [0]) : Nat) : Int) == 9) = false := by have := HKU.out; have := HH7.out; rw [beq_eq_false_iff_ne]; omega
            generalize kd (o ++ [0]) = k1 at *
            go_wp2
            go_roundw
            case rel => exact ⟨p + 1 + 1, 0, o ++ [0], by omega, by go_num, rfl, HGN.out, by have h := HO6.out; exact h, HB6.out⟩
            case measure => simp [intOf]; omega
          · have HKK := Lib.hid (show kd o = 7 ∨ kd o = 8 by omega)
            have k5 : (((kd o : Nat) : Int) == 5) = false := by rw [beq_eq_false_iff_ne]; omega
            have k6 : (((kd o : Nat) : Int) != 6) = true := by rw [bne_iff_ne]; omega
            have k4 : (7 : Int) ≤ ((kd o : Nat) : Int) := by omega
            obtain ⟨kk, hkk⟩ : ∃ kk, kd o = kk := ⟨_, rfl⟩
            rw [hkk] at k4 k5 k6 hk7 hk8 ⊢
            clear hkk
            have HWE := Lib.hid (wr_end0 HKK.out)
            have FA := HFA.out _ HB3.out; have FC := HFC.out _ HB3.out
            have fz := fun i => FA.frozen i
            obtain ⟨d0, d1, d2, d3, d4, d5, d6, d7, d8, d9, d10, d11⟩ := FA.bx
            obtain ⟨c0, c1, c2, c3, c4, c5, c6, c7, c8, c9, c10, c11⟩ := FC.bx
            have HDV := Lib.hid (dV_err (HG.out.wrong HR5.out HZ.out HL.out HWE.out (by decide)) (by decide))
            have HBE := Lib.hid (HB0.out.trans (HB3.out.mono (by omega)))
            clear FA FC
            go_wp2
            refine bodyPost_ret (v := .tuple #[Fr.zero.val, .int .i64 (p + 1 : Nat), .int .i64 11]) (by rw [results_ctt rfl]; go_simp; try decide) rfl ⟨by rw [HDV.out]; try rfl, ?_⟩
            exact set12 HBE.out (Nat.le_refl _) _ _ _ _ _ _ _ _ _ _ _ _
      · rcases k with _ | p
        · rw [at_zero] at hc
          have FA := HFA.out _ HBL.out; have FC := HFC.out _ HBL.out
          have fz := fun i => FA.frozen i
          obtain ⟨d0, d1, d2, d3, d4, d5, d6, d7, d8, d9, d10, d11⟩ := FA.bx
          obtain ⟨c0, c1, c2, c3, c4, c5, c6, c7, c8, c9, c10, c11⟩ := FC.bx
          have HDV := Lib.hid (dV_err (HG.out.first HZ.out) (by decide))
          have HBE := Lib.hid (HB0.out.trans (HBL.out.mono (by omega)))
          clear FA FC
          go_wp2
          refine bodyPost_ret (v := .tuple #[Fr.zero.val, .int .i64 (0 : Nat), .int .i64 11]) (by rw [results_ctt rfl]; go_simp; try decide) rfl ⟨by rw [HDV.out]; try rfl, ?_⟩
          exact set12 HBE.out (Nat.le_refl _) _ _ _ _ _ _ _ _ _ _ _ _
        · obtain ⟨g6, cap6, rfl, hg6, hc6⟩ := HO.out.shape (HG.out.own (by omega))
          have HI := Lib.hid HO.out.il_at
          have HC6 := Lib.hid hc6
          obtain ⟨y, hy⟩ : ∃ y, zs.getD p 0 = y := ⟨_, rfl⟩
          have HLS := Lib.hid (show lst (zs.take (p + 1)) = y by rw [lst_take (by rw [HLN.out]; omega)]; exact hy)
          have HYC := Lib.hid (show ∀ wx, Below (w.heap.size + 2) w2 wx → wx.cell? (ad.add p) = some (.int .i64 y) from fun wx h => by
            obtain ⟨ad', e, _, hh⟩ := (HRR.out wx h).2 (by omega)
            injection e with e
            subst e
            rw [hh p (by omega), hy])
          have HZC := Lib.hid (show ∀ wx, Below (w.heap.size + 2) w2 wx → wx.cell? ⟨ad.block, ad.off + (p + 1), none⟩ = some (.int .i64 1) from fun wx h => by
            rw [← add_pos ad (Nat.succ_pos p)]
            obtain ⟨ad', z', e, hz', hh⟩ := (HRR.out wx h).at_ hlt
            injection e with e
            subst e
            rw [HZ.out] at hz'
            injection hz' with hz'
            rw [hz']; exact hh)
          have HLE := Lib.hid (Nat.le_of_lt (kd_lt HG.out.go.kd9))
          rw [add_pos ad (Nat.succ_pos p)] at hc
          clear hy hg6
          go_wp2_with fail
          refine (rnext_ok _ o.length cap6 o _ HI.out (by have := HG.out.go.leno; omega) hc6 HG.out.go.lo).mono ?_
          rintro e w3 ⟨rfl, hb3⟩
          obtain ⟨m3, hm3⟩ := rkd HLE.out
          rw [hm3]
          have HB3 := Lib.hid (nxt5 (HS0.out) HBL.out hb3)
          have HO3 := Lib.hid (HO.out.below hb3)
          have HI3 := Lib.hid (HI.out.below hb3)
          have z3 := HZC.out _ HB3.out
          have y3 := HYC.out _ HB3.out
          have hrn := HG.out.six
          clear hm3 hb3 hc HI HO
          by_cases h5 : rn = 5
          · subst h5
            generalize kd o = kk at *
            by_cases hzy : 1 = y
            · have hq : (1 == y) = true := by rw [← hzy]; rfl
              have HBQ := Lib.hid (fun q => belowN HB3.out q)
              have HY := Lib.hid hzy
              clear hzy
              go_wp2
              go_quiet (fail)
              have HBD := Lib.hid (HBQ.out nq)
              have FA := HFA.out _ HBD.out; have FC := HFC.out _ HBD.out
              have fz := fun i => FA.frozen i
              obtain ⟨d0, d1, d2, d3, d4, d5, d6, d7, d8, d9, d10, d11⟩ := FA.bx
              obtain ⟨c0, c1, c2, c3, c4, c5, c6, c7, c8, c9, c10, c11⟩ := FC.bx
              have HDV := Lib.hid (dV_err (HG.out.stuff HZ.out HL.out (by rw [HLS.out]; exact HY.out)) (by decide))
              have HBE := Lib.hid (HB0.out.trans (HBD.out.mono (by omega)))
              clear FA FC
              go_wp2
              refine bodyPost_ret (v := .tuple #[Fr.zero.val, .int .i64 (p + 1 : Nat), .int .i64 17]) (by rw [results_ctt rfl]; go_simp; try decide) rfl ⟨by rw [HDV.out]; try rfl, ?_⟩
              exact set12 HBE.out (Nat.le_refl _) _ _ _ _ _ _ _ _ _ _ _ _
            · have hq : (1 == y) = false := by rw [beq_eq_false_iff_ne]; exact hzy
              have HGN := Lib.hid (HG.out.plus HZ.out HL.out (by rw [HLS.out]; exact hzy))
              clear hzy
              go_wp2
              go_quiet (fail)
              go_wp2
              go_roundw
              case rel => exact ⟨p + 1 + 1, 1, o, by omega, by go_num, rfl, HGN.out, HO3.out, belowN HB3.out _⟩
              case measure => simp [intOf]; omega
          have HR5 := Lib.hid h5
          have hq5 : ((rn : Int) == 5) = false := by rw [beq_eq_false_iff_ne]; omega
          clear h5
          rcases Nat.lt_or_ge (kd o) 5 with hk4 | hk4
          · have HH4 := Lib.hid (show kd o ≤ 4 by omega)
            have HGN := Lib.hid (HG.out.low HR5.out HH4.out HZ.out HL.out (fun h => by omega))
            have HRL := Lib.hid (HG.out.runlow HH4.out)
            have HAN := Lib.hid (alk_next5 (t := zs) (p := p) (by rw [HLN.out]; exact hlt))
            have hk4i : ((kd o : Nat) : Int) ≤ 4 := by omega
            have HL1 := Lib.hid (show (o ++ [1]).length = o.length + 1 by simp)
            have HGD := Lib.hid (show zs.getD (p + 1) 0 = 1 by rw [List.getD_eq_getElem?_getD, HZ.out]; rfl)
            have HYD := Lib.hid HLS.out
            rw [lst_take (by rw [HLN.out]; omega)] at HYD
            rw [HGD.out, HYD.out, ← HRL.out] at HAN
            generalize kd o = kk at *
            clear hk4
            by_cases hzy : 1 = y
            · have hq : (1 == y) = true := by rw [← hzy]; rfl
              have HA := Lib.hid (show alk (zs.take (p + 1 + 1)) = rn + 1 by rw [HAN.out, if_pos hzy])
              rw [HA.out] at HGN
              have hr1 : (rn : Int) ≤ 5 := by omega
              clear hzy
              go_wp2
              go_quiet (fail)
              have HBQ := Lib.hid (belowN HB3.out nq)
              have HOQ := Lib.hid (show Own (w3.drewN nq) (w.heap.size + 2) _ o from HO3.out)
              go_wp2_with (first
                | (at_builtin; (refine append_ints2 _ rfl (.tmp 83) (.tmp 88) rfl (w.heap.size + 2) _ o rfl (HOQ.out.alloc _) _ 1 1 [1] rfl (Arr.new _ .i64 3 [1]).il (by have := HG.out.go.leno; omega) (by have := HS2.out _ HBQ.out; simp at this ⊢; omega) ?_); intro v5 w5 ho5 hg5 _; have HB5 := Lib.hid (push_lit HBQ.out (HS2.out _ HBQ.out) HOQ.out hg5); obtain ⟨A5, cap5, rfl, hi5, hc5⟩ := ho5.il2; have HO5 := Lib.hid ho5; have HI5 := Lib.hid hi5; rw [HL1.out] at HO5 HI5 hc5 ⊢; clear ho5 hg5 hi5)
                | fail)
              go_roundw
              case rel => exact ⟨p + 1 + 1, rn + 1, o ++ [1], by omega, by go_num, by go_num, HGN.out, HO5.out, HB5.out⟩
              case measure => simp [intOf]; omega
            · have hq : (1 == y) = false := by rw [beq_eq_false_iff_ne]; exact hzy
              have HA := Lib.hid (show alk (zs.take (p + 1 + 1)) = 1 by rw [HAN.out, if_neg hzy])
              rw [HA.out] at HGN
              clear hzy
              go_wp2
              go_quiet (fail)
              have HBQ := Lib.hid (belowN HB3.out nq)
              have HOQ := Lib.hid (show Own (w3.drewN nq) (w.heap.size + 2) _ o from HO3.out)
              go_wp2_with (first
                | (at_builtin; (refine append_ints2 _ rfl (.tmp 83) (.tmp 88) rfl (w.heap.size + 2) _ o rfl (HOQ.out.alloc _) _ 1 1 [1] rfl (Arr.new _ .i64 3 [1]).il (by have := HG.out.go.leno; omega) (by have := HS2.out _ HBQ.out; simp at this ⊢; omega) ?_); intro v5 w5 ho5 hg5 _; have HB5 := Lib.hid (push_lit HBQ.out (HS2.out _ HBQ.out) HOQ.out hg5); obtain ⟨A5, cap5, rfl, hi5, hc5⟩ := ho5.il2; have HO5 := Lib.hid ho5; have HI5 := Lib.hid hi5; rw [HL1.out] at HO5 HI5 hc5 ⊢; clear ho5 hg5 hi5)
                | fail)
              go_roundw
              case rel => exact ⟨p + 1 + 1, 1, o ++ [1], by omega, by go_num, rfl, HGN.out, HO5.out, HB5.out⟩
              case measure => simp [intOf]; omega
          have HH5 := Lib.hid hk4
          have h9 := HG.out.go.kd9
          have hkk : kd o = 5 ∨ kd o = 6 ∨ (7 ≤ kd o ∧ kd o ≤ 8) := by omega
          clear hk4 h9
          rcases hkk with hkk | hkk | ⟨hk7, hk8⟩
          · have HH7 := Lib.hid (show kd o ≤ 7 by omega)
            have HKK := Lib.hid hkk
            have HLF := Lib.hid (kd_five hkk)
            have HRO := Lib.hid (rok_five hkk HG.out.go.lo)
            have HRA := Lib.hid (show raout o = ((ahead o : Nat) : Int) by
              have h1 := kd_five hkk
              have h2 : hEnd (hEx o) ≤ ahead o := by unfold ahead; omega
              unfold raout; rw [if_neg (by omega)])
            rw [hkk]
            obtain ⟨q, hq⟩ : ∃ q, ahead o = q := ⟨_, rfl⟩
            have hq3 : q ≤ 103 := by rw [← hq]; exact ahead_le o
            rw [hq] at HLF HRO HRA
            clear hkk hq
            go_wp2_with fail
            refine (rahead_ok _ o.length cap6 o _ HI3.out (by have := HG.out.go.leno; omega) HC6.out HG.out.go.lo).mono ?_
            rintro e w4 ⟨rfl, hb4⟩
            rw [HRA.out]
            have HB4 := Lib.hid (nxt5 (HS0.out) HB3.out hb4)
            have HO4 := Lib.hid (HO3.out.below hb4)
            have HI4 := Lib.hid (HI3.out.below hb4)
            have q1 : (0 : Int) ≤ (q : Int) := by omega
            have q2 : q ≤ cap6 := by have := HLF.out; have := HC6.out; omega
            have q3 : (q : Int) ≤ (cap6 : Int) := by omega
            clear hb4 z3 y3
            go_wp2_with fail
            refine (rs4_ok _ q cap6 (o.take q) _ (HI4.out.take q (by have := HLF.out; omega)) (by omega) (all_take HG.out.go.lo q)).mono ?_
            rintro e wi ⟨A5, cap5, rfl, hi5, hb5⟩
            have HB5 := Lib.hid (nxt5 (HS0.out) HB4.out hb5)
            have HO5 := Lib.hid (HO4.out.below hb5)
            obtain ⟨bs, hbs⟩ : ∃ bs, ofB (csum (o.take q)) 15 = bs := ⟨_, rfl⟩
            rw [hbs] at hi5 HRO
            have HI5 := Lib.hid hi5
            have HBS := Lib.hid hi5.1
            have HOL := Lib.hid (show (o.drop q).length = 15 by rw [List.length_drop]; have := HLF.out; omega)
            clear hb5 hi5 hbs
            go_wp2
            go_loopw [13] (fun i wr => ∃ j : Nat, j ≤ 15 ∧ i = .int .i64 j ∧ (o.drop q).take j = bs.take j ∧ Below wi.heap.size wi wr) (fun i _ => 15 - (intOf i).toNat)
            case atStart => exact ⟨0, Nat.zero_le _, rfl, rfl, Below.refl _ _⟩
            case round =>
              obtain ⟨j, hj, rfl, ht, hbj⟩ := hrel
              have HT := Lib.hid ht
              have HBJ := Lib.hid hbj
              have HB6 := Lib.hid (nxt5 (HS0.out) HB5.out hbj)
              have HO6 := Lib.hid (HO5.out.below hbj)
              by_cases hj15 : j < 15
              · obtain ⟨ae, b, rfl, hbz, hbc⟩ := (HI5.out.below hbj).at_ hj15
                have hac := HO6.out.cell (j := q + j) (by have := HLF.out; omega)
                obtain ⟨a, ha⟩ : ∃ a, o.getD (q + j) 0 = a := ⟨_, rfl⟩
                have HAZ := Lib.hid (show (o.drop q)[j]? = some a by rw [List.getElem?_drop, ← ha]; exact getD_some o (q + j) (by have := HLF.out; omega))
                have HBZ := Lib.hid hbz
                rw [ha] at hac
                have l1 : (q : Int) + (j : Int) < (o.length : Int) := by have := HLF.out; omega
                have l2 : (0 : Int) ≤ (q : Int) + (j : Int) := by omega
                have l3 : q + j < o.length := by have := HLF.out; omega
                have l4 : (q : Int) ≤ 103 := by omega
                clear hbz ha ht hbj
                cases hab : (a != b)
                · go_wp2
                  go_quiet (fail)
                  go_wp2
                  go_roundw
                  case rel => exact ⟨j + 1, by omega, by go_num, take_same HT.out HAZ.out HBZ.out (by simpa using hab), belowN HBJ.out _⟩
                  case measure => simp [intOf]; omega
                · have HRF := Lib.hid (show rok o = false by rw [HRO.out]; exact (beq_far HAZ.out HBZ.out hab).symm)
                  have HWE := Lib.hid (wr_sum (z := 1) HKK.out HRF.out)
                  have HBQ := Lib.hid (fun q => belowN HB6.out q)
                  go_wp2
                  go_quiet (fail)
                  have HBD := Lib.hid (HBQ.out nq)
                  have FA := HFA.out _ HBD.out; have FC := HFC.out _ HBD.out
                  have fz := fun i => FA.frozen i
                  obtain ⟨d0, d1, d2, d3, d4, d5, d6, d7, d8, d9, d10, d11⟩ := FA.bx
                  obtain ⟨c0, c1, c2, c3, c4, c5, c6, c7, c8, c9, c10, c11⟩ := FC.bx
                  have HDV := Lib.hid (dV_err (HG.out.wrong HR5.out HZ.out HL.out HWE.out (by decide)) (by decide))
                  have HBE := Lib.hid (HB0.out.trans (HBD.out.mono (by omega)))
                  clear FA FC
                  go_wp2
                  refine bodyPost_ret (v := .tuple #[Fr.zero.val, .int .i64 (p + 1 : Nat), .int .i64 18]) (by rw [results_ctt rfl]; go_simp; try decide) rfl ⟨by rw [HDV.out]; try rfl, ?_⟩
                  exact set12 HBE.out (Nat.le_refl _) _ _ _ _ _ _ _ _ _ _ _ _
              · have HRT := Lib.hid (show rok o = true by rw [HRO.out]; exact (beq_all HT.out HOL.out HBS.out (by omega)).symm)
                have z6 := HZC.out _ HB6.out
                clear ht hbj
                have HWR := Lib.hid (wr_del1 HKK.out HRT.out)
                have HL1 := Lib.hid (show (o ++ [1]).length = o.length + 1 by simp)
                have HA1 := Lib.hid (show ∀ y ∈ o ++ [1], lvl y = true from all_push HG.out.go.lo rfl)
                have HK1 := Lib.hid (rkd (o := o ++ [1]) (by rw [HL1.out]; exact kd_next HG.out.go.kd9))
                go_wp2_with (first
                  | (at_builtin; (refine append_ints2 _ rfl (.tmp 126) (.tmp 131) rfl (w.heap.size + 2) _ o rfl (HO6.out.alloc _) _ 1 1 [1] rfl (Arr.new _ .i64 3 [1]).il (by have := HG.out.go.leno; omega) (by have := HS2.out _ HB6.out; simp at this ⊢; omega) ?_); intro v5 w5 ho5 hg5 _; have HB5 := Lib.hid (push_lit HB6.out (HS2.out _ HB6.out) HO6.out hg5); obtain ⟨A5, cap5, rfl, hi5, hc5⟩ := ho5.il2; have HO5 := Lib.hid ho5; have HI5 := Lib.hid hi5; rw [HL1.out] at HO5 HI5 hc5 ⊢; clear ho5 hg5 hi5)
                  | fail)
                refine (rnext_ok A5 (o.length + 1) cap5 (o ++ [1]) _ HI5.out (by have := HG.out.go.leno; omega) hc5 HA1.out).mono ?_
                rintro e w6 ⟨rfl, hb6⟩
                obtain ⟨m6, hm6⟩ := HK1.out
                rw [HL1.out] at hm6
                rw [hm6]
                have HB8 := Lib.hid (nxt5 (HS0.out) HB5.out hb6)
                have HO8 := Lib.hid (HO5.out.below hb6)
                have HI6 := Lib.hid (HI5.out.below hb6)
                clear hm6 hb6 HI5 HO5
                have HKU := Lib.hid (kd_up (z := 1) HG.out.go.kd9 HH5.out (by have := HH7.out; omega))
                have HGN := Lib.hid (HG.out.high HR5.out HH5.out HZ.out HL.out HWR.out (by have := HKU.out; have := HH7.out; omega))
                have hq9 : (((kd (o ++ [1]) : Nat) : Int) == 9) = false := by have := HKU.out; have := HH7.out; rw [beq_eq_false_iff_ne]; omega
                generalize kd (o ++ [1]) = k1 at *
                go_wp2
                go_roundw
                case rel => exact ⟨p + 1 + 1, 0, o ++ [1], by omega, by go_num, rfl, HGN.out, by have h := HO8.out; exact h, HB8.out⟩
                case measure => simp [intOf]; omega
          · have HH7 := Lib.hid (show kd o ≤ 7 by omega)
            have HKK := Lib.hid hkk
            rw [hkk]
            clear hkk
            have HWR := Lib.hid (wr_six (z := 1) HKK.out)
            have HL1 := Lib.hid (show (o ++ [1]).length = o.length + 1 by simp)
            have HA1 := Lib.hid (show ∀ y ∈ o ++ [1], lvl y = true from all_push HG.out.go.lo rfl)
            have HK1 := Lib.hid (rkd (o := o ++ [1]) (by rw [HL1.out]; exact kd_next HG.out.go.kd9))
            go_wp2_with (first
              | (at_builtin; (refine append_ints2 _ rfl (.tmp 126) (.tmp 131) rfl (w.heap.size + 2) _ o rfl (HO3.out.alloc _) _ 1 1 [1] rfl (Arr.new _ .i64 3 [1]).il (by have := HG.out.go.leno; omega) (by have := HS2.out _ HB3.out; simp at this ⊢; omega) ?_); intro v5 w5 ho5 hg5 _; have HB5 := Lib.hid (push_lit HB3.out (HS2.out _ HB3.out) HO3.out hg5); obtain ⟨A5, cap5, rfl, hi5, hc5⟩ := ho5.il2; have HO5 := Lib.hid ho5; have HI5 := Lib.hid hi5; rw [HL1.out] at HO5 HI5 hc5 ⊢; clear ho5 hg5 hi5)
              | fail)
            refine (rnext_ok A5 (o.length + 1) cap5 (o ++ [1]) _ HI5.out (by have := HG.out.go.leno; omega) hc5 HA1.out).mono ?_
            rintro e w6 ⟨rfl, hb6⟩
            obtain ⟨m6, hm6⟩ := HK1.out
            rw [HL1.out] at hm6
            rw [hm6]
            have HB6 := Lib.hid (nxt5 (HS0.out) HB5.out hb6)
            have HO6 := Lib.hid (HO5.out.below hb6)
            have HI6 := Lib.hid (HI5.out.below hb6)
            clear hm6 hb6 HI5 HO5
            have HKU := Lib.hid (kd_up (z := 1) HG.out.go.kd9 HH5.out (by have := HH7.out; omega))
            have HGN := Lib.hid (HG.out.high HR5.out HH5.out HZ.out HL.out HWR.out (by have := HKU.out; have := HH7.out; omega))
            have hq9 : (((kd (o ++ [1]) : Nat) : Int) == 9) = false := by have := HKU.out; have := HH7.out; rw [beq_eq_false_iff_ne]; omega
            generalize kd (o ++ [1]) = k1 at *
            go_wp2
            go_roundw
            case rel => exact ⟨p + 1 + 1, 0, o ++ [1], by omega, by go_num, rfl, HGN.out, by have h := HO6.out; exact h, HB6.out⟩
            case measure => simp [intOf]; omega
          · have HKK := Lib.hid (show kd o = 7 ∨ kd o = 8 by omega)
            have k5 : (((kd o : Nat) : Int) == 5) = false := by rw [beq_eq_false_iff_ne]; omega
            have k6 : (((kd o : Nat) : Int) != 6) = true := by rw [bne_iff_ne]; omega
            have k4 : (7 : Int) ≤ ((kd o : Nat) : Int) := by omega
            obtain ⟨kk, hkk⟩ : ∃ kk, kd o = kk := ⟨_, rfl⟩
            rw [hkk] at k4 k5 k6 hk7 hk8 ⊢
            clear hkk
            have HWR := Lib.hid (wr_end1 HKK.out)
            have HL1 := Lib.hid (show (o ++ [1]).length = o.length + 1 by simp)
            have HA1 := Lib.hid (show ∀ y ∈ o ++ [1], lvl y = true from all_push HG.out.go.lo rfl)
            have HK1 := Lib.hid (rkd (o := o ++ [1]) (by rw [HL1.out]; exact kd_next HG.out.go.kd9))
            go_wp2_with (first
              | (at_builtin; (refine append_ints2 _ rfl (.tmp 126) (.tmp 131) rfl (w.heap.size + 2) _ o rfl (HO3.out.alloc _) _ 1 1 [1] rfl (Arr.new _ .i64 3 [1]).il (by have := HG.out.go.leno; omega) (by have := HS2.out _ HB3.out; simp at this ⊢; omega) ?_); intro v5 w5 ho5 hg5 _; have HB5 := Lib.hid (push_lit HB3.out (HS2.out _ HB3.out) HO3.out hg5); obtain ⟨A5, cap5, rfl, hi5, hc5⟩ := ho5.il2; have HO5 := Lib.hid ho5; have HI5 := Lib.hid hi5; rw [HL1.out] at HO5 HI5 hc5 ⊢; clear ho5 hg5 hi5)
              | fail)
            refine (rnext_ok A5 (o.length + 1) cap5 (o ++ [1]) _ HI5.out (by have := HG.out.go.leno; omega) hc5 HA1.out).mono ?_
            rintro e w6 ⟨rfl, hb6⟩
            obtain ⟨m6, hm6⟩ := HK1.out
            rw [HL1.out] at hm6
            rw [hm6]
            have HB6 := Lib.hid (nxt5 (HS0.out) HB5.out hb6)
            have HO6 := Lib.hid (HO5.out.below hb6)
            have HI6 := Lib.hid (HI5.out.below hb6)
            clear hm6 hb6 HI5 HO5
            by_cases h9 : kd (o ++ [1]) = 9
            · have HDC := Lib.hid (HG.out.fin HR5.out HZ.out HL.out HWR.out h9)
              have HDV := Lib.hid (dV_fin HDC.out)
              have HE0 := Lib.hid (show dE zs = 0 by unfold dE; rw [HDC.out])
              have HFO := Lib.hid (show fout (o ++ [1]) = .tuple #[(frm (o ++ [1])).val, .int .i64 0] by
                have h := whole_fout (d_whole HE0.out)
                have e : dO zs = o ++ [1] := by unfold dO; rw [HDC.out]
                rwa [e] at h)
              rw [h9]
              clear h9
              go_wp2_with fail
              refine (rframe_any A5 (o.length + 1) cap5 (o ++ [1]) _ HI6.out (by have := HG.out.go.leno; omega) hc5 HA1.out).mono ?_
              rintro e w7 ⟨rfl, hb7⟩
              rw [HFO.out]
              have HB7 := Lib.hid (nxt5 (HS0.out) HB6.out hb7)
              have hs7 := HS2.out _ HB7.out
              have FA := HFA.out _ HB7.out
              have fz := fun i => FA.frozen i
              have hl7 := FA.lt
              obtain ⟨d0, d1, d2, d3, d4, d5, d6, d7, d8, d9, d10, d11⟩ := FA.bx
              have hne : w7.heap.size ≠ w.heap.size := by omega
              have HBE := Lib.hid (HB0.out.trans (HB7.out.mono (by omega)))
              generalize frm (o ++ [1]) = f at *
              clear FA hb7 hs7
              go_wp2
              refine bodyPost_ret (v := .tuple #[f.val, .int .i64 (p + 1 + 1 : Nat), .int .i64 0]) (by rw [results_ctt rfl]; go_simp; try decide) rfl ⟨by rw [HDV.out], ?_⟩
              exact (set12 HBE.out (Nat.le_refl _) _ _ _ _ _ _ _ _ _ _ _ _).alloc (by simp only [World.size_setCell]; exact HBE.out.size) _
            · have HGN := Lib.hid (HG.out.high HR5.out HH5.out HZ.out HL.out HWR.out h9)
              have hk9 : ((kd (o ++ [1]) : Nat) : Int) ≠ 9 := by omega
              have hq9 : (((kd (o ++ [1]) : Nat) : Int) == 9) = false := by simpa using hk9
              generalize kd (o ++ [1]) = k1 at *
              clear h9 hk9
              go_wp2
              go_roundw
              case rel => exact ⟨p + 1 + 1, 0, o ++ [1], by omega, by go_num, rfl, HGN.out, by have h := HO6.out; exact h, HB6.out⟩
              case measure => simp [intOf]; omega
end Go.Proofs.Ytffhhegpkejdgaa
