/- The walk of the law CtlKeeps. -/
import Derived.Test.YtenfcbmeokenaaaGreatY5
import Derived.Test.YtenfcbmeokenaaaGreatY6
namespace Go.Proofs.YtenfcbmeokenaaaGreat
set_option maxRecDepth 20000
open Go.RowKit
set_option linter.unusedSimpArgs false

set_option maxHeartbeats 400000 in
theorem keeps_out (A : Option Addr) (n c : Nat) (w : World) (h : 500 < n) :
    Calls Tryz.prog 7 #[.slice A n c] w fun e w' => e = .returned (.bool true) ∧ Below w.heap.size w w' := by
  have g1 : (500 : Int) < (n : Int) := by omega
  clear h
  go_enter Tryz.func7, Tryz.ntmps7
  go_wp2_with fail
  refine (awake10 _).mono ?_
  rintro e w1 ⟨rfl, hb1⟩
  go_wp2
  go_ret
  exact ⟨rfl, hb1⟩

/-- What is true behind k turns: what was sent, and what is left. -/
structure Kp (k : Nat) (nd : Nd) (sent : Nat) (left : List Fr) : Prop where
  s : Sound k nd
  a : Alk2 left nd.q
  l : left.length = nd.q.length
  b : sent ≤ k
theorem kp_new : Kp 0 Nd.new 0 [] := ⟨sound_new, fun _ => rfl, rfl, Nat.le_refl _⟩
theorem Kp.put {k : Nat} {nd : Nd} {sent : Nat} {left : List Fr} (h : Kp k nd sent left) (f : Fr) (hf : f.wf) (hp : pL 16 f nd.q = ins f nd.q) : Kp k { nd with q := pL 16 f nd.q } sent (left ++ [f]) :=
  ⟨sound_put h.s f hf, by show Alk2 _ (pL 16 f nd.q); rw [hp]; exact alk_ins h.a f, by show _ = (pL 16 f nd.q).length; rw [hp, ins_len1, List.length_append, h.l]; rfl, h.b⟩
theorem Kp.not {k : Nat} {nd : Nd} {sent : Nat} {left : List Fr} (h : Kp k nd sent left) (f : Fr) (hf : f.wf) (hp : pL 16 f nd.q = nd.q) : Kp k { nd with q := pL 16 f nd.q } sent left :=
  ⟨sound_put h.s f hf, by show Alk2 _ (pL 16 f nd.q); rw [hp]; exact h.a, by show _ = (pL 16 f nd.q).length; rw [hp]; exact h.l, h.b⟩
theorem Kp.stp {k : Nat} {nd : Nd} {sent : Nat} {left : List Fr} (h : Kp k nd sent left) {z : Int} (hz : z = 0 ∨ z = 1) :
    ((nd.stp z).2.q.length = nd.q.length ∧ (∀ e ∈ (nd.stp z).1, e.1 ≠ 1) ∧ (nd.stp z).1.length ≤ 3 ∧ Kp (k + 1) (nd.stp z).2 sent left) ∨
    ∃ f, (nd.stp z).1 = [(1, f)] ∧ left.countP f.same ≠ 0 ∧ (nd.stp z).2.q.length + 1 = nd.q.length ∧ ∀ i, i < left.length → f.same (left.getD i Fr.zero) = true → Kp (k + 1) (nd.stp z).2 (sent + 1) (left.eraseIdx i) := by
  have g := good_stp h.s hz
  have hb := h.b
  rcases g.q with ⟨h1, h2⟩ | ⟨f, h1, h2, h3⟩
  · exact .inl ⟨by rw [h1], h2, g.len, g.s, by rw [h1]; exact h.a, by rw [h1]; exact h.l, by omega⟩
  · refine .inr ⟨f, h2, alk_has h.a h1, by rw [h3]; exact drp_len h1, fun i hi hs => ⟨g.s, by rw [h3]; exact alk_drp h.a h1 hi hs, ?_, by omega⟩⟩
    rw [h3, List.length_eraseIdx_of_lt hi]
    have := drp_len h1
    have := h.l
    omega
theorem evs_get {es : List Ev} {x : Nat} (h : ∀ e ∈ es, e.1 ≠ 1) (hx : x < es.length) : (es.getD x (0, Fr.zero)).1 ≠ 1 := by
  have : es.getD x (0, Fr.zero) ∈ es := by simp [List.getD, List.getElem?_eq_getElem hx]
  exact h _ this

set_option maxHeartbeats 16000000 in
set_option maxRecDepth 100000 in
theorem keeps_in (A : Option Addr) (n cap : Nat) (ts : Nat → Tn) (w : World) (hr : Tl w A n ts) (hwf : ∀ i, i < n → (ts i).f.wf) (hn : n ≤ 500) :
    Calls Tryz.prog 7 #[.slice A n cap] w fun e w' => e = .returned (.bool true) ∧ Below w.heap.size w w' := by
  have HR := Lib.hid hr
  have HWF := Lib.hid hwf
  have hnI : ¬ (500 : Int) < (n : Int) := by omega
  have hnJ : (n : Int) ≤ 500 := by omega
  clear hr hwf
  go_enter Tryz.func7, Tryz.ntmps7
  go_wp2_with fail
  refine (nst_new w w (Below.refl _ _)).mono ?_
  rintro e w1 ⟨g, gq, rfl, h1, hb1⟩
  have H1 := Lib.hid (h1.less (Q := FrsS w.heap.size (.slice none 0 0) []) (fun F _ => ⟨World.ownsRow_nil _ _ _ _, fun k hk => by cases hk⟩))
  clear h1 hb1
  go_wp2
  go_loopw [7, 4, 5, 6] (fun i u4 u5 u6 wr => ∃ k : Nat, k ≤ n ∧ i = .int .i64 k ∧ ∃ (nd : Nd) (sent : Nat) (left : List Fr), u4 = .int .i64 ((sent : Int) + (nd.q.length : Int)) ∧ u5 = .int .i64 (sent : Nat) ∧ Kp k nd sent left ∧ Nst w wr g gq nd (FrsS w.heap.size u6 left)) (fun i _ _ _ _ => n - (intOf i).toNat)
  case atStart => exact ⟨0, Nat.zero_le _, rfl, Nd.new, 0, [], rfl, rfl, kp_new, H1.out⟩
  case round =>
    obtain ⟨k, hk, rfl, nd0, sent, left0, rfl, rfl, hc, hn⟩ := hrel
    rename_i u6
    have HN0 := Lib.hid hn
    have HC0 := Lib.hid hc
    have hsb : sent ≤ 500 := by have := hc.b; omega
    have hql : nd0.q.length ≤ 16 := hc.s.ql
    clear hn hc
    by_cases hlt : k < n
    · have hlt' : (k : Int) < (n : Int) := by omega
      obtain ⟨ad, hAD, -, x0, x1, x2, x3, x4, x5, x6, x7, x8, x9, x10, x11, x12, x13⟩ := (HR.out.below HN0.out.below).at_ hlt
      subst hAD
      have htw := HWF.out k hlt
      obtain ⟨t, ht⟩ : ∃ t, ts k = t := ⟨_, rfl⟩
      rw [ht] at x0 x1 x2 x3 x4 x5 x6 x7 x8 x9 x10 x11 x12 x13 htw
      have HTW := Lib.hid htw
      have HT := Lib.hid ht
      clear ht htw
      go_upto_if 36 with fail
      go_cut [4, 6] (fun u4 u6 wx => ∃ (nd : Nd) (left : List Fr), u4 = .int .i64 ((sent : Int) + (nd.q.length : Int)) ∧ Kp k nd sent left ∧ Nst w wx g gq nd (FrsS w.heap.size u6 left))
      case first =>
          skip
          obtain ⟨bp, hbp⟩ : ∃ b, t.put = b := ⟨_, rfl⟩
          rw [hbp]
          clear hbp
          cases bp
          · clear x0 x1 x2 x3 x4 x5 x6 x7 x8 x9 x10 x11 x12 x13
            go_wp2
            go_meet
            case rel => exact ⟨nd0, left0, rfl, HC0.out, HN0.out⟩
          · go_wp2_with fail
            clear x0 x1 x2 x3 x4 x5 x6 x7 x8 x9 x10 x11 x12 x13
            refine (nst_queue HN0.out (by omega)).mono ?_
            rintro e w2 ⟨u, rfl, hu, hb2⟩
            obtain ⟨A8, c8, rfl, -, -⟩ := hu.fl
            obtain ⟨L, hL⟩ : ∃ L, nd0.q.length = L := ⟨_, rfl⟩
            have HKL := Lib.hid (kept_frs w.heap.size u6 left0)
            have HKW := Lib.hid (kept_both HKL.out (kept_frs w.heap.size (.slice A8 nd0.q.length c8) nd0.q))
            have HN2 := Lib.hid (HN0.out.add HKL.out hb2 (frsS_new hu HN0.out.below.size))
            clear hb2 hu
            obtain ⟨ad', hA', -, x0, x1, x2, x3, x4, x5, x6, x7, x8, x9, x10, x11, x12, x13⟩ := (HR.out.below HN2.out.below).at_ hlt
            injection hA' with hA'
            subst hA'
            rw [HT.out] at x0 x1 x2 x3 x4 x5 x6 x7 x8 x9 x10 x11 x12 x13
            go_wp2_with fail
            clear x0 x1 x2 x3 x4 x5 x6 x7 x8 x9 x10 x11 x12 x13
            refine (nst_put HN2.out HKW.out t.f HC0.out.s.q (by omega)).mono ?_
            rintro e w3 ⟨rfl, hn⟩
            have HN3 := Lib.hid hn
            clear hn
            obtain ⟨ad', hA', -, x0, x1, x2, x3, x4, x5, x6, x7, x8, x9, x10, x11, x12, x13⟩ := (HR.out.below HN3.out.below).at_ hlt
            injection hA' with hA'
            subst hA'
            rw [HT.out] at x0 x1 x2 x3 x4 x5 x6 x7 x8 x9 x10 x11 x12 x13
            have HLQ := Lib.hid hL
            rw [hL] at hql
            try rw [hL]
            have hck := fun W => fcheck_any t.f W
            cases hmay : t.f.may
            · have HPE := Lib.hid (show pE 16 t.f nd0.q = 14 from by unfold pE; rw [if_pos hmay])
              have HPL := Lib.hid (show pL 16 t.f nd0.q = nd0.q from by unfold pL; rw [if_pos (.inl hmay)])
              rw [show t.f.err = 14 from by unfold Fr.err; rw [hmay]; rfl] at hck
              rw [HPE.out]
              clear hmay hL
              by_cases h16 : L = 16
              · have h16b : ((L : Int) == 16) = true := by simp; omega
                clear h16
                have HCK := Lib.hid hck
                clear hck
                go_wp2_with fail
                clear x0 x1 x2 x3 x4 x5 x6 x7 x8 x9 x10 x11 x12 x13
                refine (HCK.out _).mono ?_
                rintro e w4 ⟨rfl, hb4⟩
                have HN4 := Lib.hid (HN3.out.next HKW.out hb4)
                clear hb4
                go_wp2_with fail
                refine (nst_queue HN4.out (by show (pL 16 t.f nd0.q).length ≤ 1000000; rw [HPL.out]; have := HLQ.out; omega)).mono ?_
                rintro e w5 ⟨u7, rfl, hu, hb5⟩
                have hu' : Fown w5 w4.heap.size u7 nd0.q := by rw [← HPL.out]; exact hu
                obtain ⟨A7, c7, rfl, hf7, -⟩ := hu'.fl
                obtain ⟨F8, hF8⟩ := (HN4.out.next HKW.out hb5).side
                obtain ⟨A9, c9, e9, hf8, -⟩ := hF8.2.1.fl
                injection e9 with e1 e2 e3
                subst e1
                rw [HLQ.out] at hf7 hf8 ⊢
                have HF := Lib.hid (And.intro hf7 hf8)
                have HN5 := Lib.hid (HN4.out.next HKW.out hb5)
                clear hu hu' hb5 hf7 hf8 hF8 F8 e2 e3
                go_wp2_with fail
                refine (frames_same _ _ _ _ _ _ _ HF.out.1 HF.out.2 (by omega)).mono ?_
                rintro e w6 ⟨rfl, hb6⟩
                have HN6 := Lib.hid ((HN5.out.next HKW.out hb6).less (Q := FrsS w.heap.size u6 left0) (fun F h => h.1))
                clear hb6
                go_wp2
                go_meet
                case rel => exact ⟨_, _, by show _ = Value.int .i64 ((sent : Int) + ((pL 16 t.f nd0.q).length : Int)); rw [HPL.out, HLQ.out], HC0.out.not t.f HTW.out HPL.out, HN6.out⟩
              · have h16b : ((L : Int) == 16) = false := by simp; omega
                obtain ⟨w4, hb4, hw4⟩ : ∃ w4, Below w3.heap.size w3 w4 ∧ w3 = w4 := ⟨w3, Below.refl _ _, rfl⟩
                clear x0 x1 x2 x3 x4 x5 x6 x7 x8 x9 x10 x11 x12 x13 hck
                rw [hw4]
                have HN4 := Lib.hid (HN3.out.next HKW.out hb4)
                clear hb4
                go_wp2_with fail
                refine (nst_queue HN4.out (by show (pL 16 t.f nd0.q).length ≤ 1000000; rw [HPL.out]; have := HLQ.out; omega)).mono ?_
                rintro e w5 ⟨u7, rfl, hu, hb5⟩
                have hu' : Fown w5 w4.heap.size u7 nd0.q := by rw [← HPL.out]; exact hu
                obtain ⟨A7, c7, rfl, hf7, -⟩ := hu'.fl
                obtain ⟨F8, hF8⟩ := (HN4.out.next HKW.out hb5).side
                obtain ⟨A9, c9, e9, hf8, -⟩ := hF8.2.1.fl
                injection e9 with e1 e2 e3
                subst e1
                rw [HLQ.out] at hf7 hf8 ⊢
                have HF := Lib.hid (And.intro hf7 hf8)
                have HN5 := Lib.hid (HN4.out.next HKW.out hb5)
                clear hu hu' hb5 hf7 hf8 hF8 F8 e2 e3
                go_wp2_with fail
                refine (frames_same _ _ _ _ _ _ _ HF.out.1 HF.out.2 (by omega)).mono ?_
                rintro e w6 ⟨rfl, hb6⟩
                have HN6 := Lib.hid ((HN5.out.next HKW.out hb6).less (Q := FrsS w.heap.size u6 left0) (fun F h => h.1))
                clear hb6
                go_wp2
                go_meet
                case rel => exact ⟨_, _, by show _ = Value.int .i64 ((sent : Int) + ((pL 16 t.f nd0.q).length : Int)); rw [HPL.out, HLQ.out], HC0.out.not t.f HTW.out HPL.out, HN6.out⟩
            · by_cases hful : (16 : Int) ≤ (nd0.q.length : Int)
              · have HPE := Lib.hid (show pE 16 t.f nd0.q = 15 from by unfold pE; rw [if_neg (by rw [hmay]; simp), if_pos hful])
                have HPL := Lib.hid (show pL 16 t.f nd0.q = nd0.q from by unfold pL; rw [if_pos (.inr hful)])
                rw [show t.f.err = 0 from by unfold Fr.err; rw [hmay]; rfl] at hck
                rw [HPE.out]
                have h16 : L = 16 := by omega
                have h16b : ((L : Int) == 16) = true := by simp; omega
                clear h16
                have HCK := Lib.hid hck
                clear hck hmay hful hL
                go_wp2_with fail
                clear x0 x1 x2 x3 x4 x5 x6 x7 x8 x9 x10 x11 x12 x13
                refine (HCK.out _).mono ?_
                rintro e w4 ⟨rfl, hb4⟩
                have HN4 := Lib.hid (HN3.out.next HKW.out hb4)
                clear hb4
                go_wp2_with fail
                refine (nst_queue HN4.out (by show (pL 16 t.f nd0.q).length ≤ 1000000; rw [HPL.out]; have := HLQ.out; omega)).mono ?_
                rintro e w5 ⟨u7, rfl, hu, hb5⟩
                have hu' : Fown w5 w4.heap.size u7 nd0.q := by rw [← HPL.out]; exact hu
                obtain ⟨A7, c7, rfl, hf7, -⟩ := hu'.fl
                obtain ⟨F8, hF8⟩ := (HN4.out.next HKW.out hb5).side
                obtain ⟨A9, c9, e9, hf8, -⟩ := hF8.2.1.fl
                injection e9 with e1 e2 e3
                subst e1
                rw [HLQ.out] at hf7 hf8 ⊢
                have HF := Lib.hid (And.intro hf7 hf8)
                have HN5 := Lib.hid (HN4.out.next HKW.out hb5)
                clear hu hu' hb5 hf7 hf8 hF8 F8 e2 e3
                go_wp2_with fail
                refine (frames_same _ _ _ _ _ _ _ HF.out.1 HF.out.2 (by omega)).mono ?_
                rintro e w6 ⟨rfl, hb6⟩
                have HN6 := Lib.hid ((HN5.out.next HKW.out hb6).less (Q := FrsS w.heap.size u6 left0) (fun F h => h.1))
                clear hb6
                go_wp2
                go_meet
                case rel => exact ⟨_, _, by show _ = Value.int .i64 ((sent : Int) + ((pL 16 t.f nd0.q).length : Int)); rw [HPL.out, HLQ.out], HC0.out.not t.f HTW.out HPL.out, HN6.out⟩
              · have HPE := Lib.hid (show pE 16 t.f nd0.q = 0 from by unfold pE; rw [if_neg (by rw [hmay]; simp), if_neg hful])
                have HPL := Lib.hid (show pL 16 t.f nd0.q = ins t.f nd0.q from by unfold pL; rw [if_neg (by rw [hmay]; simpa using hful)])
                rw [HPE.out]
                have h16b : ((L : Int) == 16) = false := by simp; omega
                have hL15 : L ≤ 15 := by omega
                have HN4 := Lib.hid (HN3.out.less (Q := FrsS w.heap.size u6 left0) (fun F h => h.1))
                have HN5 := Lib.hid (HN4.out.next HKL.out (below_new w3 (.cells t.f.cells 32)))
                have HS1 := Lib.hid (show Fs (w3.alloc (.cells t.f.cells 32)) (some ⟨w3.heap.size, 0, none⟩) 1 [t.f] from by
                  have h := fs_lit w3 [t.f]
                  rw [fcs_one_] at h
                  exact h)
                have HLL := Lib.hid (show left0.length ≤ 16 by have := HC0.out.l; omega)
                have HSZ := Lib.hid (show w.heap.size ≤ (w3.alloc (.cells t.f.cells 32)).heap.size from HN5.out.below.size)
                clear hck hmay hful hL
                go_wp2_with (first | (at_builtin; refine append_F _ (by rfl) _ _ rfl w.heap.size _ _ rfl HN5.out.row _ _ _ [t.f] rfl HS1.out (by have := HLL.out; omega) HSZ.out ?_; intro v' w' h1 h2 h3; have HR1 := Lib.hid (HN5.out.grow h2 h3 h1); clear h1 h2 h3) | fail)
                clear x0 x1 x2 x3 x4 x5 x6 x7 x8 x9 x10 x11 x12 x13
                go_wp2
                go_meet
                case rel => exact ⟨_, _, by show _ = Value.int .i64 ((sent : Int) + ((pL 16 t.f nd0.q).length : Int)); rw [HPL.out, ins_len1, HLQ.out]; congr 1, HC0.out.put t.f HTW.out HPL.out, HR1.out⟩
      case rest =>
        as_aux_lemma =>
          clear x0 x1 x2 x3 x4 x5 x6 x7 x8 x9 x10 x11 x12 x13 HN0 HC0 hql
          obtain ⟨nd, left, rfl, hc, hn⟩ := hcut
          have HN := Lib.hid hn
          have HC := Lib.hid hc
          have hql : nd.q.length ≤ 16 := hc.s.ql
          clear hc hn
          obtain ⟨A6, c6, hu6, -, -⟩ := HN.out.row.fl
          subst hu6
          obtain ⟨L, hL⟩ : ∃ L, left.length = L := ⟨_, rfl⟩
          have HL := Lib.hid hL
          have hL16 : L ≤ 16 := by rw [← hL, HC.out.l]; exact hql
          have HLL := Lib.hid hL16
          rw [hL] at HN ⊢
          clear hL
          have HK := Lib.hid (kept_frs w.heap.size (.slice A6 L c6) left)
          have HF := Lib.hid (HC.out.s.fit (by omega))
          have HD := Lib.hid (drv_01 HC.out.s)
          obtain ⟨d, hd⟩ : ∃ d, nd.drv = d := ⟨_, rfl⟩
          have hdr := fun (W : World) (h : Nst w W g gq nd (FrsS w.heap.size (.slice A6 L c6) left)) => nst_drive h fun h => (HF.out.inf h).f
          rw [hd] at HD hdr
          have HDR := Lib.hid hdr
          clear hdr hd
          have HZ := Lib.hid (Tn.z01 (t := t) HD.out)
          obtain ⟨z, hz⟩ : ∃ z, t.z d = z := ⟨_, rfl⟩
          have hlv := fun W => level_any t d W
          rw [hz] at HZ hlv
          have HLV := Lib.hid hlv
          clear hz hlv
          have hst := fun (W : World) (h : Nst w W g gq nd (FrsS w.heap.size (.slice A6 L c6) left)) => nst_step h HK.out HF.out z HZ.out
          have hkp := HC.out.stp HZ.out
          obtain ⟨es, hes⟩ : ∃ es, (nd.stp z).1 = es := ⟨_, rfl⟩
          obtain ⟨n1, hn1⟩ : ∃ n1, (nd.stp z).2 = n1 := ⟨_, rfl⟩
          rw [hes, hn1] at hst hkp
          have HST := Lib.hid hst
          have HKP := Lib.hid hkp
          clear hst hkp hes hn1
          go_wp2_with fail
          refine wp_region_held_drew (S := fun w' => Below w.heap.size w w') (by kernel_rfl) (below_drew HN.out.below) (fun hHeld => ?_)
          refine takeH (i := 0) (v := .pointer (some ⟨g, 0, none⟩)) rfl (by kernel_rfl) (by kernel_rfl) (by kernel_rfl) (fun _ _ _ h => h) (Or.inl ⟨by rfl, fun w hSw => ?_⟩) hHeld ?_
          · (clear hSw; go_simp)
          simp only [Act.put, List.setIfInBounds_toArray, List.set_cons_zero, List.set_cons_succ]
          refine takeH (i := 1) (v := .slice (some ad) n cap) rfl (by kernel_rfl) (by kernel_rfl) (by kernel_rfl) (fun _ _ _ h => h) (Or.inl ⟨by rfl, fun w hSw => ?_⟩) hHeld ?_
          · (clear hSw; go_simp)
          simp only [Act.put, List.setIfInBounds_toArray, List.set_cons_zero, List.set_cons_succ]
          refine takeH (i := 2) (v := .int .i64 k) rfl (by kernel_rfl) (by kernel_rfl) (by kernel_rfl) (fun _ _ _ h => h) (Or.inl ⟨by rfl, fun w hSw => ?_⟩) hHeld ?_
          · (clear hSw; go_simp)
          simp only [Act.put, List.setIfInBounds_toArray, List.set_cons_zero, List.set_cons_succ]
          refine takeH (i := 3) (v := .pointer (some (ad.add (k * 14)))) rfl (by kernel_rfl) (by kernel_rfl) (by kernel_rfl) (fun _ _ _ h => h) (Or.inl ⟨by rfl, fun w hSw => ?_⟩) hHeld ?_
          · (clear hSw; go_simp)
          simp only [Act.put, List.setIfInBounds_toArray, List.set_cons_zero, List.set_cons_succ]
          refine takeH (i := 4) (v := .agg (tnc t)) rfl (by kernel_rfl) (by kernel_rfl) (by kernel_rfl) (fun _ _ _ h => h) (Or.inl ⟨by rfl, fun w hSw => ?_⟩) hHeld ?_
          · (obtain ⟨ad', hA', hl', x0, x1, x2, x3, x4, x5, x6, x7, x8, x9, x10, x11, x12, x13⟩ := (HR.out.below hSw).at_ hlt; injection hA' with hA'; subst hA'; rw [HT.out] at x0 x1 x2 x3 x4 x5 x6 x7 x8 x9 x10 x11 x12 x13; clear hl'; clear hSw; go_simp)
          simp only [Act.put, List.setIfInBounds_toArray, List.set_cons_zero, List.set_cons_succ]
          refine takeH (i := 5) (v := .pointer (some ⟨g, 0, none⟩)) rfl (by kernel_rfl) (by kernel_rfl) (by kernel_rfl) (fun _ _ _ h => h) (Or.inl ⟨by rfl, fun w hSw => ?_⟩) hHeld ?_
          · (clear hSw; go_simp)
          simp only [Act.put, List.setIfInBounds_toArray, List.set_cons_zero, List.set_cons_succ]
          refine wpAnyH_ready (rs := [6]) (by kernel_rfl) (by simp) ?_
          refine AllReadyH.cons rfl (fun K hK => ?_) AllReadyH.nil
          go_simp
          refine (HDR.out _ (HN.out.drew HK.out)).mono ?_
          rintro e w4 ⟨rfl, hb4⟩
          have HN4 := Lib.hid (HN.out.next HK.out (undrew hb4))
          clear hb4
          clear hHeld
          dsimp only
          refine hK.out _ _ (HN4.out.below) (fun hHeld => ?_)
          clear hK K
          try simp only [Act.put, List.setIfInBounds_toArray, List.set_cons_zero, List.set_cons_succ]
          refine wpAnyH_ready (rs := [7]) (by kernel_rfl) (by simp) ?_
          refine AllReadyH.cons rfl (fun K hK => ?_) AllReadyH.nil
          go_simp
          refine (HLV.out _).mono ?_
          rintro e w5 ⟨rfl, hb5⟩
          have HN5 := Lib.hid (HN4.out.next HK.out hb5)
          clear hb5
          clear hHeld
          dsimp only
          refine hK.out _ _ (HN5.out.below) (fun hHeld => ?_)
          clear hK K
          try simp only [Act.put, List.setIfInBounds_toArray, List.set_cons_zero, List.set_cons_succ]
          refine wpAnyH_ready (rs := [8]) (by kernel_rfl) (by simp) ?_
          refine AllReadyH.cons rfl (fun K hK => ?_) AllReadyH.nil
          go_simp
          refine (HST.out _ HN5.out).mono ?_
          rintro e w6 ⟨u, rfl, h5, h6, h7⟩
          obtain ⟨Ae, ce, rfl, -⟩ := h5.len
          have HN6 := Lib.hid h6
          have HE6 := Lib.hid h5
          clear h5 h6 h7
          clear hHeld
          dsimp only
          refine hK.out _ _ (HN6.out.below) (fun hHeld => ?_)
          clear hK K
          try simp only [Act.put, List.setIfInBounds_toArray, List.set_cons_zero, List.set_cons_succ]
          refine takeH (i := 9) (v := .tuple #[.slice Ae es.length ce, .int .i64 0]) rfl (by kernel_rfl) (by kernel_rfl) (by kernel_rfl) (fun _ _ _ h => h) (Or.inl ⟨by rfl, fun w hSw => ?_⟩) hHeld ?_
          · (clear hSw; go_simp)
          simp only [Act.put, List.setIfInBounds_toArray, List.set_cons_zero, List.set_cons_succ]
          refine takeH (i := 10) (v := .slice Ae es.length ce) rfl (by kernel_rfl) (by kernel_rfl) (by kernel_rfl) (fun _ _ _ h => h) (Or.inl ⟨by rfl, fun w hSw => ?_⟩) hHeld ?_
          · (clear hSw; go_simp)
          simp only [Act.put, List.setIfInBounds_toArray, List.set_cons_zero, List.set_cons_succ]
          refine takeH (i := 11) (v := .int .i64 0) rfl (by kernel_rfl) (by kernel_rfl) (by kernel_rfl) (fun _ _ _ h => h) (Or.inl ⟨by rfl, fun w hSw => ?_⟩) hHeld ?_
          · (clear hSw; go_simp)
          simp only [Act.put, List.setIfInBounds_toArray, List.set_cons_zero, List.set_cons_succ]
          refine takeH (i := 12) (v := .slice Ae es.length ce) rfl (by kernel_rfl) (by kernel_rfl) (by kernel_rfl) (fun _ _ _ h => h) (Or.inl ⟨by rfl, fun w hSw => ?_⟩) hHeld ?_
          · (clear hSw; go_simp)
          simp only [Act.put, List.setIfInBounds_toArray, List.set_cons_zero, List.set_cons_succ]
          refine takeH (i := 13) (v := .int .i64 0) rfl (by kernel_rfl) (by kernel_rfl) (by kernel_rfl) (fun _ _ _ h => h) (Or.inl ⟨by rfl, fun w hSw => ?_⟩) hHeld ?_
          · (clear hSw; go_simp)
          simp only [Act.put, List.setIfInBounds_toArray, List.set_cons_zero, List.set_cons_succ]
          refine wpAnyH_done (by kernel_rfl) ?_ _
          clear hHeld
          clear HST HLV HDR HN HN4 HN5 HD HZ
          rcases HKP.out with ⟨hq, hne, hlen, hk1⟩ | ⟨f, rfl, hcnt, hq, hk1⟩
          · have HNE := Lib.hid hne
            have HK1 := Lib.hid hk1
            clear hne hk1 HKP
            go_wp2
            rename World => wo
            go_loopw [12, 5, 6] (fun i v5 v6 wr => wr = wo ∧ v5 = .int .i64 (sent : Nat) ∧ v6 = .slice A6 L c6 ∧ ∃ x : Nat, x ≤ es.length ∧ i = .int .i64 x) (fun i _ _ _ => es.length - (intOf i).toNat)
            case atStart => exact ⟨rfl, rfl, rfl, 0, Nat.zero_le _, rfl⟩
            case round =>
              obtain ⟨rfl, rfl, rfl, x, hx, rfl⟩ := hrel
              by_cases hxl : x < es.length
              · have hxI : (x : Int) < (es.length : Int) := by omega
                have hkn := evs_get HNE.out hxl
                obtain ⟨ge, rfl, hce⟩ := HE6.out.at_ hxl
                have e2 := hce 2 _ rfl
                obtain ⟨kd2, hkd⟩ : ∃ kd2, (es.getD x (0, Fr.zero)).1 = kd2 := ⟨_, rfl⟩
                rw [hkd] at hkn e2
                have hknb : (kd2 != 1) = true := by simpa using hkn
                clear hkd hce hkn
                go_wp2
                go_roundw
                case rel => exact ⟨by trivial, by trivial, by trivial, x + 1, by omega, by go_num⟩
                case measure => simp [intOf]; omega
              · have hxI : ¬ (x : Int) < (es.length : Int) := by omega
                go_wp2
                go_roundw
                case rel => exact ⟨k + 1, by omega, by go_num, n1, sent, left, by rw [hq], rfl, HK1.out, HN6.out⟩
                case measure => simp [intOf]; omega
          · have HK1 := Lib.hid hk1
            have HCN := Lib.hid hcnt
            have HQ := Lib.hid hq
            clear hk1 HKP hcnt hq
            obtain ⟨ge, hAe, hce⟩ := HE6.out.at_ (j := 0) (by simp)
            subst hAe
            have HCE := Lib.hid hce
            clear hce
            rw [show ([(1, f)] : List Ev).length = 1 from rfl]
            go_wp2
            rename World => wo
            go_loopw [12, 5, 6] (fun i v5 v6 wr => ∃ x : Nat, x ≤ 1 ∧ i = .int .i64 x ∧ ((x = 0 ∧ wr = wo ∧ v5 = .int .i64 (sent : Nat) ∧ v6 = .slice A6 L c6) ∨ (x = 1 ∧ ∃ left2, v5 = .int .i64 ((sent : Int) + 1) ∧ Kp (k + 1) n1 (sent + 1) left2 ∧ Nst w wr g gq n1 (FrsS w.heap.size v6 left2)))) (fun i _ _ _ => 1 - (intOf i).toNat)
            case atStart => exact ⟨0, by omega, rfl, .inl ⟨rfl, rfl, rfl, rfl⟩⟩
            case round =>
              obtain ⟨x, hx, rfl, hzz⟩ := hrel
              by_cases hx0 : x = 0
              · subst hx0
                rcases hzz with ⟨-, rfl, rfl, rfl⟩ | ⟨h, _⟩
                rotate_left
                · omega
                have e2 : wr.cell? ⟨ge, 2, none⟩ = some (.int .i64 1) := HCE.out 2 _ rfl
                have HGE := Lib.hid (show ge < wr.heap.size from World.block_lt_of_cell? wr _ e2)
                go_wp2
                clear e2
                rename World => wp
                go_loopw [13, 14] (fun v13 i wr => Below wp.heap.size wp wr ∧ ∃ (j : Nat) (r : Int), j ≤ L ∧ i = .int .i64 j ∧ v13 = .int .i64 r ∧ Lst f left j r) (fun _ i _ => L - (intOf i).toNat)
                case atStart => exact ⟨Below.refl _ _, 0, -1, Nat.zero_le _, rfl, rfl, .inl ⟨rfl, rfl⟩⟩
                case round =>
                  obtain ⟨hb, j, r, hj, rfl, rfl, hls⟩ := hrel
                  have HB := Lib.hid hb
                  have HLS := Lib.hid hls
                  clear hb hls
                  by_cases hjl : j < L
                  · have hjI : (j : Int) < (L : Int) := by omega
                    have HJL := Lib.hid (show j < left.length by rw [HL.out]; exact hjl)
                    obtain ⟨y, hy⟩ : ∃ y, left.getD j Fr.zero = y := ⟨_, rfl⟩
                    have HY := Lib.hid hy
                    have HRW := Lib.hid (HN6.out.next HK.out HB.out).row
                    obtain ⟨ad6, rfl, -, -⟩ := HRW.out.fl2.at_ hjl
                    obtain ⟨d0, d1, d2, d3, d4, d5, d6, d7, d8, d9, d10, d11⟩ := HRW.out.fl2.el hjl hy
                    have f3 : wr.cell? ⟨ge, 3, none⟩ = some (.int .i64 f.id) := (HB.out.cell (p := ⟨ge, 3, none⟩) HGE.out).trans (HCE.out 3 _ rfl)
                    have f4 : wr.cell? ⟨ge, 4, none⟩ = some (.bool f.ext) := (HB.out.cell (p := ⟨ge, 4, none⟩) HGE.out).trans (HCE.out 4 _ rfl)
                    have f5 : wr.cell? ⟨ge, 5, none⟩ = some (.bool f.rtr) := (HB.out.cell (p := ⟨ge, 5, none⟩) HGE.out).trans (HCE.out 5 _ rfl)
                    have f6 : wr.cell? ⟨ge, 6, none⟩ = some (.int .i64 f.len) := (HB.out.cell (p := ⟨ge, 6, none⟩) HGE.out).trans (HCE.out 6 _ rfl)
                    have f7 : wr.cell? ⟨ge, 7, none⟩ = some (.int .u8 (f.d 0)) := (HB.out.cell (p := ⟨ge, 7, none⟩) HGE.out).trans (HCE.out 7 _ rfl)
                    have f8 : wr.cell? ⟨ge, 8, none⟩ = some (.int .u8 (f.d 1)) := (HB.out.cell (p := ⟨ge, 8, none⟩) HGE.out).trans (HCE.out 8 _ rfl)
                    have f9 : wr.cell? ⟨ge, 9, none⟩ = some (.int .u8 (f.d 2)) := (HB.out.cell (p := ⟨ge, 9, none⟩) HGE.out).trans (HCE.out 9 _ rfl)
                    have f10 : wr.cell? ⟨ge, 10, none⟩ = some (.int .u8 (f.d 3)) := (HB.out.cell (p := ⟨ge, 10, none⟩) HGE.out).trans (HCE.out 10 _ rfl)
                    have f11 : wr.cell? ⟨ge, 11, none⟩ = some (.int .u8 (f.d 4)) := (HB.out.cell (p := ⟨ge, 11, none⟩) HGE.out).trans (HCE.out 11 _ rfl)
                    have f12 : wr.cell? ⟨ge, 12, none⟩ = some (.int .u8 (f.d 5)) := (HB.out.cell (p := ⟨ge, 12, none⟩) HGE.out).trans (HCE.out 12 _ rfl)
                    have f13 : wr.cell? ⟨ge, 13, none⟩ = some (.int .u8 (f.d 6)) := (HB.out.cell (p := ⟨ge, 13, none⟩) HGE.out).trans (HCE.out 13 _ rfl)
                    have f14 : wr.cell? ⟨ge, 14, none⟩ = some (.int .u8 (f.d 7)) := (HB.out.cell (p := ⟨ge, 14, none⟩) HGE.out).trans (HCE.out 14 _ rfl)
                    have hfe := fun W => feq y f W
                    clear hy
                    cases hs : f.same y
                    · have HS := Lib.hid (show f.same (left.getD j Fr.zero) = false from by rw [HY.out]; exact hs)
                      rw [same_comm, hs] at hfe
                      clear hs
                      go_wp2
                      go_quiet (fail)
                      go_wp2
                      go_roundw
                      case rel => exact ⟨belowN HB.out _, j + 1, r, by omega, by go_num, rfl, lst_no HLS.out HJL.out HS.out⟩
                      case measure => simp [intOf]; omega
                    · have HS := Lib.hid (show f.same (left.getD j Fr.zero) = true from by rw [HY.out]; exact hs)
                      rw [same_comm, hs] at hfe
                      clear hs
                      go_wp2
                      go_quiet (fail)
                      go_wp2
                      go_roundw
                      case rel => exact ⟨belowN HB.out _, j + 1, j, by omega, by go_num, rfl, lst_yes HS.out⟩
                      case measure => simp [intOf]; omega
                  · have hjI : ¬ (j : Int) < (L : Int) := by omega
                    obtain rfl : j = L := by omega
                    obtain ⟨k0, hk0, rfl, hs0⟩ := lst_all (by rw [HL.out]; exact HLS.out) HCN.out
                    have HS0 := Lib.hid hs0
                    have HK0 := Lib.hid hk0
                    obtain ⟨L, hLj⟩ : ∃ L, j = L := ⟨_, rfl⟩
                    subst hLj
                    rw [HL.out] at hk0
                    have HN7 := Lib.hid (HN6.out.next HK.out HB.out)
                    obtain ⟨b, cap6, cur, e8, hbB, hR, hcc, hmm, hss, htt⟩ := HN7.out.row.open_ (by intro e; rw [e] at HK0; have := HK0.out; simp at this)
                    injection e8 with e1 e2 e3
                    subst e1; subst e3
                    clear e2
                    have hP := Fown.parts hR htt hbB k0 HK0.out hcc
                    rw [HL.out] at hP hcc
                    obtain ⟨x1, x2⟩ := sF_to b j c6 k0 (by omega)
                    obtain ⟨y1, y2⟩ := sF_from b j c6 (k0 + 1) (by omega) ((k0 : Int) + 1) (by simp)
                    obtain ⟨zz, hzz⟩ : ∃ zz, (if c6 = k0 + 1 then 0 else (k0 + 1) * 12) = zz := ⟨_, rfl⟩
                    rw [hzz] at y1 y2 hP
                    rename World => w4
                    have HB4 := Lib.hid (show Below w4.heap.size w4 (w4.alloc (.cells #[] 32)).drew from ((Below.refl _ _).alloc (Nat.le_refl _) _).drew)
                    have HN4 := Lib.hid (show Fown (w4.alloc (.cells #[] 32)).drew w4.heap.size (.slice (some ⟨w4.heap.size, 0, none⟩) 0 0) [] from Fown.nil w4 w4.heap.size (Nat.le_refl _))
                    have hbl := hR.lt
                    have hkeep : ∀ (A : Option Addr) (m : Nat) (ys : List Fr), Fs w4 A m ys → (∀ ad, A = some ad → ad.block < w4.heap.size) → ∀ wx, Below w4.heap.size w4 wx → Fs wx A m ys := fun A m ys h hl wx hb => ⟨h.1, fun h0 => by
                      obtain ⟨ad, e, hc⟩ := h.2 h0
                      exact ⟨ad, e, fun j u hu => (hb.cell (by rw [block_of_add]; exact hl ad e)).trans (hc j u hu)⟩⟩
                    have HP1 := Lib.hid (hkeep _ _ _ hP.1 (fun ad e => by injection e with e; rw [← e]; exact hbl) _ HB4.out)
                    have HP2 := Lib.hid (hkeep _ _ _ hP.2 (fun ad e => by injection e with e; rw [← e]; exact hbl))
                    have hk1 : (k0 : Int) < (j : Int) := by omega
                    have hk2 : ¬ (c6 < k0) := by omega
                    have hk3 : (0 : Int) ≤ (k0 : Int) + 1 := by omega
                    have hk4 : (k0 : Int) + 1 ≤ (j : Int) := by omega
                    have hwk : IntKind.i64.wrap ((k0 : Int) + 1) = (k0 : Int) + 1 := IntWalk.i64_in _ (by have := HLL.out; omega)
                    clear hbB hR hmm hss htt hP hzz hbl hkeep hs0
                    go_wp2_with fail
                    refine wp_region_held_drew (S := fun _ => True) (by kernel_rfl) (trivial) (fun hHeld => ?_)
                    refine takeH (i := 1) (v := .slice (some ⟨b, 0, none⟩) j c6) rfl (by kernel_rfl) (by kernel_rfl) (by kernel_rfl) (fun _ _ _ h => h) (Or.inl ⟨by rfl, fun w hSw => ?_⟩) hHeld ?_
                    · (clear hSw; go_simp)
                    simp only [Act.put, List.setIfInBounds_toArray, List.set_cons_zero, List.set_cons_succ]
                    refine takeH (i := 2) (v := .int .i64 k0) rfl (by kernel_rfl) (by kernel_rfl) (by kernel_rfl) (fun _ _ _ h => h) (Or.inl ⟨by rfl, fun w hSw => ?_⟩) hHeld ?_
                    · (clear hSw; go_simp)
                    simp only [Act.put, List.setIfInBounds_toArray, List.set_cons_zero, List.set_cons_succ]
                    refine takeH (i := 3) (v := .slice (some ⟨b, 0, none⟩) k0 c6) rfl (by kernel_rfl) (by kernel_rfl) (by kernel_rfl) (fun _ _ _ h => h) (Or.inl ⟨by rfl, fun w hSw => ?_⟩) hHeld ?_
                    · (clear hSw; go_simp)
                    simp only [Act.put, List.setIfInBounds_toArray, List.set_cons_zero, List.set_cons_succ]
                    refine takeH (i := 5) (v := .slice (some ⟨b, 0, none⟩) j c6) rfl (by kernel_rfl) (by kernel_rfl) (by kernel_rfl) (fun _ _ _ h => h) (Or.inl ⟨by rfl, fun w hSw => ?_⟩) hHeld ?_
                    · (clear hSw; go_simp)
                    simp only [Act.put, List.setIfInBounds_toArray, List.set_cons_zero, List.set_cons_succ]
                    refine takeH (i := 6) (v := .int .i64 k0) rfl (by kernel_rfl) (by kernel_rfl) (by kernel_rfl) (fun _ _ _ h => h) (Or.inl ⟨by rfl, fun w hSw => ?_⟩) hHeld ?_
                    · (clear hSw; go_simp)
                    simp only [Act.put, List.setIfInBounds_toArray, List.set_cons_zero, List.set_cons_succ]
                    refine takeH (i := 7) (v := .int .i64 ((k0 : Int) + 1)) rfl (by kernel_rfl) (by kernel_rfl) (by kernel_rfl) (fun _ _ _ h => h) (Or.inl ⟨by rfl, fun w hSw => ?_⟩) hHeld ?_
                    · (clear hSw; go_simp)
                    simp only [Act.put, List.setIfInBounds_toArray, List.set_cons_zero, List.set_cons_succ]
                    refine takeH (i := 8) (v := .slice (some ⟨b, zz, none⟩) (j - (k0 + 1)) (c6 - (k0 + 1))) rfl (by kernel_rfl) (by kernel_rfl) (by kernel_rfl) (fun _ _ _ h => h) (Or.inl ⟨by rfl, fun w hSw => ?_⟩) hHeld ?_
                    · (clear hSw; go_simp)
                    simp only [Act.put, List.setIfInBounds_toArray, List.set_cons_zero, List.set_cons_succ]
                    refine wpAnyH_ready (rs := [0]) (by kernel_rfl) (by simp) ?_
                    refine AllReadyH.cons rfl (fun K hK => ?_) AllReadyH.nil
                    go_simp
                    refine hK.out _ _ trivial (fun hHeld => ?_)
                    clear hK K
                    try simp only [Act.put, List.setIfInBounds_toArray, List.set_cons_zero, List.set_cons_succ]
                    refine wpAnyH_ready (rs := [4]) (by kernel_rfl) (by simp) ?_
                    refine AllReadyH.cons rfl (fun K hK => ?_) AllReadyH.nil
                    refine step_append_F9 _ (by rfl) (.tmp 123) (.tmp 126) (by rfl) w4.heap.size (.slice (some ⟨w4.heap.size, 0, none⟩) 0 0) [] (by rfl) HN4.out (some ⟨b, 0, none⟩) k0 c6 (left.take k0) (by rfl) HP1.out (by have := HLL.out; have := HL.out; simp; omega) HB4.out.size ?_
                    intro v5 w5 ho5 hg5 hl5
                    have HB5 := Lib.hid (HB4.out.grown hg5 HB4.out.size HN4.out.row)
                    have HO5 := Lib.hid ho5
                    have HP5 := Lib.hid (HP2.out w5 HB5.out)
                    clear ho5 hg5 hl5 hHeld
                    refine hK.out _ _ trivial (fun hHeld => ?_)
                    clear hK K
                    try simp only [Act.put, List.setIfInBounds_toArray, List.set_cons_zero, List.set_cons_succ]
                    refine wpAnyH_ready (rs := [9]) (by kernel_rfl) (by simp) ?_
                    refine AllReadyH.cons rfl (fun K hK => ?_) AllReadyH.nil
                    refine step_append_F9 _ (by rfl) (.tmp 127) (.tmp 131) (by rfl) w4.heap.size v5 _ (by rfl) HO5.out (some ⟨b, zz, none⟩) (j - (k0 + 1)) (c6 - (k0 + 1)) (left.drop (k0 + 1)) (by rfl) HP5.out (by have := HLL.out; have := HL.out; simp; omega) HB5.out.size ?_
                    intro v6 w6 ho6 hg6 hl6
                    have HB6 := Lib.hid (HB5.out.grown hg6 HB5.out.size HO5.out.row)
                    have HO6 := Lib.hid (show Fown w6 w4.heap.size v6 (left.eraseIdx k0) from by rw [List.eraseIdx_eq_take_drop_succ]; exact ho6)
                    clear ho6 hg6 hl6 hHeld
                    refine hK.out _ _ trivial (fun hHeld => ?_)
                    clear hK K
                    try simp only [Act.put, List.setIfInBounds_toArray, List.set_cons_zero, List.set_cons_succ]
                    refine takeH (i := 10) (v := v6) rfl (by kernel_rfl) (by kernel_rfl) (by kernel_rfl) (fun _ _ _ h => h) (Or.inl ⟨by rfl, fun w hSw => ?_⟩) hHeld ?_
                    · (clear hSw; go_simp)
                    try simp only [Act.put, List.setIfInBounds_toArray, List.set_cons_zero, List.set_cons_succ]
                    refine wpAnyH_done (by kernel_rfl) ?_ _
                    clear hHeld
                    go_wp2
                    go_roundw
                    case rel => exact ⟨1, by omega, by go_num, .inr ⟨rfl, left.eraseIdx k0, by go_num, HK1.out k0 HK0.out HS0.out, (HN7.out.add HK.out HB6.out (frsS_new HO6.out HN7.out.below.size)).less fun F h => h.2⟩⟩
                    case measure => simp [intOf]
              · obtain rfl : x = 1 := by omega
                rcases hzz with ⟨h, _⟩ | ⟨-, left2, rfl, hk2, hn2⟩
                · omega
                go_wp2
                go_roundw
                case rel => exact ⟨k + 1, by omega, by go_num, n1, sent + 1, left2, by congr 1; have := HQ.out; push_cast; omega, by go_num, hk2, hn2⟩
                case measure => simp [intOf]; omega
    · have hlt' : ¬ (k : Int) < (n : Int) := by omega
      obtain ⟨A6, c6, hu6, -, -⟩ := HN0.out.row.fl
      subst hu6
      obtain ⟨L, hL⟩ : ∃ L, nd0.q.length = L := ⟨_, rfl⟩
      have hLL : left0.length = L := by rw [HC0.out.l, hL]
      have HKL := Lib.hid (kept_frs w.heap.size (.slice A6 L c6) left0)
      rw [hLL] at HN0 ⊢
      rw [hL] at hql
      have HLQ := Lib.hid hL
      have HLF := Lib.hid hLL
      rw [hL]
      clear hL hLL
      go_wp2_with fail
      refine (nst_queue HN0.out (by have := HLQ.out; omega)).mono ?_
      rintro e w2 ⟨u, rfl, hu, hb2⟩
      obtain ⟨A8, c8, rfl, -, -⟩ := hu.fl
      rw [HLQ.out] at hu ⊢
      have HU := Lib.hid hu
      have HN2 := Lib.hid (HN0.out.next HKL.out hb2)
      have HV := Lib.hid HN2.out.row
      have HALK := Lib.hid HC0.out.a
      clear hu hb2
      go_wp2
      rename World => wo
      go_loopw [16] (fun i wr => Below wo.heap.size wo wr ∧ ∃ x : Nat, x ≤ L ∧ i = .int .i64 x) (fun i _ => L - (intOf i).toNat)
      case atStart => exact ⟨Below.refl _ _, 0, Nat.zero_le _, rfl⟩
      case round =>
        obtain ⟨hb, x, hx, rfl⟩ := hrel
        have HBX := Lib.hid hb
        clear hb
        by_cases hxl : x < L
        · have hxI : (x : Int) < (L : Int) := by omega
          obtain ⟨f, hf⟩ : ∃ f, nd0.q.getD x Fr.zero = f := ⟨_, rfl⟩
          rename World => wy
          go_wp2
          go_loopw [17, 18] (fun v17 i wr => Below wo.heap.size wo wr ∧ ∃ y : Nat, y ≤ L ∧ i = .int .i64 y ∧ v17 = .int .i64 ((cn f nd0.q y : Int) - (cn f left0 y : Int))) (fun _ i _ => L - (intOf i).toNat)
          case atStart => exact ⟨HBX.out, 0, Nat.zero_le _, rfl, rfl⟩
          case round =>
            obtain ⟨hb, y, hy, rfl, rfl⟩ := hrel
            have HB := Lib.hid hb
            clear hb
            obtain ⟨ca, hca⟩ : ∃ ca, cn f nd0.q y = ca := ⟨_, rfl⟩
            obtain ⟨cb, hcb⟩ : ∃ cb, cn f left0 y = cb := ⟨_, rfl⟩
            have hca16 : ca ≤ 16 := by rw [← hca]; have h1 := cn_le f nd0.q y; have h2 := HLQ.out; omega
            have hcb16 : cb ≤ 16 := by rw [← hcb]; have h1 := cn_le f left0 y; have h2 := HLF.out; omega
            have HCA := Lib.hid hca
            have HCB := Lib.hid hcb
            rw [hca, hcb]
            clear hca hcb
            by_cases hyl : y < L
            · have hyI : (y : Int) < (L : Int) := by omega
              have HYQ := Lib.hid (show y < nd0.q.length by rw [HLQ.out]; exact hyl)
              have HYL := Lib.hid (show y < left0.length by rw [HLF.out]; exact hyl)
              obtain ⟨qy, hqy⟩ : ∃ a, nd0.q.getD y Fr.zero = a := ⟨_, rfl⟩
              obtain ⟨ly, hly⟩ : ∃ a, left0.getD y Fr.zero = a := ⟨_, rfl⟩
              have HQY := Lib.hid hqy
              have HLY := Lib.hid hly
              have HU2 := Lib.hid (HU.out.below HB.out)
              have HV2 := Lib.hid (HV.out.below HB.out)
              obtain ⟨ad8, rfl, -, -⟩ := HU2.out.fl2.at_ hyl
              obtain ⟨ad6, rfl, -, -⟩ := HV2.out.fl2.at_ hyl
              obtain ⟨d0, d1, d2, d3, d4, d5, d6, d7, d8, d9, d10, d11⟩ := HU2.out.fl2.el hyl hqy
              obtain ⟨b0, b1, b2, b3, b4, b5, b6, b7, b8, b9, b10, b11⟩ := HU2.out.fl2.el hxl hf
              obtain ⟨e0, e1, e2, e3, e4, e5, e6, e7, e8, e9, e10, e11⟩ := HV2.out.fl2.el hyl hly
              have hfe := fun W => feq qy f W
              have hfd := fun W => feq ly f W
              clear hqy hly
              cases hs : f.same qy
              · have HS := Lib.hid (show f.same (nd0.q.getD y Fr.zero) = false from by rw [HQY.out]; exact hs)
                rw [same_comm, hs] at hfe
                clear hs
                have hna := cn_no HYQ.out HS.out
                rw [HCA.out] at hna
                cases ht : f.same ly
                · have HSL := Lib.hid (show f.same (left0.getD y Fr.zero) = false from by rw [HLY.out]; exact ht)
                  rw [same_comm, ht] at hfd
                  clear ht
                  have hnb := cn_no HYL.out HSL.out
                  rw [HCB.out] at hnb
                  have HE := Lib.hid (And.intro hna hnb)
                  clear hna hnb
                  go_wp2
                  go_quiet (fail)
                  go_wp2
                  go_quiet (fail)
                  go_wp2
                  go_roundw
                  case rel => exact ⟨belowN HB.out _, y + 1, by omega, by go_num, by rw [HE.out.1, HE.out.2]; try (congr 1; push_cast; omega)⟩
                  case measure => simp [intOf]; omega
                · have HSL := Lib.hid (show f.same (left0.getD y Fr.zero) = true from by rw [HLY.out]; exact ht)
                  rw [same_comm, ht] at hfd
                  clear ht
                  have hnb := cn_yes HYL.out HSL.out
                  rw [HCB.out] at hnb
                  have HE := Lib.hid (And.intro hna hnb)
                  clear hna hnb
                  go_wp2
                  go_quiet (fail)
                  go_wp2
                  go_quiet (fail)
                  go_wp2
                  go_roundw
                  case rel => exact ⟨belowN HB.out _, y + 1, by omega, by go_num, by rw [HE.out.1, HE.out.2]; try (congr 1; push_cast; omega)⟩
                  case measure => simp [intOf]; omega
              · have HS := Lib.hid (show f.same (nd0.q.getD y Fr.zero) = true from by rw [HQY.out]; exact hs)
                rw [same_comm, hs] at hfe
                clear hs
                have hna := cn_yes HYQ.out HS.out
                rw [HCA.out] at hna
                cases ht : f.same ly
                · have HSL := Lib.hid (show f.same (left0.getD y Fr.zero) = false from by rw [HLY.out]; exact ht)
                  rw [same_comm, ht] at hfd
                  clear ht
                  have hnb := cn_no HYL.out HSL.out
                  rw [HCB.out] at hnb
                  have HE := Lib.hid (And.intro hna hnb)
                  clear hna hnb
                  go_wp2
                  go_quiet (fail)
                  go_wp2
                  go_quiet (fail)
                  go_wp2
                  go_roundw
                  case rel => exact ⟨belowN HB.out _, y + 1, by omega, by go_num, by rw [HE.out.1, HE.out.2]; try (congr 1; push_cast; omega)⟩
                  case measure => simp [intOf]; omega
                · have HSL := Lib.hid (show f.same (left0.getD y Fr.zero) = true from by rw [HLY.out]; exact ht)
                  rw [same_comm, ht] at hfd
                  clear ht
                  have hnb := cn_yes HYL.out HSL.out
                  rw [HCB.out] at hnb
                  have HE := Lib.hid (And.intro hna hnb)
                  clear hna hnb
                  go_wp2
                  go_quiet (fail)
                  go_wp2
                  go_quiet (fail)
                  go_wp2
                  go_roundw
                  case rel => exact ⟨belowN HB.out _, y + 1, by omega, by go_num, by rw [HE.out.1, HE.out.2]; try (congr 1; push_cast; omega)⟩
                  case measure => simp [intOf]; omega
            · have hyI : ¬ (y : Int) < (L : Int) := by omega
              have hz0 : ((ca : Int) - (cb : Int) != 0) = false := by
                have h1 := HCA.out
                have h2 := HCB.out
                rw [show y = nd0.q.length by have := HLQ.out; omega, cn_all] at h1
                rw [show y = left0.length by have := HLF.out; omega, cn_all] at h2
                have h3 := HALK.out f
                simp
                omega
              have HBN := Lib.hid HB.out
              go_wp2
              go_roundw
              case rel => exact ⟨HBN.out, x + 1, by omega, by go_num⟩
              case measure => simp [intOf]; omega
        · have hxI : ¬ (x : Int) < (L : Int) := by omega
          go_wp2_with fail
          refine (awake10 _).mono ?_
          rintro e w8 ⟨rfl, hb8⟩
          have HB8 := Lib.hid (nxt (nxt HN2.out.below HBX.out) hb8)
          clear hb8
          go_wp2
          go_ret
          exact ⟨rfl, HB8.out⟩
theorem keeps_any (A : Option Addr) (n c : Nat) (ts : Nat → Tn) (w : World) (hr : Tl w A n ts) (hwf : ∀ i, i < n → (ts i).f.wf) :
    Calls Tryz.prog 7 #[.slice A n c] w fun e w' => e = .returned (.bool true) ∧ Below w.heap.size w w' := by
  rcases Nat.lt_or_ge 500 n with h | h
  · exact keeps_out A n c w h
  · exact keeps_in A n c ts w hr hwf h
end Go.Proofs.YtenfcbmeokenaaaGreat
