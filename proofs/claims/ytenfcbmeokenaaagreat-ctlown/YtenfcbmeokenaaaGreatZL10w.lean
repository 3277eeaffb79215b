/- The walk of the law CtlOwn. -/
import Derived.Test.YtenfcbmeokenaaaGreatY5
import Derived.Test.YtenfcbmeokenaaaGreatY6
namespace Go.Proofs.YtenfcbmeokenaaaGreat
set_option maxRecDepth 20000
open Go.RowKit
set_option linter.unusedSimpArgs false

theorem Nst.blk1 {w0 w : World} {g gq : Nat} {n : Nd} {b : Nat} {a : Array Value} {T : TypeId} (h : Nst w0 w g gq n (BlkS b a T)) : w.heap[b]? = some (.cells a T) := by
  obtain ⟨F, hF⟩ := h.side
  exact hF.1
theorem Nd3.blk1 {w0 w : World} {ga gb gc : Nat} {a b c : Nd} {k : Nat} {r : Array Value} {T : TypeId} (h : Nd3 w0 w ga a gb b gc c (BlkS k r T)) : w.heap[k]? = some (.cells r T) := by
  obtain ⟨F, hF⟩ := h.side
  exact hF.1
theorem BlkS.more {g : Nat} {a : Array Value} {T : TypeId} {w : World} {B : Nat} (hg : g < B) : ∀ (F G : Nat → Prop), BlkS g a T w F → (∀ k, G k → B ≤ k) → BlkS g a T w fun k => F k ∨ G k :=
  fun F G h hG => ⟨h.1, fun hf => hf.elim h.2 fun h2 => by have := hG _ h2; omega⟩

set_option maxHeartbeats 3200000 in
theorem own_out (A : Option Addr) (n c : Nat) (a x : Int) (w : World) (h : 300 < n ∨ a < 0 ∨ (n : Int) < a) :
    Calls Tryz.prog 8 #[.slice A n c, .int .i64 a, .int .i64 x] w fun e w' => e = .returned (.bool true) ∧ Below w.heap.size w w' := by
  by_cases h1 : 300 < n
  · have g1 : (300 : Int) < (n : Int) := by omega
    clear h h1
    go_enter Tryz.func8, Tryz.ntmps8
    go_wp2_with fail
    refine (step_nil 1 _).mono ?_
    rintro e w1 ⟨rfl, rfl⟩
    go_wp2_with fail
    refine (nput_nil Fr.zero _).mono ?_
    rintro e w2 ⟨rfl, hb2⟩
    have HB2 := Lib.hid hb2
    clear hb2
    go_wp2_with fail
    refine (drv_nil _).mono ?_
    rintro e w3 ⟨rfl, rfl⟩
    go_wp2_with fail
    refine (look_nil _).mono ?_
    rintro e w4 ⟨rfl, hb4⟩
    have HB4 := Lib.hid (nxt HB2.out hb4)
    clear hb4 HB2
    have hl0 := lkneqA 0 0 0 0 false false
    go_wp2_with fail
    refine (nqueue_nil _).mono ?_
    rintro e w5 ⟨rfl, rfl⟩
    go_wp2_with fail
    refine (nclone_nil _).mono ?_
    rintro e w6 ⟨rfl, rfl⟩
    clear hl0
    go_wp2_with fail
    refine (awake10 _).mono ?_
    rintro e w7 ⟨rfl, hb7⟩
    have HB7 := Lib.hid (nxt HB4.out hb7)
    clear hb7
    go_wp2
    go_ret
    exact ⟨rfl, HB7.out⟩
  have g1 : ¬ (300 : Int) < (n : Int) := by omega
  by_cases h2 : a < 0
  · clear h h1
    go_enter Tryz.func8, Tryz.ntmps8
    go_wp2_with fail
    refine (step_nil 1 _).mono ?_
    rintro e w1 ⟨rfl, rfl⟩
    go_wp2_with fail
    refine (nput_nil Fr.zero _).mono ?_
    rintro e w2 ⟨rfl, hb2⟩
    have HB2 := Lib.hid hb2
    clear hb2
    go_wp2_with fail
    refine (drv_nil _).mono ?_
    rintro e w3 ⟨rfl, rfl⟩
    go_wp2_with fail
    refine (look_nil _).mono ?_
    rintro e w4 ⟨rfl, hb4⟩
    have HB4 := Lib.hid (nxt HB2.out hb4)
    clear hb4 HB2
    have hl0 := lkneqA 0 0 0 0 false false
    go_wp2_with fail
    refine (nqueue_nil _).mono ?_
    rintro e w5 ⟨rfl, rfl⟩
    go_wp2_with fail
    refine (nclone_nil _).mono ?_
    rintro e w6 ⟨rfl, rfl⟩
    clear hl0
    go_wp2_with fail
    refine (awake10 _).mono ?_
    rintro e w7 ⟨rfl, hb7⟩
    have HB7 := Lib.hid (nxt HB4.out hb7)
    clear hb7
    go_wp2
    go_ret
    exact ⟨rfl, HB7.out⟩
  have g3 : (n : Int) < a := by omega
  clear h h1
  go_enter Tryz.func8, Tryz.ntmps8
  go_wp2_with fail
  refine (step_nil 1 _).mono ?_
  rintro e w1 ⟨rfl, rfl⟩
  go_wp2_with fail
  refine (nput_nil Fr.zero _).mono ?_
  rintro e w2 ⟨rfl, hb2⟩
  have HB2 := Lib.hid hb2
  clear hb2
  go_wp2_with fail
  refine (drv_nil _).mono ?_
  rintro e w3 ⟨rfl, rfl⟩
  go_wp2_with fail
  refine (look_nil _).mono ?_
  rintro e w4 ⟨rfl, hb4⟩
  have HB4 := Lib.hid (nxt HB2.out hb4)
  clear hb4 HB2
  have hl0 := lkneqA 0 0 0 0 false false
  go_wp2_with fail
  refine (nqueue_nil _).mono ?_
  rintro e w5 ⟨rfl, rfl⟩
  go_wp2_with fail
  refine (nclone_nil _).mono ?_
  rintro e w6 ⟨rfl, rfl⟩
  clear hl0
  go_wp2_with fail
  refine (awake10 _).mono ?_
  rintro e w7 ⟨rfl, hb7⟩
  have HB7 := Lib.hid (nxt HB4.out hb7)
  clear hb7
  go_wp2
  go_ret
  exact ⟨rfl, HB7.out⟩

set_option maxHeartbeats 16000000 in
set_option maxRecDepth 100000 in
theorem own_in (A : Option Addr) (n cap : Nat) (ts : Nat → Tn) (a : Nat) (x : Int) (w : World) (hr : Tl w A n ts) (hwf : ∀ i, i < n → (ts i).f.wf) (hn : n ≤ 300) (ha : a ≤ n) :
    Calls Tryz.prog 8 #[.slice A n cap, .int .i64 (a : Int), .int .i64 x] w fun e w' => e = .returned (.bool true) ∧ Below w.heap.size w w' := by
  have HR := Lib.hid hr
  have HWF := Lib.hid hwf
  have hnI : ¬ (300 : Int) < (n : Int) := by omega
  have hnJ : (n : Int) ≤ 300 := by omega
  have ha0 : ¬ (a : Int) < 0 := by omega
  have ha2 : ¬ (n : Int) < (a : Int) := by omega
  clear hr hwf
  go_enter Tryz.func8, Tryz.ntmps8
  go_wp2_with fail
  refine (step_nil 1 _).mono ?_
  rintro e w1 ⟨rfl, rfl⟩
  go_wp2_with fail
  refine (nput_nil Fr.zero _).mono ?_
  rintro e w2 ⟨rfl, hb2⟩
  have HB2 := Lib.hid hb2
  clear hb2
  go_wp2_with fail
  refine (drv_nil _).mono ?_
  rintro e w3 ⟨rfl, rfl⟩
  go_wp2_with fail
  refine (look_nil _).mono ?_
  rintro e w4 ⟨rfl, hb4⟩
  have HB4 := Lib.hid (nxt HB2.out hb4)
  clear hb4 HB2
  have hl0 := lkneqA 0 0 0 0 false false
  go_wp2_with fail
  refine (nqueue_nil _).mono ?_
  rintro e w5 ⟨rfl, rfl⟩
  go_wp2_with fail
  refine (nclone_nil _).mono ?_
  rintro e w6 ⟨rfl, rfl⟩
  clear hl0
  go_wp2_with fail
  refine (nst_new w _ HB4.out).mono ?_
  rintro e w7 ⟨g, gq, rfl, h1, hb1⟩
  have H1 := Lib.hid h1
  clear h1 hb1
  go_wp2
  go_loopw [11] (fun i wr => ∃ k : Nat, k ≤ a ∧ i = .int .i64 k ∧ ∃ nd, Ow k nd ∧ Nst w wr g gq nd NoSide) (fun i _ => a - (intOf i).toNat)
  case atStart => exact ⟨0, Nat.zero_le _, rfl, _, ow_new, H1.out⟩
  case round =>
    obtain ⟨k, hk, rfl, nd0, hc, hn⟩ := hrel
    have HN0 := Lib.hid hn
    have HC0 := Lib.hid hc
    clear hn hc
    by_cases hlt : k < a
    · have hlt' : (k : Int) < (a : Int) := by omega
      have hkn : k < n := by omega
      have hknI : (k : Int) < (n : Int) := by omega
      obtain ⟨ad, hAD, -, x0, x1, x2, x3, x4, x5, x6, x7, x8, x9, x10, x11, x12, x13⟩ := (HR.out.below HN0.out.below).at_ hkn
      subst hAD
      have htw := HWF.out k hkn
      obtain ⟨t, ht⟩ : ∃ t, ts k = t := ⟨_, rfl⟩
      rw [ht] at x0 x1 x2 x3 x4 x5 x6 x7 x8 x9 x10 x11 x12 x13 htw
      have HTW := Lib.hid htw
      have HT := Lib.hid ht
      clear ht htw
      go_upto_if 91 with fail
      go_cut [] (fun wx => ∃ nd, Ow k nd ∧ Nst w wx g gq nd NoSide)
      case first =>
        as_aux_lemma =>
          obtain ⟨bp, hbp⟩ : ∃ b, t.put = b := ⟨_, rfl⟩
          rw [hbp]
          clear hbp
          cases bp
          · clear x0 x1 x2 x3 x4 x5 x6 x7 x8 x9 x10 x11 x12 x13
            go_wp2
            go_meet
            case rel => exact ⟨_, HC0.out, HN0.out⟩
          · go_wp2_with fail
            clear x0 x1 x2 x3 x4 x5 x6 x7 x8 x9 x10 x11 x12 x13
            refine (nst_put HN0.out kept_no t.f HC0.out.s.q (by have := HC0.out.s.ql; omega)).mono ?_
            rintro e w3 ⟨rfl, hn⟩
            have HN2 := Lib.hid hn
            clear hn
            go_wp2
            go_meet
            case rel => exact ⟨_, HC0.out.put t.f HTW.out, HN2.out⟩
      case rest =>
        as_aux_lemma =>
          clear x0 x1 x2 x3 x4 x5 x6 x7 x8 x9 x10 x11 x12 x13 HN0 HC0
          obtain ⟨nd, hc, hn⟩ := hcut
          have HC := Lib.hid hc
          have HN := Lib.hid hn
          clear hc hn
          have HF := Lib.hid (HC.out.s.fit (by omega))
          have HD := Lib.hid (drv_01 HC.out.s)
          obtain ⟨d, hd⟩ : ∃ d, nd.drv = d := ⟨_, rfl⟩
          have hdr := fun (W : World) (h : Nst w W g gq nd NoSide) => nst_drive h fun h => (HF.out.inf h).f
          rw [hd] at HD hdr
          have HDR := Lib.hid hdr
          clear hdr hd
          have HZ := Lib.hid (Tn.z01 (t := t) HD.out)
          obtain ⟨z, hz⟩ : ∃ z, t.z d = z := ⟨_, rfl⟩
          have hlv := fun W => level_any t d W
          rw [hz] at HZ hlv
          have HLV := Lib.hid hlv
          clear hz hlv
          go_wp2_with fail
          refine wp_region_held_drew (S := fun w' => Below w.heap.size w w') (by kernel_rfl) (below_drew HN.out.below) (fun hHeld => ?_)
          refine takeH (i := 0) (v := .pointer (some ⟨g, 0, none⟩)) rfl (by kernel_rfl) (by kernel_rfl) (by kernel_rfl) (fun _ _ _ h => h) (Or.inl ⟨by rfl, fun w hSw => ?_⟩) hHeld ?_
          · (clear hSw; go_simp)
          simp only [Act.put, List.setIfInBounds_toArray, List.set_cons_zero, List.set_cons_succ]
          refine takeH (i := 1) (v := .slice (some ad) n cap) rfl (by kernel_rfl) (by kernel_rfl) (by kernel_rfl) (fun _ _ _ h => h) (Or.inl ⟨by rfl, fun w hSw => ?_⟩) hHeld ?_
          · (clear hSw; go_simp)
          simp only [Act.put, List.setIfInBounds_toArray, List.set_cons_zero, List.set_cons_succ]
          refine takeH (i := 2) (v := .int .i64 k) rfl (by kernel_rfl) (by kernel_rfl) (by kernel_rfl) (fun _ _ _ h => h) (Or.inl ⟨by rfl, fun w hSw => ?_⟩) hHeld ?_
          · (clear hSw; go_simp)
          simp only [Act.put, List.setIfInBounds_toArray, List.set_cons_zero, List.set_cons_succ]
          refine takeH (i := 3) (v := .pointer (some (ad.add (k * 14)))) rfl (by kernel_rfl) (by kernel_rfl) (by kernel_rfl) (fun _ _ _ h => h) (Or.inl ⟨by rfl, fun w hSw => ?_⟩) hHeld ?_
          · (clear hSw; go_simp)
          simp only [Act.put, List.setIfInBounds_toArray, List.set_cons_zero, List.set_cons_succ]
          refine takeH (i := 4) (v := .agg (tnc t)) rfl (by kernel_rfl) (by kernel_rfl) (by kernel_rfl) (fun _ _ _ h => h) (Or.inl ⟨by rfl, fun w hSw => ?_⟩) hHeld ?_
          · (obtain ⟨ad', hA', hl', x0, x1, x2, x3, x4, x5, x6, x7, x8, x9, x10, x11, x12, x13⟩ := (HR.out.below hSw).at_ hkn; injection hA' with hA'; subst hA'; rw [HT.out] at x0 x1 x2 x3 x4 x5 x6 x7 x8 x9 x10 x11 x12 x13; clear hl'; clear hSw; go_simp)
          simp only [Act.put, List.setIfInBounds_toArray, List.set_cons_zero, List.set_cons_succ]
          refine takeH (i := 5) (v := .pointer (some ⟨g, 0, none⟩)) rfl (by kernel_rfl) (by kernel_rfl) (by kernel_rfl) (fun _ _ _ h => h) (Or.inl ⟨by rfl, fun w hSw => ?_⟩) hHeld ?_
          · (clear hSw; go_simp)
          simp only [Act.put, List.setIfInBounds_toArray, List.set_cons_zero, List.set_cons_succ]
          refine wpAnyH_ready (rs := [6]) (by kernel_rfl) (by simp) ?_
          refine AllReadyH.cons rfl (fun K hK => ?_) AllReadyH.nil
          go_simp
          refine (HDR.out _ (HN.out.drew kept_no)).mono ?_
          rintro e w4 ⟨rfl, hb4⟩
          have HN4 := Lib.hid (HN.out.next kept_no (undrew hb4))
          clear hb4
          clear hHeld
          dsimp only
          refine hK.out _ _ (HN4.out.below) (fun hHeld => ?_)
          clear hK K
          try simp only [Act.put, List.setIfInBounds_toArray, List.set_cons_zero, List.set_cons_succ]
          refine wpAnyH_ready (rs := [7]) (by kernel_rfl) (by simp) ?_
          refine AllReadyH.cons rfl (fun K hK => ?_) AllReadyH.nil
          go_simp
          refine (HLV.out _).mono ?_
          rintro e w5 ⟨rfl, hb5⟩
          have HN5 := Lib.hid (HN4.out.next kept_no hb5)
          clear hb5
          clear hHeld
          dsimp only
          refine hK.out _ _ (HN5.out.below) (fun hHeld => ?_)
          clear hK K
          try simp only [Act.put, List.setIfInBounds_toArray, List.set_cons_zero, List.set_cons_succ]
          refine wpAnyH_ready (rs := [8]) (by kernel_rfl) (by simp) ?_
          refine AllReadyH.cons rfl (fun K hK => ?_) AllReadyH.nil
          go_simp
          refine (nst_step HN5.out kept_no HF.out z HZ.out).mono ?_
          rintro e w6 ⟨u, rfl, h5, h6, h7⟩
          obtain ⟨Ae, ce, rfl, -⟩ := h5.len
          have HN6 := Lib.hid h6
          clear h5 h6 h7
          clear hHeld
          dsimp only
          refine hK.out _ _ (HN6.out.below) (fun hHeld => ?_)
          clear hK K
          try simp only [Act.put, List.setIfInBounds_toArray, List.set_cons_zero, List.set_cons_succ]
          refine wpAnyH_done (by kernel_rfl) ?_ _
          clear hHeld
          go_wp2
          go_roundw
          case rel => exact ⟨k + 1, by omega, by go_num, _, HC.out.stp HZ.out, HN6.out⟩
          case measure => simp [intOf]; omega
    · have hlt' : ¬ (k : Int) < (a : Int) := by omega
      obtain rfl : k = a := by omega
      clear hlt hk H1 HB4
      as_aux_lemma =>
        have HF0 := Lib.hid (HC0.out.s.fit (by omega))
        obtain ⟨hs1, hs2⟩ := HC0.out.short
        have HSH := Lib.hid (And.intro hs1 hs2)
        have HQL := Lib.hid (show nd0.q.length ≤ 1000000 by have := HC0.out.s.ql; omega)
        clear hs1 hs2
        rename World => wa
        obtain ⟨nd, hnd⟩ : ∃ nd, nd0 = nd := ⟨_, rfl⟩
        rw [hnd] at HN0 HC0 HF0 HSH HQL
        clear hnd
        obtain ⟨d, hd⟩ : ∃ d, nd.drv = d := ⟨_, rfl⟩
        have HDE := Lib.hid hd
        clear hd
        go_wp2_with fail
        refine (nst_look HN0.out).mono ?_
        rintro e w3 ⟨rfl, hb3⟩
        have HN3 := Lib.hid (HN0.out.next kept_no hb3)
        clear hb3
        go_wp2_with fail
        have hadd := (HN3.out.add kept_no (below_new w3 (.cells #[.int .i64 nd.mode, .bool nd.tx, .int .i64 nd.ct.t, .int .i64 nd.ct.r, .bool nd.ct.o, .int .i64 (nd.q.length : Nat)] 43)) (blkS_new w3 #[.int .i64 nd.mode, .bool nd.tx, .int .i64 nd.ct.t, .int .i64 nd.ct.r, .bool nd.ct.o, .int .i64 (nd.q.length : Nat)] 43)).less (Q := BlkS w3.heap.size #[.int .i64 nd.mode, .bool nd.tx, .int .i64 nd.ct.t, .int .i64 nd.ct.r, .bool nd.ct.o, .int .i64 (nd.q.length : Nat)] 43) (fun F h => h.2)
        have HN4 := Lib.hid hadd
        clear hadd HN3
        have HSZ := Lib.hid (show w3.heap.size < (w3.alloc (.cells #[.int .i64 nd.mode, .bool nd.tx, .int .i64 nd.ct.t, .int .i64 nd.ct.r, .bool nd.ct.o, .int .i64 (nd.q.length : Nat)] 43)).heap.size by simp)
        obtain ⟨ga, hga⟩ : ∃ ga, w3.heap.size = ga := ⟨_, rfl⟩
        rw [hga] at HN4 HSZ ⊢
        have hdr := nst_drive HN4.out fun h => (HF0.out.inf h).f
        rw [HDE.out] at hdr
        refine hdr.mono ?_
        clear hdr
        rintro e w5 ⟨rfl, hb5⟩
        have HK := Lib.hid (kept_blk ga #[.int .i64 nd.mode, .bool nd.tx, .int .i64 nd.ct.t, .int .i64 nd.ct.r, .bool nd.ct.o, .int .i64 (nd.q.length : Nat)] 43)
        have HN5 := Lib.hid (HN4.out.next HK.out hb5)
        have HSZ5 := Lib.hid (Nat.lt_of_lt_of_le HSZ.out hb5.size)
        clear hb5 HN4 HSZ hga
        go_wp2_with fail
        refine (nst_clone HN5.out HQL.out HSH.out.1 HSH.out.2).mono ?_
        rintro e w6 ⟨pc, rfl, hl6, hb6⟩
        have HL6 := Lib.hid hl6
        have HB6 := Lib.hid hb6
        have HN6 := Lib.hid (HN5.out.next HK.out hb6)
        clear hl6 hb6
        go_wp2_with fail
        refine (nst_clone HN6.out HQL.out HSH.out.1 HSH.out.2).mono ?_
        rintro e w7 ⟨po, rfl, hl7, hb7⟩
        have h3 := nd3_of HN5.out HK.out (nxt HB6.out hb7) (HL6.out.next hb7) (fun k hk => HL6.out.fp_lt k hk) HB6.out.size hl7 (BlkS.more HSZ5.out)
        have H3 := Lib.hid h3
        clear hl7 hb7 h3 HN6 HN5 HL6 HB6 HSZ5
        obtain ⟨gc, hgc⟩ : ∃ gc, pc.g = gc := ⟨_, rfl⟩
        obtain ⟨go, hgo⟩ : ∃ go, po.g = go := ⟨_, rfl⟩
        rw [hgc, hgo] at H3
        rw [hgc, hgo]
        clear hgc hgo pc po HN0
        go_upto_region 20 with fail
        have hlq := lkneqA nd.mode nd.ct.t nd.ct.r (nd.q.length : Nat) nd.tx nd.ct.o
        have HLQ := Lib.hid hlq
        clear hlq
        have hdc := fun (W : World) (h : Nd3 w W gc nd go nd g nd (BlkS ga #[.int .i64 nd.mode, .bool nd.tx, .int .i64 nd.ct.t, .int .i64 nd.ct.r, .bool nd.ct.o, .int .i64 (nd.q.length : Nat)] 43)) => nd3_drive h fun h => (HF0.out.inf h).f
        rw [HDE.out] at hdc
        have HDC := Lib.hid hdc
        clear hdc
        have HQ1 := Lib.hid (show nd.q.length ≤ 1000000 from HQL.out)
        refine wp_region_held_drew (S := fun w' => w'.heap[ga]? = some (.cells #[.int .i64 nd.mode, .bool nd.tx, .int .i64 nd.ct.t, .int .i64 nd.ct.r, .bool nd.ct.o, .int .i64 (nd.q.length : Nat)] 43)) (by kernel_rfl) ((H3.out.drew HK.out).blk1) (fun hHeld => ?_)
        refine takeH (i := 0) (v := .pointer (some ⟨gc, 0, none⟩)) rfl (by kernel_rfl) (by kernel_rfl) (by kernel_rfl) (fun _ _ _ h => h) (Or.inl ⟨by rfl, fun w hSw => ?_⟩) hHeld ?_
        · (clear hSw; go_simp)
        simp only [Act.put, List.setIfInBounds_toArray, List.set_cons_zero, List.set_cons_succ]
        refine takeH (i := 1) (v := .bool false) rfl (by kernel_rfl) (by kernel_rfl) (by kernel_rfl) (fun _ _ _ h => h) (Or.inl ⟨by rfl, fun w hSw => ?_⟩) hHeld ?_
        · (clear hSw; go_simp)
        simp only [Act.put, List.setIfInBounds_toArray, List.set_cons_zero, List.set_cons_succ]
        refine takeH (i := 2) (v := .bool false) rfl (by kernel_rfl) (by kernel_rfl) (by kernel_rfl) (fun _ _ _ h => h) (Or.inl ⟨by rfl, fun w hSw => ?_⟩) hHeld ?_
        · (clear hSw; go_simp)
        simp only [Act.put, List.setIfInBounds_toArray, List.set_cons_zero, List.set_cons_succ]
        refine takeH (i := 3) (v := .pointer (some ⟨go, 0, none⟩)) rfl (by kernel_rfl) (by kernel_rfl) (by kernel_rfl) (fun _ _ _ h => h) (Or.inl ⟨by rfl, fun w hSw => ?_⟩) hHeld ?_
        · (clear hSw; go_simp)
        simp only [Act.put, List.setIfInBounds_toArray, List.set_cons_zero, List.set_cons_succ]
        refine takeH (i := 4) (v := .bool false) rfl (by kernel_rfl) (by kernel_rfl) (by kernel_rfl) (fun _ _ _ h => h) (Or.inl ⟨by rfl, fun w hSw => ?_⟩) hHeld ?_
        · (clear hSw; go_simp)
        simp only [Act.put, List.setIfInBounds_toArray, List.set_cons_zero, List.set_cons_succ]
        refine takeH (i := 5) (v := .bool false) rfl (by kernel_rfl) (by kernel_rfl) (by kernel_rfl) (fun _ _ _ h => h) (Or.inl ⟨by rfl, fun w hSw => ?_⟩) hHeld ?_
        · (clear hSw; go_simp)
        simp only [Act.put, List.setIfInBounds_toArray, List.set_cons_zero, List.set_cons_succ]
        refine takeH (i := 6) (v := .bool false) rfl (by kernel_rfl) (by kernel_rfl) (by kernel_rfl) (fun _ _ _ h => h) (Or.inl ⟨by rfl, fun w hSw => ?_⟩) hHeld ?_
        · (clear hSw; go_simp)
        simp only [Act.put, List.setIfInBounds_toArray, List.set_cons_zero, List.set_cons_succ]
        refine takeH (i := 7) (v := .pointer (some ⟨gc, 0, none⟩)) rfl (by kernel_rfl) (by kernel_rfl) (by kernel_rfl) (fun _ _ _ h => h) (Or.inl ⟨by rfl, fun w hSw => ?_⟩) hHeld ?_
        · (clear hSw; go_simp)
        simp only [Act.put, List.setIfInBounds_toArray, List.set_cons_zero, List.set_cons_succ]
        refine takeH (i := 9) (v := .agg #[.int .i64 nd.mode, .bool nd.tx, .int .i64 nd.ct.t, .int .i64 nd.ct.r, .bool nd.ct.o, .int .i64 (nd.q.length : Nat)]) rfl (by kernel_rfl) (by kernel_rfl) (by kernel_rfl) (fun _ _ _ h => h) (Or.inl ⟨by rfl, fun w hSw => ?_⟩) hHeld ?_
        · (have q0 := cell_of_row w ga 0 _ _ (0, 0) hSw; have q1 := cell_of_row w ga 1 _ _ (0, 0) hSw; have q2 := cell_of_row w ga 2 _ _ (0, 0) hSw; have q3 := cell_of_row w ga 3 _ _ (0, 0) hSw; have q4 := cell_of_row w ga 4 _ _ (0, 0) hSw; have q5 := cell_of_row w ga 5 _ _ (0, 0) hSw; clear hSw; go_simp)
        simp only [Act.put, List.setIfInBounds_toArray, List.set_cons_zero, List.set_cons_succ]
        refine wpAnyH_ready (rs := [8]) (by kernel_rfl) (by simp) ?_
        refine AllReadyH.cons rfl (fun K hK => ?_) AllReadyH.nil
        go_simp
        refine (nd3_look ((H3.out.drew HK.out).rot)).mono ?_
        rintro e w8 ⟨rfl, hb8⟩
        have H8 := Lib.hid (H3.out.next HK.out (undrew hb8))
        clear hb8
        clear hHeld
        dsimp only
        refine hK.out _ _ (H8.out.blk1) (fun hHeld => ?_)
        clear hK K
        try simp only [Act.put, List.setIfInBounds_toArray, List.set_cons_zero, List.set_cons_succ]
        refine takeH (i := 10) (v := .bool false) rfl (by kernel_rfl) (by kernel_rfl) (by kernel_rfl) (fun _ _ _ h => h) (Or.inl ⟨by rfl, fun w hSw => ?_⟩) hHeld ?_
        · (have hlq := HLQ.out; clear hSw; go_simp)
        simp only [Act.put, List.setIfInBounds_toArray, List.set_cons_zero, List.set_cons_succ]
        refine takeH (i := 11) (v := .bool false) rfl (by kernel_rfl) (by kernel_rfl) (by kernel_rfl) (fun _ _ _ h => h) (Or.inl ⟨by rfl, fun w hSw => ?_⟩) hHeld ?_
        · (clear hSw; go_simp)
        simp only [Act.put, List.setIfInBounds_toArray, List.set_cons_zero, List.set_cons_succ]
        refine takeH (i := 12) (v := .bool false) rfl (by kernel_rfl) (by kernel_rfl) (by kernel_rfl) (fun _ _ _ h => h) (Or.inl ⟨by rfl, fun w hSw => ?_⟩) hHeld ?_
        · (clear hSw; go_simp)
        simp only [Act.put, List.setIfInBounds_toArray, List.set_cons_zero, List.set_cons_succ]
        refine takeH (i := 13) (v := .pointer (some ⟨gc, 0, none⟩)) rfl (by kernel_rfl) (by kernel_rfl) (by kernel_rfl) (fun _ _ _ h => h) (Or.inl ⟨by rfl, fun w hSw => ?_⟩) hHeld ?_
        · (clear hSw; go_simp)
        simp only [Act.put, List.setIfInBounds_toArray, List.set_cons_zero, List.set_cons_succ]
        refine takeH (i := 15) (v := .int .i64 d) rfl (by kernel_rfl) (by kernel_rfl) (by kernel_rfl) (fun _ _ _ h => h) (Or.inl ⟨by rfl, fun w hSw => ?_⟩) hHeld ?_
        · (clear hSw; go_simp)
        simp only [Act.put, List.setIfInBounds_toArray, List.set_cons_zero, List.set_cons_succ]
        refine wpAnyH_ready (rs := [14]) (by kernel_rfl) (by simp) ?_
        refine AllReadyH.cons rfl (fun K hK => ?_) AllReadyH.nil
        go_simp
        refine (HDC.out _ H8.out.rot).mono ?_
        rintro e w9 ⟨rfl, hb9⟩
        have H9 := Lib.hid (H8.out.next HK.out hb9)
        clear hb9
        clear hHeld
        dsimp only
        refine hK.out _ _ (H9.out.blk1) (fun hHeld => ?_)
        clear hK K
        try simp only [Act.put, List.setIfInBounds_toArray, List.set_cons_zero, List.set_cons_succ]
        refine takeH (i := 16) (v := .bool false) rfl (by kernel_rfl) (by kernel_rfl) (by kernel_rfl) (fun _ _ _ h => h) (Or.inl ⟨by rfl, fun w hSw => ?_⟩) hHeld ?_
        · (clear hSw; go_simp)
        simp only [Act.put, List.setIfInBounds_toArray, List.set_cons_zero, List.set_cons_succ]
        refine takeH (i := 17) (v := .bool false) rfl (by kernel_rfl) (by kernel_rfl) (by kernel_rfl) (fun _ _ _ h => h) (Or.inl ⟨by rfl, fun w hSw => ?_⟩) hHeld ?_
        · (clear hSw; go_simp)
        simp only [Act.put, List.setIfInBounds_toArray, List.set_cons_zero, List.set_cons_succ]
        refine takeH (i := 18) (v := .bool false) rfl (by kernel_rfl) (by kernel_rfl) (by kernel_rfl) (fun _ _ _ h => h) (Or.inl ⟨by rfl, fun w hSw => ?_⟩) hHeld ?_
        · (clear hSw; go_simp)
        simp only [Act.put, List.setIfInBounds_toArray, List.set_cons_zero, List.set_cons_succ]
        refine takeH (i := 19) (v := .pointer (some ⟨gc, 0, none⟩)) rfl (by kernel_rfl) (by kernel_rfl) (by kernel_rfl) (fun _ _ _ h => h) (Or.inl ⟨by rfl, fun w hSw => ?_⟩) hHeld ?_
        · (clear hSw; go_simp)
        simp only [Act.put, List.setIfInBounds_toArray, List.set_cons_zero, List.set_cons_succ]
        refine takeH (i := 21) (v := .pointer (some ⟨g, 0, none⟩)) rfl (by kernel_rfl) (by kernel_rfl) (by kernel_rfl) (fun _ _ _ h => h) (Or.inl ⟨by rfl, fun w hSw => ?_⟩) hHeld ?_
        · (clear hSw; go_simp)
        simp only [Act.put, List.setIfInBounds_toArray, List.set_cons_zero, List.set_cons_succ]
        refine wpAnyH_ready (rs := [20]) (by kernel_rfl) (by simp) ?_
        refine AllReadyH.cons rfl (fun K hK => ?_) AllReadyH.nil
        go_simp
        refine (nd3_queue H9.out.rot HQ1.out).mono ?_
        rintro e w10 ⟨u1, rfl, hu1, hb10⟩
        obtain ⟨A1, k1, rfl, -, -⟩ := hu1.fl
        have HU1 := Lib.hid hu1
        have H10 := Lib.hid (H9.out.next HK.out hb10)
        clear hb10 hu1
        clear hHeld
        dsimp only
        refine hK.out _ _ (H10.out.blk1) (fun hHeld => ?_)
        clear hK K
        try simp only [Act.put, List.setIfInBounds_toArray, List.set_cons_zero, List.set_cons_succ]
        refine wpAnyH_ready (rs := [22]) (by kernel_rfl) (by simp) ?_
        refine AllReadyH.cons rfl (fun K hK => ?_) AllReadyH.nil
        go_simp
        refine (nd3_queue H10.out HQ1.out).mono ?_
        rintro e w11 ⟨u2, rfl, hu2, hb11⟩
        obtain ⟨A2, k2, e2, hf2, -⟩ := hu2.fl
        subst e2
        obtain ⟨A1', k1', e1, hf1, -⟩ := (HU1.out.below hb11).fl
        injection e1 with e1 e1b e1c
        subst e1
        have HF12 := Lib.hid (And.intro hf1 hf2)
        have H11 := Lib.hid (H10.out.next HK.out hb11)
        clear hb11 hu2 hf1 hf2 e1b e1c
        clear hHeld
        dsimp only
        refine hK.out _ _ (H11.out.blk1) (fun hHeld => ?_)
        clear hK K
        try simp only [Act.put, List.setIfInBounds_toArray, List.set_cons_zero, List.set_cons_succ]
        refine wpAnyH_ready (rs := [23]) (by kernel_rfl) (by simp) ?_
        refine AllReadyH.cons rfl (fun K hK => ?_) AllReadyH.nil
        go_simp
        refine (frames_same _ _ _ _ _ _ _ HF12.out.1 HF12.out.2 HQ1.out).mono ?_
        rintro e w12 ⟨rfl, hb12⟩
        have H12 := Lib.hid (H11.out.next HK.out hb12)
        clear hb12
        clear hHeld
        dsimp only
        refine hK.out _ _ (H12.out.blk1) (fun hHeld => ?_)
        clear hK K
        try simp only [Act.put, List.setIfInBounds_toArray, List.set_cons_zero, List.set_cons_succ]
        refine takeH (i := 24) (v := .bool false) rfl (by kernel_rfl) (by kernel_rfl) (by kernel_rfl) (fun _ _ _ h => h) (Or.inl ⟨by rfl, fun w hSw => ?_⟩) hHeld ?_
        · (clear hSw; go_simp)
        simp only [Act.put, List.setIfInBounds_toArray, List.set_cons_zero, List.set_cons_succ]
        refine takeH (i := 25) (v := .bool false) rfl (by kernel_rfl) (by kernel_rfl) (by kernel_rfl) (fun _ _ _ h => h) (Or.inl ⟨by rfl, fun w hSw => ?_⟩) hHeld ?_
        · (clear hSw; go_simp)
        simp only [Act.put, List.setIfInBounds_toArray, List.set_cons_zero, List.set_cons_succ]
        refine wpAnyH_done (by kernel_rfl) ?_ _
        clear hHeld
        have H13 := Lib.hid H12.out.rot
        clear H3 H8 H9 H10 H11 H12 HSH HQL HF12 HU1 HQ1 HDC
        go_wp2
        go_loopw [16] (fun i wr => ∃ j : Nat, k ≤ j ∧ j ≤ n ∧ i = .int .i64 j ∧ ∃ nc, Ow j nc ∧ Nd3 w wr gc nc go nc g nd (BlkS ga #[.int .i64 nd.mode, .bool nd.tx, .int .i64 nd.ct.t, .int .i64 nd.ct.r, .bool nd.ct.o, .int .i64 (nd.q.length : Nat)] 43)) (fun i _ => n - (intOf i).toNat)
        case atStart => exact ⟨k, Nat.le_refl _, ha, rfl, _, HC0.out, H13.out⟩
        case round =>
          clear H13 HC0
          obtain ⟨j, hkj, hjn, rfl, n0, hc, hn⟩ := hrel
          have H0 := Lib.hid hn
          have HC0 := Lib.hid hc
          clear hn hc
          by_cases hlt : j < n
          · have hlt' : (j : Int) < (n : Int) := by omega
            obtain ⟨ad, hAD, -, x0, x1, x2, x3, x4, x5, x6, x7, x8, x9, x10, x11, x12, x13⟩ := (HR.out.below H0.out.below).at_ hlt
            subst hAD
            have htw := HWF.out j hlt
            obtain ⟨t, ht⟩ : ∃ t, ts j = t := ⟨_, rfl⟩
            rw [ht] at x0 x1 x2 x3 x4 x5 x6 x7 x8 x9 x10 x11 x12 x13 htw
            have HTW := Lib.hid htw
            have HT := Lib.hid ht
            clear ht htw
            go_upto_if 153 with fail
            go_cut [] (fun wx => ∃ nc, Ow j nc ∧ Nd3 w wx gc nc go nc g nd (BlkS ga #[.int .i64 nd.mode, .bool nd.tx, .int .i64 nd.ct.t, .int .i64 nd.ct.r, .bool nd.ct.o, .int .i64 (nd.q.length : Nat)] 43))
            case first =>
              as_aux_lemma =>
                obtain ⟨bp, hbp⟩ : ∃ b, t.put = b := ⟨_, rfl⟩
                rw [hbp]
                clear hbp
                cases bp
                · clear x0 x1 x2 x3 x4 x5 x6 x7 x8 x9 x10 x11 x12 x13
                  go_wp2
                  go_meet
                  case rel => exact ⟨_, HC0.out, H0.out⟩
                · go_wp2_with fail
                  clear x0 x1 x2 x3 x4 x5 x6 x7 x8 x9 x10 x11 x12 x13
                  refine (nd3_put H0.out HK.out t.f HC0.out.s.q (by have := HC0.out.s.ql; omega)).mono ?_
                  rintro e w3 ⟨rfl, hn⟩
                  have H2 := Lib.hid hn.rot
                  clear hn
                  obtain ⟨ad', hA', -, x0, x1, x2, x3, x4, x5, x6, x7, x8, x9, x10, x11, x12, x13⟩ := (HR.out.below H2.out.below).at_ hlt
                  injection hA' with hA'
                  subst hA'
                  rw [HT.out] at x0 x1 x2 x3 x4 x5 x6 x7 x8 x9 x10 x11 x12 x13
                  go_wp2_with fail
                  clear x0 x1 x2 x3 x4 x5 x6 x7 x8 x9 x10 x11 x12 x13
                  refine (nd3_put H2.out HK.out t.f HC0.out.s.q (by have := HC0.out.s.ql; omega)).mono ?_
                  rintro e w4 ⟨rfl, hn⟩
                  have H4 := Lib.hid hn.rot.rot
                  clear hn
                  go_wp2
                  go_meet
                  case rel => exact ⟨_, HC0.out.put t.f HTW.out, H4.out⟩
            case rest =>
              as_aux_lemma =>
                clear x0 x1 x2 x3 x4 x5 x6 x7 x8 x9 x10 x11 x12 x13 H0 HC0 n0
                obtain ⟨nc, hc, hn⟩ := hcut
                have HC := Lib.hid hc
                have H0 := Lib.hid hn
                clear hc hn
                have HF := Lib.hid (HC.out.s.fit (by omega))
                have HD := Lib.hid (drv_01 HC.out.s)
                obtain ⟨dc, hd⟩ : ∃ d, nc.drv = d := ⟨_, rfl⟩
                have hdr := fun (W : World) (h : Nd3 w W gc nc go nc g nd (BlkS ga #[.int .i64 nd.mode, .bool nd.tx, .int .i64 nd.ct.t, .int .i64 nd.ct.r, .bool nd.ct.o, .int .i64 (nd.q.length : Nat)] 43)) => nd3_drive h fun h => (HF.out.inf h).f
                rw [hd] at HD hdr
                have HDR := Lib.hid hdr
                clear hdr hd
                have HZ := Lib.hid (Tn.z01 (t := t) HD.out)
                obtain ⟨z, hz⟩ : ∃ z, t.z dc = z := ⟨_, rfl⟩
                have hlv := fun W => level_any t dc W
                rw [hz] at HZ hlv
                have HLV := Lib.hid hlv
                clear hz hlv
                go_upto_region 28 with fail
                refine wp_region_held_drew (S := fun w' => Below w.heap.size w w') (by kernel_rfl) ((H0.out.drew HK.out).below) (fun hHeld => ?_)
                refine takeH (i := 0) (v := .slice (some ad) n cap) rfl (by kernel_rfl) (by kernel_rfl) (by kernel_rfl) (fun _ _ _ h => h) (Or.inl ⟨by rfl, fun w hSw => ?_⟩) hHeld ?_
                · (clear hSw; go_simp)
                simp only [Act.put, List.setIfInBounds_toArray, List.set_cons_zero, List.set_cons_succ]
                refine takeH (i := 1) (v := .int .i64 j) rfl (by kernel_rfl) (by kernel_rfl) (by kernel_rfl) (fun _ _ _ h => h) (Or.inl ⟨by rfl, fun w hSw => ?_⟩) hHeld ?_
                · (clear hSw; go_simp)
                simp only [Act.put, List.setIfInBounds_toArray, List.set_cons_zero, List.set_cons_succ]
                refine takeH (i := 2) (v := .pointer (some (ad.add (j * 14)))) rfl (by kernel_rfl) (by kernel_rfl) (by kernel_rfl) (fun _ _ _ h => h) (Or.inl ⟨by rfl, fun w hSw => ?_⟩) hHeld ?_
                · (clear hSw; go_simp)
                simp only [Act.put, List.setIfInBounds_toArray, List.set_cons_zero, List.set_cons_succ]
                refine takeH (i := 3) (v := .agg (tnc t)) rfl (by kernel_rfl) (by kernel_rfl) (by kernel_rfl) (fun _ _ _ h => h) (Or.inl ⟨by rfl, fun w hSw => ?_⟩) hHeld ?_
                · (obtain ⟨ad', hA', hl', x0, x1, x2, x3, x4, x5, x6, x7, x8, x9, x10, x11, x12, x13⟩ := (HR.out.below hSw).at_ hlt; injection hA' with hA'; subst hA'; rw [HT.out] at x0 x1 x2 x3 x4 x5 x6 x7 x8 x9 x10 x11 x12 x13; clear hl'; clear hSw; go_simp)
                simp only [Act.put, List.setIfInBounds_toArray, List.set_cons_zero, List.set_cons_succ]
                refine takeH (i := 4) (v := .pointer (some ⟨gc, 0, none⟩)) rfl (by kernel_rfl) (by kernel_rfl) (by kernel_rfl) (fun _ _ _ h => h) (Or.inl ⟨by rfl, fun w hSw => ?_⟩) hHeld ?_
                · (clear hSw; go_simp)
                simp only [Act.put, List.setIfInBounds_toArray, List.set_cons_zero, List.set_cons_succ]
                refine wpAnyH_ready (rs := [5]) (by kernel_rfl) (by simp) ?_
                refine AllReadyH.cons rfl (fun K hK => ?_) AllReadyH.nil
                go_simp
                refine (HDR.out _ (H0.out.drew HK.out)).mono ?_
                rintro e w4 ⟨rfl, hb4⟩
                have H1 := Lib.hid (H0.out.next HK.out (undrew hb4))
                clear hb4
                clear hHeld
                dsimp only
                refine hK.out _ _ (H1.out.below) (fun hHeld => ?_)
                clear hK K
                try simp only [Act.put, List.setIfInBounds_toArray, List.set_cons_zero, List.set_cons_succ]
                refine wpAnyH_ready (rs := [6]) (by kernel_rfl) (by simp) ?_
                refine AllReadyH.cons rfl (fun K hK => ?_) AllReadyH.nil
                go_simp
                refine (HLV.out _).mono ?_
                rintro e w5 ⟨rfl, hb5⟩
                have H2 := Lib.hid (H1.out.next HK.out hb5)
                clear hb5
                clear hHeld
                dsimp only
                refine hK.out _ _ (H2.out.below) (fun hHeld => ?_)
                clear hK K
                try simp only [Act.put, List.setIfInBounds_toArray, List.set_cons_zero, List.set_cons_succ]
                refine takeH (i := 7) (v := .int .i64 z) rfl (by kernel_rfl) (by kernel_rfl) (by kernel_rfl) (fun _ _ _ h => h) (Or.inl ⟨by rfl, fun w hSw => ?_⟩) hHeld ?_
                · (clear hSw; go_simp)
                simp only [Act.put, List.setIfInBounds_toArray, List.set_cons_zero, List.set_cons_succ]
                refine wpAnyH_done (by kernel_rfl) ?_ _
                clear hHeld
                have hst := nd3_step H2.out HK.out HF.out z HZ.out
                have hes3 := (good_stp HC.out.s HZ.out).len
                obtain ⟨es, hes⟩ : ∃ es, (nc.stp z).1 = es := ⟨_, rfl⟩
                rw [hes] at hes3
                obtain ⟨n1, hn1⟩ : ∃ n1, (nc.stp z).2 = n1 := ⟨_, rfl⟩
                have HC1 := Lib.hid (show Ow (j + 1) n1 by rw [← hn1]; exact HC.out.stp HZ.out)
                have hst2 := fun (W : World) (B : Nat) (v : Value) (h : Nd3 w W go nc g nd gc n1 (Both (BlkS ga #[.int .i64 nd.mode, .bool nd.tx, .int .i64 nd.ct.t, .int .i64 nd.ct.r, .bool nd.ct.o, .int .i64 (nd.q.length : Nat)] 43) (EvS B v es))) => nd3_step h (kept_both HK.out (kept_ev B v es)) HF.out z HZ.out
                rw [hes, hn1] at hst hst2
                have HST := Lib.hid hst
                have HST2 := Lib.hid hst2
                clear hst hst2 hes hn1 HDR HLV
                go_wp2_with fail
                refine HST.out.mono ?_
                rintro e w6 ⟨u, rfl, h5, h6, h7⟩
                obtain ⟨Ae, ce, rfl, -⟩ := h5.len
                have H6 := Lib.hid (h6.addE h5).rot
                clear h5 h6 h7 HST
                go_wp2_with fail
                refine (HST2.out _ _ _ H6.out).mono ?_
                rintro e w7 ⟨u, rfl, h5, h6, h7⟩
                obtain ⟨Be, de, rfl, -⟩ := h5.len
                have HE2 := Lib.hid h5
                have HE1 := Lib.hid (show ∃ F : Nat → Prop, EvS _ _ es w7 F from by
                  obtain ⟨F, hF⟩ := h6.side
                  exact ⟨F, hF.2⟩)
                have H7 := Lib.hid (h6.rot.rot.less (Q := BlkS ga #[.int .i64 nd.mode, .bool nd.tx, .int .i64 nd.ct.t, .int .i64 nd.ct.r, .bool nd.ct.o, .int .i64 (nd.q.length : Nat)] 43) (fun F h => h.1))
                clear h5 h6 h7 HST2 H6 H2
                have hlk := nd3_look H7.out
                have HVWA := Lib.hid hlk
                have hlk2 := fun (W : World) (h : Nd3 w W gc n1 go n1 g nd (BlkS ga #[.int .i64 nd.mode, .bool nd.tx, .int .i64 nd.ct.t, .int .i64 nd.ct.r, .bool nd.ct.o, .int .i64 (nd.q.length : Nat)] 43)) => nd3_look h.rot
                have HVWB := Lib.hid hlk2
                have HL2 := Lib.hid (lkneqA n1.mode n1.ct.t n1.ct.r (n1.q.length : Nat) n1.tx n1.ct.o)
                clear hlk hlk2
                go_wp2_with fail
                refine HVWA.out.mono ?_
                rintro e w8 ⟨rfl, hb8⟩
                have H8 := Lib.hid (H7.out.next HK.out hb8)
                go_wp2_with fail
                refine (HVWB.out _ H8.out).mono ?_
                rintro e w9 ⟨rfl, hb9⟩
                have H9 := Lib.hid (H8.out.next HK.out hb9)
                have HE2b := Lib.hid ((HE2.out.below hb8).below hb9)
                obtain ⟨F1, hF1⟩ := HE1.out
                have HE1b := Lib.hid ((hF1.1.below hb8).below hb9)
                have hl2 := HL2.out
                clear hF1 F1 HE1 HE2 hb8 hb9 H7 H8 HVWA HVWB
                go_wp2
                clear hl2
                rename World => wo
                go_loopw [22] (fun i wr => Below wo.heap.size wo wr ∧ ∃ y : Nat, y ≤ es.length ∧ i = .int .i64 y) (fun i _ => es.length - (intOf i).toNat)
                case atStart => exact ⟨Below.refl _ _, 0, Nat.zero_le _, rfl⟩
                case round =>
                  obtain ⟨hbl, y, hy, rfl⟩ := hrel
                  have HBL := Lib.hid hbl
                  clear hbl
                  by_cases hyl : y < es.length
                  · have hyI : (y : Int) < (es.length : Int) := by omega
                    obtain ⟨ge, rfl, hce⟩ := (HE1b.out.below HBL.out).at_ hyl
                    obtain ⟨gf, rfl, hcf⟩ := (HE2b.out.below HBL.out).at_ hyl
                    obtain ⟨ev0, hev⟩ : ∃ ev0, es.getD y (0, Fr.zero) = ev0 := ⟨_, rfl⟩
                    rw [hev] at hce hcf
                    clear hev
                    have l0 : wr.cell? ⟨ge, y * 15, none⟩ = some (.int .i64 0) := hce 0 _ rfl
                    have r0 : wr.cell? ⟨gf, y * 15, none⟩ = some (.int .i64 0) := hcf 0 _ rfl
                    have l1 := hce 1 _ rfl
                    have l2 := hce 2 _ rfl
                    have l3 := hce 3 _ rfl
                    have l4 := hce 4 _ rfl
                    have l5 := hce 5 _ rfl
                    have l6 := hce 6 _ rfl
                    have l7 := hce 7 _ rfl
                    have l8 := hce 8 _ rfl
                    have l9 := hce 9 _ rfl
                    have l10 := hce 10 _ rfl
                    have l11 := hce 11 _ rfl
                    have l12 := hce 12 _ rfl
                    have l13 := hce 13 _ rfl
                    have l14 := hce 14 _ rfl
                    have r1 := hcf 1 _ rfl
                    have r2 := hcf 2 _ rfl
                    have r3 := hcf 3 _ rfl
                    have r4 := hcf 4 _ rfl
                    have r5 := hcf 5 _ rfl
                    have r6 := hcf 6 _ rfl
                    have r7 := hcf 7 _ rfl
                    have r8 := hcf 8 _ rfl
                    have r9 := hcf 9 _ rfl
                    have r10 := hcf 10 _ rfl
                    have r11 := hcf 11 _ rfl
                    have r12 := hcf 12 _ rfl
                    have r13 := hcf 13 _ rfl
                    have r14 := hcf 14 _ rfl
                    have hne := evneq ev0
                    clear hce hcf
                    go_wp2
                    go_quiet (fail)
                    go_wp2
                    go_roundw
                    case rel => exact ⟨belowN HBL.out _, y + 1, by omega, by go_num⟩
                    case measure => simp [intOf]; omega
                  · have hyI : ¬ (y : Int) < (es.length : Int) := by omega
                    go_wp2
                    go_roundw
                    case rel => exact ⟨j + 1, by omega, by omega, by go_num, n1, HC1.out, H9.out.next HK.out HBL.out⟩
                    case measure => simp [intOf]; omega
          · have hlt' : ¬ (j : Int) < (n : Int) := by omega
            have H1 := Lib.hid H0.out.rot.rot
            have hdn := fun (W : World) (h : Nd3 w W g nd gc n0 go n0 (BlkS ga #[.int .i64 nd.mode, .bool nd.tx, .int .i64 nd.ct.t, .int .i64 nd.ct.r, .bool nd.ct.o, .int .i64 (nd.q.length : Nat)] 43)) => nd3_drive h fun h => (HF0.out.inf h).f
            rw [HDE.out] at hdn
            have HDN := Lib.hid hdn
            clear hdn H0
            go_upto_region 38 with fail
            refine wp_region_held_drew (S := fun w' => w'.heap[ga]? = some (.cells #[.int .i64 nd.mode, .bool nd.tx, .int .i64 nd.ct.t, .int .i64 nd.ct.r, .bool nd.ct.o, .int .i64 (nd.q.length : Nat)] 43)) (by kernel_rfl) ((H1.out.drew HK.out).blk1) (fun hHeld => ?_)
            refine takeH (i := 0) (v := .pointer (some ⟨g, 0, none⟩)) rfl (by kernel_rfl) (by kernel_rfl) (by kernel_rfl) (fun _ _ _ h => h) (Or.inl ⟨by rfl, fun w hSw => ?_⟩) hHeld ?_
            · (clear hSw; go_simp)
            simp only [Act.put, List.setIfInBounds_toArray, List.set_cons_zero, List.set_cons_succ]
            refine takeH (i := 2) (v := .agg #[.int .i64 nd.mode, .bool nd.tx, .int .i64 nd.ct.t, .int .i64 nd.ct.r, .bool nd.ct.o, .int .i64 (nd.q.length : Nat)]) rfl (by kernel_rfl) (by kernel_rfl) (by kernel_rfl) (fun _ _ _ h => h) (Or.inl ⟨by rfl, fun w hSw => ?_⟩) hHeld ?_
            · (have q0 := cell_of_row w ga 0 _ _ (0, 0) hSw; have q1 := cell_of_row w ga 1 _ _ (0, 0) hSw; have q2 := cell_of_row w ga 2 _ _ (0, 0) hSw; have q3 := cell_of_row w ga 3 _ _ (0, 0) hSw; have q4 := cell_of_row w ga 4 _ _ (0, 0) hSw; have q5 := cell_of_row w ga 5 _ _ (0, 0) hSw; clear hSw; go_simp)
            simp only [Act.put, List.setIfInBounds_toArray, List.set_cons_zero, List.set_cons_succ]
            refine wpAnyH_ready (rs := [1]) (by kernel_rfl) (by simp) ?_
            refine AllReadyH.cons rfl (fun K hK => ?_) AllReadyH.nil
            go_simp
            refine (nd3_look (H1.out.drew HK.out)).mono ?_
            rintro e w3 ⟨rfl, hb3⟩
            have H2 := Lib.hid (H1.out.next HK.out (undrew hb3))
            clear hb3
            clear hHeld
            dsimp only
            refine hK.out _ _ (H2.out.blk1) (fun hHeld => ?_)
            clear hK K
            try simp only [Act.put, List.setIfInBounds_toArray, List.set_cons_zero, List.set_cons_succ]
            refine takeH (i := 3) (v := .bool false) rfl (by kernel_rfl) (by kernel_rfl) (by kernel_rfl) (fun _ _ _ h => h) (Or.inl ⟨by rfl, fun w hSw => ?_⟩) hHeld ?_
            · (have hlq := HLQ.out; clear hSw; go_simp)
            simp only [Act.put, List.setIfInBounds_toArray, List.set_cons_zero, List.set_cons_succ]
            refine takeH (i := 4) (v := .bool false) rfl (by kernel_rfl) (by kernel_rfl) (by kernel_rfl) (fun _ _ _ h => h) (Or.inl ⟨by rfl, fun w hSw => ?_⟩) hHeld ?_
            · (clear hSw; go_simp)
            simp only [Act.put, List.setIfInBounds_toArray, List.set_cons_zero, List.set_cons_succ]
            refine takeH (i := 5) (v := .pointer (some ⟨g, 0, none⟩)) rfl (by kernel_rfl) (by kernel_rfl) (by kernel_rfl) (fun _ _ _ h => h) (Or.inl ⟨by rfl, fun w hSw => ?_⟩) hHeld ?_
            · (clear hSw; go_simp)
            simp only [Act.put, List.setIfInBounds_toArray, List.set_cons_zero, List.set_cons_succ]
            refine takeH (i := 7) (v := .int .i64 d) rfl (by kernel_rfl) (by kernel_rfl) (by kernel_rfl) (fun _ _ _ h => h) (Or.inl ⟨by rfl, fun w hSw => ?_⟩) hHeld ?_
            · (clear hSw; go_simp)
            simp only [Act.put, List.setIfInBounds_toArray, List.set_cons_zero, List.set_cons_succ]
            refine wpAnyH_ready (rs := [6]) (by kernel_rfl) (by simp) ?_
            refine AllReadyH.cons rfl (fun K hK => ?_) AllReadyH.nil
            go_simp
            refine (HDN.out _ H2.out).mono ?_
            rintro e w4 ⟨rfl, hb4⟩
            have H3 := Lib.hid (H2.out.next HK.out hb4)
            clear hb4
            clear hHeld
            dsimp only
            refine hK.out _ _ (H3.out.blk1) (fun hHeld => ?_)
            clear hK K
            try simp only [Act.put, List.setIfInBounds_toArray, List.set_cons_zero, List.set_cons_succ]
            refine takeH (i := 8) (v := .bool false) rfl (by kernel_rfl) (by kernel_rfl) (by kernel_rfl) (fun _ _ _ h => h) (Or.inl ⟨by rfl, fun w hSw => ?_⟩) hHeld ?_
            · (clear hSw; go_simp)
            simp only [Act.put, List.setIfInBounds_toArray, List.set_cons_zero, List.set_cons_succ]
            refine takeH (i := 9) (v := .bool false) rfl (by kernel_rfl) (by kernel_rfl) (by kernel_rfl) (fun _ _ _ h => h) (Or.inl ⟨by rfl, fun w hSw => ?_⟩) hHeld ?_
            · (clear hSw; go_simp)
            simp only [Act.put, List.setIfInBounds_toArray, List.set_cons_zero, List.set_cons_succ]
            refine wpAnyH_done (by kernel_rfl) ?_ _
            clear hHeld
            by_cases hx0 : x = 0
            · have hx0b : (x != 0) = false := by simpa using hx0
              go_wp2_with fail
              refine (awake10 _).mono ?_
              rintro e w8 ⟨rfl, hb8⟩
              have HB8 := Lib.hid (nxt H3.out.below hb8)
              clear hb8
              go_wp2
              go_ret
              exact ⟨rfl, HB8.out⟩
            by_cases hx1 : x = 1
            · have hx0b : (x != 0) = true := by simpa using hx0
              have hx1b : (x != 1) = false := by simpa using hx1
              go_wp2_with fail
              refine (awake10 _).mono ?_
              rintro e w8 ⟨rfl, hb8⟩
              have HB8 := Lib.hid (nxt H3.out.below hb8)
              clear hb8
              go_wp2
              go_ret
              exact ⟨rfl, HB8.out⟩
            have hx0b : (x != 0) = true := by simpa using hx0
            have hx1b : (x != 1) = true := by simpa using hx1
            have HBAD := Lib.hid (fun (W : World) (h : Nd3 w W g nd gc n0 go n0 (BlkS ga #[.int .i64 nd.mode, .bool nd.tx, .int .i64 nd.ct.t, .int .i64 nd.ct.r, .bool nd.ct.o, .int .i64 (nd.q.length : Nat)] 43)) => nd3_bad h x hx0 hx1)
            clear hx0 hx1
            go_wp2_with fail
            refine (HBAD.out _ H3.out).mono ?_
            rintro e w4 ⟨rfl, rfl⟩
            go_upto_region 42 with fail
            refine wp_region_held_drew (S := fun w' => w'.heap[ga]? = some (.cells #[.int .i64 nd.mode, .bool nd.tx, .int .i64 nd.ct.t, .int .i64 nd.ct.r, .bool nd.ct.o, .int .i64 (nd.q.length : Nat)] 43)) (by kernel_rfl) ((H3.out.drew HK.out).blk1) (fun hHeld => ?_)
            refine takeH (i := 0) (v := .slice none 0 0) rfl (by kernel_rfl) (by kernel_rfl) (by kernel_rfl) (fun _ _ _ h => h) (Or.inl ⟨by rfl, fun w hSw => ?_⟩) hHeld ?_
            · (clear hSw; go_simp)
            simp only [Act.put, List.setIfInBounds_toArray, List.set_cons_zero, List.set_cons_succ]
            refine takeH (i := 1) (v := .int .i64 0) rfl (by kernel_rfl) (by kernel_rfl) (by kernel_rfl) (fun _ _ _ h => h) (Or.inl ⟨by rfl, fun w hSw => ?_⟩) hHeld ?_
            · (clear hSw; go_simp)
            simp only [Act.put, List.setIfInBounds_toArray, List.set_cons_zero, List.set_cons_succ]
            refine takeH (i := 2) (v := .bool false) rfl (by kernel_rfl) (by kernel_rfl) (by kernel_rfl) (fun _ _ _ h => h) (Or.inl ⟨by rfl, fun w hSw => ?_⟩) hHeld ?_
            · (clear hSw; go_simp)
            simp only [Act.put, List.setIfInBounds_toArray, List.set_cons_zero, List.set_cons_succ]
            refine takeH (i := 3) (v := .bool false) rfl (by kernel_rfl) (by kernel_rfl) (by kernel_rfl) (fun _ _ _ h => h) (Or.inl ⟨by rfl, fun w hSw => ?_⟩) hHeld ?_
            · (clear hSw; go_simp)
            simp only [Act.put, List.setIfInBounds_toArray, List.set_cons_zero, List.set_cons_succ]
            refine takeH (i := 4) (v := .int .i64 10) rfl (by kernel_rfl) (by kernel_rfl) (by kernel_rfl) (fun _ _ _ h => h) (Or.inl ⟨by rfl, fun w hSw => ?_⟩) hHeld ?_
            · (clear hSw; go_simp)
            simp only [Act.put, List.setIfInBounds_toArray, List.set_cons_zero, List.set_cons_succ]
            refine takeH (i := 5) (v := .bool false) rfl (by kernel_rfl) (by kernel_rfl) (by kernel_rfl) (fun _ _ _ h => h) (Or.inl ⟨by rfl, fun w hSw => ?_⟩) hHeld ?_
            · (clear hSw; go_simp)
            simp only [Act.put, List.setIfInBounds_toArray, List.set_cons_zero, List.set_cons_succ]
            refine takeH (i := 6) (v := .bool false) rfl (by kernel_rfl) (by kernel_rfl) (by kernel_rfl) (fun _ _ _ h => h) (Or.inl ⟨by rfl, fun w hSw => ?_⟩) hHeld ?_
            · (clear hSw; go_simp)
            simp only [Act.put, List.setIfInBounds_toArray, List.set_cons_zero, List.set_cons_succ]
            refine takeH (i := 7) (v := .bool false) rfl (by kernel_rfl) (by kernel_rfl) (by kernel_rfl) (fun _ _ _ h => h) (Or.inl ⟨by rfl, fun w hSw => ?_⟩) hHeld ?_
            · (clear hSw; go_simp)
            simp only [Act.put, List.setIfInBounds_toArray, List.set_cons_zero, List.set_cons_succ]
            refine takeH (i := 8) (v := .pointer (some ⟨g, 0, none⟩)) rfl (by kernel_rfl) (by kernel_rfl) (by kernel_rfl) (fun _ _ _ h => h) (Or.inl ⟨by rfl, fun w hSw => ?_⟩) hHeld ?_
            · (clear hSw; go_simp)
            simp only [Act.put, List.setIfInBounds_toArray, List.set_cons_zero, List.set_cons_succ]
            refine takeH (i := 10) (v := .agg #[.int .i64 nd.mode, .bool nd.tx, .int .i64 nd.ct.t, .int .i64 nd.ct.r, .bool nd.ct.o, .int .i64 (nd.q.length : Nat)]) rfl (by kernel_rfl) (by kernel_rfl) (by kernel_rfl) (fun _ _ _ h => h) (Or.inl ⟨by rfl, fun w hSw => ?_⟩) hHeld ?_
            · (have q0 := cell_of_row w ga 0 _ _ (0, 0) hSw; have q1 := cell_of_row w ga 1 _ _ (0, 0) hSw; have q2 := cell_of_row w ga 2 _ _ (0, 0) hSw; have q3 := cell_of_row w ga 3 _ _ (0, 0) hSw; have q4 := cell_of_row w ga 4 _ _ (0, 0) hSw; have q5 := cell_of_row w ga 5 _ _ (0, 0) hSw; clear hSw; go_simp)
            simp only [Act.put, List.setIfInBounds_toArray, List.set_cons_zero, List.set_cons_succ]
            refine wpAnyH_ready (rs := [9]) (by kernel_rfl) (by simp) ?_
            refine AllReadyH.cons rfl (fun K hK => ?_) AllReadyH.nil
            go_simp
            refine (nd3_look (H3.out.drew HK.out)).mono ?_
            rintro e w3 ⟨rfl, hb3⟩
            have H5 := Lib.hid (H3.out.next HK.out (undrew hb3))
            clear hb3
            clear hHeld
            dsimp only
            refine hK.out _ _ (H5.out.blk1) (fun hHeld => ?_)
            clear hK K
            try simp only [Act.put, List.setIfInBounds_toArray, List.set_cons_zero, List.set_cons_succ]
            refine takeH (i := 11) (v := .bool false) rfl (by kernel_rfl) (by kernel_rfl) (by kernel_rfl) (fun _ _ _ h => h) (Or.inl ⟨by rfl, fun w hSw => ?_⟩) hHeld ?_
            · (have hlq := HLQ.out; clear hSw; go_simp)
            simp only [Act.put, List.setIfInBounds_toArray, List.set_cons_zero, List.set_cons_succ]
            refine takeH (i := 12) (v := .bool false) rfl (by kernel_rfl) (by kernel_rfl) (by kernel_rfl) (fun _ _ _ h => h) (Or.inl ⟨by rfl, fun w hSw => ?_⟩) hHeld ?_
            · (clear hSw; go_simp)
            simp only [Act.put, List.setIfInBounds_toArray, List.set_cons_zero, List.set_cons_succ]
            refine wpAnyH_done (by kernel_rfl) ?_ _
            clear hHeld
            go_wp2_with fail
            refine (awake10 _).mono ?_
            rintro e w8 ⟨rfl, hb8⟩
            have HB8 := Lib.hid (nxt H5.out.below hb8)
            clear hb8
            go_wp2
            go_ret
            exact ⟨rfl, HB8.out⟩
theorem own_any (A : Option Addr) (n c : Nat) (ts : Nat → Tn) (a x : Int) (w : World) (hr : Tl w A n ts) (hwf : ∀ i, i < n → (ts i).f.wf) :
    Calls Tryz.prog 8 #[.slice A n c, .int .i64 a, .int .i64 x] w fun e w' => e = .returned (.bool true) ∧ Below w.heap.size w w' := by
  by_cases h : 300 < n ∨ a < 0 ∨ (n : Int) < a
  · exact own_out A n c a x w h
  · obtain ⟨y, rfl⟩ := Int.eq_ofNat_of_zero_le (show 0 ≤ a by omega)
    exact own_in A n c ts y x w hr hwf (by omega) (by omega)
end Go.Proofs.YtenfcbmeokenaaaGreat
