/- The reference's queue: its Put and All. -/
import Derived.Test.YtldhnbohpnkcpaaQV
namespace Go.Proofs.Ytldhnbohpnkcpaa
open Go.RowKit
set_option linter.unusedSimpArgs false

/-- What the reference's Put leaves. -/
def rL (m : Int) (f : Fr) (L : List Fr) : List Fr := if f.may = false ∨ m ≤ L.length then L else L ++ [f]
set_option maxHeartbeats 3200000 in
set_option maxRecDepth 100000 in
theorem rput_q {w : World} {B g : Nat} {v : Value} {m : Int} {gs : List Fr} {f : Fr} (hq : Rque w B g v m gs) (hn : gs.length ≤ 1000) (hB : B ≤ w.heap.size) :
    Calls Try.prog 11 #[.pointer (some ⟨g, 0, none⟩), f.val] w fun e w' => ∃ u, e = .returned (.int .i64 (pE m f gs)) ∧ Rque w' B g u m (rL m f gs) ∧ Turn g v u w w' := by
  obtain ⟨A, c, hv, -, -⟩ := hq.own.fl
  subst hv
  have HQ := Lib.hid hq; have HN := Lib.hid hn; have HBW := Lib.hid hB
  have HB := Lib.hid (boxed f w)
  have hgl := hq.lt
  clear hq hn hB
  cases hm : f.may
  · have HM := Lib.hid hm
    rw [show pE m f gs = 14 by unfold pE; rw [if_pos hm], show rL m f gs = gs by unfold rL; rw [if_pos (.inl hm)]]
    clear hm
    go_enter Try.func11, Try.ntmps11
    go_wp2_with fail
    refine (rfcheck_any f _).mono ?_
    rintro e w1 ⟨rfl, hb1⟩
    rw [err_no HM.out]
    have HB1 := Lib.hid (nxt HB.out hb1)
    clear hb1
    go_wp2
    go_ret
    exact ⟨_, rfl, HQ.out.next HB1.out, Turn.of_below HB1.out⟩
  · have HM := Lib.hid hm
    have hE : pE m f gs = if m ≤ gs.length then 15 else 0 := by unfold pE; rw [if_neg (by rw [hm]; simp)]
    have hL : rL m f gs = if m ≤ gs.length then gs else gs ++ [f] := by
      unfold rL
      by_cases h : m ≤ (gs.length : Int)
      · rw [if_pos (.inr h), if_pos h]
      · rw [if_neg (by rw [hm]; simpa using h), if_neg h]
    rw [hE, hL]
    clear hm hE hL
    by_cases hful : m ≤ (gs.length : Int)
    · rw [if_pos hful, if_pos hful]
      go_enter Try.func11, Try.ntmps11
      go_wp2_with fail
      refine (rfcheck_any f _).mono ?_
      rintro e w1 ⟨rfl, hb1⟩
      rw [err_ok HM.out]
      have HB1 := Lib.hid (nxt HB.out hb1)
      have HQ1 := Lib.hid (HQ.out.next HB1.out)
      have q0 := HQ1.out.q.row
      have q1 := HQ1.out.q.most
      clear hb1
      go_wp2
      go_quiet (fail)
      go_wp2
      go_ret
      exact ⟨_, rfl, HQ1.out.next (belowN (Below.refl _ _) _), Turn.of_below (belowN HB1.out _)⟩
    · rw [if_neg hful, if_neg hful]
      have hful' : gs.length < m := by omega
      go_enter Try.func11, Try.ntmps11
      go_wp2_with fail
      refine (rfcheck_any f _).mono ?_
      rintro e w1 ⟨rfl, hb1⟩
      rw [err_ok HM.out]
      have HB1 := Lib.hid (nxt HB.out hb1)
      have HQ1 := Lib.hid (HQ.out.next HB1.out)
      have HF1 := Lib.hid ((fb_new w f).below hb1 (by simp))
      have q0 := HQ1.out.q.row
      have q1 := HQ1.out.q.most
      clear hb1
      go_wp2
      go_quiet (fail)
      go_wp2_with fail
      obtain ⟨W, hW⟩ : ∃ W, w1.drewN nq = W := ⟨_, rfl⟩
      have HBW1 := Lib.hid (show Below w.heap.size w W from by rw [← hW]; exact belowN HB1.out nq)
      have HFW := Lib.hid (show Fb W w.heap.size f from by rw [← hW]; exact HF1.out)
      have HQW := Lib.hid (HQ.out.next HBW1.out)
      have HGW := Lib.hid (show w.heap.size < W.heap.size from HFW.out.lt)
      rw [hW]
      clear q0 q1 hW
      refine wp_region_held_drew (S := fun w' => Fb w' w.heap.size f) (by kernel_rfl) HFW.out (fun hHeld => ?_)
      refine takeH (i := 0) (v := .pointer (some ⟨g, 0, none⟩)) rfl (by kernel_rfl) (by kernel_rfl) (by kernel_rfl) (fun _ _ _ h => h) (Or.inl ⟨by rfl, fun w' hSw => ?_⟩) hHeld ?_
      · (clear hSw; go_simp)
      simp only [Act.put, List.setIfInBounds_toArray, List.set_cons_zero, List.set_cons_succ]
      refine takeH (i := 1) (v := .pointer (some ⟨g, 0, none⟩)) rfl (by kernel_rfl) (by kernel_rfl) (by kernel_rfl) (fun _ _ _ h => h) (Or.inl ⟨by rfl, fun w' hSw => ?_⟩) hHeld ?_
      · (clear hSw; go_simp)
      simp only [Act.put, List.setIfInBounds_toArray, List.set_cons_zero, List.set_cons_succ]
      refine takeH (i := 2) (v := .pointer (some ⟨g, 0, none⟩)) rfl (by kernel_rfl) (by kernel_rfl) (by kernel_rfl) (fun _ _ _ h => h) (Or.inl ⟨by rfl, fun w' hSw => ?_⟩) hHeld ?_
      · (clear hSw; go_simp)
      simp only [Act.put, List.setIfInBounds_toArray, List.set_cons_zero, List.set_cons_succ]
      refine takeH (i := 3) (v := .pointer (some ⟨g, 0, none⟩)) rfl (by kernel_rfl) (by kernel_rfl) (by kernel_rfl) (fun _ _ _ h => h) (Or.inl ⟨by rfl, fun w' hSw => ?_⟩) hHeld ?_
      · (clear hSw; go_simp)
      simp only [Act.put, List.setIfInBounds_toArray, List.set_cons_zero, List.set_cons_succ]
      refine takeH (i := 5) (v := f.val) rfl (by kernel_rfl) (by kernel_rfl) (by kernel_rfl) (fun _ _ _ h => h) (Or.inl ⟨by rfl, fun w' hSw => ?_⟩) hHeld ?_
      · (obtain ⟨c0, c1, c2, c3, c4, c5, c6, c7, c8, c9, c10, c11⟩ := hSw.bx; clear hSw; go_simp)
      simp only [Act.put, List.setIfInBounds_toArray, List.set_cons_zero, List.set_cons_succ]
      have q3 := HQW.out.drew.q.row
      have hW4 : (W.alloc (.cells f.cells 34)).drew.heap.size = W.heap.size + 1 := by show (W.alloc _).heap.size = _; simp
      have HO4 := Lib.hid (show Fown (W.alloc (.cells f.cells 34)).drew B (.slice A gs.length c) gs from Fown.drew (Fown.alloc (Fown.below HQ.out.own HBW1.out) _))
      have HB4 := Lib.hid (show Below w.heap.size w (W.alloc (.cells f.cells 34)).drew from (Below.alloc HBW1.out HBW1.out.size _).drew)
      have HS4 := Lib.hid (show Fs (W.alloc (.cells f.cells 34)).drew (some ⟨W.heap.size, 0, none⟩) 1 [f] from by
        have h := fs_lit W [f]
        rw [fcs_one_] at h
        exact h)
      have HLT4 := Lib.hid (show w.heap.size < (W.alloc (.cells f.cells 34)).drew.heap.size by rw [hW4]; have := HGW.out; omega)
      have HF4 := Lib.hid (show Fb (W.alloc (.cells f.cells 34)).drew w.heap.size f from (heap_alloc_old W _ (r := w.heap.size) HGW.out).trans HFW.out)
      refine wpAnyH_ready (rs := [4, 6]) (by kernel_rfl) (by simp) ?_
      refine AllReadyH.cons rfl (fun K hK => ?_) (AllReadyH.cons rfl (fun K hK => ?_) AllReadyH.nil)
      · go_simp
        refine hK.out _ _ hHeld (fun hHeld => ?_)
        clear hK K
        try simp only [Act.put, List.setIfInBounds_toArray, List.set_cons_zero, List.set_cons_succ]
        refine wpAnyH_ready (rs := [6]) (by kernel_rfl) (by simp) ?_
        refine AllReadyH.cons rfl (fun K hK => ?_) AllReadyH.nil
        go_simp
        refine hK.out _ _ HF4.out (fun hHeld => ?_)
        clear hK K
        try simp only [Act.put, List.setIfInBounds_toArray, List.set_cons_zero, List.set_cons_succ]
        refine wpAnyH_ready (rs := [7]) (by kernel_rfl) (by simp) ?_
        refine AllReadyH.cons rfl (fun K hK => ?_) AllReadyH.nil
        refine step_append_F9 _ (by rfl) (.tmp 22) (.tmp 24) (by rfl) B (.slice A gs.length c) gs (by rfl) HO4.out (some ⟨W.heap.size, 0, none⟩) 1 1 [f] (by rfl) HS4.out (by have := HN.out; omega) (Nat.le_trans HBW.out HB4.out.size) ?_
        intro u w5 ho5 hg5 hl5
        have hrow : ∀ k, (Value.slice A gs.length c).ownBlock = some k → k < w.heap.size := HQ.out.own.lt2
        have HFIN := Lib.hid (rset_last HQ.out HB4.out ho5 hg5 (by
          rcases hl5 with e | e
          · exact .inl e
          · refine .inr fun k hk => ?_
            rw [e] at hk
            injection hk with hk
            rw [← hk]
            exact HB4.out.size))
        have HS5 := Lib.hid (show Fb w5 w.heap.size f from (hg5.block w.heap.size HLT4.out (fun e => by have := hrow _ e.symm; omega)).trans HF4.out)
        obtain ⟨A5, n5, c5, rfl⟩ : ∃ A5 n5 c5, u = .slice A5 n5 c5 := by obtain ⟨A5, c5, e5, _⟩ := ho5.fl; exact ⟨A5, _, c5, e5⟩
        clear ho5 hg5 hl5 hHeld
        refine hK.out _ _ HS5.out (fun hHeld => ?_)
        clear hK K
        try simp only [Act.put, List.setIfInBounds_toArray, List.set_cons_zero, List.set_cons_succ]
        refine takeH (i := 8) (v := .pointer (some ⟨g, 0, none⟩)) rfl (by kernel_rfl) (by kernel_rfl) (by kernel_rfl) (fun _ _ _ h => h) (Or.inl ⟨by rfl, fun w' hSw => ?_⟩) hHeld ?_
        · (clear hSw; go_simp)
        simp only [Act.put, List.setIfInBounds_toArray, List.set_cons_zero, List.set_cons_succ]
        refine takeH (i := 9) (v := .pointer (some ⟨g, 0, none⟩)) rfl (by kernel_rfl) (by kernel_rfl) (by kernel_rfl) (fun _ _ _ h => h) (Or.inl ⟨by rfl, fun w' hSw => ?_⟩) hHeld ?_
        · (clear hSw; go_simp)
        simp only [Act.put, List.setIfInBounds_toArray, List.set_cons_zero, List.set_cons_succ]
        have k5 := HFIN.out.1.row
        have f5 := HFIN.out.1.frozen 0
        refine wpAnyH_ready (rs := [10]) (by kernel_rfl) (by simp) ?_
        refine AllReadyH.cons rfl (fun K hK => ?_) AllReadyH.nil
        clear hHeld
        go_simp
        refine hK.out _ _ ((Below.heap_setCell w5 ⟨g, 0, none⟩ _ _ (by show w.heap.size ≠ g; omega)).trans HS5.out) (fun hHeld => ?_)
        clear hK K
        try simp only [Act.put, List.setIfInBounds_toArray, List.set_cons_zero, List.set_cons_succ]
        refine wpAnyH_done (by kernel_rfl) ?_ _
        clear hHeld
        go_wp2
        go_ret
        exact ⟨_, rfl, HFIN.out.2.1, HFIN.out.2.2⟩
      · go_simp
        refine hK.out _ _ HF4.out (fun hHeld => ?_)
        clear hK K
        try simp only [Act.put, List.setIfInBounds_toArray, List.set_cons_zero, List.set_cons_succ]
        have q4 : (W.alloc (.cells f.cells 34)).cell? ⟨g, 0, none⟩ = some (.slice A gs.length c) := (World.cell?_alloc_some W _ _ (by rw [show W.cell? _ = _ from q3]; rfl)).trans q3
        refine wpAnyH_ready (rs := [4]) (by kernel_rfl) (by simp) ?_
        refine AllReadyH.cons rfl (fun K hK => ?_) AllReadyH.nil
        go_simp
        refine hK.out _ _ hHeld (fun hHeld => ?_)
        clear hK K
        try simp only [Act.put, List.setIfInBounds_toArray, List.set_cons_zero, List.set_cons_succ]
        refine wpAnyH_ready (rs := [7]) (by kernel_rfl) (by simp) ?_
        refine AllReadyH.cons rfl (fun K hK => ?_) AllReadyH.nil
        refine step_append_F9 _ (by rfl) (.tmp 22) (.tmp 24) (by rfl) B (.slice A gs.length c) gs (by rfl) HO4.out (some ⟨W.heap.size, 0, none⟩) 1 1 [f] (by rfl) HS4.out (by have := HN.out; omega) (Nat.le_trans HBW.out HB4.out.size) ?_
        intro u w5 ho5 hg5 hl5
        have hrow : ∀ k, (Value.slice A gs.length c).ownBlock = some k → k < w.heap.size := HQ.out.own.lt2
        have HFIN := Lib.hid (rset_last HQ.out HB4.out ho5 hg5 (by
          rcases hl5 with e | e
          · exact .inl e
          · refine .inr fun k hk => ?_
            rw [e] at hk
            injection hk with hk
            rw [← hk]
            exact HB4.out.size))
        have HS5 := Lib.hid (show Fb w5 w.heap.size f from (hg5.block w.heap.size HLT4.out (fun e => by have := hrow _ e.symm; omega)).trans HF4.out)
        obtain ⟨A5, n5, c5, rfl⟩ : ∃ A5 n5 c5, u = .slice A5 n5 c5 := by obtain ⟨A5, c5, e5, _⟩ := ho5.fl; exact ⟨A5, _, c5, e5⟩
        clear ho5 hg5 hl5 hHeld
        refine hK.out _ _ HS5.out (fun hHeld => ?_)
        clear hK K
        try simp only [Act.put, List.setIfInBounds_toArray, List.set_cons_zero, List.set_cons_succ]
        refine takeH (i := 8) (v := .pointer (some ⟨g, 0, none⟩)) rfl (by kernel_rfl) (by kernel_rfl) (by kernel_rfl) (fun _ _ _ h => h) (Or.inl ⟨by rfl, fun w' hSw => ?_⟩) hHeld ?_
        · (clear hSw; go_simp)
        simp only [Act.put, List.setIfInBounds_toArray, List.set_cons_zero, List.set_cons_succ]
        refine takeH (i := 9) (v := .pointer (some ⟨g, 0, none⟩)) rfl (by kernel_rfl) (by kernel_rfl) (by kernel_rfl) (fun _ _ _ h => h) (Or.inl ⟨by rfl, fun w' hSw => ?_⟩) hHeld ?_
        · (clear hSw; go_simp)
        simp only [Act.put, List.setIfInBounds_toArray, List.set_cons_zero, List.set_cons_succ]
        have k5 := HFIN.out.1.row
        have f5 := HFIN.out.1.frozen 0
        refine wpAnyH_ready (rs := [10]) (by kernel_rfl) (by simp) ?_
        refine AllReadyH.cons rfl (fun K hK => ?_) AllReadyH.nil
        clear hHeld
        go_simp
        refine hK.out _ _ ((Below.heap_setCell w5 ⟨g, 0, none⟩ _ _ (by show w.heap.size ≠ g; omega)).trans HS5.out) (fun hHeld => ?_)
        clear hK K
        try simp only [Act.put, List.setIfInBounds_toArray, List.set_cons_zero, List.set_cons_succ]
        refine wpAnyH_done (by kernel_rfl) ?_ _
        clear hHeld
        go_wp2
        go_ret
        exact ⟨_, rfl, HFIN.out.2.1, HFIN.out.2.2⟩

/-- A slice value's length, for a measure. -/
def len9 : Value → Nat | .slice _ n _ => n | _ => 0
theorem nxt' {w a b : World} (h : Below w.heap.size w a) (h2 : Below a.heap.size a b) : Below w.heap.size w b := nxt h h2

set_option maxHeartbeats 3200000 in
set_option maxRecDepth 100000 in
/-- The reference's All: the frames in order. -/
theorem rall_q {w : World} {B g : Nat} {v : Value} {m : Int} {L gs : List Fr} (hq : Rque w B g v m L) (hs : Std L gs) (hm : ∀ x ∈ L, x.may = true) (hn : L.length ≤ 1000) :
    Calls Try.prog 15 #[.pointer (some ⟨g, 0, none⟩)] w fun e w' => ∃ u, e = .returned u ∧ Fown w' w.heap.size u gs ∧ Below w.heap.size w w' := by
  obtain ⟨A, c, hv, hf, _⟩ := hq.own.fl
  subst hv
  have HQ := Lib.hid hq; have HST := Lib.hid hs; have HM := Lib.hid hm; have HN := Lib.hid hn
  have HBN := Lib.hid (show Below w.heap.size w (w.alloc (.cells #[] 34)) from (Below.refl _ _).alloc (Nat.le_refl _) _)
  have HFN := Lib.hid (Fown.nil w w.heap.size (Nat.le_refl _))
  have HFS := Lib.hid ((hq.own.below HBN.out).fs)
  have q0 := (hq.next HBN.out).q.row
  have q00 := hq.q.row
  have hgl := hq.lt
  clear hq hs hm hn hf
  go_enter Try.func15, Try.ntmps15
  go_wp2_with (first | (at_builtin; refine append_F _ (by rfl) _ _ rfl w.heap.size _ [] rfl HFN.out _ _ _ L rfl HFS.out (by have := HN.out; simp; omega) HBN.out.size ?_; intro v1 w1 h1 h2 h3; have HR1 := Lib.hid h1; have HB1 := Lib.hid (HBN.out.grown h2 HBN.out.size HFN.out.row); clear h1 h2 h3) | fail)
  go_wp2
  rw [List.nil_append] at HR1
  have HON := Lib.hid (show Fown (w1.alloc (.cells #[] 34)) w.heap.size (.slice (some ⟨w1.heap.size, 0, none⟩) 0 0) [] from Fown.base (Fown.nil w1 w1.heap.size (Nat.le_refl _)) HB1.out.size)
  have HRN := Lib.hid (show Fown (w1.alloc (.cells #[] 34)) w.heap.size v1 L from Fown.alloc HR1.out _)
  have HSN := Lib.hid (show Sep v1 (.slice (some ⟨w1.heap.size, 0, none⟩) 0 0) from sep_new HR1.out (fun k hk => by injection hk with hk; have hk : w1.heap.size = k := hk; omega))
  have HBX := Lib.hid (show Below w.heap.size w (w1.alloc (.cells #[] 34)) from HB1.out.alloc HB1.out.size _)
  clear HBN HFN HFS q0 q00
  go_loopw [3, 4] (fun vr vo wr => ∃ (r o : Value) (R O S : List Fr), vr = r ∧ vo = o ∧ Fown wr w.heap.size r R ∧ Fown wr w.heap.size o O ∧ Sep r o ∧ Below w.heap.size w wr ∧ gs = O ++ S ∧ Std R S ∧ (∀ x ∈ R, x.may = true) ∧ R.length + O.length = L.length) (fun vr _ _ => len9 vr)
  case atStart => exact ⟨v1, _, L, [], gs, rfl, rfl, HRN.out, HON.out, HSN.out, HBX.out, rfl, HST.out, HM.out, by simp⟩
  case round =>
    clear HR1 HB1 HRN HON HSN HBX
    obtain ⟨r, o, R, O, S, hvr, hvo, hr, ho, hsp, hb, hgs, hst, hmay, hlen⟩ := hrel
    replace hvr := hvr.symm
    subst hvr
    replace hvo := hvo.symm
    subst hvo
    obtain ⟨Ar, cr, rfl, hfr, -⟩ := hr.fl
    have HR := Lib.hid hr; have HO := Lib.hid ho; have HSP := Lib.hid hsp; have HB := Lib.hid hb; have HGS := Lib.hid hgs; have HSTD := Lib.hid hst; have HMAY := Lib.hid hmay; have HLEN := Lib.hid hlen
    obtain ⟨n, hgn⟩ : ∃ n, R.length = n := ⟨_, rfl⟩
    have HNL := Lib.hid hgn
    have hn1 : n ≤ 1000 := by have := HN.out; omega
    rw [hgn] at HR hfr HSP ⊢
    have HFR := Lib.hid hfr
    clear hr ho hsp hb hgs hst hmay hlen hgn hfr
    by_cases h0 : 0 < n
    · have h0' : (0 : Int) < (n : Int) := by omega
      rename World => wo
      go_wp2
      go_loopw [5, 6] (fun va vi wx => ∃ (a i : Nat), a < i ∧ i ≤ n ∧ va = .int .i64 a ∧ vi = .int .i64 i ∧ (∀ j, j < i → (R.getD a Fr.zero).plc ≤ (R.getD j Fr.zero).plc) ∧ (∀ j, j < a → (R.getD a Fr.zero).plc < (R.getD j Fr.zero).plc) ∧ Below wo.heap.size wo wx) (fun _ vi _ => n - (intOf vi).toNat)
      case atStart => exact ⟨0, 1, by omega, by omega, rfl, rfl, fun j hj => by rw [show j = 0 by omega]; exact Nat.le_refl _, fun j hj => by omega, Below.refl _ _⟩
      case round =>
        obtain ⟨a, i, hai, hin, rfl, rfl, hle, hltt, hbx⟩ := hrel
        have HLE := Lib.hid hle; have HLT := Lib.hid hltt; have HBX := Lib.hid hbx
        clear hle hltt hbx
        obtain ⟨x, hx⟩ : ∃ x, R.getD a Fr.zero = x := ⟨_, rfl⟩
        have HX := Lib.hid hx
        have HXM := Lib.hid (show x.may = true from by rw [← hx, getD_get (by rw [HNL.out]; omega)]; exact HMAY.out _ (List.getElem_mem _))
        obtain ⟨ad, rfl, -, -⟩ := HFR.out.at_ h0
        have hx' := hx
        clear hx
        by_cases hlt : i < n
        · have hlt' : (i : Int) < (n : Int) := by omega
          have hla' : (a : Int) < (n : Int) := by omega
          obtain ⟨d0, d1, d2, d3, d4, d5, d6, d7, d8, d9, d10, d11⟩ := (HFR.out.below HBX.out).el (show a < n by omega) hx'
          obtain ⟨y, hy⟩ : ∃ y, R.getD i Fr.zero = y := ⟨_, rfl⟩
          have HY := Lib.hid hy
          have HYM := Lib.hid (show y.may = true from by rw [← hy, getD_get (by rw [HNL.out]; omega)]; exact HMAY.out _ (List.getElem_mem _))
          obtain ⟨e0, e1, e2, e3, e4, e5, e6, e7, e8, e9, e10, e11⟩ := (HFR.out.below HBX.out).el hlt hy
          clear hx' hy
          cases hp : decide (y.plc < x.plc)
          · have HP := Lib.hid (show ¬ (y.plc < x.plc) by simpa using hp)
            have HPD := Lib.hid hp
            clear hp
            go_wp2_with fail
            go_still_tail 8, (by kernel_rfl)
            go_wp2_with fail
            refine (rahead9 y x _ HYM.out HXM.out).mono ?_
            rintro e w5 ⟨rfl, hb5⟩
            rw [HPD.out]
            have HB5 := Lib.hid (nxt HBX.out (undrew hb5))
            clear hb5 d0 d1 d2 d3 d4 d5 d6 d7 d8 d9 d10 d11 e0 e1 e2 e3 e4 e5 e6 e7 e8 e9 e10 e11
            go_wp2
            go_roundw
            case rel => exact ⟨a, i + 1, by omega, by omega, rfl, by go_num, fun j hj => by
              rcases Nat.lt_or_ge j i with h | h
              · exact HLE.out j h
              · rw [show j = i by omega, HX.out, HY.out]; have := HP.out; omega, HLT.out, HB5.out⟩
            case measure => simp [intOf]; omega
          · have HP := Lib.hid (show y.plc < x.plc by simpa using hp)
            have HPD := Lib.hid hp
            clear hp
            go_wp2_with fail
            go_still_tail 8, (by kernel_rfl)
            go_wp2_with fail
            refine (rahead9 y x _ HYM.out HXM.out).mono ?_
            rintro e w5 ⟨rfl, hb5⟩
            rw [HPD.out]
            have HB5 := Lib.hid (nxt HBX.out (undrew hb5))
            clear hb5 d0 d1 d2 d3 d4 d5 d6 d7 d8 d9 d10 d11 e0 e1 e2 e3 e4 e5 e6 e7 e8 e9 e10 e11
            go_wp2
            go_roundw
            case rel => exact ⟨i, i + 1, by omega, by omega, rfl, by go_num, fun j hj => by
              rcases Nat.lt_or_ge j i with h | h
              · have h1 := HLE.out j h; rw [HX.out] at h1; rw [HY.out]; have := HP.out; omega
              · rw [show j = i by omega]; exact Nat.le_refl _, fun j hj => by have h1 := HLE.out j hj; rw [HX.out] at h1; rw [HY.out]; have := HP.out; omega, HB5.out⟩
            case measure => simp [intOf]; omega
        · obtain rfl : i = n := by omega
          obtain ⟨d0, d1, d2, d3, d4, d5, d6, d7, d8, d9, d10, d11⟩ := (HFR.out.below HBX.out).el hai hx'
          have HHD := Lib.hid (HSTD.out.head (a := a) (by rw [HNL.out]; exact hai) (by rw [HNL.out]; exact HLE.out) HLT.out)
          have HAI := Lib.hid (show a < R.length by rw [HNL.out]; exact hai)
          have hai' : (a : Int) < (i : Int) := by omega
          have HRb := Lib.hid (HR.out.below HBX.out)
          have HOa := Lib.hid (show Fown (wr.alloc (.cells x.cells 34)) w.heap.size o O from Fown.alloc (HO.out.below HBX.out) _)
          have HRa := Lib.hid (show Fown (wr.alloc (.cells x.cells 34)) w.heap.size (.slice (some ad) i cr) R from Fown.alloc HRb.out _)
          have HS1 := Lib.hid (show Fs (wr.alloc (.cells x.cells 34)) (some ⟨wr.heap.size, 0, none⟩) 1 [x] from by
            have h := fs_lit wr [x]
            rw [fcs_one_] at h
            exact h)
          have HBM := Lib.hid (show Below w.heap.size w (wr.alloc (.cells x.cells 34)) from Below.alloc (nxt' HB.out HBX.out) (by have h1 := HB.out.size; have h2 := HBX.out.size; omega) _)
          clear hx'
          go_wp2_with (first | (at_builtin; refine append_F _ (by rfl) _ _ rfl w.heap.size _ _ rfl HOa.out _ _ _ [x] rfl HS1.out (by have h1 := HLEN.out; have h2 := HN.out; omega) HBM.out.size ?_; intro v' w' h1 h2 h3; have HR1 := Lib.hid h1; have HKR := Lib.hid (Fown.kept HRa.out h2 HSP.out); have HB7 := Lib.hid (HBM.out.grown h2 HBM.out.size HOa.out.row); clear h1 h2 h3) | fail)
          clear d0 d1 d2 d3 d4 d5 d6 d7 d8 d9 d10 d11
          go_wp2_with fail
          refine (without_any (a := a) HKR.out (by have h1 := HLEN.out; have h2 := HN.out; omega) HAI.out).mono ?_
          rintro e w8 ⟨u8, rfl, hu8, hb8⟩
          have HU8 := Lib.hid hu8
          have HO8 := Lib.hid (HR1.out.below hb8)
          have HS8 := Lib.hid (show Sep u8 v' from (sep_new HR1.out hu8.row).symm)
          have HB8 := Lib.hid (nxt HB7.out hb8)
          have HLX := Lib.hid (show (R.eraseIdx a).length + 1 = R.length by rw [List.length_eraseIdx]; simp [HAI.out]; have := HAI.out; omega)
          obtain ⟨A9, c9, rfl, -, -⟩ := hu8.fl
          clear hu8 hb8
          go_wp2
          go_roundw
          case rel =>
            obtain ⟨S', e1, e2⟩ := HHD.out
            exact ⟨_, v', R.eraseIdx a, O ++ [x], S', rfl, rfl, HU8.out.base HB7.out.size, HO8.out, HS8.out, HB8.out, by rw [HGS.out, e1, HX.out, List.append_assoc]; rfl, e2, fun z hz => HMAY.out z ((List.eraseIdx_sublist R a).subset hz), by have h1 := HLEN.out; have h2 := HLX.out; rw [List.length_append]; simp; omega⟩
          case measure => simp only [len9]; have h1 := HLX.out; have h2 := HNL.out; omega
    · have h0' : ¬ ((0 : Int) < (n : Int)) := by omega
      have HE := Lib.hid (show O = gs from by
        have h1 := HSTD.out.len
        have h2 := HNL.out
        have h3 : S = [] := List.eq_nil_of_length_eq_zero (by omega)
        have h4 := HGS.out
        rw [h3, List.append_nil] at h4
        exact h4.symm)
      go_wp2
      go_ret
      exact ⟨_, rfl, by rw [← HE.out]; exact HO.out, HB.out⟩
end Go.Proofs.Ytldhnbohpnkcpaa
