/- What order is, whichever way frames were put in; the reference's Ahead and without. -/
import Derived.Test.YtldhnbohpnkcpaaL9d
import Derived.Test.YtldhnbohpnkcpaaQS
import Derived.Test.YtldhnbohpnkcpaaAM
import Derived.Test.YtldhnbohpnkcpaaRa
import Derived.Test.YtldhnbohpnkcpaaRc
namespace Go.Proofs.Ytldhnbohpnkcpaa
open Go.RowKit
set_option linter.unusedSimpArgs false

/-- Those of a place. -/
abbrev ofp (p : Nat) (gs : List Fr) : List Fr := gs.filter fun g => g.plc == p
/-- gs are the frames L in order, those alike as they stood. -/
structure Std (L gs : List Fr) : Prop where
  up : Upq gs
  len : L.length = gs.length
  cls : ∀ p, ofp p gs = ofp p L
theorem std_nil : Std [] [] := ⟨List.Pairwise.nil, rfl, fun _ => rfl⟩
theorem Std.mem {L gs : List Fr} (h : Std L gs) {x : Fr} : x ∈ gs ↔ x ∈ L := by
  have h1 : ∀ l : List Fr, x ∈ l ↔ x ∈ ofp x.plc l := fun l => by simp [ofp]
  rw [h1 gs, h1 L, h.cls]
theorem Std.may {L gs : List Fr} (h : Std L gs) (ho : Okq gs) : ∀ x ∈ L, x.may = true := fun x hx => ho.2 x (h.mem.2 hx)
theorem sits_lo {f : Fr} {gs : List Fr} : ∀ g ∈ gs.take (sits f gs), g.plc ≤ f.plc := by
  intro g hg
  obtain ⟨j, hj, rfl⟩ := List.getElem_of_mem hg
  rw [List.length_take] at hj
  have := List.not_of_lt_findIdx (show j < gs.findIdx (fun g => decide (f.plc < g.plc)) from by unfold sits at hj; omega)
  rw [List.getElem_take]
  simpa using this
theorem sits_hi {f : Fr} {gs : List Fr} (h : Upq gs) : ∀ g ∈ gs.drop (sits f gs), f.plc < g.plc := by
  intro g hg
  obtain ⟨j, hj, rfl⟩ := List.getElem_of_mem hg
  rw [List.length_drop] at hj
  rw [List.getElem_drop]
  have hs : sits f gs < gs.length := by omega
  have h1 : f.plc < (gs[sits f gs]).plc := by
    have := List.findIdx_getElem (w := (show gs.findIdx (fun g => decide (f.plc < g.plc)) < gs.length from hs))
    simpa [sits] using this
  have h2 := upq_get h (show sits f gs ≤ sits f gs + j by omega) (by omega)
  rw [getD_get hs, getD_get (by omega)] at h2
  omega
theorem Std.ins {L gs : List Fr} (h : Std L gs) (f : Fr) : Std (L ++ [f]) (ins f gs) := by
  refine ⟨ins_up h.up, by rw [ins_len1, List.length_append, h.len]; rfl, fun p => ?_⟩
  have hg : ofp p gs = ofp p (gs.take (sits f gs)) ++ ofp p (gs.drop (sits f gs)) := by rw [ofp, ofp, ofp, ← List.filter_append, List.take_append_drop]
  have e1 : ofp p (Proofs.Ytldhnbohpnkcpaa.ins f gs) = ofp p (gs.take (sits f gs)) ++ (ofp p [f] ++ ofp p (gs.drop (sits f gs))) := by
    unfold Proofs.Ytldhnbohpnkcpaa.ins
    rw [ofp, List.filter_append, show f :: gs.drop (sits f gs) = [f] ++ gs.drop (sits f gs) from rfl, List.filter_append]
  have e2 : ofp p (L ++ [f]) = ofp p L ++ ofp p [f] := by rw [ofp, List.filter_append]
  rw [e1, e2, ← h.cls p, hg]
  by_cases hp : f.plc = p
  · have : ofp p (gs.drop (sits f gs)) = [] := by
      rw [ofp, List.filter_eq_nil_iff]
      intro g hg' e
      have := sits_hi h.up g hg'
      simp at e
      omega
    rw [this, List.append_nil, List.append_nil]
  · have : ofp p [f] = [] := by simp [ofp, hp]
    rw [this, List.nil_append, List.append_nil]
theorem erase_in {q p : Fr → Bool} (hqp : ∀ x, q x = true → p x = true) : ∀ l : List Fr, (l.eraseP q).filter p = (l.filter p).eraseP q
  | [] => rfl
  | x :: l => by
    cases hq : q x
    · rw [List.eraseP_cons_of_neg (by rw [hq]; simp)]
      cases hp : p x
      · rw [List.filter_cons_of_neg (by rw [hp]; simp), List.filter_cons_of_neg (by rw [hp]; simp), erase_in hqp l]
      · rw [List.filter_cons_of_pos hp, List.filter_cons_of_pos hp, List.eraseP_cons_of_neg (by rw [hq]; simp), erase_in hqp l]
    · rw [List.eraseP_cons_of_pos hq, List.filter_cons_of_pos (hqp x hq), List.eraseP_cons_of_pos hq]
theorem erase_out {q p : Fr → Bool} (hqp : ∀ x, q x = true → p x = false) : ∀ l : List Fr, (l.eraseP q).filter p = l.filter p
  | [] => rfl
  | x :: l => by
    cases hq : q x
    · rw [List.eraseP_cons_of_neg (by rw [hq]; simp)]
      cases hp : p x
      · rw [List.filter_cons_of_neg (by rw [hp]; simp), List.filter_cons_of_neg (by rw [hp]; simp), erase_out hqp l]
      · rw [List.filter_cons_of_pos hp, List.filter_cons_of_pos hp, erase_out hqp l]
    · rw [List.eraseP_cons_of_pos hq, List.filter_cons_of_neg (by rw [hqp x hq]; simp)]
theorem Std.any {L gs : List Fr} (h : Std L gs) (f : Fr) : L.any f.same = gs.any f.same := by
  rw [Bool.eq_iff_iff, List.any_eq_true, List.any_eq_true]
  constructor
  · rintro ⟨x, h1, h2⟩; exact ⟨x, h.mem.2 h1, h2⟩
  · rintro ⟨x, h1, h2⟩; exact ⟨x, h.mem.1 h1, h2⟩
theorem Std.dE {L gs : List Fr} (h : Std L gs) (f : Fr) : dE f L = dE f gs := by unfold Proofs.Ytldhnbohpnkcpaa.dE; rw [h.any]
theorem Std.drp {L gs : List Fr} (h : Std L gs) (f : Fr) : Std (drp f L) (drp f gs) := by
  refine ⟨h.up.sublist (drp_sub f gs), ?_, fun p => ?_⟩
  · unfold Proofs.Ytldhnbohpnkcpaa.drp
    rw [List.length_eraseP, List.length_eraseP, h.any, h.len]
  · unfold Proofs.Ytldhnbohpnkcpaa.drp
    by_cases hp : f.plc = p
    · have hq : ∀ x, f.same x = true → (x.plc == p) = true := fun x hx => by rw [← same_plc hx, hp]; simp
      rw [ofp, ofp, erase_in hq, erase_in hq]
      show (ofp p gs).eraseP _ = (ofp p L).eraseP _
      rw [h.cls]
    · have hq : ∀ x, f.same x = true → (x.plc == p) = false := fun x hx => by rw [← same_plc hx]; simpa using hp
      rw [ofp, ofp, erase_out hq, erase_out hq]
      exact h.cls p
theorem Std.put {L gs : List Fr} (h : Std L gs) (m : Int) (f : Fr) : Std (if f.may = false ∨ m ≤ L.length then L else L ++ [f]) (pL m f gs) := by
  unfold pL
  rw [h.len]
  split
  · exact h
  · exact h.ins f
/-- The first one of the least place comes first. -/
theorem Std.head {L gs : List Fr} (h : Std L gs) {a : Nat} (ha : a < L.length) (h1 : ∀ j, j < L.length → (L.getD a Fr.zero).plc ≤ (L.getD j Fr.zero).plc) (h2 : ∀ j, j < a → (L.getD a Fr.zero).plc < (L.getD j Fr.zero).plc) :
    ∃ gs', gs = L.getD a Fr.zero :: gs' ∧ Std (L.eraseIdx a) gs' := by
  obtain ⟨x, hx⟩ : ∃ x, L.getD a Fr.zero = x := ⟨_, rfl⟩
  rw [hx] at h1 h2 ⊢
  have hxl : x ∈ L := by rw [← hx, getD_get ha]; exact List.getElem_mem _
  have hsplit : L = L.take a ++ x :: L.drop (a + 1) := by
    rw [← hx, getD_get ha, List.getElem_cons_drop, List.take_append_drop]
  have hle : ∀ y ∈ L, x.plc ≤ y.plc := by
    intro y hy
    obtain ⟨j, hj, rfl⟩ := List.getElem_of_mem hy
    have := h1 j hj
    rwa [getD_get hj] at this
  have htk : ofp x.plc (L.take a) = [] := by
    rw [ofp, List.filter_eq_nil_iff]
    intro g hg e
    obtain ⟨j, hj, rfl⟩ := List.getElem_of_mem hg
    rw [List.length_take] at hj
    have := h2 j (by omega)
    rw [getD_get (by omega)] at this
    rw [List.getElem_take] at e
    simp at e
    omega
  have hL : ∀ p, ofp p L = ofp p (L.take a) ++ (ofp p [x] ++ ofp p (L.drop (a + 1))) := fun p => by
    conv => lhs; rw [hsplit]
    rw [ofp, List.filter_append, show x :: L.drop (a + 1) = [x] ++ L.drop (a + 1) from rfl, List.filter_append]
  have hE : ∀ p, ofp p (L.eraseIdx a) = ofp p (L.take a) ++ ofp p (L.drop (a + 1)) := fun p => by
    rw [List.eraseIdx_eq_take_drop_succ, ofp, List.filter_append]
  have hlen := h.len
  match gs, h, hlen with
  | [], h, hlen => simp at hlen; subst hlen; simp at ha
  | g :: gs', h, hlen =>
    have hg1 : x.plc ≤ g.plc := hle g (h.mem.1 List.mem_cons_self)
    have hg2 : g.plc ≤ x.plc := by
      rcases List.mem_cons.1 (h.mem.2 hxl) with e | e
      · rw [e]; exact Nat.le_refl _
      · exact (List.pairwise_cons.1 h.up).1 x e
    have hgp : g.plc = x.plc := by omega
    have hc := h.cls x.plc
    rw [hL, htk, List.nil_append, ofp, List.filter_cons_of_pos (by simpa using hgp), show ofp x.plc [x] = [x] by simp [ofp], List.singleton_append] at hc
    injection hc with hc1 hc2
    subst hc1
    refine ⟨gs', rfl, (List.pairwise_cons.1 h.up).2, ?_, fun p => ?_⟩
    · rw [List.length_eraseIdx]; simp [ha]; simp at hlen; omega
    · rw [hE]
      by_cases hp : g.plc = p
      · subst hp
        rw [htk, List.nil_append]; exact hc2
      · have hc := h.cls p
        rw [hL, ofp, List.filter_cons_of_neg (by simpa using hp), show ofp p [g] = [] by simp [ofp, hp], List.nil_append] at hc
        exact hc
theorem drp_at {f : Fr} {L : List Fr} {k : Nat} (hk : k < L.length) (hs : f.same (L.getD k Fr.zero) = true) (hz : ∀ j, j < k → f.same (L.getD j Fr.zero) = false) : L.eraseIdx k = drp f L ∧ dE f L = 0 := by
  rcases found_drp (gs := L) (r := k) (.inl ⟨k, hk, rfl, hs, hz⟩) with ⟨k', e, _, h1, h2⟩ | ⟨e, _⟩
  · have : k = k' := by omega
    subst this
    exact ⟨h2, h1⟩
  · omega
theorem drp_not {f : Fr} {L : List Fr} (hz : ∀ j, j < L.length → f.same (L.getD j Fr.zero) = false) : drp f L = L ∧ dE f L = 16 := by
  rcases found_drp (gs := L) (r := -1) (.inr ⟨rfl, hz⟩) with ⟨k', e, _⟩ | ⟨_, h1, h2⟩
  · omega
  · exact ⟨h2, h1⟩

set_option maxHeartbeats 1600000 in
set_option maxRecDepth 100000 in
theorem rahead9 (f g : Fr) (w : World) (hf : f.may = true) (hg : g.may = true) :
    Calls Try.prog 28 #[f.val, g.val] w fun e w' => e = .returned (.bool (decide (f.plc < g.plc))) ∧ Below w.heap.size w w' := by
  have HF := Lib.hid hf; have HG := Lib.hid hg
  have HB := Lib.hid (boxed2 f g w)
  have HX := Lib.hid (fb_two2 w f g)
  obtain ⟨rv, hrv⟩ : ∃ rv, decide (f.plc < g.plc) = rv := ⟨_, rfl⟩
  have HRV := Lib.hid hrv
  rw [hrv]
  clear hf hg hrv
  go_enter Try.func28, Try.ntmps28
  go_wp2_with fail
  refine (rarb_ok f _ HF.out).mono ?_
  rintro e w1 ⟨A, c1', rfl, ha, hb1⟩
  have HX1 := Lib.hid (HX.out.below hb1 (by simp))
  have HA := Lib.hid ha; have HB1 := Lib.hid (nxt HB.out hb1)
  clear ha hb1 HX HB
  obtain ⟨c0, c1, c2, c3, c4, c5, c6, c7, c8, c9, c10, c11⟩ := HX1.out.bx
  go_wp2_with fail
  refine (rarb_ok g _ HG.out).mono ?_
  rintro e w2 ⟨B, c2', rfl, hb, hb2⟩
  have HA2 := Lib.hid (HA.out.below hb2); have HB2 := Lib.hid hb; have HW := Lib.hid (nxt HB1.out hb2)
  clear hb hb2 HA HB1 HX1 c0 c1 c2 c3 c4 c5 c6 c7 c8 c9 c10 c11
  obtain ⟨n, hn⟩ : ∃ n, (ofB f.num f.wid).length = n := ⟨_, rfl⟩
  obtain ⟨m, hm⟩ : ∃ m, (ofB g.num g.wid).length = m := ⟨_, rfl⟩
  have HN := Lib.hid (show f.lv.length = n from hn); have HM := Lib.hid (show g.lv.length = m from hm)
  have hn1 : n ≤ 64 := by rw [← hn, ofB_len]; exact wid_le f
  rw [hn] at HA2 ⊢
  rw [hm] at HB2 ⊢
  clear hn hm
  go_wp2
  go_loopw [7] (fun i wr => ∃ k : Nat, k ≤ n ∧ k ≤ m ∧ i = .int .i64 k ∧ f.lv.take k = g.lv.take k ∧ Below w2.heap.size w2 wr) (fun i _ => n - (intOf i).toNat)
  case atStart => exact ⟨0, Nat.zero_le _, Nat.zero_le _, rfl, by simp, Below.refl _ _⟩
  case round =>
    obtain ⟨k, hk, hk', rfl, ht, hbb⟩ := hrel
    have HT := Lib.hid ht; have HBB := Lib.hid hbb
    have HE := fun (h : ¬ (k < n ∧ k < m)) => Lib.hid (show rv = false from by
      rw [← HRV.out]
      simp only [decide_eq_false_iff_not]
      intro hl
      obtain ⟨k', hat⟩ := plc_lt HF.out HG.out hl
      have h1 := hat.le HT.out
      have h2 := hat.lt
      have h3 := HN.out; have h4 := HM.out
      omega)
    by_cases hlt : k < n
    · by_cases hlt2 : k < m
      · obtain ⟨ad, x, rfl, hx, hc⟩ := (HA2.out.below hbb).at_ hlt
        obtain ⟨bd, y, rfl, hy, hd⟩ := (HB2.out.below hbb).at_ hlt2
        have HXX := Lib.hid (show f.lv[k]? = some x from hx); have HYY := Lib.hid (show g.lv[k]? = some y from hy)
        have l1 : (k : Int) < (n : Int) := by omega
        have l2 : (k : Int) < (m : Int) := by omega
        clear ht hbb hx hy HE
        by_cases hxy : x = y
        · have d1 : (x != y) = false := by simp [hxy]
          have HXY := Lib.hid hxy
          clear hxy
          go_wp2
          go_quiet (fail)
          go_wp2
          go_roundw
          case rel => exact ⟨k + 1, by omega, by omega, by go_num, by rw [List.take_add_one, List.take_add_one, HT.out, HXX.out, HYY.out, HXY.out], belowN HBB.out _⟩
          case measure => simp [intOf]; omega
        · have d1 : (x != y) = true := by simpa using hxy
          have HXY := Lib.hid hxy
          have hxl := lvl_01 (lv_all f x (List.mem_of_getElem? HXX.out))
          have hyl := lvl_01 (lv_all g y (List.mem_of_getElem? HYY.out))
          clear hxy
          rcases hxl with rfl | rfl
          · have hy1 : y = 1 := by rcases hyl with h | h; exact absurd h.symm HXY.out; exact h
            subst hy1
            have HR := Lib.hid (show rv = true from by rw [← HRV.out]; exact decide_eq_true (at_plc HF.out HG.out ⟨HT.out, HXX.out, HYY.out⟩))
            clear d1
            go_wp2
            go_quiet (fail)
            go_wp2
            go_quiet (fail)
            go_wp2
            go_ret
            exact ⟨by rw [HR.out]; rfl, nxt HW.out (belowN (belowN HBB.out _) _)⟩
          · have hy0 : y = 0 := by rcases hyl with h | h; exact h; exact absurd h.symm HXY.out
            subst hy0
            have HR := Lib.hid (show rv = false from by
              rw [← HRV.out]
              have := at_plc HG.out HF.out ⟨HT.out.symm, HYY.out, HXX.out⟩
              simp only [decide_eq_false_iff_not]; omega)
            clear d1
            go_wp2
            go_quiet (fail)
            go_wp2
            go_quiet (fail)
            go_wp2
            go_ret
            exact ⟨by rw [HR.out]; rfl, nxt HW.out (belowN (belowN HBB.out _) _)⟩
      · have l1 : (k : Int) < (n : Int) := by omega
        have l2 : ¬ ((k : Int) < (m : Int)) := by omega
        have HR := HE (by omega)
        clear ht hbb HE
        go_wp2
        go_ret
        exact ⟨by rw [HR.out]; rfl, nxt HW.out HBB.out⟩
    · have l1 : ¬ ((k : Int) < (n : Int)) := by omega
      have HR := HE (by omega)
      clear ht hbb HE
      go_wp2
      go_ret
      exact ⟨by rw [HR.out]; rfl, nxt HW.out HBB.out⟩
end Go.Proofs.Ytldhnbohpnkcpaa
