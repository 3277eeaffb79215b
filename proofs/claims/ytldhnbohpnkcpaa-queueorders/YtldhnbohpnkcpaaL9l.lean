/- The walk of the law QueuePlays. -/
import Derived.Test.YtldhnbohpnkcpaaQW
import Derived.Test.YtldhnbohpnkcpaaQT
namespace Go.Proofs.Ytldhnbohpnkcpaa
open Go.RowKit
set_option linter.unusedSimpArgs false

theorem first_empty0 {w : World} {B g : Nat} {v : Value} {m : Int} (hq : Que w B g v m []) : Calls Try.prog 17 #[.pointer (some ⟨g, 0, none⟩)] w fun e w' => e = .returned (.tuple #[smpV 0, .bool false]) ∧ Below w.heap.size w w' := first_empty hq
theorem fb00 (w : World) : Fb (w.alloc (.cells #[.int .i64 0, .bool false, .bool false, .int .i64 0, .int .u8 0, .int .u8 0, .int .u8 0, .int .u8 0, .int .u8 0, .int .u8 0, .int .u8 0, .int .u8 0] 34)) w.heap.size (smp 0) := fb_new w (smp 0)
theorem bel00 (w : World) : Below w.heap.size w (w.alloc (.cells #[.int .i64 0, .bool false, .bool false, .int .i64 0, .int .u8 0, .int .u8 0, .int .u8 0, .int .u8 0, .int .u8 0, .int .u8 0, .int .u8 0, .int .u8 0] 34)) := boxed (smp 0) w
theorem rque_new (w : World) (m : Int) : Rque (w.alloc (.cells #[.slice none 0 0, .int .i64 m] 31)) w.heap.size w.heap.size (.slice none 0 0) m [] :=
  ⟨heap_alloc_new w _, World.ownsRow_nil _ _ _ _, Nat.le_refl _⟩
theorem Rque.base {w : World} {B B' g : Nat} {v : Value} {m : Int} {gs : List Fr} (h : Rque w B g v m gs) (hB : B' ≤ B) : Rque w B' g v m gs := ⟨h.q, h.own.base hB, Nat.le_trans hB h.at_⟩
/-- A queue and the reference's, apart. -/
structure Qr (w0 w : World) (gq : Nat) (vq : Value) (gs : List Fr) (gr : Nat) (vr : Value) (L : List Fr) (m : Int) : Prop where
  a : Que w w0.heap.size gq vq m gs
  r : Rque w w0.heap.size gr vr m L
  s : Sep vq vr
  bel : Below w0.heap.size w0 w
section
variable {w0 w w' : World} {gq gr : Nat} {vq vr v' : Value} {gs L ts : List Fr} {m : Int}
theorem Qr.next (h : Qr w0 w gq vq gs gr vr L m) (hb : Below w.heap.size w w') : Qr w0 w' gq vq gs gr vr L m := ⟨h.a.next hb, h.r.next hb, h.s, nxt h.bel hb⟩
theorem Qr.turnq (h : Qr w0 w gq vq gs gr vr L m) (hq : Que w' w0.heap.size gq v' m ts) (ht : Turn gq vq v' w w') : Qr w0 w' gq v' ts gr vr L m := by
  obtain ⟨h1, h2⟩ := ht.toR h.a h.r h.s.symm
  exact ⟨hq, h1, h2.symm, h.bel.trans (ht.que h.a h.bel.size)⟩
theorem Qr.turnr (h : Qr w0 w gq vq gs gr vr L m) (hq : Rque w' w0.heap.size gr v' m ts) (ht : Turn gr vr v' w w') : Qr w0 w' gq vq gs gr v' ts m := by
  obtain ⟨h1, h2⟩ := ht.toQ h.r h.a h.s
  exact ⟨h1, hq, h2, h.bel.trans (ht.rque h.r h.bel.size)⟩
end
theorem Qr.drew9 {w0 w : World} {gq gr : Nat} {vq vr : Value} {gs L : List Fr} {m : Int} (h : Qr w0 w gq vq gs gr vr L m) : Qr w0 w.drew gq vq gs gr vr L m := ⟨h.a.drew, h.r.drew, h.s, h.bel.drew⟩
theorem undrew9 {B : Nat} {w w' : World} (h : Below B w.drew w') : Below B w w' := ⟨h.os, h.tape, h.output, h.size, h.block⟩
theorem Axa.next {w w' : World} {B : Nat} {p : Addr} {d : Bool} {f : Fr} (h : Axa w p d f) (hb : Below B w w') (hp : p.block < B) : Axa w' p d f := by
  unfold Axa at h ⊢
  have e : ∀ k, w'.cell? ⟨p.block, k, none⟩ = w.cell? ⟨p.block, k, none⟩ := fun k => hb.cell hp
  have e0 : w'.cell? p = w.cell? p := hb.cell hp
  simp only [e, e0]
  exact h
theorem pE_std {m : Int} {f : Fr} {L gs : List Fr} (h : Std L gs) : pE m f L = pE m f gs := by unfold pE; rw [h.len]

set_option maxHeartbeats 3200000 in
set_option maxRecDepth 100000 in
theorem qplays_out (m : Int) (A : Option Addr) (n c : Nat) (w : World) (h : 100 < n ∨ m < 1 ∨ 16 < m) :
    Calls Try.prog 3 #[.int .i64 m, .slice A n c] w fun e w' => e = .returned (.bool true) ∧ Below w.heap.size w w' := by
  have H := Lib.hid h
  clear h
  by_cases h1 : (100 : Int) < (n : Int)
  · go_enter Try.func3, Try.ntmps3
    go_wp2_with fail
    refine (awake9 _).mono ?_
    rintro e w1 ⟨rfl, hb1⟩
    go_wp2
    go_ret
    exact ⟨rfl, hb1⟩
  · by_cases h2 : m < 1
    · go_enter Try.func3, Try.ntmps3
      go_wp2_with fail
      refine (new_bad m w (by omega)).mono ?_
      rintro e w1 ⟨rfl, hw1⟩
      subst hw1
      go_wp2_with fail
      refine (awake9 _).mono ?_
      rintro e w2 ⟨rfl, hb1⟩
      go_wp2
      go_ret
      exact ⟨rfl, hb1⟩
    · have h3 : 16 < m := by have := H.out; omega
      go_enter Try.func3, Try.ntmps3
      go_wp2_with fail
      refine (new_bad m w (by omega)).mono ?_
      rintro e w1 ⟨rfl, hw1⟩
      subst hw1
      go_wp2_with fail
      refine (awake9 _).mono ?_
      rintro e w2 ⟨rfl, hb1⟩
      go_wp2
      go_ret
      exact ⟨rfl, hb1⟩

set_option maxHeartbeats 12800000 in
set_option maxRecDepth 100000 in
theorem qplays_in (m : Nat) (ac : Nat → Bool × Fr) (A : Option Addr) (n c : Nat) (w : World) (hA : Al w A n ac) (hn : n ≤ 100) (h1 : 1 ≤ m) (h2 : m ≤ 16) :
    Calls Try.prog 3 #[.int .i64 m, .slice A n c] w fun e w' => e = .returned (.bool true) ∧ Below w.heap.size w w' := by
  have HA := Lib.hid hA
  have g1 : ¬ ((100 : Int) < (n : Int)) := by omega
  have g4 : ¬ ((m : Int) < 1) := by omega
  have g5 : ¬ ((16 : Int) < (m : Int)) := by omega
  clear hA
  go_enter Try.func3, Try.ntmps3
  go_wp2_with fail
  refine (new_ok m w (by omega) (by omega)).mono ?_
  rintro e w1 ⟨rfl, hq1, hb1⟩
  have HQR := Lib.hid (show Qr w (w1.alloc (.cells #[.slice none 0 0, .int .i64 m] 31)) w.heap.size _ [] w1.heap.size (.slice none 0 0) [] m from
    ⟨hq1.next ((Below.refl _ _).alloc (Nat.le_refl _) _), (rque_new w1 m).base hb1.size, .inl rfl, nxt hb1 ((Below.refl _ _).alloc (Nat.le_refl _) _)⟩)
  obtain ⟨gr, hgr⟩ : ∃ gr, w1.heap.size = gr := ⟨_, rfl⟩
  rw [hgr] at HQR
  clear hq1 hb1
  go_wp2
  clear hgr
  go_loopw [8] (fun vi wr => ∃ (k : Nat) (vq vr : Value) (gs L : List Fr), k ≤ n ∧ vi = .int .i64 k ∧ Qr w wr w.heap.size vq gs gr vr L m ∧ Std L gs ∧ Okq gs ∧ (gs.length : Int) ≤ m) (fun vi _ => n - (intOf vi).toNat)
  case atStart => exact ⟨0, _, _, [], [], Nat.zero_le _, rfl, HQR.out, std_nil, ok_nil, by simp⟩
  case round =>
    clear HQR
    obtain ⟨k, vq, vr, gs, L, hk, rfl, hqr, hst, hok, hle⟩ := hrel
    have HQ := Lib.hid hqr; have HST := Lib.hid hst; have HOK := Lib.hid hok; have HLE := Lib.hid hle
    clear hqr hst hok hle
    by_cases hlt : k < n
    · have hlt' : (k : Int) < (n : Int) := by omega
      obtain ⟨ad, rfl, hadl, -⟩ := HA.out.at_ hlt
      have hax := (HA.out.below HQ.out.bel).at_ hlt
      obtain ⟨ad2, e2, -, hax⟩ := hax
      injection e2 with e2
      subst e2
      obtain ⟨dd, hdd⟩ : ∃ dd, (ac k).1 = dd := ⟨_, rfl⟩
      obtain ⟨f, hff⟩ : ∃ f, (ac k).2 = f := ⟨_, rfl⟩
      rw [hdd, hff] at hax
      have HAX := Lib.hid hax
      have HADL := Lib.hid (show (ad.add (k * 13)).block < w.heap.size by rw [block_of_add]; exact hadl)
      obtain ⟨d0, d1, d2, d3, d4, d5, d6, d7, d8, d9, d10, d11, d12⟩ := hax
      have HSN := Lib.hid HST.out.len
      clear hdd hff hadl
      cases dd
      · go_wp2_with fail
        refine (rput_q (f := f) HQ.out.r (by have h1 := HSN.out; have h2 := HLE.out; omega) HQ.out.bel.size).mono ?_
        rintro e w2 ⟨u2, rfl, hr2, ht2⟩
        rw [pE_std HST.out]
        have HQ2 := Lib.hid (HQ.out.turnr hr2 ht2)
        have HST2 := Lib.hid (show Std (rL m f L) (aL m (false, f) gs) from HST.out.put m f)
        have HAE := Lib.hid (show aE m (false, f) gs = pE m f gs from rfl)
        have HAX2 := Lib.hid (HAX.out.next (ht2.rque HQ.out.r HQ.out.bel.size) HADL.out)
        clear hr2 ht2 d0 d1 d2 d3 d4 d5 d6 d7 d8 d9 d10 d11 d12
        obtain ⟨E, hE⟩ : ∃ E, pE m f gs = E := ⟨_, rfl⟩
        have HEE := Lib.hid (show aE m (false, f) gs = E from hE)
        rw [hE]
        obtain ⟨Ar, cr, hur, -, -⟩ := HQ2.out.r.own.fl
        subst hur
        obtain ⟨N, hN⟩ : ∃ N, (rL m f L).length = N := ⟨_, rfl⟩
        have HNN := Lib.hid (show (aL m (false, f) gs).length = N from by rw [← HST2.out.len]; exact hN)
        obtain ⟨gs2, hgs2⟩ : ∃ gs2, aL m (false, f) gs = gs2 := ⟨_, rfl⟩
        have HG2 := Lib.hid hgs2
        have HOK2 := Lib.hid (show Okq gs2 from by rw [← hgs2]; exact aL_ok HOK.out)
        have HLE2 := Lib.hid (show (gs2.length : Int) ≤ m from by rw [← hgs2]; exact aL_le HLE.out)
        rw [hN] at HQ2
        rw [hgs2] at HST2 HNN
        obtain ⟨L2, hL2⟩ : ∃ L2, (rL m f L) = L2 := ⟨_, rfl⟩
        rw [hL2] at HQ2 HST2 hN
        have HNL := Lib.hid hN
        have hN16 : (N : Int) ≤ 16 := by have h1 := HLE2.out; have h2 := HNN.out; omega
        clear hE hN hgs2 hL2
        go_wp2_with fail
        refine wp_region_held_drew (S := fun w' => Axa w' (ad.add (k * 13)) false f ∧ Rq w' gr (.slice Ar N cr) m) (by kernel_rfl) (⟨HAX2.out, HQ2.out.r.q⟩) (fun hHeld => ?_)
        refine takeH (i := 0) (v := .pointer (some ⟨w.heap.size, 0, none⟩)) rfl (by kernel_rfl) (by kernel_rfl) (by kernel_rfl) (fun _ _ _ h => h) (Or.inl ⟨by rfl, fun w hSw => ?_⟩) hHeld ?_
        · (clear hSw; go_simp)
        simp only [Act.put, List.setIfInBounds_toArray, List.set_cons_zero, List.set_cons_succ]
        refine takeH (i := 1) (v := .slice (some ad) n c) rfl (by kernel_rfl) (by kernel_rfl) (by kernel_rfl) (fun _ _ _ h => h) (Or.inl ⟨by rfl, fun w hSw => ?_⟩) hHeld ?_
        · (clear hSw; go_simp)
        simp only [Act.put, List.setIfInBounds_toArray, List.set_cons_zero, List.set_cons_succ]
        refine takeH (i := 2) (v := .int .i64 k) rfl (by kernel_rfl) (by kernel_rfl) (by kernel_rfl) (fun _ _ _ h => h) (Or.inl ⟨by rfl, fun w hSw => ?_⟩) hHeld ?_
        · (clear hSw; go_simp)
        simp only [Act.put, List.setIfInBounds_toArray, List.set_cons_zero, List.set_cons_succ]
        refine takeH (i := 3) (v := .pointer (some (ad.add (k * 13)))) rfl (by kernel_rfl) (by kernel_rfl) (by kernel_rfl) (fun _ _ _ h => h) (Or.inl ⟨by rfl, fun w hSw => ?_⟩) hHeld ?_
        · (have hlx := hlt; clear hSw; go_simp)
        simp only [Act.put, List.setIfInBounds_toArray, List.set_cons_zero, List.set_cons_succ]
        refine takeH (i := 4) (v := actV false f) rfl (by kernel_rfl) (by kernel_rfl) (by kernel_rfl) (fun _ _ _ h => h) (Or.inl ⟨by rfl, fun w hSw => ?_⟩) hHeld ?_
        · (obtain ⟨d0, d1, d2, d3, d4, d5, d6, d7, d8, d9, d10, d11, d12⟩ := hSw.1; clear hSw; go_simp)
        simp only [Act.put, List.setIfInBounds_toArray, List.set_cons_zero, List.set_cons_succ]
        refine takeH (i := 6) (v := .int .i64 E) rfl (by kernel_rfl) (by kernel_rfl) (by kernel_rfl) (fun _ _ _ h => h) (Or.inl ⟨by rfl, fun w hSw => ?_⟩) hHeld ?_
        · (clear hSw; go_simp)
        simp only [Act.put, List.setIfInBounds_toArray, List.set_cons_zero, List.set_cons_succ]
        refine wpAnyH_ready (rs := [5]) (by kernel_rfl) (by simp) ?_
        refine AllReadyH.cons rfl (fun K hK => ?_) AllReadyH.nil
        go_simp
        refine (does_q false f HQ2.out.drew9.a HOK.out (by have := HLE.out; omega) HQ2.out.bel.size).mono ?_
        rintro e w3 ⟨u3, rfl, hq3, ht3⟩
        rw [HEE.out]
        rw [HG2.out] at hq3
        have HQ3 := Lib.hid (HQ2.out.drew9.turnq hq3 ht3)
        have HAX3 := Lib.hid (HAX2.out.next (undrew9 (ht3.que HQ2.out.drew9.a HQ2.out.bel.size)) HADL.out)
        clear hq3 ht3
        clear hHeld
        dsimp only
        refine hK.out _ _ (⟨HAX3.out, HQ3.out.r.q⟩) (fun hHeld => ?_)
        clear hK K
        try simp only [Act.put, List.setIfInBounds_toArray, List.set_cons_zero, List.set_cons_succ]
        refine takeH (i := 7) (v := .bool false) rfl (by kernel_rfl) (by kernel_rfl) (by kernel_rfl) (fun _ _ _ h => h) (Or.inl ⟨by rfl, fun w hSw => ?_⟩) hHeld ?_
        · (clear hSw; go_simp)
        simp only [Act.put, List.setIfInBounds_toArray, List.set_cons_zero, List.set_cons_succ]
        refine takeH (i := 8) (v := .bool false) rfl (by kernel_rfl) (by kernel_rfl) (by kernel_rfl) (fun _ _ _ h => h) (Or.inl ⟨by rfl, fun w hSw => ?_⟩) hHeld ?_
        · (clear hSw; go_simp)
        simp only [Act.put, List.setIfInBounds_toArray, List.set_cons_zero, List.set_cons_succ]
        refine takeH (i := 9) (v := .pointer (some ⟨w.heap.size, 0, none⟩)) rfl (by kernel_rfl) (by kernel_rfl) (by kernel_rfl) (fun _ _ _ h => h) (Or.inl ⟨by rfl, fun w hSw => ?_⟩) hHeld ?_
        · (clear hSw; go_simp)
        simp only [Act.put, List.setIfInBounds_toArray, List.set_cons_zero, List.set_cons_succ]
        refine takeH (i := 11) (v := .pointer (some ⟨gr, 0, none⟩)) rfl (by kernel_rfl) (by kernel_rfl) (by kernel_rfl) (fun _ _ _ h => h) (Or.inl ⟨by rfl, fun w hSw => ?_⟩) hHeld ?_
        · (clear hSw; go_simp)
        simp only [Act.put, List.setIfInBounds_toArray, List.set_cons_zero, List.set_cons_succ]
        refine wpAnyH_ready (rs := [10]) (by kernel_rfl) (by simp) ?_
        refine AllReadyH.cons rfl (fun K hK => ?_) AllReadyH.nil
        go_simp
        refine (all_q HQ3.out.a (by have := HLE2.out; omega)).mono ?_
        rintro e w4 ⟨u4, rfl, hu4, hb4⟩
        have HU4 := Lib.hid hu4
        have HQ4 := Lib.hid (HQ3.out.next hb4)
        have HAX4 := Lib.hid (HAX3.out.next (hb4.mono HQ3.out.bel.size) HADL.out)
        clear hu4 hb4
        clear hHeld
        dsimp only
        refine hK.out _ _ (⟨HAX4.out, HQ4.out.r.q⟩) (fun hHeld => ?_)
        clear hK K
        try simp only [Act.put, List.setIfInBounds_toArray, List.set_cons_zero, List.set_cons_succ]
        refine wpAnyH_ready (rs := [12]) (by kernel_rfl) (by simp) ?_
        refine AllReadyH.cons rfl (fun K hK => ?_) AllReadyH.nil
        go_simp
        refine (rall_q HQ4.out.r HST2.out (HST2.out.may HOK2.out) (by have := HNL.out; omega)).mono ?_
        rintro e w5 ⟨u5, rfl, hu5, hb5⟩
        have HU5 := Lib.hid hu5
        have HU45 := Lib.hid (HU4.out.below hb5)
        have HQ5 := Lib.hid (HQ4.out.next hb5)
        have HAX5 := Lib.hid (HAX4.out.next (hb5.mono HQ4.out.bel.size) HADL.out)
        clear hu5 hb5
        clear hHeld
        dsimp only
        refine hK.out _ _ (⟨HAX5.out, HQ5.out.r.q⟩) (fun hHeld => ?_)
        clear hK K
        try simp only [Act.put, List.setIfInBounds_toArray, List.set_cons_zero, List.set_cons_succ]
        refine wpAnyH_ready (rs := [13]) (by kernel_rfl) (by simp) ?_
        refine AllReadyH.cons rfl (fun K hK => ?_) AllReadyH.nil
        go_simp
        refine (same_self HU45.out HU5.out (by have := HLE2.out; omega)).mono ?_
        rintro e w6 ⟨rfl, hb6⟩
        have HQ6 := Lib.hid (HQ5.out.next hb6)
        have HAX6 := Lib.hid (HAX5.out.next (hb6.mono HQ5.out.bel.size) HADL.out)
        clear hb6
        clear hHeld
        dsimp only
        refine hK.out _ _ (⟨HAX6.out, HQ6.out.r.q⟩) (fun hHeld => ?_)
        clear hK K
        try simp only [Act.put, List.setIfInBounds_toArray, List.set_cons_zero, List.set_cons_succ]
        refine takeH (i := 14) (v := .bool false) rfl (by kernel_rfl) (by kernel_rfl) (by kernel_rfl) (fun _ _ _ h => h) (Or.inl ⟨by rfl, fun w hSw => ?_⟩) hHeld ?_
        · (clear hSw; go_simp)
        simp only [Act.put, List.setIfInBounds_toArray, List.set_cons_zero, List.set_cons_succ]
        refine takeH (i := 15) (v := .bool false) rfl (by kernel_rfl) (by kernel_rfl) (by kernel_rfl) (fun _ _ _ h => h) (Or.inl ⟨by rfl, fun w hSw => ?_⟩) hHeld ?_
        · (clear hSw; go_simp)
        simp only [Act.put, List.setIfInBounds_toArray, List.set_cons_zero, List.set_cons_succ]
        refine takeH (i := 16) (v := .bool false) rfl (by kernel_rfl) (by kernel_rfl) (by kernel_rfl) (fun _ _ _ h => h) (Or.inl ⟨by rfl, fun w hSw => ?_⟩) hHeld ?_
        · (clear hSw; go_simp)
        simp only [Act.put, List.setIfInBounds_toArray, List.set_cons_zero, List.set_cons_succ]
        refine takeH (i := 17) (v := .pointer (some ⟨w.heap.size, 0, none⟩)) rfl (by kernel_rfl) (by kernel_rfl) (by kernel_rfl) (fun _ _ _ h => h) (Or.inl ⟨by rfl, fun w hSw => ?_⟩) hHeld ?_
        · (clear hSw; go_simp)
        simp only [Act.put, List.setIfInBounds_toArray, List.set_cons_zero, List.set_cons_succ]
        refine takeH (i := 19) (v := .pointer (some ⟨gr, 0, none⟩)) rfl (by kernel_rfl) (by kernel_rfl) (by kernel_rfl) (fun _ _ _ h => h) (Or.inl ⟨by rfl, fun w hSw => ?_⟩) hHeld ?_
        · (clear hSw; go_simp)
        simp only [Act.put, List.setIfInBounds_toArray, List.set_cons_zero, List.set_cons_succ]
        refine takeH (i := 20) (v := .pointer (some ⟨gr, 0, none⟩)) rfl (by kernel_rfl) (by kernel_rfl) (by kernel_rfl) (fun _ _ _ h => h) (Or.inl ⟨by rfl, fun w hSw => ?_⟩) hHeld ?_
        · (clear hSw; go_simp)
        simp only [Act.put, List.setIfInBounds_toArray, List.set_cons_zero, List.set_cons_succ]
        refine takeH (i := 21) (v := .pointer (some ⟨gr, 0, none⟩)) rfl (by kernel_rfl) (by kernel_rfl) (by kernel_rfl) (fun _ _ _ h => h) (Or.inl ⟨by rfl, fun w hSw => ?_⟩) hHeld ?_
        · (clear hSw; go_simp)
        simp only [Act.put, List.setIfInBounds_toArray, List.set_cons_zero, List.set_cons_succ]
        refine takeH (i := 22) (v := .slice Ar N cr) rfl (by kernel_rfl) (by kernel_rfl) (by kernel_rfl) (fun _ _ _ h => h) (Or.inl ⟨by rfl, fun w hSw => ?_⟩) hHeld ?_
        · (have r0 := hSw.2.row; clear hSw; go_simp)
        simp only [Act.put, List.setIfInBounds_toArray, List.set_cons_zero, List.set_cons_succ]
        refine takeH (i := 23) (v := .int .i64 N) rfl (by kernel_rfl) (by kernel_rfl) (by kernel_rfl) (fun _ _ _ h => h) (Or.inl ⟨by rfl, fun w hSw => ?_⟩) hHeld ?_
        · (clear hSw; go_simp)
        simp only [Act.put, List.setIfInBounds_toArray, List.set_cons_zero, List.set_cons_succ]
        refine wpAnyH_ready (rs := [18]) (by kernel_rfl) (by simp) ?_
        refine AllReadyH.cons rfl (fun K hK => ?_) AllReadyH.nil
        go_simp
        refine (len_q HQ6.out.a).mono ?_
        rintro e w7 ⟨rfl, hw7⟩
        subst hw7
        rw [HNN.out]
        clear hHeld
        dsimp only
        refine hK.out _ _ (⟨HAX6.out, HQ6.out.r.q⟩) (fun hHeld => ?_)
        clear hK K
        try simp only [Act.put, List.setIfInBounds_toArray, List.set_cons_zero, List.set_cons_succ]
        refine takeH (i := 24) (v := .bool false) rfl (by kernel_rfl) (by kernel_rfl) (by kernel_rfl) (fun _ _ _ h => h) (Or.inl ⟨by rfl, fun w hSw => ?_⟩) hHeld ?_
        · (clear hSw; go_simp)
        simp only [Act.put, List.setIfInBounds_toArray, List.set_cons_zero, List.set_cons_succ]
        refine takeH (i := 25) (v := .bool false) rfl (by kernel_rfl) (by kernel_rfl) (by kernel_rfl) (fun _ _ _ h => h) (Or.inl ⟨by rfl, fun w hSw => ?_⟩) hHeld ?_
        · (clear hSw; go_simp)
        simp only [Act.put, List.setIfInBounds_toArray, List.set_cons_zero, List.set_cons_succ]
        refine wpAnyH_done (by kernel_rfl) ?_ _
        clear hHeld
        clear HQ2 HQ3 HQ4 HQ5 HAX2 HAX3 HAX4 HAX5 HAX6 HU4 HU5 HU45 HAX
        rcases hgc : gs2 with _ | ⟨f0, rest⟩
        · have HQE := Lib.hid (show Que _ _ _ _ _ [] from by rw [← hgc]; exact HQ6.out.a)
          have HN0 := Lib.hid (show N = 0 from by rw [← HNN.out, hgc]; rfl)
          have HGC := Lib.hid hgc
          clear hgc
          obtain rfl : N = 0 := HN0.out
          go_wp2_with fail
          refine (first_empty0 HQE.out).mono ?_
          rintro e w8 ⟨rfl, hb8⟩
          have HZ8 := Lib.hid (fb00 w8)
          have HQ8 := Lib.hid ((HQ6.out.next hb8).next (bel00 w8))
          clear hb8 HQ6 HQE
          go_wp2_with fail
          refine (rall_q HQ8.out.r HST2.out (HST2.out.may HOK2.out) (by have := HNL.out; omega)).mono ?_
          rintro e w9 ⟨u9, rfl, hu9, hb9⟩
          have HQ9 := Lib.hid (HQ8.out.next hb9)
          obtain ⟨A9, c9, rfl, -, -⟩ := hu9.fl
          have HL0 := Lib.hid (show gs2.length = 0 from by rw [HNN.out])
          rw [HL0.out]
          have hx := (HZ8.out.below hb9 HZ8.out.lt).bx
          unfold Bx at hx
          simp only [smp] at hx
          obtain ⟨c0, c1, c2, c3, c4, c5, c6, c7, c8, c9', c10, c11⟩ := hx
          have h22 := eq22
          clear hu9 hb9 HQ8
          go_wp2
          go_quiet (fail)
          have HQA := Lib.hid (HQ9.out.next (belowN (Below.refl _ _) nq))
          go_wp2
          go_roundw
          case rel => exact ⟨k + 1, _, _, gs2, L2, by omega, by go_num, HQA.out, HST2.out, HOK2.out, HLE2.out⟩
          case measure => simp [intOf]; omega
        · have HQE := Lib.hid (show Que _ _ _ _ _ (f0 :: rest) from by rw [← hgc]; exact HQ6.out.a)
          have HN0 := Lib.hid (show N = rest.length + 1 from by rw [← HNN.out, hgc]; rfl)
          have HGC := Lib.hid hgc
          clear hgc
          go_wp2_with fail
          refine (first_q HQE.out).mono ?_
          rintro e w8 ⟨rfl, hb8⟩
          have HZ8 := Lib.hid (fb_new w8 f0)
          have HQ8 := Lib.hid ((HQ6.out.next hb8).next (boxed f0 w8))
          clear hb8 HQ6 HQE
          go_wp2_with fail
          refine (rall_q HQ8.out.r HST2.out (HST2.out.may HOK2.out) (by have := HNL.out; omega)).mono ?_
          rintro e w9 ⟨u9, rfl, hu9, hb9⟩
          have HQ9 := Lib.hid (HQ8.out.next hb9)
          rw [HGC.out] at hu9
          obtain ⟨A9, c9, rfl, hf9, -⟩ := hu9.fl
          obtain ⟨ad9, rfl, -, hx9⟩ := fl_head hf9 (by simp)
          simp only [List.getD_cons_zero] at hx9
          obtain ⟨e0, e1, e2, e3, e4, e5, e6, e7, e8, e9, e10, e11⟩ := hx9
          obtain ⟨c0, c1, c2, c3, c4, c5, c6, c7, c8, c9', c10, c11⟩ := (HZ8.out.below hb9 HZ8.out.lt).bx
          have hfe := fun W => fneq f0 f0 W
          rw [same_refl] at hfe
          obtain ⟨N9, hN9⟩ : ∃ N9, (f0 :: rest).length = N9 := ⟨_, rfl⟩
          have hp9 : (0 : Int) < (N9 : Int) := by rw [← hN9]; simp
          have hp8 : 0 < N9 := by omega
          rw [hN9]
          clear hu9 hb9 HQ8 hf9 hN9
          go_wp2
          go_quiet (fail)
          have HQA := Lib.hid (HQ9.out.next (belowN (Below.refl _ _) nq))
          go_wp2
          go_roundw
          case rel => exact ⟨k + 1, _, _, gs2, L2, by omega, by go_num, HQA.out, HST2.out, HOK2.out, HLE2.out⟩
          case measure => simp [intOf]; omega
      · go_wp2_with fail
        refine (rdrop_q (f := f) HQ.out.r (by have h1 := HSN.out; have h2 := HLE.out; omega) HQ.out.bel.size).mono ?_
        rintro e w2 ⟨u2, rfl, hr2, ht2⟩
        rw [HST.out.dE]
        have HQ2 := Lib.hid (HQ.out.turnr hr2 ht2)
        have HST2 := Lib.hid (show Std (drp f L) (aL m (true, f) gs) from HST.out.drp f)
        have HAE := Lib.hid (show aE m (true, f) gs = dE f gs from rfl)
        have HAX2 := Lib.hid (HAX.out.next (ht2.rque HQ.out.r HQ.out.bel.size) HADL.out)
        clear hr2 ht2 d0 d1 d2 d3 d4 d5 d6 d7 d8 d9 d10 d11 d12
        obtain ⟨E, hE⟩ : ∃ E, dE f gs = E := ⟨_, rfl⟩
        have HEE := Lib.hid (show aE m (true, f) gs = E from hE)
        rw [hE]
        obtain ⟨Ar, cr, hur, -, -⟩ := HQ2.out.r.own.fl
        subst hur
        obtain ⟨N, hN⟩ : ∃ N, (drp f L).length = N := ⟨_, rfl⟩
        have HNN := Lib.hid (show (aL m (true, f) gs).length = N from by rw [← HST2.out.len]; exact hN)
        obtain ⟨gs2, hgs2⟩ : ∃ gs2, aL m (true, f) gs = gs2 := ⟨_, rfl⟩
        have HG2 := Lib.hid hgs2
        have HOK2 := Lib.hid (show Okq gs2 from by rw [← hgs2]; exact aL_ok HOK.out)
        have HLE2 := Lib.hid (show (gs2.length : Int) ≤ m from by rw [← hgs2]; exact aL_le HLE.out)
        rw [hN] at HQ2
        rw [hgs2] at HST2 HNN
        obtain ⟨L2, hL2⟩ : ∃ L2, (drp f L) = L2 := ⟨_, rfl⟩
        rw [hL2] at HQ2 HST2 hN
        have HNL := Lib.hid hN
        have hN16 : (N : Int) ≤ 16 := by have h1 := HLE2.out; have h2 := HNN.out; omega
        clear hE hN hgs2 hL2
        go_wp2_with fail
        refine wp_region_held_drew (S := fun w' => Axa w' (ad.add (k * 13)) true f ∧ Rq w' gr (.slice Ar N cr) m) (by kernel_rfl) (⟨HAX2.out, HQ2.out.r.q⟩) (fun hHeld => ?_)
        refine takeH (i := 0) (v := .pointer (some ⟨w.heap.size, 0, none⟩)) rfl (by kernel_rfl) (by kernel_rfl) (by kernel_rfl) (fun _ _ _ h => h) (Or.inl ⟨by rfl, fun w hSw => ?_⟩) hHeld ?_
        · (clear hSw; go_simp)
        simp only [Act.put, List.setIfInBounds_toArray, List.set_cons_zero, List.set_cons_succ]
        refine takeH (i := 1) (v := .slice (some ad) n c) rfl (by kernel_rfl) (by kernel_rfl) (by kernel_rfl) (fun _ _ _ h => h) (Or.inl ⟨by rfl, fun w hSw => ?_⟩) hHeld ?_
        · (clear hSw; go_simp)
        simp only [Act.put, List.setIfInBounds_toArray, List.set_cons_zero, List.set_cons_succ]
        refine takeH (i := 2) (v := .int .i64 k) rfl (by kernel_rfl) (by kernel_rfl) (by kernel_rfl) (fun _ _ _ h => h) (Or.inl ⟨by rfl, fun w hSw => ?_⟩) hHeld ?_
        · (clear hSw; go_simp)
        simp only [Act.put, List.setIfInBounds_toArray, List.set_cons_zero, List.set_cons_succ]
        refine takeH (i := 3) (v := .pointer (some (ad.add (k * 13)))) rfl (by kernel_rfl) (by kernel_rfl) (by kernel_rfl) (fun _ _ _ h => h) (Or.inl ⟨by rfl, fun w hSw => ?_⟩) hHeld ?_
        · (have hlx := hlt; clear hSw; go_simp)
        simp only [Act.put, List.setIfInBounds_toArray, List.set_cons_zero, List.set_cons_succ]
        refine takeH (i := 4) (v := actV true f) rfl (by kernel_rfl) (by kernel_rfl) (by kernel_rfl) (fun _ _ _ h => h) (Or.inl ⟨by rfl, fun w hSw => ?_⟩) hHeld ?_
        · (obtain ⟨d0, d1, d2, d3, d4, d5, d6, d7, d8, d9, d10, d11, d12⟩ := hSw.1; clear hSw; go_simp)
        simp only [Act.put, List.setIfInBounds_toArray, List.set_cons_zero, List.set_cons_succ]
        refine takeH (i := 6) (v := .int .i64 E) rfl (by kernel_rfl) (by kernel_rfl) (by kernel_rfl) (fun _ _ _ h => h) (Or.inl ⟨by rfl, fun w hSw => ?_⟩) hHeld ?_
        · (clear hSw; go_simp)
        simp only [Act.put, List.setIfInBounds_toArray, List.set_cons_zero, List.set_cons_succ]
        refine wpAnyH_ready (rs := [5]) (by kernel_rfl) (by simp) ?_
        refine AllReadyH.cons rfl (fun K hK => ?_) AllReadyH.nil
        go_simp
        refine (does_q true f HQ2.out.drew9.a HOK.out (by have := HLE.out; omega) HQ2.out.bel.size).mono ?_
        rintro e w3 ⟨u3, rfl, hq3, ht3⟩
        rw [HEE.out]
        rw [HG2.out] at hq3
        have HQ3 := Lib.hid (HQ2.out.drew9.turnq hq3 ht3)
        have HAX3 := Lib.hid (HAX2.out.next (undrew9 (ht3.que HQ2.out.drew9.a HQ2.out.bel.size)) HADL.out)
        clear hq3 ht3
        clear hHeld
        dsimp only
        refine hK.out _ _ (⟨HAX3.out, HQ3.out.r.q⟩) (fun hHeld => ?_)
        clear hK K
        try simp only [Act.put, List.setIfInBounds_toArray, List.set_cons_zero, List.set_cons_succ]
        refine takeH (i := 7) (v := .bool false) rfl (by kernel_rfl) (by kernel_rfl) (by kernel_rfl) (fun _ _ _ h => h) (Or.inl ⟨by rfl, fun w hSw => ?_⟩) hHeld ?_
        · (clear hSw; go_simp)
        simp only [Act.put, List.setIfInBounds_toArray, List.set_cons_zero, List.set_cons_succ]
        refine takeH (i := 8) (v := .bool false) rfl (by kernel_rfl) (by kernel_rfl) (by kernel_rfl) (fun _ _ _ h => h) (Or.inl ⟨by rfl, fun w hSw => ?_⟩) hHeld ?_
        · (clear hSw; go_simp)
        simp only [Act.put, List.setIfInBounds_toArray, List.set_cons_zero, List.set_cons_succ]
        refine takeH (i := 9) (v := .pointer (some ⟨w.heap.size, 0, none⟩)) rfl (by kernel_rfl) (by kernel_rfl) (by kernel_rfl) (fun _ _ _ h => h) (Or.inl ⟨by rfl, fun w hSw => ?_⟩) hHeld ?_
        · (clear hSw; go_simp)
        simp only [Act.put, List.setIfInBounds_toArray, List.set_cons_zero, List.set_cons_succ]
        refine takeH (i := 11) (v := .pointer (some ⟨gr, 0, none⟩)) rfl (by kernel_rfl) (by kernel_rfl) (by kernel_rfl) (fun _ _ _ h => h) (Or.inl ⟨by rfl, fun w hSw => ?_⟩) hHeld ?_
        · (clear hSw; go_simp)
        simp only [Act.put, List.setIfInBounds_toArray, List.set_cons_zero, List.set_cons_succ]
        refine wpAnyH_ready (rs := [10]) (by kernel_rfl) (by simp) ?_
        refine AllReadyH.cons rfl (fun K hK => ?_) AllReadyH.nil
        go_simp
        refine (all_q HQ3.out.a (by have := HLE2.out; omega)).mono ?_
        rintro e w4 ⟨u4, rfl, hu4, hb4⟩
        have HU4 := Lib.hid hu4
        have HQ4 := Lib.hid (HQ3.out.next hb4)
        have HAX4 := Lib.hid (HAX3.out.next (hb4.mono HQ3.out.bel.size) HADL.out)
        clear hu4 hb4
        clear hHeld
        dsimp only
        refine hK.out _ _ (⟨HAX4.out, HQ4.out.r.q⟩) (fun hHeld => ?_)
        clear hK K
        try simp only [Act.put, List.setIfInBounds_toArray, List.set_cons_zero, List.set_cons_succ]
        refine wpAnyH_ready (rs := [12]) (by kernel_rfl) (by simp) ?_
        refine AllReadyH.cons rfl (fun K hK => ?_) AllReadyH.nil
        go_simp
        refine (rall_q HQ4.out.r HST2.out (HST2.out.may HOK2.out) (by have := HNL.out; omega)).mono ?_
        rintro e w5 ⟨u5, rfl, hu5, hb5⟩
        have HU5 := Lib.hid hu5
        have HU45 := Lib.hid (HU4.out.below hb5)
        have HQ5 := Lib.hid (HQ4.out.next hb5)
        have HAX5 := Lib.hid (HAX4.out.next (hb5.mono HQ4.out.bel.size) HADL.out)
        clear hu5 hb5
        clear hHeld
        dsimp only
        refine hK.out _ _ (⟨HAX5.out, HQ5.out.r.q⟩) (fun hHeld => ?_)
        clear hK K
        try simp only [Act.put, List.setIfInBounds_toArray, List.set_cons_zero, List.set_cons_succ]
        refine wpAnyH_ready (rs := [13]) (by kernel_rfl) (by simp) ?_
        refine AllReadyH.cons rfl (fun K hK => ?_) AllReadyH.nil
        go_simp
        refine (same_self HU45.out HU5.out (by have := HLE2.out; omega)).mono ?_
        rintro e w6 ⟨rfl, hb6⟩
        have HQ6 := Lib.hid (HQ5.out.next hb6)
        have HAX6 := Lib.hid (HAX5.out.next (hb6.mono HQ5.out.bel.size) HADL.out)
        clear hb6
        clear hHeld
        dsimp only
        refine hK.out _ _ (⟨HAX6.out, HQ6.out.r.q⟩) (fun hHeld => ?_)
        clear hK K
        try simp only [Act.put, List.setIfInBounds_toArray, List.set_cons_zero, List.set_cons_succ]
        refine takeH (i := 14) (v := .bool false) rfl (by kernel_rfl) (by kernel_rfl) (by kernel_rfl) (fun _ _ _ h => h) (Or.inl ⟨by rfl, fun w hSw => ?_⟩) hHeld ?_
        · (clear hSw; go_simp)
        simp only [Act.put, List.setIfInBounds_toArray, List.set_cons_zero, List.set_cons_succ]
        refine takeH (i := 15) (v := .bool false) rfl (by kernel_rfl) (by kernel_rfl) (by kernel_rfl) (fun _ _ _ h => h) (Or.inl ⟨by rfl, fun w hSw => ?_⟩) hHeld ?_
        · (clear hSw; go_simp)
        simp only [Act.put, List.setIfInBounds_toArray, List.set_cons_zero, List.set_cons_succ]
        refine takeH (i := 16) (v := .bool false) rfl (by kernel_rfl) (by kernel_rfl) (by kernel_rfl) (fun _ _ _ h => h) (Or.inl ⟨by rfl, fun w hSw => ?_⟩) hHeld ?_
        · (clear hSw; go_simp)
        simp only [Act.put, List.setIfInBounds_toArray, List.set_cons_zero, List.set_cons_succ]
        refine takeH (i := 17) (v := .pointer (some ⟨w.heap.size, 0, none⟩)) rfl (by kernel_rfl) (by kernel_rfl) (by kernel_rfl) (fun _ _ _ h => h) (Or.inl ⟨by rfl, fun w hSw => ?_⟩) hHeld ?_
        · (clear hSw; go_simp)
        simp only [Act.put, List.setIfInBounds_toArray, List.set_cons_zero, List.set_cons_succ]
        refine takeH (i := 19) (v := .pointer (some ⟨gr, 0, none⟩)) rfl (by kernel_rfl) (by kernel_rfl) (by kernel_rfl) (fun _ _ _ h => h) (Or.inl ⟨by rfl, fun w hSw => ?_⟩) hHeld ?_
        · (clear hSw; go_simp)
        simp only [Act.put, List.setIfInBounds_toArray, List.set_cons_zero, List.set_cons_succ]
        refine takeH (i := 20) (v := .pointer (some ⟨gr, 0, none⟩)) rfl (by kernel_rfl) (by kernel_rfl) (by kernel_rfl) (fun _ _ _ h => h) (Or.inl ⟨by rfl, fun w hSw => ?_⟩) hHeld ?_
        · (clear hSw; go_simp)
        simp only [Act.put, List.setIfInBounds_toArray, List.set_cons_zero, List.set_cons_succ]
        refine takeH (i := 21) (v := .pointer (some ⟨gr, 0, none⟩)) rfl (by kernel_rfl) (by kernel_rfl) (by kernel_rfl) (fun _ _ _ h => h) (Or.inl ⟨by rfl, fun w hSw => ?_⟩) hHeld ?_
        · (clear hSw; go_simp)
        simp only [Act.put, List.setIfInBounds_toArray, List.set_cons_zero, List.set_cons_succ]
        refine takeH (i := 22) (v := .slice Ar N cr) rfl (by kernel_rfl) (by kernel_rfl) (by kernel_rfl) (fun _ _ _ h => h) (Or.inl ⟨by rfl, fun w hSw => ?_⟩) hHeld ?_
        · (have r0 := hSw.2.row; clear hSw; go_simp)
        simp only [Act.put, List.setIfInBounds_toArray, List.set_cons_zero, List.set_cons_succ]
        refine takeH (i := 23) (v := .int .i64 N) rfl (by kernel_rfl) (by kernel_rfl) (by kernel_rfl) (fun _ _ _ h => h) (Or.inl ⟨by rfl, fun w hSw => ?_⟩) hHeld ?_
        · (clear hSw; go_simp)
        simp only [Act.put, List.setIfInBounds_toArray, List.set_cons_zero, List.set_cons_succ]
        refine wpAnyH_ready (rs := [18]) (by kernel_rfl) (by simp) ?_
        refine AllReadyH.cons rfl (fun K hK => ?_) AllReadyH.nil
        go_simp
        refine (len_q HQ6.out.a).mono ?_
        rintro e w7 ⟨rfl, hw7⟩
        subst hw7
        rw [HNN.out]
        clear hHeld
        dsimp only
        refine hK.out _ _ (⟨HAX6.out, HQ6.out.r.q⟩) (fun hHeld => ?_)
        clear hK K
        try simp only [Act.put, List.setIfInBounds_toArray, List.set_cons_zero, List.set_cons_succ]
        refine takeH (i := 24) (v := .bool false) rfl (by kernel_rfl) (by kernel_rfl) (by kernel_rfl) (fun _ _ _ h => h) (Or.inl ⟨by rfl, fun w hSw => ?_⟩) hHeld ?_
        · (clear hSw; go_simp)
        simp only [Act.put, List.setIfInBounds_toArray, List.set_cons_zero, List.set_cons_succ]
        refine takeH (i := 25) (v := .bool false) rfl (by kernel_rfl) (by kernel_rfl) (by kernel_rfl) (fun _ _ _ h => h) (Or.inl ⟨by rfl, fun w hSw => ?_⟩) hHeld ?_
        · (clear hSw; go_simp)
        simp only [Act.put, List.setIfInBounds_toArray, List.set_cons_zero, List.set_cons_succ]
        refine wpAnyH_done (by kernel_rfl) ?_ _
        clear hHeld
        clear HQ2 HQ3 HQ4 HQ5 HAX2 HAX3 HAX4 HAX5 HAX6 HU4 HU5 HU45 HAX
        rcases hgc : gs2 with _ | ⟨f0, rest⟩
        · have HQE := Lib.hid (show Que _ _ _ _ _ [] from by rw [← hgc]; exact HQ6.out.a)
          have HN0 := Lib.hid (show N = 0 from by rw [← HNN.out, hgc]; rfl)
          have HGC := Lib.hid hgc
          clear hgc
          obtain rfl : N = 0 := HN0.out
          go_wp2_with fail
          refine (first_empty0 HQE.out).mono ?_
          rintro e w8 ⟨rfl, hb8⟩
          have HZ8 := Lib.hid (fb00 w8)
          have HQ8 := Lib.hid ((HQ6.out.next hb8).next (bel00 w8))
          clear hb8 HQ6 HQE
          go_wp2_with fail
          refine (rall_q HQ8.out.r HST2.out (HST2.out.may HOK2.out) (by have := HNL.out; omega)).mono ?_
          rintro e w9 ⟨u9, rfl, hu9, hb9⟩
          have HQ9 := Lib.hid (HQ8.out.next hb9)
          obtain ⟨A9, c9, rfl, -, -⟩ := hu9.fl
          have HL0 := Lib.hid (show gs2.length = 0 from by rw [HNN.out])
          rw [HL0.out]
          have hx := (HZ8.out.below hb9 HZ8.out.lt).bx
          unfold Bx at hx
          simp only [smp] at hx
          obtain ⟨c0, c1, c2, c3, c4, c5, c6, c7, c8, c9', c10, c11⟩ := hx
          have h22 := eq22
          clear hu9 hb9 HQ8
          go_wp2
          go_quiet (fail)
          have HQA := Lib.hid (HQ9.out.next (belowN (Below.refl _ _) nq))
          go_wp2
          go_roundw
          case rel => exact ⟨k + 1, _, _, gs2, L2, by omega, by go_num, HQA.out, HST2.out, HOK2.out, HLE2.out⟩
          case measure => simp [intOf]; omega
        · have HQE := Lib.hid (show Que _ _ _ _ _ (f0 :: rest) from by rw [← hgc]; exact HQ6.out.a)
          have HN0 := Lib.hid (show N = rest.length + 1 from by rw [← HNN.out, hgc]; rfl)
          have HGC := Lib.hid hgc
          clear hgc
          go_wp2_with fail
          refine (first_q HQE.out).mono ?_
          rintro e w8 ⟨rfl, hb8⟩
          have HZ8 := Lib.hid (fb_new w8 f0)
          have HQ8 := Lib.hid ((HQ6.out.next hb8).next (boxed f0 w8))
          clear hb8 HQ6 HQE
          go_wp2_with fail
          refine (rall_q HQ8.out.r HST2.out (HST2.out.may HOK2.out) (by have := HNL.out; omega)).mono ?_
          rintro e w9 ⟨u9, rfl, hu9, hb9⟩
          have HQ9 := Lib.hid (HQ8.out.next hb9)
          rw [HGC.out] at hu9
          obtain ⟨A9, c9, rfl, hf9, -⟩ := hu9.fl
          obtain ⟨ad9, rfl, -, hx9⟩ := fl_head hf9 (by simp)
          simp only [List.getD_cons_zero] at hx9
          obtain ⟨e0, e1, e2, e3, e4, e5, e6, e7, e8, e9, e10, e11⟩ := hx9
          obtain ⟨c0, c1, c2, c3, c4, c5, c6, c7, c8, c9', c10, c11⟩ := (HZ8.out.below hb9 HZ8.out.lt).bx
          have hfe := fun W => fneq f0 f0 W
          rw [same_refl] at hfe
          obtain ⟨N9, hN9⟩ : ∃ N9, (f0 :: rest).length = N9 := ⟨_, rfl⟩
          have hp9 : (0 : Int) < (N9 : Int) := by rw [← hN9]; simp
          have hp8 : 0 < N9 := by omega
          rw [hN9]
          clear hu9 hb9 HQ8 hf9 hN9
          go_wp2
          go_quiet (fail)
          have HQA := Lib.hid (HQ9.out.next (belowN (Below.refl _ _) nq))
          go_wp2
          go_roundw
          case rel => exact ⟨k + 1, _, _, gs2, L2, by omega, by go_num, HQA.out, HST2.out, HOK2.out, HLE2.out⟩
          case measure => simp [intOf]; omega
    · go_wp2_with fail
      refine (awake9 _).mono ?_
      rintro e w2 ⟨rfl, hb2⟩
      have HF := Lib.hid (nxt HQ.out.bel hb2)
      clear hb2
      go_wp2
      go_ret
      exact ⟨rfl, HF.out⟩
theorem qplays_any (m : Int) (ac : Nat → Bool × Fr) (A : Option Addr) (n c : Nat) (w : World) (hA : Al w A n ac) :
    Calls Try.prog 3 #[.int .i64 m, .slice A n c] w fun e w' => e = .returned (.bool true) ∧ Below w.heap.size w w' := by
  rcases Classical.em (100 < n ∨ m < 1 ∨ 16 < m) with h | h
  · exact qplays_out m A n c w h
  · obtain ⟨k, rfl⟩ := Int.eq_ofNat_of_zero_le (show 0 ≤ m by omega)
    exact qplays_in k ac A n c w hA (by omega) (by omega) (by omega)
end Go.Proofs.Ytldhnbohpnkcpaa
