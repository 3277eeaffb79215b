/- The walk of the law QueueDrains. -/
import Derived.Test.YtldhnbohpnkcpaaQP
import Derived.Test.YtldhnbohpnkcpaaQR
namespace Go.Proofs.Ytldhnbohpnkcpaa
open Go.RowKit
set_option linter.unusedSimpArgs false

theorem Fown.fl2 {w : World} {B : Nat} {A : Option Addr} {n c : Nat} {gs : List Fr} (h : Fown w B (.slice A n c) gs) : Fl w A n (fun j => gs.getD j Fr.zero) := by
  obtain ⟨A', c', e, hf, _⟩ := h.fl
  injection e with e1 e2 e3
  subst e1; subst e2
  exact hf
theorem Fl.el {w : World} {ad : Addr} {n k : Nat} {fs : Nat → Fr} {f : Fr} (h : Fl w (some ad) n fs) (hk : k < n) (hf : fs k = f) : Bxa w (ad.add (k * 12)) f := by
  obtain ⟨ad', e, _, hb⟩ := h.at_ hk
  injection e with e
  subst e
  rw [← hf]; exact hb

set_option maxHeartbeats 1600000 in
theorem qdrains_out (m : Int) (A : Option Addr) (n c : Nat) (w : World) (h : 60 < n ∨ m < 1 ∨ 16 < m) :
    Calls Try.prog 7 #[.int .i64 m, .slice A n c] w fun e w' => e = .returned (.bool true) ∧ Below w.heap.size w w' := by
  by_cases h1 : 60 < n
  · have g1 : (60 : Int) < (n : Int) := by omega
    clear h
    go_enter Try.func7, Try.ntmps7
    go_wp2_with fail
    refine (awake9 _).mono ?_
    rintro e w1 ⟨rfl, hb1⟩
    go_wp2
    go_ret
    exact ⟨rfl, hb1⟩
  · have g1 : ¬ ((60 : Int) < (n : Int)) := by omega
    by_cases h2 : m < 1
    · clear h
      go_enter Try.func7, Try.ntmps7
      go_wp2_with fail
      refine (awake9 _).mono ?_
      rintro e w1 ⟨rfl, hb1⟩
      go_wp2
      go_ret
      exact ⟨rfl, hb1⟩
    · have h3 : 16 < m := by omega
      clear h
      go_enter Try.func7, Try.ntmps7
      go_wp2_with fail
      refine (awake9 _).mono ?_
      rintro e w1 ⟨rfl, hb1⟩
      go_wp2
      go_ret
      exact ⟨rfl, hb1⟩

theorem drop_get {gs : List Fr} {k : Nat} (h : k < gs.length) : ∃ f rest, gs.drop k = f :: rest ∧ gs.getD k Fr.zero = f ∧ gs.drop (k + 1) = rest ∧ rest.length + (k + 1) = gs.length := by
  refine ⟨gs[k], gs.drop (k + 1), (List.getElem_cons_drop h).symm, getD_get h, rfl, ?_⟩
  rw [List.length_drop]; omega
theorem dE_head (f : Fr) (gs : List Fr) : dE f (f :: gs) = 0 := by
  unfold dE
  rw [if_pos]
  rw [List.any_cons, same_refl]; rfl
theorem drp_head (f : Fr) (gs : List Fr) : drp f (f :: gs) = gs := by
  unfold drp
  rw [List.eraseP_cons_of_pos (same_refl f)]
theorem smp_may (k : Nat) (h : k ≤ 2047) : (smp k).may = true := by
  refine may_of (by simp [smp]) (by simp [smp, Fr.most]; omega) (by simp [smp]) (by simp [smp]) fun j _ => .inl rfl
theorem smp_pE {m : Int} {k : Nat} {gs : List Fr} (h : k ≤ 2047) : pE m (smp k) gs = if m ≤ gs.length then 15 else 0 := by
  unfold pE
  rw [if_neg (by rw [smp_may k h]; simp)]
theorem smp_pL {m : Int} {k : Nat} {gs : List Fr} (h : k ≤ 2047) : pL m (smp k) gs = if m ≤ gs.length then gs else ins (smp k) gs := by
  unfold pL
  by_cases hl : m ≤ (gs.length : Int)
  · rw [if_pos (.inr hl), if_pos hl]
  · rw [if_neg (by rw [smp_may k h]; simpa using hl), if_neg hl]
theorem Fb.other {w w' : World} {g j : Nat} {v v' : Value} {f : Fr} (h : Turn g v v' w w') (hf : Fb w j f) (hne : j ≠ g) (hv : v.ownBlock ≠ some j) : Fb w' j f :=
  (h.block j hf.lt hne fun e => hv e.symm).trans hf

set_option maxHeartbeats 1600000 in
set_option maxRecDepth 100000 in
theorem qdrains_in (m : Nat) (ac : Nat → Bool × Fr) (A : Option Addr) (n c : Nat) (w : World) (hA : Al w A n ac) (hn : n ≤ 60) (h1 : 1 ≤ m) (h2 : m ≤ 16) :
    Calls Try.prog 7 #[.int .i64 m, .slice A n c] w fun e w' => e = .returned (.bool true) ∧ Below w.heap.size w w' := by
  have HA := Lib.hid hA
  have g1 : ¬ ((60 : Int) < (n : Int)) := by omega
  have g2 : ¬ ((m : Int) < 1) := by omega
  have g3 : ¬ ((16 : Int) < (m : Int)) := by omega
  clear hA
  go_enter Try.func7, Try.ntmps7
  go_wp2_with fail
  refine (new_ok m w (by omega) (by omega)).mono ?_
  rintro e w1 ⟨rfl, hq1, hb1⟩
  have HQ1 := Lib.hid hq1; have HB1 := Lib.hid hb1
  clear hq1 hb1
  go_wp2
  go_loopw [7] (fun i wr => ∃ (k : Nat) (v : Value), k ≤ n ∧ i = .int .i64 k ∧ Que wr w.heap.size w.heap.size v m (runA m ac k) ∧ Below w.heap.size w wr) (fun i _ => n - (intOf i).toNat)
  case atStart => exact ⟨0, _, Nat.zero_le _, rfl, HQ1.out, HB1.out⟩
  case round =>
    clear HQ1 HB1
    obtain ⟨k, v, hk, rfl, hq, hb⟩ := hrel
    have HQ := Lib.hid hq; have HB := Lib.hid hb
    have HLE := Lib.hid (runA_le (show (0 : Int) ≤ m by omega) ac k)
    clear hq hb
    by_cases hlt : k < n
    · have hlt' : (k : Int) < (n : Int) := by omega
      obtain ⟨ad, rfl, -, d0, d1, d2, d3, d4, d5, d6, d7, d8, d9, d10, d11, d12⟩ := (HA.out.below HB.out).at_ hlt
      go_wp2_with fail
      refine (does_q (ac k).1 (ac k).2 HQ.out (runA_ok m ac k) (by have := HLE.out; omega) HB.out.size).mono ?_
      rintro e w2 ⟨u, rfl, hq2, ht2⟩
      have HB2 := Lib.hid (HB.out.trans (ht2.que HQ.out HB.out.size))
      have HQ2 := Lib.hid hq2
      clear hq2 ht2 d0 d1 d2 d3 d4 d5 d6 d7 d8 d9 d10 d11 d12
      go_wp2
      go_roundw
      case rel => exact ⟨k + 1, u, by omega, by go_num, HQ2.out, HB2.out⟩
      case measure => simp [intOf]; omega
    · obtain rfl : k = n := by omega
      have HOK := Lib.hid (runA_ok m ac k)
      obtain ⟨gs, hgs⟩ : ∃ gs, runA m ac k = gs := ⟨_, rfl⟩
      have HQ' := Lib.hid (show Que wr w.heap.size w.heap.size v m gs from by rw [← hgs]; exact HQ.out)
      rw [hgs] at HOK HLE
      clear HQ hgs
      go_wp2_with fail
      refine (all_q HQ'.out (by have := HLE.out; omega)).mono ?_
      rintro e w2 ⟨u, rfl, hu, hb2⟩
      obtain ⟨A8, c8, rfl, hf8, -⟩ := hu.fl
      have hub := hu.base HB.out.size
      have HUN := Lib.hid (show Sep (.slice A8 gs.length c8) v by
        rcases hx : (Value.slice A8 gs.length c8).ownBlock with _ | j
        · exact .inl hx
        · refine .inr fun e => ?_
          have h1 := hu.row j hx
          have h2 := HQ'.out.own.lt2 j (by rw [← e]; exact hx)
          omega)
      have HU := Lib.hid hub
      have HQ2 := Lib.hid (HQ'.out.next hb2)
      have HB2 := Lib.hid (nxt HB.out hb2)
      have hl16 := HLE.out
      have HLL := Lib.hid hl16
      obtain ⟨L, hL⟩ : ∃ L, gs.length = L := ⟨_, rfl⟩
      have HL := Lib.hid hL
      rw [hL] at hl16 HU HUN ⊢
      clear hu hb2 hub HB HQ' hf8 hL
      go_wp2
      go_loopw [9] (fun i wr => ∃ (k : Nat) (v : Value), k ≤ L ∧ i = .int .i64 k ∧ Que wr w.heap.size w.heap.size v m (gs.drop k) ∧ Fown wr w.heap.size (.slice A8 L c8) gs ∧ Sep (.slice A8 L c8) v ∧ Below w.heap.size w wr) (fun i _ => L - (intOf i).toNat)
      case atStart => exact ⟨0, _, Nat.zero_le _, rfl, HQ2.out, HU.out, HUN.out, HB2.out⟩
      case round =>
        clear HQ2 HU HUN HB2
        obtain ⟨i, v, hi, rfl, hq, hu, hs, hb⟩ := hrel
        have HQ := Lib.hid hq; have HU := Lib.hid hu; have HS := Lib.hid hs; have HB := Lib.hid hb
        clear hq hu hs hb
        by_cases hlt : i < L
        · have hlt' : (i : Int) < (L : Int) := by omega
          obtain ⟨f, rest, hd, hg, hr, hrl⟩ := drop_get (gs := gs) (k := i) (by rw [HL.out]; exact hlt)
          have HD := Lib.hid hd; have HG := Lib.hid hg; have HR := Lib.hid hr
          have hrl : rest.length + (i + 1) = L := by rw [hrl]; exact HL.out
          have HQf := Lib.hid (show Que wr _ _ _ _ (f :: rest) from by rw [← hd]; exact HQ.out)
          clear hd hg hr
          go_wp2_with fail
          refine (first_q HQf.out).mono ?_
          rintro e w3 ⟨rfl, hb3⟩
          have HQ3 := Lib.hid ((HQf.out.next hb3).next (boxed f w3))
          have HU3 := Lib.hid ((HU.out.below hb3).below (boxed f w3))
          have HB3 := Lib.hid (nxt (nxt HB.out hb3) (boxed f w3))
          have HF3 := Lib.hid (fb_new w3 f)
          have HFN := Lib.hid (show w3.heap.size ≠ w.heap.size from fun e => by have h1 := HQf.out.lt; have h2 := hb3.size; omega)
          have HFV := Lib.hid (show v.ownBlock ≠ some w3.heap.size from fun e => by have h1 := HQf.out.own.lt2 _ e; have h2 := hb3.size; omega)
          clear hb3
          obtain ⟨gf, hgf⟩ : ∃ gf, w3.heap.size = gf := ⟨_, rfl⟩
          go_wp2_with fail
          obtain ⟨W4, hW4⟩ : ∃ W4, w3.alloc (.cells f.cells 34) = W4 := ⟨_, rfl⟩
          rw [hgf] at HF3 HFN HFV
          rw [hW4] at HQ3 HU3 HB3 HF3 ⊢
          clear hgf hW4
          obtain ⟨ad8, rfl, -, -⟩ := HU3.out.fl2.at_ hlt
          have HMF := Lib.hid (show f.may = true from by rw [← HG.out, getD_get (by rw [HL.out]; exact hlt)]; exact HOK.out.2 _ (List.getElem_mem _))
          have HLN := Lib.hid (show (((f :: rest).length : Nat) : Int) = (L : Int) - (i : Int) by rw [List.length_cons]; omega)
          have HRL := Lib.hid hrl
          have hwz : IntKind.i64.wrap ((L : Int) - (i : Int)) = (L : Int) - (i : Int) := IntWalk.i64_in _ (by omega)
          have hfe := fun W => fneq f f W
          rw [same_refl] at hfe
          clear hrl HQ HU HB HQf
          by_cases h0 : i = 0
          · have H0 := Lib.hid h0
            have hd0 : decide ((0 : Int) < (i : Int)) = false := by simp; omega
            clear h0
            have HQ5 := Lib.hid HQ3.out.drew; have HU5 := Lib.hid (show Fown W4.drew _ _ _ from HU3.out); have HB5 := Lib.hid HB3.out.drew; have HF5 := Lib.hid (show Fb W4.drew gf f from HF3.out)
            refine wp_region_held_drew (S := fun w' => Fb w' gf f ∧ Fl w' (some ad8) L (fun j => gs.getD j Fr.zero)) (by kernel_rfl) (⟨HF3.out, HU3.out.fl2⟩) (fun hHeld => ?_)
            refine takeH (i := 0) (v := .bool true) rfl (by kernel_rfl) (by kernel_rfl) (by kernel_rfl) (fun _ _ _ h => h) (Or.inl ⟨by rfl, fun w hSw => ?_⟩) hHeld ?_
            · (clear hSw; go_simp)
            simp only [Act.put, List.setIfInBounds_toArray, List.set_cons_zero, List.set_cons_succ]
            refine takeH (i := 1) (v := .bool false) rfl (by kernel_rfl) (by kernel_rfl) (by kernel_rfl) (fun _ _ _ h => h) (Or.inl ⟨by rfl, fun w hSw => ?_⟩) hHeld ?_
            · (clear hSw; go_simp)
            simp only [Act.put, List.setIfInBounds_toArray, List.set_cons_zero, List.set_cons_succ]
            refine takeH (i := 2) (v := .bool false) rfl (by kernel_rfl) (by kernel_rfl) (by kernel_rfl) (fun _ _ _ h => h) (Or.inl ⟨by rfl, fun w hSw => ?_⟩) hHeld ?_
            · (clear hSw; go_simp)
            simp only [Act.put, List.setIfInBounds_toArray, List.set_cons_zero, List.set_cons_succ]
            refine takeH (i := 3) (v := f.val) rfl (by kernel_rfl) (by kernel_rfl) (by kernel_rfl) (fun _ _ _ h => h) (Or.inl ⟨by rfl, fun w hSw => ?_⟩) hHeld ?_
            · (obtain ⟨c0, c1, c2, c3, c4, c5, c6, c7, c8, c9, c10, c11⟩ := hSw.1.bx; clear hSw; go_simp)
            simp only [Act.put, List.setIfInBounds_toArray, List.set_cons_zero, List.set_cons_succ]
            refine takeH (i := 4) (v := .slice (some ad8) L c8) rfl (by kernel_rfl) (by kernel_rfl) (by kernel_rfl) (fun _ _ _ h => h) (Or.inl ⟨by rfl, fun w hSw => ?_⟩) hHeld ?_
            · (clear hSw; go_simp)
            simp only [Act.put, List.setIfInBounds_toArray, List.set_cons_zero, List.set_cons_succ]
            refine takeH (i := 5) (v := .int .i64 i) rfl (by kernel_rfl) (by kernel_rfl) (by kernel_rfl) (fun _ _ _ h => h) (Or.inl ⟨by rfl, fun w hSw => ?_⟩) hHeld ?_
            · (clear hSw; go_simp)
            simp only [Act.put, List.setIfInBounds_toArray, List.set_cons_zero, List.set_cons_succ]
            refine takeH (i := 6) (v := .pointer (some (ad8.add (i * 12)))) rfl (by kernel_rfl) (by kernel_rfl) (by kernel_rfl) (fun _ _ _ h => h) (Or.inl ⟨by rfl, fun w hSw => ?_⟩) hHeld ?_
            · (have hlx := hlt; clear hSw; go_simp)
            simp only [Act.put, List.setIfInBounds_toArray, List.set_cons_zero, List.set_cons_succ]
            refine takeH (i := 7) (v := f.val) rfl (by kernel_rfl) (by kernel_rfl) (by kernel_rfl) (fun _ _ _ h => h) (Or.inl ⟨by rfl, fun w hSw => ?_⟩) hHeld ?_
            · (obtain ⟨x0, x1, x2, x3, x4, x5, x6, x7, x8, x9, x10, x11⟩ := hSw.2.el hlt HG.out; clear hSw; go_simp)
            simp only [Act.put, List.setIfInBounds_toArray, List.set_cons_zero, List.set_cons_succ]
            refine takeH (i := 8) (v := .bool false) rfl (by kernel_rfl) (by kernel_rfl) (by kernel_rfl) (fun _ _ _ h => h) (Or.inl ⟨by rfl, fun w hSw => ?_⟩) hHeld ?_
            · (clear hSw; go_simp)
            simp only [Act.put, List.setIfInBounds_toArray, List.set_cons_zero, List.set_cons_succ]
            refine takeH (i := 9) (v := .bool false) rfl (by kernel_rfl) (by kernel_rfl) (by kernel_rfl) (fun _ _ _ h => h) (Or.inl ⟨by rfl, fun w hSw => ?_⟩) hHeld ?_
            · (clear hSw; go_simp)
            simp only [Act.put, List.setIfInBounds_toArray, List.set_cons_zero, List.set_cons_succ]
            refine takeH (i := 10) (v := .bool false) rfl (by kernel_rfl) (by kernel_rfl) (by kernel_rfl) (fun _ _ _ h => h) (Or.inl ⟨by rfl, fun w hSw => ?_⟩) hHeld ?_
            · (clear hSw; go_simp)
            simp only [Act.put, List.setIfInBounds_toArray, List.set_cons_zero, List.set_cons_succ]
            refine takeH (i := 11) (v := .int .i64 i) rfl (by kernel_rfl) (by kernel_rfl) (by kernel_rfl) (fun _ _ _ h => h) (Or.inl ⟨by rfl, fun w hSw => ?_⟩) hHeld ?_
            · (clear hSw; go_simp)
            simp only [Act.put, List.setIfInBounds_toArray, List.set_cons_zero, List.set_cons_succ]
            refine takeH (i := 12) (v := .bool false) rfl (by kernel_rfl) (by kernel_rfl) (by kernel_rfl) (fun _ _ _ h => h) (Or.inl ⟨by rfl, fun w hSw => ?_⟩) hHeld ?_
            · (have h00 := H0.out; clear hSw; go_simp)
            simp only [Act.put, List.setIfInBounds_toArray, List.set_cons_zero, List.set_cons_succ]
            refine takeH (i := 13) (v := .bool false) rfl (by kernel_rfl) (by kernel_rfl) (by kernel_rfl) (fun _ _ _ h => h) (Or.inl ⟨by rfl, fun w hSw => ?_⟩) hHeld ?_
            · (clear hSw; go_simp)
            simp only [Act.put, List.setIfInBounds_toArray, List.set_cons_zero, List.set_cons_succ]
            refine takeH (i := 14) (v := undef) rfl (by kernel_rfl) (by kernel_rfl) (by kernel_rfl) (fun _ _ _ h => h) (Or.inr ⟨by rfl, rfl⟩) hHeld ?_
            simp only [Act.put, List.setIfInBounds_toArray, List.set_cons_zero, List.set_cons_succ]
            refine takeH (i := 15) (v := undef) rfl (by kernel_rfl) (by kernel_rfl) (by kernel_rfl) (fun _ _ _ h => h) (Or.inr ⟨by rfl, rfl⟩) hHeld ?_
            simp only [Act.put, List.setIfInBounds_toArray, List.set_cons_zero, List.set_cons_succ]
            refine takeH (i := 16) (v := undef) rfl (by kernel_rfl) (by kernel_rfl) (by kernel_rfl) (fun _ _ _ h => h) (Or.inr ⟨by rfl, rfl⟩) hHeld ?_
            simp only [Act.put, List.setIfInBounds_toArray, List.set_cons_zero, List.set_cons_succ]
            refine takeH (i := 17) (v := undef) rfl (by kernel_rfl) (by kernel_rfl) (by kernel_rfl) (fun _ _ _ h => h) (Or.inr ⟨by rfl, rfl⟩) hHeld ?_
            simp only [Act.put, List.setIfInBounds_toArray, List.set_cons_zero, List.set_cons_succ]
            refine takeH (i := 18) (v := undef) rfl (by kernel_rfl) (by kernel_rfl) (by kernel_rfl) (fun _ _ _ h => h) (Or.inr ⟨by rfl, rfl⟩) hHeld ?_
            simp only [Act.put, List.setIfInBounds_toArray, List.set_cons_zero, List.set_cons_succ]
            refine takeH (i := 19) (v := undef) rfl (by kernel_rfl) (by kernel_rfl) (by kernel_rfl) (fun _ _ _ h => h) (Or.inr ⟨by rfl, rfl⟩) hHeld ?_
            simp only [Act.put, List.setIfInBounds_toArray, List.set_cons_zero, List.set_cons_succ]
            refine takeH (i := 20) (v := undef) rfl (by kernel_rfl) (by kernel_rfl) (by kernel_rfl) (fun _ _ _ h => h) (Or.inr ⟨by rfl, rfl⟩) hHeld ?_
            simp only [Act.put, List.setIfInBounds_toArray, List.set_cons_zero, List.set_cons_succ]
            refine takeH (i := 21) (v := .bool false) rfl (by kernel_rfl) (by kernel_rfl) (by kernel_rfl) (fun _ _ _ h => h) (Or.inl ⟨by rfl, fun w hSw => ?_⟩) hHeld ?_
            · (clear hSw; go_simp)
            simp only [Act.put, List.setIfInBounds_toArray, List.set_cons_zero, List.set_cons_succ]
            refine takeH (i := 22) (v := .bool false) rfl (by kernel_rfl) (by kernel_rfl) (by kernel_rfl) (fun _ _ _ h => h) (Or.inl ⟨by rfl, fun w hSw => ?_⟩) hHeld ?_
            · (clear hSw; go_simp)
            simp only [Act.put, List.setIfInBounds_toArray, List.set_cons_zero, List.set_cons_succ]
            refine takeH (i := 23) (v := .bool false) rfl (by kernel_rfl) (by kernel_rfl) (by kernel_rfl) (fun _ _ _ h => h) (Or.inl ⟨by rfl, fun w hSw => ?_⟩) hHeld ?_
            · (clear hSw; go_simp)
            simp only [Act.put, List.setIfInBounds_toArray, List.set_cons_zero, List.set_cons_succ]
            refine takeH (i := 24) (v := .pointer (some ⟨w.heap.size, 0, none⟩)) rfl (by kernel_rfl) (by kernel_rfl) (by kernel_rfl) (fun _ _ _ h => h) (Or.inl ⟨by rfl, fun w hSw => ?_⟩) hHeld ?_
            · (clear hSw; go_simp)
            simp only [Act.put, List.setIfInBounds_toArray, List.set_cons_zero, List.set_cons_succ]
            refine takeH (i := 26) (v := .slice (some ad8) L c8) rfl (by kernel_rfl) (by kernel_rfl) (by kernel_rfl) (fun _ _ _ h => h) (Or.inl ⟨by rfl, fun w hSw => ?_⟩) hHeld ?_
            · (clear hSw; go_simp)
            simp only [Act.put, List.setIfInBounds_toArray, List.set_cons_zero, List.set_cons_succ]
            refine takeH (i := 27) (v := .int .i64 L) rfl (by kernel_rfl) (by kernel_rfl) (by kernel_rfl) (fun _ _ _ h => h) (Or.inl ⟨by rfl, fun w hSw => ?_⟩) hHeld ?_
            · (clear hSw; go_simp)
            simp only [Act.put, List.setIfInBounds_toArray, List.set_cons_zero, List.set_cons_succ]
            refine takeH (i := 28) (v := .int .i64 i) rfl (by kernel_rfl) (by kernel_rfl) (by kernel_rfl) (fun _ _ _ h => h) (Or.inl ⟨by rfl, fun w hSw => ?_⟩) hHeld ?_
            · (clear hSw; go_simp)
            simp only [Act.put, List.setIfInBounds_toArray, List.set_cons_zero, List.set_cons_succ]
            refine takeH (i := 29) (v := .int .i64 ((L : Int) - (i : Int))) rfl (by kernel_rfl) (by kernel_rfl) (by kernel_rfl) (fun _ _ _ h => h) (Or.inl ⟨by rfl, fun w hSw => ?_⟩) hHeld ?_
            · (clear hSw; go_simp)
            simp only [Act.put, List.setIfInBounds_toArray, List.set_cons_zero, List.set_cons_succ]
            refine wpAnyH_ready (rs := [25]) (by kernel_rfl) (by simp) ?_
            refine AllReadyH.cons rfl (fun K hK => ?_) AllReadyH.nil
            go_simp
            refine (len_q HQ5.out).mono ?_
            rintro e wz ⟨rfl, hwx⟩
            subst hwx
            rw [HLN.out]
            clear hHeld
            dsimp only
            refine hK.out _ _ (⟨HF5.out, HU5.out.fl2⟩) (fun hHeld => ?_)
            clear hK K
            try simp only [Act.put, List.setIfInBounds_toArray, List.set_cons_zero, List.set_cons_succ]
            refine takeH (i := 30) (v := .bool false) rfl (by kernel_rfl) (by kernel_rfl) (by kernel_rfl) (fun _ _ _ h => h) (Or.inl ⟨by rfl, fun w hSw => ?_⟩) hHeld ?_
            · (clear hSw; go_simp)
            simp only [Act.put, List.setIfInBounds_toArray, List.set_cons_zero, List.set_cons_succ]
            refine takeH (i := 31) (v := .bool false) rfl (by kernel_rfl) (by kernel_rfl) (by kernel_rfl) (fun _ _ _ h => h) (Or.inl ⟨by rfl, fun w hSw => ?_⟩) hHeld ?_
            · (clear hSw; go_simp)
            simp only [Act.put, List.setIfInBounds_toArray, List.set_cons_zero, List.set_cons_succ]
            refine takeH (i := 32) (v := .bool false) rfl (by kernel_rfl) (by kernel_rfl) (by kernel_rfl) (fun _ _ _ h => h) (Or.inl ⟨by rfl, fun w hSw => ?_⟩) hHeld ?_
            · (clear hSw; go_simp)
            simp only [Act.put, List.setIfInBounds_toArray, List.set_cons_zero, List.set_cons_succ]
            refine takeH (i := 33) (v := .pointer (some ⟨w.heap.size, 0, none⟩)) rfl (by kernel_rfl) (by kernel_rfl) (by kernel_rfl) (fun _ _ _ h => h) (Or.inl ⟨by rfl, fun w hSw => ?_⟩) hHeld ?_
            · (clear hSw; go_simp)
            simp only [Act.put, List.setIfInBounds_toArray, List.set_cons_zero, List.set_cons_succ]
            refine takeH (i := 34) (v := f.val) rfl (by kernel_rfl) (by kernel_rfl) (by kernel_rfl) (fun _ _ _ h => h) (Or.inl ⟨by rfl, fun w hSw => ?_⟩) hHeld ?_
            · (obtain ⟨c0, c1, c2, c3, c4, c5, c6, c7, c8, c9, c10, c11⟩ := hSw.1.bx; clear hSw; go_simp)
            simp only [Act.put, List.setIfInBounds_toArray, List.set_cons_zero, List.set_cons_succ]
            refine wpAnyH_ready (rs := [35]) (by kernel_rfl) (by simp) ?_
            refine AllReadyH.cons rfl (fun K hK => ?_) AllReadyH.nil
            go_simp
            refine (drop_q (f := f) HQ5.out (by rw [List.length_cons]; have := HRL.out; have := HLL.out; have := HL.out; omega)).mono ?_
            rintro e w6 ⟨u6, rfl, hq6, ht6⟩
            rw [dE_head]
            rw [drp_head] at hq6
            have HX := Lib.hid (ht6.row HQ5.out.q HU5.out HS.out)
            have HQ6 := Lib.hid hq6
            have HF6 := Lib.hid (HF5.out.other ht6 (by have := HFN.out; omega) HFV.out)
            have HB6 := Lib.hid (HB5.out.trans (ht6.que HQ5.out HB5.out.size))
            clear hq6 ht6
            clear hHeld
            dsimp only
            refine hK.out _ _ (⟨HF6.out, HX.out.1.fl2⟩) (fun hHeld => ?_)
            clear hK K
            try simp only [Act.put, List.setIfInBounds_toArray, List.set_cons_zero, List.set_cons_succ]
            refine takeH (i := 36) (v := .bool false) rfl (by kernel_rfl) (by kernel_rfl) (by kernel_rfl) (fun _ _ _ h => h) (Or.inl ⟨by rfl, fun w hSw => ?_⟩) hHeld ?_
            · (clear hSw; go_simp)
            simp only [Act.put, List.setIfInBounds_toArray, List.set_cons_zero, List.set_cons_succ]
            refine takeH (i := 37) (v := .bool false) rfl (by kernel_rfl) (by kernel_rfl) (by kernel_rfl) (fun _ _ _ h => h) (Or.inl ⟨by rfl, fun w hSw => ?_⟩) hHeld ?_
            · (clear hSw; go_simp)
            simp only [Act.put, List.setIfInBounds_toArray, List.set_cons_zero, List.set_cons_succ]
            refine wpAnyH_done (by kernel_rfl) ?_ _
            clear hHeld
            clear HQ5 HU5 HF5 HB5 HF6 HQ3 HU3 HB3 HF3
            go_wp2
            go_roundw
            case rel => exact ⟨i + 1, u6, by omega, by go_num, by rw [HR.out]; exact HQ6.out, HX.out.1, HX.out.2, HB6.out⟩
            case measure => simp [intOf]; omega
          · obtain ⟨j, hj⟩ : ∃ j, i = j + 1 := ⟨i - 1, by omega⟩
            have HJ := Lib.hid hj
            have hd0 : (0 : Int) < (i : Int) := by omega
            have hji : j < L := by omega
            have hji' : (j : Int) < (L : Int) := by omega
            have hwj : (i : Int) - 1 = (j : Int) := by omega
            have HLS0 := Lib.hid (show (gs.getD j Fr.zero).plc ≤ f.plc from by
              rw [← HG.out]; exact upq_get HOK.out.1 (by omega) (by rw [HL.out]; exact hlt))
            obtain ⟨p, hp⟩ : ∃ p, gs.getD j Fr.zero = p := ⟨_, rfl⟩
            have HGP := Lib.hid hp
            have HMP := Lib.hid (show p.may = true from by rw [← hp, getD_get (by rw [HL.out]; exact hji)]; exact HOK.out.2 _ (List.getElem_mem _))
            rw [hp] at HLS0
            have HLS := Lib.hid (show decide (f.plc < p.plc) = false by have := HLS0.out; simp; omega)
            clear h0 hj hp
            refine wp_region_held_drew (S := fun w' => Fb w' gf f ∧ Fl w' (some ad8) L (fun j => gs.getD j Fr.zero)) (by kernel_rfl) (⟨HF3.out, HU3.out.fl2⟩) (fun hHeld => ?_)
            refine takeH (i := 0) (v := .bool true) rfl (by kernel_rfl) (by kernel_rfl) (by kernel_rfl) (fun _ _ _ h => h) (Or.inl ⟨by rfl, fun w hSw => ?_⟩) hHeld ?_
            · (clear hSw; go_simp)
            simp only [Act.put, List.setIfInBounds_toArray, List.set_cons_zero, List.set_cons_succ]
            refine takeH (i := 1) (v := .bool false) rfl (by kernel_rfl) (by kernel_rfl) (by kernel_rfl) (fun _ _ _ h => h) (Or.inl ⟨by rfl, fun w hSw => ?_⟩) hHeld ?_
            · (clear hSw; go_simp)
            simp only [Act.put, List.setIfInBounds_toArray, List.set_cons_zero, List.set_cons_succ]
            refine takeH (i := 2) (v := .bool false) rfl (by kernel_rfl) (by kernel_rfl) (by kernel_rfl) (fun _ _ _ h => h) (Or.inl ⟨by rfl, fun w hSw => ?_⟩) hHeld ?_
            · (clear hSw; go_simp)
            simp only [Act.put, List.setIfInBounds_toArray, List.set_cons_zero, List.set_cons_succ]
            refine takeH (i := 3) (v := f.val) rfl (by kernel_rfl) (by kernel_rfl) (by kernel_rfl) (fun _ _ _ h => h) (Or.inl ⟨by rfl, fun w hSw => ?_⟩) hHeld ?_
            · (obtain ⟨c0, c1, c2, c3, c4, c5, c6, c7, c8, c9, c10, c11⟩ := hSw.1.bx; clear hSw; go_simp)
            simp only [Act.put, List.setIfInBounds_toArray, List.set_cons_zero, List.set_cons_succ]
            refine takeH (i := 4) (v := .slice (some ad8) L c8) rfl (by kernel_rfl) (by kernel_rfl) (by kernel_rfl) (fun _ _ _ h => h) (Or.inl ⟨by rfl, fun w hSw => ?_⟩) hHeld ?_
            · (clear hSw; go_simp)
            simp only [Act.put, List.setIfInBounds_toArray, List.set_cons_zero, List.set_cons_succ]
            refine takeH (i := 5) (v := .int .i64 i) rfl (by kernel_rfl) (by kernel_rfl) (by kernel_rfl) (fun _ _ _ h => h) (Or.inl ⟨by rfl, fun w hSw => ?_⟩) hHeld ?_
            · (clear hSw; go_simp)
            simp only [Act.put, List.setIfInBounds_toArray, List.set_cons_zero, List.set_cons_succ]
            refine takeH (i := 6) (v := .pointer (some (ad8.add (i * 12)))) rfl (by kernel_rfl) (by kernel_rfl) (by kernel_rfl) (fun _ _ _ h => h) (Or.inl ⟨by rfl, fun w hSw => ?_⟩) hHeld ?_
            · (have hlx := hlt; clear hSw; go_simp)
            simp only [Act.put, List.setIfInBounds_toArray, List.set_cons_zero, List.set_cons_succ]
            refine takeH (i := 7) (v := f.val) rfl (by kernel_rfl) (by kernel_rfl) (by kernel_rfl) (fun _ _ _ h => h) (Or.inl ⟨by rfl, fun w hSw => ?_⟩) hHeld ?_
            · (obtain ⟨x0, x1, x2, x3, x4, x5, x6, x7, x8, x9, x10, x11⟩ := hSw.2.el hlt HG.out; clear hSw; go_simp)
            simp only [Act.put, List.setIfInBounds_toArray, List.set_cons_zero, List.set_cons_succ]
            refine takeH (i := 8) (v := .bool false) rfl (by kernel_rfl) (by kernel_rfl) (by kernel_rfl) (fun _ _ _ h => h) (Or.inl ⟨by rfl, fun w hSw => ?_⟩) hHeld ?_
            · (clear hSw; go_simp)
            simp only [Act.put, List.setIfInBounds_toArray, List.set_cons_zero, List.set_cons_succ]
            refine takeH (i := 9) (v := .bool false) rfl (by kernel_rfl) (by kernel_rfl) (by kernel_rfl) (fun _ _ _ h => h) (Or.inl ⟨by rfl, fun w hSw => ?_⟩) hHeld ?_
            · (clear hSw; go_simp)
            simp only [Act.put, List.setIfInBounds_toArray, List.set_cons_zero, List.set_cons_succ]
            refine takeH (i := 10) (v := .bool false) rfl (by kernel_rfl) (by kernel_rfl) (by kernel_rfl) (fun _ _ _ h => h) (Or.inl ⟨by rfl, fun w hSw => ?_⟩) hHeld ?_
            · (clear hSw; go_simp)
            simp only [Act.put, List.setIfInBounds_toArray, List.set_cons_zero, List.set_cons_succ]
            refine takeH (i := 11) (v := .int .i64 i) rfl (by kernel_rfl) (by kernel_rfl) (by kernel_rfl) (fun _ _ _ h => h) (Or.inl ⟨by rfl, fun w hSw => ?_⟩) hHeld ?_
            · (clear hSw; go_simp)
            simp only [Act.put, List.setIfInBounds_toArray, List.set_cons_zero, List.set_cons_succ]
            refine takeH (i := 12) (v := .bool true) rfl (by kernel_rfl) (by kernel_rfl) (by kernel_rfl) (fun _ _ _ h => h) (Or.inl ⟨by rfl, fun w hSw => ?_⟩) hHeld ?_
            · (have h00 : 0 < i := (by have := HJ.out; omega); clear hSw; go_simp)
            simp only [Act.put, List.setIfInBounds_toArray, List.set_cons_zero, List.set_cons_succ]
            refine takeH (i := 13) (v := .bool true) rfl (by kernel_rfl) (by kernel_rfl) (by kernel_rfl) (fun _ _ _ h => h) (Or.inl ⟨by rfl, fun w hSw => ?_⟩) hHeld ?_
            · (clear hSw; go_simp)
            simp only [Act.put, List.setIfInBounds_toArray, List.set_cons_zero, List.set_cons_succ]
            refine takeH (i := 14) (v := f.val) rfl (by kernel_rfl) (by kernel_rfl) (by kernel_rfl) (fun _ _ _ h => h) (Or.inl ⟨by rfl, fun w hSw => ?_⟩) hHeld ?_
            · (obtain ⟨c0, c1, c2, c3, c4, c5, c6, c7, c8, c9, c10, c11⟩ := hSw.1.bx; clear hSw; go_simp)
            simp only [Act.put, List.setIfInBounds_toArray, List.set_cons_zero, List.set_cons_succ]
            refine takeH (i := 15) (v := .slice (some ad8) L c8) rfl (by kernel_rfl) (by kernel_rfl) (by kernel_rfl) (fun _ _ _ h => h) (Or.inl ⟨by rfl, fun w hSw => ?_⟩) hHeld ?_
            · (clear hSw; go_simp)
            simp only [Act.put, List.setIfInBounds_toArray, List.set_cons_zero, List.set_cons_succ]
            refine takeH (i := 16) (v := .int .i64 i) rfl (by kernel_rfl) (by kernel_rfl) (by kernel_rfl) (fun _ _ _ h => h) (Or.inl ⟨by rfl, fun w hSw => ?_⟩) hHeld ?_
            · (clear hSw; go_simp)
            simp only [Act.put, List.setIfInBounds_toArray, List.set_cons_zero, List.set_cons_succ]
            refine takeH (i := 17) (v := .int .i64 j) rfl (by kernel_rfl) (by kernel_rfl) (by kernel_rfl) (fun _ _ _ h => h) (Or.inl ⟨by rfl, fun w hSw => ?_⟩) hHeld ?_
            · (have hwj2 : IntKind.i64.wrap (j : Int) = (j : Int) := (IntWalk.i64_in _ (by omega)); clear hSw; go_simp)
            simp only [Act.put, List.setIfInBounds_toArray, List.set_cons_zero, List.set_cons_succ]
            refine takeH (i := 18) (v := .pointer (some (ad8.add (j * 12)))) rfl (by kernel_rfl) (by kernel_rfl) (by kernel_rfl) (fun _ _ _ h => h) (Or.inl ⟨by rfl, fun w hSw => ?_⟩) hHeld ?_
            · (clear hSw; go_simp)
            simp only [Act.put, List.setIfInBounds_toArray, List.set_cons_zero, List.set_cons_succ]
            refine takeH (i := 19) (v := p.val) rfl (by kernel_rfl) (by kernel_rfl) (by kernel_rfl) (fun _ _ _ h => h) (Or.inl ⟨by rfl, fun w hSw => ?_⟩) hHeld ?_
            · (obtain ⟨x0, x1, x2, x3, x4, x5, x6, x7, x8, x9, x10, x11⟩ := hSw.2.el (k := j) (by omega) HGP.out; clear hSw; go_simp)
            simp only [Act.put, List.setIfInBounds_toArray, List.set_cons_zero, List.set_cons_succ]
            refine wpAnyH_ready (rs := [20]) (by kernel_rfl) (by simp) ?_
            refine AllReadyH.cons rfl (fun K hK => ?_) AllReadyH.nil
            go_simp
            refine (less_yes f p _ HMF.out HMP.out).mono ?_
            rintro e w5 ⟨rfl, hb5⟩
            rw [HLS.out]
            have HQ5 := Lib.hid (HQ3.out.next (undrew hb5))
            have HU5 := Lib.hid (HU3.out.below (undrew hb5))
            have HF5 := Lib.hid (HF3.out.below (undrew hb5) HF3.out.lt)
            have HB5 := Lib.hid (nxt HB3.out (undrew hb5))
            clear hb5
            clear hHeld
            dsimp only
            refine hK.out _ _ (⟨HF5.out, HU5.out.fl2⟩) (fun hHeld => ?_)
            clear hK K
            try simp only [Act.put, List.setIfInBounds_toArray, List.set_cons_zero, List.set_cons_succ]
            refine takeH (i := 21) (v := .bool false) rfl (by kernel_rfl) (by kernel_rfl) (by kernel_rfl) (fun _ _ _ h => h) (Or.inl ⟨by rfl, fun w hSw => ?_⟩) hHeld ?_
            · (clear hSw; go_simp)
            simp only [Act.put, List.setIfInBounds_toArray, List.set_cons_zero, List.set_cons_succ]
            refine takeH (i := 22) (v := .bool false) rfl (by kernel_rfl) (by kernel_rfl) (by kernel_rfl) (fun _ _ _ h => h) (Or.inl ⟨by rfl, fun w hSw => ?_⟩) hHeld ?_
            · (clear hSw; go_simp)
            simp only [Act.put, List.setIfInBounds_toArray, List.set_cons_zero, List.set_cons_succ]
            refine takeH (i := 23) (v := .bool false) rfl (by kernel_rfl) (by kernel_rfl) (by kernel_rfl) (fun _ _ _ h => h) (Or.inl ⟨by rfl, fun w hSw => ?_⟩) hHeld ?_
            · (clear hSw; go_simp)
            simp only [Act.put, List.setIfInBounds_toArray, List.set_cons_zero, List.set_cons_succ]
            refine takeH (i := 24) (v := .pointer (some ⟨w.heap.size, 0, none⟩)) rfl (by kernel_rfl) (by kernel_rfl) (by kernel_rfl) (fun _ _ _ h => h) (Or.inl ⟨by rfl, fun w hSw => ?_⟩) hHeld ?_
            · (clear hSw; go_simp)
            simp only [Act.put, List.setIfInBounds_toArray, List.set_cons_zero, List.set_cons_succ]
            refine takeH (i := 26) (v := .slice (some ad8) L c8) rfl (by kernel_rfl) (by kernel_rfl) (by kernel_rfl) (fun _ _ _ h => h) (Or.inl ⟨by rfl, fun w hSw => ?_⟩) hHeld ?_
            · (clear hSw; go_simp)
            simp only [Act.put, List.setIfInBounds_toArray, List.set_cons_zero, List.set_cons_succ]
            refine takeH (i := 27) (v := .int .i64 L) rfl (by kernel_rfl) (by kernel_rfl) (by kernel_rfl) (fun _ _ _ h => h) (Or.inl ⟨by rfl, fun w hSw => ?_⟩) hHeld ?_
            · (clear hSw; go_simp)
            simp only [Act.put, List.setIfInBounds_toArray, List.set_cons_zero, List.set_cons_succ]
            refine takeH (i := 28) (v := .int .i64 i) rfl (by kernel_rfl) (by kernel_rfl) (by kernel_rfl) (fun _ _ _ h => h) (Or.inl ⟨by rfl, fun w hSw => ?_⟩) hHeld ?_
            · (clear hSw; go_simp)
            simp only [Act.put, List.setIfInBounds_toArray, List.set_cons_zero, List.set_cons_succ]
            refine takeH (i := 29) (v := .int .i64 ((L : Int) - (i : Int))) rfl (by kernel_rfl) (by kernel_rfl) (by kernel_rfl) (fun _ _ _ h => h) (Or.inl ⟨by rfl, fun w hSw => ?_⟩) hHeld ?_
            · (clear hSw; go_simp)
            simp only [Act.put, List.setIfInBounds_toArray, List.set_cons_zero, List.set_cons_succ]
            refine wpAnyH_ready (rs := [25]) (by kernel_rfl) (by simp) ?_
            refine AllReadyH.cons rfl (fun K hK => ?_) AllReadyH.nil
            go_simp
            refine (len_q HQ5.out).mono ?_
            rintro e wz ⟨rfl, hwx⟩
            subst hwx
            rw [HLN.out]
            clear hHeld
            dsimp only
            refine hK.out _ _ (⟨HF5.out, HU5.out.fl2⟩) (fun hHeld => ?_)
            clear hK K
            try simp only [Act.put, List.setIfInBounds_toArray, List.set_cons_zero, List.set_cons_succ]
            refine takeH (i := 30) (v := .bool false) rfl (by kernel_rfl) (by kernel_rfl) (by kernel_rfl) (fun _ _ _ h => h) (Or.inl ⟨by rfl, fun w hSw => ?_⟩) hHeld ?_
            · (clear hSw; go_simp)
            simp only [Act.put, List.setIfInBounds_toArray, List.set_cons_zero, List.set_cons_succ]
            refine takeH (i := 31) (v := .bool false) rfl (by kernel_rfl) (by kernel_rfl) (by kernel_rfl) (fun _ _ _ h => h) (Or.inl ⟨by rfl, fun w hSw => ?_⟩) hHeld ?_
            · (clear hSw; go_simp)
            simp only [Act.put, List.setIfInBounds_toArray, List.set_cons_zero, List.set_cons_succ]
            refine takeH (i := 32) (v := .bool false) rfl (by kernel_rfl) (by kernel_rfl) (by kernel_rfl) (fun _ _ _ h => h) (Or.inl ⟨by rfl, fun w hSw => ?_⟩) hHeld ?_
            · (clear hSw; go_simp)
            simp only [Act.put, List.setIfInBounds_toArray, List.set_cons_zero, List.set_cons_succ]
            refine takeH (i := 33) (v := .pointer (some ⟨w.heap.size, 0, none⟩)) rfl (by kernel_rfl) (by kernel_rfl) (by kernel_rfl) (fun _ _ _ h => h) (Or.inl ⟨by rfl, fun w hSw => ?_⟩) hHeld ?_
            · (clear hSw; go_simp)
            simp only [Act.put, List.setIfInBounds_toArray, List.set_cons_zero, List.set_cons_succ]
            refine takeH (i := 34) (v := f.val) rfl (by kernel_rfl) (by kernel_rfl) (by kernel_rfl) (fun _ _ _ h => h) (Or.inl ⟨by rfl, fun w hSw => ?_⟩) hHeld ?_
            · (obtain ⟨c0, c1, c2, c3, c4, c5, c6, c7, c8, c9, c10, c11⟩ := hSw.1.bx; clear hSw; go_simp)
            simp only [Act.put, List.setIfInBounds_toArray, List.set_cons_zero, List.set_cons_succ]
            refine wpAnyH_ready (rs := [35]) (by kernel_rfl) (by simp) ?_
            refine AllReadyH.cons rfl (fun K hK => ?_) AllReadyH.nil
            go_simp
            refine (drop_q (f := f) HQ5.out (by rw [List.length_cons]; have := HRL.out; have := HLL.out; have := HL.out; omega)).mono ?_
            rintro e w6 ⟨u6, rfl, hq6, ht6⟩
            rw [dE_head]
            rw [drp_head] at hq6
            have HX := Lib.hid (ht6.row HQ5.out.q HU5.out HS.out)
            have HQ6 := Lib.hid hq6
            have HF6 := Lib.hid (HF5.out.other ht6 (by have := HFN.out; omega) HFV.out)
            have HB6 := Lib.hid (HB5.out.trans (ht6.que HQ5.out HB5.out.size))
            clear hq6 ht6
            clear hHeld
            dsimp only
            refine hK.out _ _ (⟨HF6.out, HX.out.1.fl2⟩) (fun hHeld => ?_)
            clear hK K
            try simp only [Act.put, List.setIfInBounds_toArray, List.set_cons_zero, List.set_cons_succ]
            refine takeH (i := 36) (v := .bool false) rfl (by kernel_rfl) (by kernel_rfl) (by kernel_rfl) (fun _ _ _ h => h) (Or.inl ⟨by rfl, fun w hSw => ?_⟩) hHeld ?_
            · (clear hSw; go_simp)
            simp only [Act.put, List.setIfInBounds_toArray, List.set_cons_zero, List.set_cons_succ]
            refine takeH (i := 37) (v := .bool false) rfl (by kernel_rfl) (by kernel_rfl) (by kernel_rfl) (fun _ _ _ h => h) (Or.inl ⟨by rfl, fun w hSw => ?_⟩) hHeld ?_
            · (clear hSw; go_simp)
            simp only [Act.put, List.setIfInBounds_toArray, List.set_cons_zero, List.set_cons_succ]
            refine wpAnyH_done (by kernel_rfl) ?_ _
            clear hHeld
            clear HQ5 HU5 HF5 HB5 HF6 HQ3 HU3 HB3 HF3
            go_wp2
            go_roundw
            case rel => exact ⟨i + 1, u6, by omega, by go_num, by rw [HR.out]; exact HQ6.out, HX.out.1, HX.out.2, HB6.out⟩
            case measure => simp [intOf]; omega
        · obtain rfl : i = L := by omega
          have HQe := Lib.hid (show Que wr w.heap.size w.heap.size v m [] from by
            have h := HQ.out
            rwa [List.drop_of_length_le (by rw [HL.out]; exact Nat.le_refl _)] at h)
          clear HQ HU HS
          go_wp2_with fail
          refine (first_empty HQe.out).mono ?_
          rintro e w3 ⟨rfl, hb3⟩
          have HQ3 := Lib.hid ((HQe.out.next hb3).next (boxed Fr.zero w3))
          have HB3 := Lib.hid (nxt (nxt HB.out hb3) (boxed Fr.zero w3))
          clear hb3 HB HQe
          go_wp2_with fail
          refine (len_q HQ3.out).mono ?_
          rintro e w4 ⟨rfl, hw4⟩
          have HQ4 := Lib.hid (show Que w4 w.heap.size w.heap.size v m [] from by rw [hw4]; exact HQ3.out)
          have HB4 := Lib.hid (show Below w.heap.size w w4 from by rw [hw4]; exact HB3.out)
          clear hw4 HQ3 HB3
          rw [show ((([] : List Fr).length : Nat) : Int) = 0 from rfl]
          go_wp2
          go_loopw [14] (fun vi wr => ∃ (j : Nat) (v : Value) (ys : List Fr), j ≤ m ∧ vi = .int .i64 j ∧ Que wr w.heap.size w.heap.size v m ys ∧ ys.length = j ∧ Okq ys ∧ Below w.heap.size w wr) (fun vi _ => m - (intOf vi).toNat)
          case atStart => exact ⟨0, _, [], Nat.zero_le _, rfl, HQ4.out, rfl, ok_nil, HB4.out⟩
          case round =>
            clear HQ4 HB4
            obtain ⟨j, v, ys, hj, rfl, hq, hl, ho, hb⟩ := hrel
            have HQ := Lib.hid hq; have HB := Lib.hid hb; have HO := Lib.hid ho; have HYL := Lib.hid hl
            clear hq hb ho hl
            by_cases hlt : j < m
            · have hlt' : (j : Int) < (m : Int) := by omega
              have HE := Lib.hid (show pE m (smp j) ys = 0 from by rw [smp_pE (by omega), if_neg (by rw [HYL.out]; omega)])
              have HP := Lib.hid (show pL m (smp j) ys = ins (smp j) ys from by rw [smp_pL (by omega), if_neg (by rw [HYL.out]; omega)])
              go_wp2_with fail
              refine (put_s j HQ.out HO.out (by rw [HYL.out]; omega) HB.out.size).mono ?_
              rintro e w5 ⟨u, rfl, hq5, ht5⟩
              rw [HE.out]
              have HB5 := Lib.hid (HB.out.trans (ht5.que HQ.out HB.out.size))
              have HQ5 := Lib.hid hq5
              clear hq5 ht5
              go_wp2
              go_roundw
              case rel => exact ⟨j + 1, u, _, by omega, by go_num, HQ5.out, by rw [HP.out, ins_len1, HYL.out], pL_ok HO.out, HB5.out⟩
              case measure => simp [intOf]; omega
            · obtain rfl : j = m := by omega
              have HE := Lib.hid (show pE j (smp 7) ys = 15 from by rw [show (7 : Int) = ((7 : Nat) : Int) from rfl, smp_pE (by omega), if_pos (by rw [HYL.out]; omega)])
              have HP := Lib.hid (show pL j (smp 7) ys = ys from by rw [show (7 : Int) = ((7 : Nat) : Int) from rfl, smp_pL (by omega), if_pos (by rw [HYL.out]; omega)])
              go_wp2_with fail
              refine (put_s 7 HQ.out HO.out (by rw [HYL.out]; omega) HB.out.size).mono ?_
              rintro e w5 ⟨u, rfl, hq5, ht5⟩
              rw [HE.out]
              rw [HP.out] at hq5
              have HB5 := Lib.hid (HB.out.trans (ht5.que HQ.out HB.out.size))
              have HQ5 := Lib.hid hq5
              clear hq5 ht5
              go_wp2_with fail
              refine (len_q HQ5.out).mono ?_
              rintro e w6 ⟨rfl, hw6⟩
              subst hw6
              rw [HYL.out]
              go_wp2_with fail
              refine (awake9 _).mono ?_
              rintro e w7 ⟨rfl, hb7⟩
              have HF := Lib.hid (nxt HB5.out hb7)
              clear hb7
              go_wp2
              go_ret
              exact ⟨rfl, HF.out⟩
theorem qdrains_any (m : Int) (ac : Nat → Bool × Fr) (A : Option Addr) (n c : Nat) (w : World) (hA : Al w A n ac) :
    Calls Try.prog 7 #[.int .i64 m, .slice A n c] w fun e w' => e = .returned (.bool true) ∧ Below w.heap.size w w' := by
  rcases Classical.em (60 < n ∨ m < 1 ∨ 16 < m) with h | h
  · exact qdrains_out m A n c w h
  · obtain ⟨k, rfl⟩ := Int.eq_ofNat_of_zero_le (show 0 ≤ m by omega)
    exact qdrains_in k ac A n c w hA (by omega) (by omega) (by omega)
end Go.Proofs.Ytldhnbohpnkcpaa
