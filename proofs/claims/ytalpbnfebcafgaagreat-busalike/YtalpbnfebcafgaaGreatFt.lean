/- The contract of field's All. -/
import Derived.Test.YtalpbnfebcafgaaGreatRm
namespace Go.Proofs.YtalpbnfebcafgaaGreat
set_option maxRecDepth 20000
open Go.RowKit

/-- All of a frame's levels. -/
def alls (f : Fr) : List Int := bts f ++ ofB (csum (bts f)) 15 ++ List.replicate 10 1
theorem datB_all (d : Nat → Int) : ∀ k, ∀ z ∈ datB d k, lvl z = true := by
  intro k
  induction k with
  | zero => intro z hz; cases hz
  | succ k ih => exact all_append ih (ofB_all _ _)
theorem bts_all (f : Fr) : ∀ z ∈ bts f, lvl z = true := by
  unfold bts ctlB
  exact all_append (all_append (all_append (by intro z hz; simp at hz; subst hz; rfl) (ofB_all _ _)) (ofB_all _ _)) (datB_all _ _)
theorem bts_le {f : Fr} (h : f.may = true) : (bts f).length ≤ 103 := by
  rw [bts_len]
  have := nDat_le h
  have : hEnd f.ext ≤ 39 := hEnd_le _
  omega

set_option maxHeartbeats 400000 in
theorem fall_bad (f : Fr) (w : World) (h : f.may = false) :
    Calls Tryz.prog 41 #[f.val] w fun e w' => e = .returned (.tuple #[.slice none 0 0, .int .i64 14]) ∧ Below w.heap.size w w' := by
  go_enter Tryz.func41, Tryz.ntmps41
  go_wp2_with fail
  refine (fbits_bad f _ h).mono ?_
  rintro e w1 ⟨rfl, hb1⟩
  go_wp2
  go_ret2
  exact ⟨rfl, (nxt (boxed f w) hb1).alloc (by have := hb1.size; simp at this; omega) _⟩

theorem all_start (f : Fr) (w w2 : World) (gl : Nat) (v : Value) (l : List Int) (ho : Own w2 (w.heap.size + 1) v l) (hne : v.ownBlock ≠ some gl) (X : w2.heap[gl]? = some (.cells #[v] 23)) (hf : Fb w2 w.heap.size f) (hgl : w.heap.size < gl) (hb : Below w.heap.size w w2) :
    Puts f w (w2.alloc (.cells #[.pointer (some ⟨gl, 0, none⟩)] 117)) gl w2.heap.size v l := by
  have hlt := hf.lt
  have hltg : gl < w2.heap.size := (Array.getElem?_eq_some_iff.1 X).1
  have e1 : (w2.alloc (.cells #[.pointer (some ⟨gl, 0, none⟩)] 117)).heap[gl]? = some (.cells #[v] 23) := by
    rw [Below.heap_alloc _ _ _ hltg]; exact X
  have e2 : (w2.alloc (.cells #[.pointer (some ⟨gl, 0, none⟩)] 117)).heap[w2.heap.size]? = some (.cells #[.pointer (some ⟨gl, 0, none⟩)] 117) := heap_alloc_new _ _
  have far : ∀ b, w2.heap.size ≤ b ∨ b ≤ w.heap.size → v.ownBlock ≠ some b := fun b hbb e => by
    have := World.ownsRow.lt ho b e
    omega
  have one : Below w2.heap.size w2 (w2.alloc (.cells #[.pointer (some ⟨gl, 0, none⟩)] 117)) := (Below.refl _ _).alloc (Nat.le_refl _) _
  refine ⟨⟨?_, ?_, ?_, (ho.mono (Nat.le_succ _)).below one, hne, far _ (by omega), by omega, Nat.le_of_lt hgl, by simp; omega, by simp⟩, ?_, ⟨by simp; omega, by omega, far _ (by omega)⟩, ?_⟩
  · simp only [World.cell?, e1]; rfl
  · simp only [World.frozen?, e1]; rfl
  · simp only [World.cell?, e2]; rfl
  · exact hf.below (B := w2.heap.size) one hlt
  · exact nxt hb one

theorem bits_row (n : Nat) (w : World) (h : n < 32768) :
    Calls Tryz.prog 57 #[.int .i64 n] w fun e w' => ∃ A cap, e = .returned (.tuple #[.slice A 15 cap, .int .i64 0]) ∧ Il w' A 15 (ofB n 15) ∧ Below w.heap.size w w' := by
  refine (bits_ok n w h).mono ?_
  rintro e w' ⟨A, cap, he, hi, hb⟩
  rw [ofB_len] at he hi
  exact ⟨A, cap, he, hi, hb⟩

set_option maxHeartbeats 3200000 in
theorem fall_ok (f : Fr) (w : World) (h : f.may = true) (hwf : f.wf) : Calls Tryz.prog 41 #[f.val] w (OwnTo (alls f) w) := by
  obtain ⟨_, _, h2, h3, _⟩ := may_parts h
  obtain ⟨n, hn⟩ := Int.eq_ofNat_of_zero_le h2
  have hn8 : n ≤ 8 := by omega
  have HM := Lib.hid h; have HN := Lib.hid hn; have HWF := Lib.hid hwf
  have HLE := Lib.hid (bts_le h)
  have HALL := Lib.hid (bts_all f)
  have HBT := Lib.hid (show alls f = bts f ++ ofB (csum (bts f)) 15 ++ List.replicate 10 1 from rfl)
  have hcs := csum_lt (bts f)
  clear h h2 h3 hn hwf
  go_enter Tryz.func41, Tryz.ntmps41
  go_wp2_with fail
  refine (fbits_ok f _ HM.out HWF.out).mono ?_
  rintro e w1 ⟨v, rfl, ho1, hb1⟩
  obtain ⟨L, hL⟩ : ∃ L, bts f = L := ⟨_, rfl⟩
  obtain ⟨cs, hcs0⟩ : ∃ cs, csum L = cs := ⟨_, rfl⟩
  rw [hL] at HLE HALL HBT hcs ho1
  rw [hcs0] at hcs HBT
  have HCS := Lib.hid hcs0
  clear hL hcs0
  have F1 : Fb w1 w.heap.size f := (fb_new w f).below hb1 (by simp)
  have hsz : (w.alloc (.cells f.cells 31)).heap.size = w.heap.size + 1 := by simp
  have O1 : Own w1 (w.heap.size + 1) v L := by rw [← hsz]; exact ho1
  have hlt1 := F1.lt
  have hne1 : v.ownBlock ≠ some w1.heap.size := fun e => by have := World.ownsRow.lt O1 _ e; omega
  have HBW := Lib.hid (nxt (boxed f w) hb1)
  have HF1 := Lib.hid F1; have HO1 := Lib.hid O1; have HNE := Lib.hid hne1
  obtain ⟨A1, cap1, rfl, hi1, _⟩ := O1.il2
  have HI1 := Lib.hid hi1
  clear hb1 F1 hsz O1 ho1 hi1 hne1
  go_wp2_with fail
  refine (sum_ok A1 L.length cap1 L _ (HI1.out.below ((Below.refl _ _).alloc (Nat.le_refl _) _)) (by have := HLE.out; omega) HALL.out).mono ?_
  rintro e w2 ⟨rfl, hb2⟩
  rw [HCS.out]
  have X2 : w2.heap[w1.heap.size]? = some (.cells #[.slice A1 L.length cap1] 23) := (hb2.block _ (by simp)).trans (heap_alloc_new _ _)
  have hb2' : Below w1.heap.size w1 w2 := nxt ((Below.refl _ _).alloc (Nat.le_refl _) _) hb2
  have P0 := Lib.hid (all_start f w w2 w1.heap.size _ L (HO1.out.below hb2') HNE.out X2 (HF1.out.below hb2' hlt1) hlt1 (nxt HBW.out hb2'))
  clear X2 hb2 hb2' HNE HO1 HF1 HBW HI1
  obtain ⟨gl, hgl⟩ : ∃ gl, w1.heap.size = gl := ⟨_, rfl⟩
  rw [hgl] at P0 hlt1 ⊢
  clear hgl
  go_wp2_with fail
  refine (putter_any _ _).mono ?_
  rintro e w' ⟨rfl, rfl⟩
  obtain ⟨g1, hg1⟩ : ∃ g1, w2.heap.size = g1 := ⟨_, rfl⟩
  rw [hg1] at P0 ⊢
  clear hg1
  go_wp2_with fail
  refine (bits_row cs _ hcs).mono ?_
  rintro e w3 ⟨A3, cap3, rfl, hi3, hb3⟩
  have HP3 := Lib.hid (P0.out.below hb3)
  have HI3 := Lib.hid hi3
  clear hi3 hb3 P0
  go_wp2_with fail
  refine (put_any w.heap.size gl g1 _ _ A3 15 cap3 _ _ _ HP3.out.st HI3.out (by have := HLE.out; omega)).mono ?_
  rintro e w4 ⟨rfl, hp4⟩
  obtain ⟨v4, P4, _⟩ := HP3.out.put hp4
  have HP4 := Lib.hid P4
  obtain ⟨c0, c1, c2, c3, c4, c5, c6, c7, c8, c9, c10, c11⟩ := P4.fb.bx
  clear P4 hp4 HP3 HI3
  go_wp2_with fail
  refine (widths_any f n (by omega) HN.out _).mono ?_
  rintro e w5 ⟨rfl, hb5⟩
  have HP5 := Lib.hid (HP4.out.below hb5)
  clear c0 c1 c2 c3 c4 c5 c6 c7 c8 c9 c10 c11 hb5 HP4
  have HP6 := Lib.hid (HP5.out.below (alloc2 _ (.cells (W9c (aW f.ext) (cW f.ext) (dW f.rtr n)) 119) (.cells #[.int .i64 1] 3)))
  have HL6 := Lib.hid (show Il ((w5.alloc (.cells (W9c (aW f.ext) (cW f.ext) (dW f.rtr n)) 119)).alloc (.cells #[.int .i64 1] 3)) (some ⟨w5.heap.size + 1, 0, none⟩) 1 [1] from (arr_next w5 (.cells (W9c (aW f.ext) (cW f.ext) (dW f.rtr n)) 119) [1]).il)
  go_wp2_with fail
  refine (repeat_ten _ _ _ HL6.out).mono ?_
  rintro e w7 ⟨A7, cap7, rfl, hi7, hb7⟩
  have HP7 := Lib.hid (HP6.out.below hb7)
  have HI7 := Lib.hid hi7
  clear hi7 hb7 HP6 HL6 HP5
  go_wp2_with fail
  refine (put_any w.heap.size gl g1 _ _ A7 10 cap7 _ _ _ HP7.out.st HI7.out (by have := HLE.out; rw [List.length_append, ofB_len]; omega)).mono ?_
  rintro e w8 ⟨rfl, hp8⟩
  obtain ⟨v8, P8, _⟩ := HP7.out.put hp8
  have HP8 := Lib.hid P8
  have hcl := P8.st.cl
  clear P8 hp8 HP7 HI7
  go_wp2
  go_ret2
  exact ⟨v8, rfl, by rw [HBT.out]; exact HP8.out.st.own, HP8.out.bl⟩
end Go.Proofs.YtalpbnfebcafgaaGreat
