/- The reference's queue: its Put, Drop, All. -/
import Derived.Test.YtldhnbohpnkcpaaQU
namespace Go.Proofs.Ytldhnbohpnkcpaa
open Go.RowKit
set_option linter.unusedSimpArgs false

/-- Block g is just a reference's queue. -/
def Rq (w : World) (g : Nat) (v : Value) (m : Int) : Prop := w.heap[g]? = some (.cells #[v, .int .i64 m] 31)
section
variable {w w' : World} {g : Nat} {v : Value} {m : Int}
theorem Rq.row (h : Rq w g v m) : w.cell? ⟨g, 0, none⟩ = some v := cell_of_row w g 0 _ _ (0, 0) h
theorem Rq.most (h : Rq w g v m) : w.cell? ⟨g, 1, none⟩ = some (.int .i64 m) := cell_of_row w g 1 _ _ (0, 0) h
theorem Rq.frozen (h : Rq w g v m) (i : Nat) : w.frozen? ⟨g, i, none⟩ = false := by
  unfold Rq at h
  simp [World.frozen?, h]
theorem Rq.lt (h : Rq w g v m) : g < w.heap.size := (Array.getElem?_eq_some_iff.1 h).1
theorem Rq.next (h : Rq w g v m) (hb : Below w.heap.size w w') : Rq w' g v m := (hb.block g h.lt).trans h
theorem Rq.put (h : Rq w g v m) (u : Value) : Rq (w.setCell ⟨g, 0, none⟩ u) g u m := by
  unfold Rq at h ⊢
  simp [World.setCell, Array.getElem?_modify, h]
end
theorem Fown.notr {w : World} {B g : Nat} {v u : Value} {m : Int} {gs : List Fr} (h : Fown w B v gs) (hq : Rq w g u m) : v.ownBlock ≠ some g := by
  intro e
  rcases h.2 with ⟨rfl, _⟩ | ⟨k, cap, cur, rfl, _, hh, _⟩
  · cases e
  · injection e with e
    have e : k = g := e
    subst e
    unfold Rq at hq
    rw [hh] at hq
    injection hq with hq
    injection hq with _ ht
    exact absurd ht (by decide)
theorem qr_ne {w : World} {g k : Nat} {v u : Value} {m n : Int} (hq : Qb w g v m) (hr : Rq w k u n) : g ≠ k := by
  rintro rfl
  unfold Qb at hq
  unfold Rq at hr
  rw [hq] at hr
  injection hr with hr
  injection hr with _ ht
  exact absurd ht (by decide)
/-- At g lies a reference's queue. -/
structure Rque (w : World) (B g : Nat) (v : Value) (m : Int) (gs : List Fr) : Prop where
  q : Rq w g v m
  own : Fown w B v gs
  at_ : B ≤ g
section
variable {w w' : World} {B C g k : Nat} {v v' u : Value} {m n : Int} {gs us : List Fr}
theorem Rque.next (h : Rque w B g v m gs) (hb : Below w.heap.size w w') : Rque w' B g v m gs := ⟨h.q.next hb, h.own.below hb, h.at_⟩
theorem Rque.drew (h : Rque w B g v m gs) : Rque w.drew B g v m gs := ⟨h.q, h.own, h.at_⟩
theorem Rque.lt (h : Rque w B g v m gs) : g < w.heap.size := h.q.lt
theorem Turn.rque (h : Turn g v v' w w') (hq : Rque w B g v m gs) (hB : B ≤ w.heap.size) : Below B w w' := h.below hq.at_ hq.own.row hB
/-- A row stays beside a block that no row lies in. -/
theorem Turn.rowr (h : Turn g v v' w w') (hn : u.ownBlock ≠ some g) (hu : Fown w C u us) (hs : Sep u v) : Fown w' C u us ∧ Sep u v' := by
  constructor
  · refine ⟨hu.1, ?_⟩
    rcases hu.2 with h0 | ⟨k, cap, cur, rfl, hbk, hh, rest⟩
    · exact .inl h0
    · refine .inr ⟨k, cap, cur, rfl, hbk, (h.block k (Array.getElem?_eq_some_iff.1 hh).1 ?_ ?_).trans hh, rest⟩
      · rintro rfl; exact hn rfl
      · rcases hs with e | e
        · cases e
        · exact e
  · rcases hk : u.ownBlock with _ | k
    · exact .inl hk
    · refine .inr fun he => ?_
      rcases h.lies with e2 | e2
      · rcases hs with e | e
        · rw [hk] at e; cases e
        · exact e (he.trans e2)
      · have h1 := e2 k (he.symm.trans hk)
        have h2 := (World.ownsRow.lt hu k hk).2
        omega
/-- A reference's queue stays, beside a queue that is turned; and the other way round. -/
theorem Turn.toR (h : Turn g v v' w w') (hq : Que w B g v m gs) (hu : Rque w C k u n us) (hs : Sep u v) : Rque w' C k u n us ∧ Sep u v' := by
  obtain ⟨h1, h2⟩ := h.row hq.q hu.own hs
  refine ⟨⟨(h.block k hu.lt (qr_ne hq.q hu.q).symm fun e => ?_).trans hu.q, h1, hu.at_⟩, h2⟩
  exact hq.own.notr hu.q e.symm
theorem Turn.toQ (h : Turn g v v' w w') (hq : Rque w B g v m gs) (hu : Que w C k u n us) (hs : Sep u v) : Que w' C k u n us ∧ Sep u v' := by
  obtain ⟨h1, h2⟩ := h.rowr (hu.own.notr hq.q) hu.own hs
  refine ⟨⟨(h.block k hu.lt (qr_ne hu.q hq.q) fun e => ?_).trans hu.q, h1, hu.at_⟩, h2⟩
  exact hq.own.notq hu.q e.symm
end

/-- A row without its place a, as it grows. -/
theorem wo_yes {gs : List Fr} {a k : Nat} (hk : k < gs.length) (hne : k ≠ a) : (gs.take (k + 1)).eraseIdx a = (gs.take k).eraseIdx a ++ [gs.getD k Fr.zero] := by
  rw [take_one hk]
  rcases Nat.lt_or_ge a k with h | h
  · rw [List.eraseIdx_append_of_lt_length (by rw [List.length_take]; omega)]
  · rw [List.eraseIdx_append_of_length_le (by rw [List.length_take]; omega), List.eraseIdx_of_length_le (l := gs.take k) (by rw [List.length_take]; omega), List.eraseIdx_of_length_le (by rw [List.length_take]; simp; omega)]
theorem wo_no {gs : List Fr} {a : Nat} (hk : a < gs.length) : (gs.take (a + 1)).eraseIdx a = (gs.take a).eraseIdx a := by
  rw [take_one hk, List.eraseIdx_append_of_length_le (by rw [List.length_take]; omega), List.eraseIdx_of_length_le (l := gs.take a) (by rw [List.length_take]; omega), List.length_take, show a - min a gs.length = 0 by omega]
  simp

set_option maxHeartbeats 1600000 in
set_option maxRecDepth 100000 in
theorem without_any {w : World} {B a : Nat} {v : Value} {gs : List Fr} (h : Fown w B v gs) (hn : gs.length ≤ 1000) (ha : a < gs.length) :
    Calls Try.prog 25 #[v, .int .i64 a] w fun e w' => ∃ u, e = .returned u ∧ Fown w' w.heap.size u (gs.eraseIdx a) ∧ Below w.heap.size w w' := by
  obtain ⟨A, c, rfl, hf, _⟩ := h.fl
  have HL := Lib.hid hf; have HN := Lib.hid hn
  have HFN := Lib.hid (Fown.nil w w.heap.size (Nat.le_refl _))
  have HBN := Lib.hid (show Below w.heap.size w (w.alloc (.cells #[] 34)) from (Below.refl _ _).alloc (Nat.le_refl _) _)
  obtain ⟨n, hgn⟩ : ∃ n, gs.length = n := ⟨_, rfl⟩
  have HGN := Lib.hid hgn
  have hn1 : n ≤ 1000 := by rw [← hgn]; exact hn
  rw [hgn] at HL ha ⊢
  clear h hf hn hgn
  go_enter Try.func25, Try.ntmps25
  go_wp2
  go_loopw [5, 6] (fun vv vi wx => ∃ (k : Nat) (v9 : Value), k ≤ n ∧ vv = v9 ∧ vi = .int .i64 k ∧ Fown wx w.heap.size v9 ((gs.take k).eraseIdx a) ∧ Below w.heap.size w wx) (fun _ vi _ => n - (intOf vi).toNat)
  case atStart => exact ⟨0, _, Nat.zero_le _, rfl, rfl, HFN.out, HBN.out⟩
  case round =>
    clear HFN HBN
    obtain ⟨k, v9, hk, hvv, rfl, hv9, hbt⟩ := hrel
    replace hvv := hvv.symm
    subst hvv
    have HV9 := Lib.hid hv9; have HBT := Lib.hid hbt
    by_cases hlt : k < n
    · have hlt' : (k : Int) < (n : Int) := by omega
      have HLT := Lib.hid (show k < gs.length by rw [HGN.out]; exact hlt)
      by_cases hka : k = a
      · subst hka
        have HW := Lib.hid (wo_no HLT.out)
        clear hv9 hbt
        go_wp2
        go_roundw
        case rel => exact ⟨k + 1, v9, by omega, rfl, by go_num, by rw [HW.out]; exact HV9.out, HBT.out⟩
        case measure => simp [intOf]; omega
      · have hne : ¬ ((k : Int) = (a : Int)) := by omega
        have HW := Lib.hid (wo_yes HLT.out hka)
        obtain ⟨x, hx⟩ : ∃ x, gs.getD k Fr.zero = x := ⟨_, rfl⟩
        have HX := Lib.hid hx
        obtain ⟨ad, rfl, -, -⟩ := HL.out.at_ hlt
        obtain ⟨d0, d1, d2, d3, d4, d5, d6, d7, d8, d9, d10, d11⟩ := (HL.out.below hbt).el hlt hx
        have HV := Lib.hid (show Fown (wr.alloc (.cells x.cells 34)) w.heap.size v9 _ from Fown.alloc hv9 _)
        have HS1 := Lib.hid (show Fs (wr.alloc (.cells x.cells 34)) (some ⟨wr.heap.size, 0, none⟩) 1 [x] from by
          have h := fs_lit wr [x]
          rw [fcs_one_] at h
          exact h)
        have HBM := Lib.hid (show Below w.heap.size w (wr.alloc (.cells x.cells 34)) from hbt.alloc hbt.size _)
        have HLN := Lib.hid (show ((gs.take k).eraseIdx a).length ≤ 1000 from by
          have h1 := (List.eraseIdx_sublist (gs.take k) a).length_le
          rw [List.length_take] at h1
          have := HN.out
          omega)
        clear hv9 hbt hx hka
        go_wp2_with (first | (at_builtin; refine append_F _ (by rfl) _ _ rfl w.heap.size _ _ rfl HV.out _ _ _ [x] rfl HS1.out (by have := HLN.out; omega) HBM.out.size ?_; intro v' w' h1 h2 h3; have HR1 := Lib.hid (And.intro h1 (HBM.out.grown h2 HBM.out.size HV9.out.row)); clear h1 h2 h3) | fail)
        go_wp2
        go_roundw
        case rel => exact ⟨k + 1, _, by omega, rfl, by go_num, by rw [HW.out, HX.out]; exact HR1.out.1, HR1.out.2⟩
        case measure => simp [intOf]; omega
    · have HRW := Lib.hid (show Fown wr w.heap.size v9 (gs.eraseIdx a) from by
        have h := hv9
        rwa [List.take_of_length_le (by rw [HGN.out]; omega)] at h)
      clear hv9 hbt
      go_wp2
      go_ret
      exact ⟨_, rfl, HRW.out, HBT.out⟩

theorem r9 {w w' : World} {r : Option Nat} (h : Below w.heap.size w w') : w.grownBy w' r := ⟨h.os, h.tape, h.output, h.size, fun k hk _ => h.block k hk⟩
/-- Behind a store of the reference's. -/
theorem rset_last {w w1 w2 : World} {B g : Nat} {v u : Value} {m : Int} {gs ys : List Fr} (hq : Rque w B g v m gs) (hb1 : Below w.heap.size w w1) (hU : Fown w2 B u ys) (hG : w1.grownBy w2 v.ownBlock) (hL : u.ownBlock = v.ownBlock ∨ ∀ k, u.ownBlock = some k → w.heap.size ≤ k) :
    Rq w2 g v m ∧ Rque (w2.setCell ⟨g, 0, none⟩ u) B g u m ys ∧ Turn g v u w (w2.setCell ⟨g, 0, none⟩ u) := by
  have hgl := hq.lt
  have hle := hb1.size
  have hq2 : Rq w2 g v m := (hG.block g (by omega) fun e => hq.own.notr hq.q e.symm).trans ((hb1.block g hgl).trans hq.q)
  have hnu := hU.notr hq2
  refine ⟨hq2, ⟨hq2.put u, hU.setq hnu 0, hq.at_⟩, ⟨hG.os.trans hb1.os, hG.tape.trans hb1.tape, hG.output.trans hb1.output, ?_, fun k hk hne hkv => ?_, hL⟩⟩
  · have h2 := hG.size
    have : (w2.setCell ⟨g, 0, none⟩ u).heap.size = w2.heap.size := by simp [World.setCell]
    omega
  · exact (Below.heap_setCell w2 ⟨g, 0, none⟩ u k hne).trans ((hG.block k (by omega) hkv).trans (hb1.block k hk))

set_option maxHeartbeats 1600000 in
set_option maxRecDepth 100000 in
theorem rdrop_q {w : World} {B g : Nat} {v : Value} {m : Int} {gs : List Fr} {f : Fr} (hq : Rque w B g v m gs) (hn : gs.length ≤ 1000) (hB : B ≤ w.heap.size) :
    Calls Try.prog 10 #[.pointer (some ⟨g, 0, none⟩), f.val] w fun e w' => ∃ u, e = .returned (.int .i64 (dE f gs)) ∧ Rque w' B g u m (drp f gs) ∧ Turn g v u w w' := by
  obtain ⟨A, c, hv, hfl, hcap⟩ := hq.own.fl
  subst hv
  have HQ := Lib.hid hq; have HN := Lib.hid hn; have HBW := Lib.hid hB
  have HB := Lib.hid (boxed f w)
  have HX := Lib.hid (fb_new w f)
  obtain ⟨n, hgn⟩ : ∃ n, gs.length = n := ⟨_, rfl⟩
  have HGN := Lib.hid hgn
  have hn1 : n ≤ 1000 := by rw [← hgn]; exact hn
  have HL := Lib.hid hfl
  rw [hgn] at HL
  clear hq hn hfl hB
  rw [hgn] at hcap HQ ⊢
  clear hgn
  go_enter Try.func10, Try.ntmps10
  go_wp2
  go_loopw [5] (fun vi wr => ∃ (k : Nat), k ≤ n ∧ vi = .int .i64 k ∧ (∀ j, j < k → f.same (gs.getD j Fr.zero) = false) ∧ Below (w.heap.size + 1) (w.alloc (.cells f.cells 34)) wr) (fun vi _ => n - (intOf vi).toNat)
  case atStart => exact ⟨0, Nat.zero_le _, rfl, fun j hj => by omega, Below.refl _ _⟩
  case round =>
    obtain ⟨k, hk, rfl, hz, hb⟩ := hrel
    have hb' : Below (w.alloc (.cells f.cells 34)).heap.size (w.alloc (.cells f.cells 34)) wr := by simpa using hb
    have HZ := Lib.hid hz; have HBB := Lib.hid hb
    have HBW2 := Lib.hid (nxt HB.out hb')
    have HQ1 := Lib.hid (HQ.out.next HBW2.out)
    have q0 := HQ1.out.q.row
    obtain ⟨c0, c1, c2, c3, c4, c5, c6, c7, c8, c9, c10, c11⟩ := (HX.out.below hb' HX.out.lt).bx
    clear hz hb hb'
    by_cases hlt : k < n
    · have hlt' : (k : Int) < (n : Int) := by omega
      obtain ⟨x, hx⟩ : ∃ x, gs.getD k Fr.zero = x := ⟨_, rfl⟩
      have HXX := Lib.hid hx
      obtain ⟨ad, rfl, -, -⟩ := HL.out.at_ hlt
      obtain ⟨d0, d1, d2, d3, d4, d5, d6, d7, d8, d9, d10, d11⟩ := (HL.out.below HBW2.out).el hlt hx
      have hfe := fun W => feq x f W
      clear hx
      cases hs : f.same x
      · have HS := Lib.hid (show f.same (gs.getD k Fr.zero) = false from by rw [HXX.out]; exact hs)
        rw [same_comm, hs] at hfe
        clear hs
        go_wp2
        go_quiet (fail)
        go_wp2
        go_roundw
        case rel => exact ⟨k + 1, by omega, by go_num, fun j hj => by
          rcases Nat.lt_or_ge j k with h | h
          · exact HZ.out j h
          · rw [show j = k by omega]; exact HS.out, belowN HBB.out _⟩
        case measure => simp [intOf]; omega
      · have HD := Lib.hid (drp_at (f := f) (L := gs) (k := k) (by rw [HGN.out]; exact hlt) (by rw [HXX.out]; exact hs) HZ.out)
        have HKL := Lib.hid (show k < gs.length by rw [HGN.out]; exact hlt)
        rw [same_comm, hs] at hfe
        clear hs
        go_wp2
        go_quiet (fail)
        have HBQ := Lib.hid (belowN HBW2.out nq)
        have HQ2 := Lib.hid (HQ.out.next HBQ.out)
        have q2 := HQ2.out.q.row
        clear q0 c0 c1 c2 c3 c4 c5 c6 c7 c8 c9 c10 c11 d0 d1 d2 d3 d4 d5 d6 d7 d8 d9 d10 d11
        go_wp2_with fail
        refine (without_any (a := k) HQ2.out.own HN.out HKL.out).mono ?_
        rintro e w2 ⟨u, rfl, hu, hb2⟩
        rw [HD.out.1] at hu
        have HFIN := Lib.hid (rset_last HQ.out HBQ.out (hu.base (by have h1 := HBQ.out.size; have h2 := HBW.out; omega)) (r9 hb2) (.inr fun j hj => by have h1 := hu.row j hj; have h2 := HBQ.out.size; omega))
        obtain ⟨A5, n5, c5, rfl⟩ : ∃ A5 n5 c5, u = .slice A5 n5 c5 := by obtain ⟨A5, c5, e5, _⟩ := hu.fl; exact ⟨A5, _, c5, e5⟩
        have k5 := HFIN.out.1.row
        have f5 := HFIN.out.1.frozen 0
        clear hu hb2 q2
        go_wp2
        go_ret
        exact ⟨_, by rw [HD.out.2]; rfl, HFIN.out.2.1, HFIN.out.2.2⟩
    · obtain rfl : k = n := by omega
      have HD := Lib.hid (drp_not (f := f) (L := gs) (by rw [HGN.out]; exact HZ.out))
      clear c0 c1 c2 c3 c4 c5 c6 c7 c8 c9 c10 c11
      go_wp2
      go_ret
      exact ⟨_, by rw [HD.out.2]; rfl, by rw [HD.out.1]; exact HQ1.out, Turn.of_below HBW2.out⟩
end Go.Proofs.Ytldhnbohpnkcpaa
