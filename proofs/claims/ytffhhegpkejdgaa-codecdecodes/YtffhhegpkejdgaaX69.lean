/- The contracts of codec's reader: its memory, notRecessive, added, wrong. -/
import Derived.Test.YtffhhegpkejdgaaX67
import Derived.Test.YtffhhegpkejdgaaX68
import Derived.WalkMore
namespace Go.Proofs.Ytffhhegpkejdgaa
open Go.RowKit

theorem nrc_any (z : Int) (w : World) : Calls Try.prog 70 #[.int .i64 z] w fun e w' => e = .returned (.int .i64 (nrc z)) ∧ w = w' := by
  by_cases h : z = 1
  · subst h
    go_enter Try.func70, Try.ntmps70
    go_wp2
    go_ret
    exact ⟨rfl, rfl⟩
  · have hb : (z != 1) = true := by simpa using h
    have HE := Lib.hid (show nrc z = 11 from if_neg h)
    clear h
    go_enter Try.func70, Try.ntmps70
    go_wp2
    go_ret
    exact ⟨by rw [HE.out]; rfl, rfl⟩

/-- The reader in block g: all that came, those that were not added, the field that comes next. -/
structure Rdk (w : World) (g : Nat) (vt vo : Value) (t o : List Int) (k : Nat) : Prop where
  blk : w.heap[g]? = some (.cells #[vt, vo, .int .i64 (k : Int)] 52)
  ot : Own w g vt t
  oo : Own w g vo o
  sep : Sep vt vo
  nt : vt.ownBlock ≠ some g
  no : vo.ownBlock ≠ some g
section
variable {w w' w2 : World} {g k : Nat} {vt vo v' : Value} {t o : List Int} {z : Int}
theorem Rdk.lt (h : Rdk w g vt vo t o k) : g < w.heap.size := (Array.getElem?_eq_some_iff.1 h.blk).1
theorem Rdk.c0 (h : Rdk w g vt vo t o k) : w.cell? ⟨g, 0, none⟩ = some vt := by simp only [World.cell?, h.blk]; rfl
theorem Rdk.c1 (h : Rdk w g vt vo t o k) : w.cell? ⟨g, 1, none⟩ = some vo := by simp only [World.cell?, h.blk]; rfl
theorem Rdk.c2 (h : Rdk w g vt vo t o k) : w.cell? ⟨g, 2, none⟩ = some (.int .i64 (k : Int)) := by simp only [World.cell?, h.blk]; rfl
theorem Rdk.fz (h : Rdk w g vt vo t o k) (i : Nat) : w.frozen? ⟨g, i, none⟩ = false := by simp [World.frozen?, h.blk]
theorem Rdk.below (h : Rdk w g vt vo t o k) (hb : Below w.heap.size w w') : Rdk w' g vt vo t o k :=
  ⟨(hb.block g h.lt).trans h.blk, h.ot.below hb, h.oo.below hb, h.sep, h.nt, h.no⟩
theorem Own.set_off {v x : Value} {zs : List Int} {i : Nat} (h : Own w g v zs) (hn : v.ownBlock ≠ some g) : Own (w.setCell ⟨g, i, none⟩ x) g v zs := by
  refine ⟨h.1, ?_⟩
  rcases h.2 with hn' | ⟨g', cap, cur, rfl, hbg, hgg, rest⟩
  · exact .inl hn'
  · refine .inr ⟨g', cap, cur, rfl, hbg, ?_, rest⟩
    have : g ≠ g' := fun e => hn (by rw [← e]; rfl)
    simp [World.setCell, Array.getElem?_modify, this, hgg]
theorem Rdk.setK (h : Rdk w g vt vo t o k) (k' : Nat) : Rdk (w.setCell ⟨g, 2, none⟩ (.int .i64 (k' : Int))) g vt vo t o k' :=
  ⟨by simp [World.setCell, Array.getElem?_modify, h.blk], h.ot.set_off h.nt, h.oo.set_off h.no, h.sep, h.nt, h.no⟩
/-- A literal is laid, and appended to the one row; the answer is stored. -/
theorem Rdk.pushT {ob : Obj} (h : Rdk w g vt vo t o k) (ho : Own w2 g v' (t ++ [z])) (hg : (w.alloc ob).grownBy w2 vt.ownBlock) (hl : Lies (w.alloc ob) vt v') : Rdk (w2.setCell ⟨g, 0, none⟩ v') g v' vo (t ++ [z]) o k := by
  have hlt := h.lt
  have hs : (w.alloc ob).heap.size = w.heap.size + 1 := by simp
  have hn : v'.ownBlock ≠ some g := by
    rcases hl with e | e
    · rw [e]; exact h.nt
    · rw [e, hs]; intro e; injection e with e; omega
  have hb : w2.heap[g]? = some (.cells #[vt, vo, .int .i64 (k : Int)] 52) :=
    ((hg.block g (by omega) (fun e => h.nt e.symm)).trans (heap_alloc_old w ob (r := g) hlt)).trans h.blk
  exact ⟨by simp [World.setCell, Array.getElem?_modify, hb], ho.set_off hn, (((h.oo.alloc ob).kept hg h.sep.symm)).set_off h.no, (h.sep.symm.lies (h.oo.alloc ob) hl).symm, hn, h.no⟩
theorem Rdk.pushO {ob : Obj} (h : Rdk w g vt vo t o k) (ho : Own w2 g v' (o ++ [z])) (hg : (w.alloc ob).grownBy w2 vo.ownBlock) (hl : Lies (w.alloc ob) vo v') : Rdk (w2.setCell ⟨g, 1, none⟩ v') g vt v' t (o ++ [z]) k := by
  have hlt := h.lt
  have hs : (w.alloc ob).heap.size = w.heap.size + 1 := by simp
  have hn : v'.ownBlock ≠ some g := by
    rcases hl with e | e
    · rw [e]; exact h.no
    · rw [e, hs]; intro e; injection e with e; omega
  have hb : w2.heap[g]? = some (.cells #[vt, vo, .int .i64 (k : Int)] 52) :=
    ((hg.block g (by omega) (fun e => h.no e.symm)).trans (heap_alloc_old w ob (r := g) hlt)).trans h.blk
  exact ⟨by simp [World.setCell, Array.getElem?_modify, hb], ((h.ot.alloc ob).kept hg h.sep).set_off h.nt, ho.set_off hn, h.sep.lies (h.ot.alloc ob) hl, h.nt, hn⟩
theorem push_below {a : World} {ob : Obj} {v : Value} {l : List Int} {i : Nat} {x : Value} (hB : Below g a w) (hle : g ≤ w.heap.size) (hx : Own w g v l) (hg : (w.alloc ob).grownBy w2 v.ownBlock) : Below g a (w2.setCell ⟨g, i, none⟩ x) :=
  (push_lit hB hle hx hg).setCell (p := ⟨g, i, none⟩) (Nat.le_refl g) x
end
abbrev Rd (w : World) (g : Nat) (vt vo : Value) (t o : List Int) : Prop := Rdk w g vt vo t o (kd o)

/-- Whether the next level is one that is added, and which one. -/
def adS (t o : List Int) : Bool := decide (kd o ≤ 5 ∧ 5 ≤ alk t)
def adL (t o : List Int) : Int := if adS t o then 1 - lst t else 0
theorem ad_no {t o : List Int} (h : ¬ (kd o ≤ 5 ∧ 5 ≤ alk t)) : adS t o = false ∧ adL t o = 0 := by
  have e : adS t o = false := decide_eq_false h
  exact ⟨e, by unfold adL; rw [e]; rfl⟩
theorem ad_yes {t o : List Int} (h : kd o ≤ 5 ∧ 5 ≤ alk t) : adS t o = true ∧ adL t o = 1 - lst t := by
  have e : adS t o = true := decide_eq_true h
  exact ⟨e, by unfold adL; rw [e]; rfl⟩
theorem ad_nx {t o : List Int} (h : kd o ≤ 5) (hl : ∀ z ∈ t, lvl z = true) : nxs t = adS t o ∧ nxl t = adL t o := by
  have hc : chk t < 0 := by rw [show chk t = -1 from fst_of_all lvl t hl]; omega
  by_cases h5 : 5 ≤ alk t
  · rw [(nxs_yes hc h5).1, (nxs_yes hc h5).2, (ad_yes ⟨h, h5⟩).1, (ad_yes ⟨h, h5⟩).2]; exact ⟨rfl, rfl⟩
  · rw [(nxs_few (by omega)).1, (nxs_few (by omega)).2, (ad_no (o := o) (fun x => h5 x.2)).1, (ad_no (o := o) (fun x => h5 x.2)).2]; exact ⟨rfl, rfl⟩

set_option maxHeartbeats 400000 in
theorem added_any (g : Nat) (vt vo : Value) (t o : List Int) (w : World) (st : Rd w g vt vo t o) (hl : ∀ z ∈ t, lvl z = true) (ht : t.length ≤ 10000) :
    Calls Try.prog 49 #[.pointer (some ⟨g, 0, none⟩)] w fun e w' => e = .returned (.tuple #[.bool (adS t o), .int .i64 (adL t o)]) ∧ Below w.heap.size w w' := by
  obtain ⟨A, cap, rfl, hi, hc⟩ := st.ot.il2
  have c0 := st.c0; have c2 := st.c2
  have HI := Lib.hid hi
  clear st hi
  by_cases h : kd o ≤ 5
  · have HN := Lib.hid (ad_nx h hl)
    have hq : decide ((5 : Int) < ((kd o : Nat) : Int)) = false := by simp; omega
    generalize kd o = k at *
    clear h
    go_enter Try.func49, Try.ntmps49
    go_wp2_with fail
    refine (next_any5 A _ cap t _ HI.out ht hc).mono ?_
    rintro e w1 ⟨rfl, hb1⟩
    rw [HN.out.1, HN.out.2]
    go_wp2
    go_ret2
    exact ⟨rfl, hb1⟩
  · have HN := Lib.hid (ad_no (t := t) (fun x => h x.1))
    have hq : decide ((5 : Int) < ((kd o : Nat) : Int)) = true := by simp; omega
    generalize kd o = k at *
    clear h
    go_enter Try.func49, Try.ntmps49
    go_wp2
    go_ret2
    exact ⟨by rw [HN.out.1, HN.out.2]; rfl, Below.refl _ _⟩

theorem wr_def (o : List Int) (z : Int) : wr o z = if kd o = 0 then (if z = 0 then 0 else 11) else if kd o = 5 then (if rok o then nrc z else 18) else if kd o = 7 ∨ kd o = 8 then nrc z else 0 := rfl
theorem rout_rok (o : List Int) : (rout o = .tuple #[.bool false, .int .i64 13] ∧ rok o = false) ∨ rout o = .tuple #[.bool (rok o), .int .i64 0] := by
  unfold rout rok
  by_cases h : o.length < hEnd (hEx o) ∨ o.length < ahead o + 15
  · rw [if_pos h, decide_eq_true h]; exact .inl ⟨rfl, rfl⟩
  · rw [if_neg h, decide_eq_false h]; exact .inr (by simp)

set_option maxHeartbeats 800000 in
theorem wrong_any (g : Nat) (vt vo : Value) (t o : List Int) (z : Int) (w : World) (st : Rd w g vt vo t o) (hl : ∀ z ∈ o, lvl z = true) (ho : o.length ≤ 10000) :
    Calls Try.prog 50 #[.pointer (some ⟨g, 0, none⟩), .int .i64 z] w fun e w' => e = .returned (.int .i64 (wr o z)) ∧ Below w.heap.size w w' := by
  obtain ⟨A, cap, rfl, hi, hc⟩ := st.oo.il2
  have c1 := st.c1; have c2 := st.c2
  have HI := Lib.hid hi
  have HW := Lib.hid (wr_def o z)
  clear st hi
  by_cases h0 : kd o = 0
  · rw [if_pos h0] at HW
    rw [h0] at c2
    clear h0
    by_cases hz : z = 0
    · have HZ := Lib.hid hz
      have hq : (z != 0) = false := by simp [hz]
      clear hz
      go_enter Try.func50, Try.ntmps50
      go_wp2
      go_ret
      exact ⟨by rw [HW.out, if_pos HZ.out]; rfl, Below.refl _ _⟩
    · have HZ := Lib.hid hz
      have hq : (z != 0) = true := by simpa using hz
      clear hz
      go_enter Try.func50, Try.ntmps50
      go_wp2
      go_ret
      exact ⟨by rw [HW.out, if_neg HZ.out]; rfl, Below.refl _ _⟩
  · rw [if_neg h0] at HW
    by_cases h5 : kd o = 5
    · rw [if_pos h5] at HW
      rw [h5] at c2
      clear h0 h5
      have HR := Lib.hid (rout_rok o)
      go_enter Try.func50, Try.ntmps50
      go_wp2_with fail
      refine (fright_any A _ cap o _ HI.out (by omega) hc hl).mono ?_
      rintro e w1 ⟨rfl, hb1⟩
      rcases HR.out with ⟨e1, e2⟩ | e1
      · rw [e1]
        have HE := Lib.hid e2
        clear e1 e2
        go_wp2
        go_ret
        exact ⟨by rw [HW.out, HE.out]; rfl, hb1⟩
      · rw [e1]
        clear e1 HR
        cases hrk : rok o with
        | false =>
          have HE := Lib.hid hrk
          clear hrk
          go_wp2
          go_ret
          exact ⟨by rw [HW.out, HE.out]; rfl, hb1⟩
        | true =>
          have HE := Lib.hid hrk
          clear hrk
          go_wp2_with fail
          refine (nrc_any z _).mono ?_
          rintro e w2 ⟨rfl, rfl⟩
          go_wp2
          go_ret
          exact ⟨by rw [HW.out, HE.out]; rfl, hb1⟩
    · rw [if_neg h5] at HW
      by_cases h7 : kd o = 7 ∨ kd o = 8
      · rw [if_pos h7] at HW
        clear h0 h5
        rcases h7 with h7 | h7 <;> rw [h7] at c2 <;> clear h7
        · go_enter Try.func50, Try.ntmps50
          go_wp2_with fail
          refine (nrc_any z _).mono ?_
          rintro e w2 ⟨rfl, rfl⟩
          go_wp2
          go_ret
          exact ⟨by rw [HW.out]; rfl, Below.refl _ _⟩
        · go_enter Try.func50, Try.ntmps50
          go_wp2_with fail
          refine (nrc_any z _).mono ?_
          rintro e w2 ⟨rfl, rfl⟩
          go_wp2
          go_ret
          exact ⟨by rw [HW.out]; rfl, Below.refl _ _⟩
      · rw [if_neg h7] at HW
        have q0 : (((kd o : Nat) : Int) == 0) = false := by simp; omega
        have q5 : (((kd o : Nat) : Int) == 5) = false := by simp; omega
        have q7 : (((kd o : Nat) : Int) == 7) = false := by simp; omega
        have q8 : (((kd o : Nat) : Int) == 8) = false := by simp; omega
        generalize kd o = k at *
        clear h0 h5 h7
        go_enter Try.func50, Try.ntmps50
        go_wp2
        go_ret
        exact ⟨by rw [HW.out]; rfl, Below.refl _ _⟩
end Go.Proofs.Ytffhhegpkejdgaa

/- The contract of codec's take. -/
namespace Go.Proofs.Ytffhhegpkejdgaa
open Go.RowKit

/-- What take answers, and leaves. -/
def TkTo (g : Nat) (t o : List Int) (z : Int) (w : World) (e : Ending) (w' : World) : Prop :=
  e = .returned (.tuple #[.bool (decide ((stq t o z).1 = 0 ∧ kd (stq t o z).2.2 = 9)), .int .i64 (stq t o z).1]) ∧ Below g w w' ∧ ∃ vt vo, Rd w' g vt vo (stq t o z).2.1 (stq t o z).2.2
theorem TkTo.err {g : Nat} {t o : List Int} {z er : Int} {w w' : World} {vt vo : Value} (h : stq t o z = (er, t, o)) (he : er ≠ 0) (hb : Below w.heap.size w w') (st : Rd w g vt vo t o) : TkTo g t o z w (.returned (.tuple #[.bool false, .int .i64 er])) w' := by
  unfold TkTo
  rw [h]
  refine ⟨?_, hb.mono (Nat.le_of_lt st.lt), vt, vo, st.below hb⟩
  rw [decide_eq_false (fun x => he x.1)]
section
variable {w w2 : World} {g k : Nat} {vt vo : Value} {t o : List Int} {row : Option Nat} {ob : Obj}
theorem Rdk.kept2 (h : Rdk w g vt vo t o k) (hg : (w.alloc ob).grownBy w2 row) (hn : row ≠ some g) : (∀ i, w2.frozen? ⟨g, i, none⟩ = false) ∧ w2.cell? ⟨g, 0, none⟩ = some vt ∧ w2.cell? ⟨g, 1, none⟩ = some vo ∧ w2.cell? ⟨g, 2, none⟩ = some (.int .i64 (k : Int)) := by
  have hlt := h.lt
  have hs : (w.alloc ob).heap.size = w.heap.size + 1 := by simp
  have hb : w2.heap[g]? = some (.cells #[vt, vo, .int .i64 (k : Int)] 52) :=
    ((hg.block g (by omega) (fun e => hn e.symm)).trans (heap_alloc_old w ob (r := g) hlt)).trans h.blk
  refine ⟨fun i => by simp [World.frozen?, hb], ?_, ?_, ?_⟩ <;> (simp only [World.cell?, hb]; rfl)
end
theorem chk_lv {z : Int} (h : lvl z = true) : chk [z] = -1 := fst_of_all lvl _ (by intro y hy; simp at hy; subst hy; exact h)
theorem chk_off {z : Int} (h : lvl z = false) : chk [z] = 0 := fst_stop lvl [z] 0 z (Nat.zero_le _) rfl h

set_option maxHeartbeats 800000 in
theorem tak_bad (g : Nat) (vt vo : Value) (t o : List Int) (z : Int) (w : World) (st : Rd w g vt vo t o) (hz : lvl z = false) :
    Calls Try.prog 29 #[.pointer (some ⟨g, 0, none⟩), .int .i64 z] w (TkTo g t o z w) := by
  have HS := Lib.hid st
  have HQ := Lib.hid (stq_bad (t := t) (o := o) hz)
  have HC := Lib.hid (chk_off hz)
  clear st hz
  go_enter Try.func29, Try.ntmps29
  go_wp2_with fail
  refine (check_any _ _ _ [z] _ (Arr.new w .i64 3 [z]).il (by simp)).mono ?_
  rintro e w1 ⟨rfl, rfl⟩
  rw [HC.out]
  go_wp2
  go_ret2
  exact TkTo.err HQ.out (by decide) ((Below.refl _ _).alloc (Nat.le_refl _) _) HS.out

set_option maxHeartbeats 1600000 in
theorem tak_added (g : Nat) (vt vo : Value) (t o : List Int) (z : Int) (w : World) (st : Rd w g vt vo t o) (hz : lvl z = true) (hlt : ∀ y ∈ t, lvl y = true) (ht : t.length ≤ 9999) (h5 : kd o ≤ 5 ∧ 5 ≤ alk t) :
    Calls Try.prog 29 #[.pointer (some ⟨g, 0, none⟩), .int .i64 z] w (TkTo g t o z w) := by
  have HC := Lib.hid (chk_lv hz)
  have HA := Lib.hid (ad_yes h5)
  have HB := Lib.hid ((Below.refl w.heap.size w).alloc (Nat.le_refl _) (.cells #[.int .i64 z] 3))
  have HS := Lib.hid (st.below HB.out)
  have HS0 := Lib.hid st
  have HL1 := Lib.hid (lvl_01 (lst_lvl t hlt))
  have HZ := Lib.hid (lvl_01 hz)
  by_cases h3 : z = lst t
  · have HQ := Lib.hid (stq_six hz h5.1 h5.2 h3)
    have hq : (z != 1 - lst t) = true := by rw [h3]; have := HL1.out; simp; omega
    clear st h5 h3 hz
    go_enter Try.func29, Try.ntmps29
    go_wp2_with fail
    refine (check_any _ _ _ [z] _ (Arr.new w .i64 3 [z]).il (by simp)).mono ?_
    rintro e w1 ⟨rfl, rfl⟩
    rw [HC.out]
    go_wp2_with fail
    refine (added_any g vt vo t o _ HS.out hlt (by omega)).mono ?_
    rintro e w1 ⟨rfl, hb1⟩
    rw [HA.out.1, HA.out.2]
    have HB1 := Lib.hid (nxt HB.out hb1)
    generalize 1 - lst t = x at *
    clear hb1
    go_wp2
    go_ret2
    exact TkTo.err HQ.out (by decide) HB1.out HS0.out
  · have HQ := Lib.hid (stq_add hz h5.1 h5.2 h3)
    have hq : (z != 1 - lst t) = false := by have := HL1.out; have := HZ.out; simp; omega
    have H9 := Lib.hid (show ¬ kd o = 9 by omega)
    clear st h5 h3 hz
    go_enter Try.func29, Try.ntmps29
    go_wp2_with fail
    refine (check_any _ _ _ [z] _ (Arr.new w .i64 3 [z]).il (by simp)).mono ?_
    rintro e w1 ⟨rfl, rfl⟩
    rw [HC.out]
    go_wp2_with fail
    refine (added_any g vt vo t o _ HS.out hlt (by omega)).mono ?_
    rintro e w1 ⟨rfl, hb1⟩
    rw [HA.out.1, HA.out.2]
    have HB1 := Lib.hid (nxt HB.out hb1)
    have S1 := HS.out.below hb1
    have HS1 := Lib.hid S1
    have c0 := S1.c0
    have fz := S1.fz 0
    have hlg := S1.lt
    have HBG := Lib.hid (HB1.out.mono (Nat.le_of_lt HS0.out.lt))
    generalize 1 - lst t = x at *
    clear hb1 S1 HS HS0 HB
    go_wp2_with (first | (at_builtin; (refine append_ints2 _ rfl (.tmp 27) (.tmp 29) rfl g vt t rfl (HS1.out.ot.alloc _) _ 1 1 [z] rfl (Arr.new w1 .i64 3 [z]).il (by omega) (by simp; omega) ?_); intro v2 w2 ho2 hg2 hl2; have HS2 := Lib.hid (HS1.out.pushT ho2 hg2 hl2); have HB2 := Lib.hid (push_below (i := 0) (x := v2) HBG.out (Nat.le_of_lt hlg) HS1.out.ot hg2); (obtain ⟨f2, k0, k1, k2⟩ := HS1.out.kept2 hg2 HS1.out.nt); (obtain ⟨A2, cap2, rfl, hi2, _⟩ := ho2.il2); clear ho2 hl2 hg2 hi2; generalize (t ++ [z]).length = n2 at *; have fz2 := f2 0; clear f2 c0 fz k1 k2) | fail)
    go_ret2
    refine ⟨?_, HB2.out, .slice A2 n2 cap2, vo, ?_⟩
    · rw [HQ.out, decide_eq_false (fun x => H9.out x.2)]; rfl
    · rw [HQ.out]; exact HS2.out

theorem Own.il3 {w : World} {base : Nat} {A : Option Addr} {n cap : Nat} {zs : List Int} (h : Own w base (.slice A n cap) zs) : Il w A n zs := by
  obtain ⟨A', cap', e, hi⟩ := h.il
  injection e with e1 e2 _
  rw [e1, e2]; exact hi
theorem lit_set (w : World) (g i : Nat) (x : Value) (z : Int) : Il ((w.setCell ⟨g, i, none⟩ x).alloc (.cells #[.int .i64 z] 3)) (some ⟨w.heap.size, 0, none⟩) 1 [z] := by
  have h := (Arr.new (w.setCell ⟨g, i, none⟩ x) .i64 3 [z]).il
  rwa [World.size_setCell] at h

set_option maxHeartbeats 3200000 in
theorem tak_own (g : Nat) (vt vo : Value) (t o : List Int) (z : Int) (w : World) (st : Rd w g vt vo t o) (hz : lvl z = true) (hlt : ∀ y ∈ t, lvl y = true) (hlo : ∀ y ∈ o, lvl y = true) (ht : t.length ≤ 9999) (ho : o.length ≤ 9999) (hk : kd o < 9) (h5 : ¬ (kd o ≤ 5 ∧ 5 ≤ alk t)) :
    Calls Try.prog 29 #[.pointer (some ⟨g, 0, none⟩), .int .i64 z] w (TkTo g t o z w) := by
  have HC := Lib.hid (chk_lv hz)
  have HA := Lib.hid (ad_no h5)
  have HB := Lib.hid ((Below.refl w.heap.size w).alloc (Nat.le_refl _) (.cells #[.int .i64 z] 3))
  have HS := Lib.hid (st.below HB.out)
  have HS0 := Lib.hid st
  have HV := Lib.hid hlo
  have HVP := Lib.hid (all_push hlo hz)
  have HO := Lib.hid ho
  have HQW := Lib.hid (fun h => stq_wr hz h5 h)
  have HQO := Lib.hid (fun h => stq_own hz h5 h)
  have HN := Lib.hid (nout_kd (z := z) hk)
  clear st h5 hz hlo ho
  go_enter Try.func29, Try.ntmps29
  go_wp2_with fail
  refine (check_any _ _ _ [z] _ (Arr.new w .i64 3 [z]).il (by simp)).mono ?_
  rintro e w1 ⟨rfl, rfl⟩
  rw [HC.out]
  go_wp2_with fail
  refine (added_any g vt vo t o _ HS.out hlt (by omega)).mono ?_
  rintro e w1 ⟨rfl, hb1⟩
  rw [HA.out.1, HA.out.2]
  have HB1 := Lib.hid (nxt HB.out hb1)
  have HS1 := Lib.hid (HS.out.below hb1)
  clear hb1 HS HB
  go_wp2_with fail
  refine (wrong_any g vt vo t o z _ HS1.out HV.out (by have := HO.out; omega)).mono ?_
  rintro e w2 ⟨rfl, hb2⟩
  have HB2 := Lib.hid (nxt HB1.out hb2)
  have S2 := HS1.out.below hb2
  have HS2 := Lib.hid S2
  have hlg := S2.lt
  have HBG := Lib.hid (HB2.out.mono (Nat.le_of_lt HS0.out.lt))
  by_cases hw : wr o z = 0
  · rw [hw]
    have HQ := Lib.hid (HQO.out hw)
    have c0 := S2.c0
    have fz := S2.fz 0
    clear hb2 S2 HS1 HB1 HQW HQO hw HS0
    go_wp2_with (first | (at_builtin; (refine append_ints2 _ rfl (.tmp 43) (.tmp 45) rfl g vt t rfl (HS2.out.ot.alloc _) _ 1 1 [z] rfl (Arr.new w2 .i64 3 [z]).il (by omega) (by simp; omega) ?_); intro v3 w3 ho3 hg3 hl3; have HS3 := Lib.hid (HS2.out.pushT ho3 hg3 hl3); have HB3 := Lib.hid (push_below (i := 0) (x := v3) HBG.out (Nat.le_of_lt hlg) HS2.out.ot hg3); (obtain ⟨f3, k0, k1, k2⟩ := HS2.out.kept2 hg3 HS2.out.nt); (obtain ⟨A3, cap3, rfl, hi3, _⟩ := ho3.il2); clear ho3 hl3 hg3 hi3; generalize (t ++ [z]).length = n3 at *; have fz3 := f3 0; have m1 := HS3.out.c1; clear f3 c0 fz k1 k2) | (at_builtin; (refine append_ints2 _ rfl (.tmp 53) (.tmp 55) rfl g vo o rfl (HS3.out.oo.alloc _) _ 1 1 [z] rfl (lit_set w3 g 0 _ z) (by have := HO.out; omega) (by have := HS3.out.lt; simp at this ⊢; omega) ?_); intro v4 w4 ho4 hg4 hl4; have HS4 := Lib.hid (HS3.out.pushO ho4 hg4 hl4); have HB4 := Lib.hid (push_below (i := 1) (x := v4) HB3.out (Nat.le_of_lt HS3.out.lt) HS3.out.oo hg4); (obtain ⟨f4, l0, l1, l2⟩ := HS3.out.kept2 hg4 HS3.out.no); (obtain ⟨A4, cap4, rfl, hi4, hc4⟩ := ho4.il2); clear ho4 hl4 hg4 hi4; have fz4 := f4 1; have p1 := HS4.out.c1; clear f4 l0 l2 m1) | fail)
    rw [List.length_append, List.length_singleton] at HS4 HB4 hc4
    clear p1 fz4 l1 fz3 k0
    generalize w4.setCell ⟨g, 1, none⟩ (.slice A4 (o.length + 1) cap4) = w5 at *
    refine (next_any_row A4 (o.length + 1) cap4 (o ++ [z]) _ HS4.out.oo.il3 (by have := HO.out; omega) hc4 HVP.out).mono ?_
    rintro e w6 ⟨rfl, hb6⟩
    obtain ⟨p, hp⟩ := HN.out
    rw [hp]
    have S6 := HS4.out.below hb6
    have HB6 := Lib.hid (HB4.out.trans (hb6.mono (Nat.le_of_lt HS4.out.lt)))
    have HS7 := Lib.hid (S6.setK (kd (o ++ [z])))
    have c2 := S6.c2
    have f2 := S6.fz 2
    have HB7 := Lib.hid (HB6.out.setCell (p := ⟨g, 2, none⟩) (Nat.le_refl g) (.int .i64 ((kd (o ++ [z]) : Nat) : Int)))
    obtain ⟨k', hk'⟩ : ∃ k', kd (o ++ [z]) = k' := ⟨_, rfl⟩
    have HK' := Lib.hid hk'
    rw [hk'] at HS7 HB7 ⊢
    clear hk' hp hb6 S6 HS4 HB4 hc4
    go_wp2
    go_ret2
    refine ⟨?_, HB7.out, .slice A3 n3 cap3, .slice A4 (o.length + 1) cap4, ?_⟩
    · rw [HQ.out, HK'.out]
      have : ((k' : Int) == 9) = decide ((0 : Int) = 0 ∧ k' = 9) := by
        by_cases h : k' = 9
        · subst h; rfl
        · rw [decide_eq_false (fun x => h x.2)]; simp; omega
      rw [← this]; rfl
    · rw [HQ.out]
      show Rdk _ _ _ _ _ _ (kd (o ++ [z]))
      rw [HK'.out]; exact HS7.out
  · have HQ := Lib.hid (HQW.out hw)
    have hq : (wr o z != 0) = true := by simpa using hw
    have HW := Lib.hid hw
    generalize wr o z = x at *
    clear hb2 S2 HS1 HB1 HQW HQO hw
    go_wp2
    go_ret2
    exact TkTo.err HQ.out HW.out HB2.out HS0.out

/-- What take does with any number. -/
theorem tak_any (g : Nat) (vt vo : Value) (t o : List Int) (z : Int) (w : World) (st : Rd w g vt vo t o) (hlt : ∀ y ∈ t, lvl y = true) (hlo : ∀ y ∈ o, lvl y = true) (ht : t.length ≤ 9999) (ho : o.length ≤ 9999) (hk : kd o < 9) :
    Calls Try.prog 29 #[.pointer (some ⟨g, 0, none⟩), .int .i64 z] w (TkTo g t o z w) := by
  cases hz : lvl z with
  | false => exact tak_bad g vt vo t o z w st hz
  | true =>
    by_cases h5 : kd o ≤ 5 ∧ 5 ≤ alk t
    · exact tak_added g vt vo t o z w st hz hlt ht h5
    · exact tak_own g vt vo t o z w st hz hlt hlo ht ho hk h5
end Go.Proofs.Ytffhhegpkejdgaa

/- The contracts of codec's goThrough and Decode. -/
namespace Go.Proofs.Ytffhhegpkejdgaa
open Go.RowKit

/-- What goThrough answers, and leaves. -/
def GoTo (g : Nat) (zs : List Int) (w : World) (e : Ending) (w' : World) : Prop :=
  e = .returned (.tuple #[.int .i64 (dN zs : Nat), .int .i64 (dE zs)]) ∧ Below g w w' ∧ ∃ vt vo t, Rd w' g vt vo t (dO zs)
theorem GoTo.of {g : Nat} {zs : List Int} {w w' : World} {er : Int} {n : Nat} {o t : List Int} {vt vo : Value} (h : dcd zs 0 [] [] = (er, n, o)) (hb : Below g w w') (st : Rd w' g vt vo t o) :
    GoTo g zs w (.returned (.tuple #[.int .i64 (n : Nat), .int .i64 er])) w' := by
  have h1 : dE zs = er := by unfold dE; rw [h]
  have h2 : dN zs = n := by unfold dN; rw [h]
  have h3 : dO zs = o := by unfold dO; rw [h]
  unfold GoTo
  rw [h1, h2, h3]
  exact ⟨rfl, hb, vt, vo, t, st⟩
theorem drop_cons {zs : List Int} {k : Nat} {z : Int} (h : zs[k]? = some z) : zs.drop k = z :: zs.drop (k + 1) := by
  obtain ⟨hk, e⟩ := List.getElem?_eq_some_iff.1 h
  rw [List.drop_eq_getElem_cons hk, e]
/-- What the loop has behind k rounds. -/
structure Gone (zs : List Int) (k : Nat) (t o : List Int) : Prop where
  dc : dcd (zs.drop k) k t o = dcd zs 0 [] []
  kd9 : kd o < 9
  lt : ∀ y ∈ t, lvl y = true
  lo : ∀ y ∈ o, lvl y = true
  lent : t.length ≤ k
  leno : o.length ≤ k
theorem Gone.start (zs : List Int) : Gone zs 0 [] [] := ⟨by rw [List.drop_zero], by rw [kd_nil]; omega, by simp, by simp, by simp, by simp⟩
section
variable {zs t o t' o' : List Int} {k : Nat} {z : Int}
theorem Gone.err (h : Gone zs k t o) (hz : zs[k]? = some z) (he : (stq t o z).1 ≠ 0) : dcd zs 0 [] [] = ((stq t o z).1, k, o) := by rw [← h.dc, drop_cons hz, dcd_err he]
theorem Gone.fin (h : Gone zs k t o) (hz : zs[k]? = some z) (hs : stq t o z = (0, t', o')) (h9 : kd o' = 9) : dcd zs 0 [] [] = (0, k + 1, o') := by rw [← h.dc, drop_cons hz, dcd_end hs h9]
theorem Gone.next (h : Gone zs k t o) (hz : zs[k]? = some z) (hs : stq t o z = (0, t', o')) (h9 : ¬ kd o' = 9) : Gone zs (k + 1) t' o' := by
  have e : dcd (zs.drop (k + 1)) (k + 1) t' o' = dcd zs 0 [] [] := by rw [← h.dc, drop_cons hz, dcd_go hs h9]
  have hk9 := kd_le o'
  have ht := h.lent; have ho := h.leno
  rcases stq_cases t o z with ⟨h1, _, _⟩ | ⟨hl, _, e2⟩ | ⟨hl, _, e2⟩
  · rw [hs] at h1; exact absurd rfl h1
  · rw [hs] at e2
    injection e2 with _ e2
    injection e2 with e3 e4
    subst e3 e4
    exact ⟨e, by omega, all_push h.lt hl, h.lo, by simp; omega, by omega⟩
  · rw [hs] at e2
    injection e2 with _ e2
    injection e2 with e3 e4
    subst e3 e4
    exact ⟨e, by omega, all_push h.lt hl, all_push h.lo hl, by simp; omega, by simp; omega⟩
theorem Gone.last (h : Gone zs k t o) (hk : zs.length ≤ k) : dcd zs 0 [] [] = (13, k, o) := by rw [← h.dc, List.drop_eq_nil_of_le hk]; rfl
end

set_option maxHeartbeats 1600000 in
theorem gothrough_any (A : Option Addr) (n cap : Nat) (zs : List Int) (w0 w : World) (g : Nat) (hr : Il w0 A n zs) (hn : n ≤ 9000) (hb : Below w0.heap.size w0 w) (hg : w0.heap.size ≤ g) (st : Rd w g (.slice none 0 0) (.slice none 0 0) [] []) :
    Calls Try.prog 28 #[.slice A n cap, .func (.func 29) #[.pointer (some ⟨g, 0, none⟩)] #[]] w (GoTo g zs w) := by
  have HR := Lib.hid hr; have HB := Lib.hid hb; have HS := Lib.hid st; have HG := Lib.hid hg
  have HLN := Lib.hid hr.1
  clear hr hb st hg
  go_enter Try.func28, Try.ntmps28
  go_wp2
  go_loopw [12] (fun i wr => ∃ (k : Nat) (t o : List Int) (vt vo : Value), k ≤ n ∧ i = .int .i64 k ∧ Gone zs k t o ∧ Rd wr g vt vo t o ∧ Below g w wr) (fun i _ => n - (intOf i).toNat)
  case atStart => exact ⟨0, [], [], _, _, Nat.zero_le _, rfl, Gone.start zs, HS.out, Below.refl _ _⟩
  case round =>
    obtain ⟨k, t, o, vt, vo, hk, rfl, hgo, hst, hbel⟩ := hrel
    have HGO := Lib.hid hgo; have HST := Lib.hid hst; have HBL := Lib.hid hbel
    have HB0 := Lib.hid (HB.out.trans (hbel.mono HG.out))
    clear hgo hst hbel
    by_cases hlt : k < n
    · obtain ⟨ad, z, rfl, hz, hc⟩ := (HR.out.below HB0.out).at_ hlt
      have HZ := Lib.hid hz
      clear hz
      go_wp2_with fail
      refine (tak_any g vt vo t o z _ HST.out HGO.out.lt HGO.out.lo (by have := HGO.out.lent; omega) (by have := HGO.out.leno; omega) HGO.out.kd9).mono ?_
      rintro e w2 ⟨rfl, hb2, vt2, vo2, st2⟩
      have HB2 := Lib.hid (HBL.out.trans hb2)
      have HS2 := Lib.hid st2
      have HCS := Lib.hid (stq_cases t o z)
      clear hb2 st2 hc
      rcases HCS.out with ⟨h1, _, h3⟩ | hok
      · rw [decide_eq_false (fun x => h1 x.1)]
        have HE := Lib.hid (HGO.out.err HZ.out h1)
        rw [h3] at HS2
        have hq : ((stq t o z).1 != 0) = true := by simpa using h1
        generalize (stq t o z).1 = er at *
        clear h1 h3 HCS
        go_wp2
        go_ret2
        exact GoTo.of HE.out HB2.out HS2.out
      · obtain ⟨t', o', hs⟩ : ∃ t' o', stq t o z = (0, t', o') := by
          rcases hok with ⟨_, _, h⟩ | ⟨_, _, h⟩
          · exact ⟨_, _, h⟩
          · exact ⟨_, _, h⟩
        rw [hs] at HS2 ⊢
        have HSQ := Lib.hid hs
        clear hs hok HCS
        by_cases h9 : kd o' = 9
        · rw [decide_eq_true (⟨rfl, h9⟩ : (0 : Int) = 0 ∧ kd o' = 9)]
          have HE := Lib.hid (HGO.out.fin HZ.out HSQ.out h9)
          clear h9
          go_wp2
          go_ret2
          exact GoTo.of HE.out HB2.out HS2.out
        · rw [decide_eq_false (fun x => h9 x.2)]
          have HE := Lib.hid (HGO.out.next HZ.out HSQ.out h9)
          clear h9
          go_wp2
          go_roundw
          case rel => exact ⟨k + 1, t', o', vt2, vo2, by omega, by go_num, HE.out, HS2.out, HB2.out⟩
          case measure => simp [intOf]; omega
    · have HE := Lib.hid (HGO.out.last (by rw [HLN.out]; omega))
      have hkn : k = n := by omega
      subst hkn
      go_wp2
      go_ret2
      exact GoTo.of HE.out HBL.out HST.out

theorem rd_new (w : World) : Rd (w.alloc (.cells #[.slice none 0 0, .slice none 0 0, .int .i64 0] 52)) w.heap.size (.slice none 0 0) (.slice none 0 0) [] [] :=
  ⟨by rw [kd_nil]; exact heap_alloc_new w _, Own.nil _ _, Own.nil _ _, .inl rfl, by simp [Value.ownBlock], by simp [Value.ownBlock]⟩

theorem rd_two (w : World) : Rd ((w.alloc (.cells Fr.zero.cells 24)).alloc (.cells #[.slice none 0 0, .slice none 0 0, .int .i64 0] 52)) (w.heap.size + 1) (.slice none 0 0) (.slice none 0 0) [] [] := by
  have h := rd_new (w.alloc (.cells Fr.zero.cells 24))
  rwa [show (w.alloc (.cells Fr.zero.cells 24)).heap.size = w.heap.size + 1 by simp] at h
theorem rd_two_fb (w : World) : Fb ((w.alloc (.cells Fr.zero.cells 24)).alloc (.cells #[.slice none 0 0, .slice none 0 0, .int .i64 0] 52)) w.heap.size Fr.zero :=
  (fb_new w Fr.zero).below (B := w.heap.size + 1) ((Below.refl _ _).alloc (by simp) _) (by omega)
theorem results_ctt {fn : Func} {p u v : Tmp} {ty : TypeId} (h : fn.results = #[.cell p ty, .tmp u, .tmp v]) (tmps : Array Value) (P : Program) (w : World) :
    (results fn tmps).run P w =
      ((asAddr (tmps.getD p undef)).run P w).andThen fun a w₁ => ((loadVar ty a).run P w₁).andThen fun x w₂ => .ok (.tuple #[x, tmps.getD u undef, tmps.getD v undef]) w₂ := by
  simp only [results, h]
  simp [Sem.run_bind, Result.andThen]
/-- What Decode answers. -/
abbrev dV (zs : List Int) : Value := .tuple #[(dF zs).val, .int .i64 (dN zs : Nat), .int .i64 (dE zs)]

set_option maxHeartbeats 1600000 in
theorem decode_any (A : Option Addr) (n cap : Nat) (zs : List Int) (w : World) (hr : Il w A n zs) (hn : n ≤ 9000) :
    Calls Try.prog 17 #[.slice A n cap] w fun e w' => e = .returned (dV zs) ∧ Below w.heap.size w w' := by
  have hmf : ∀ (fn : Fn) (first cap : Array Value) (w : World), (Instr.makeFunc fn first cap).run Try.prog w = .ok (.func fn first cap) w := fun _ _ _ _ => rfl
  have HR := Lib.hid hr
  have HF0 := Lib.hid (fb_new w Fr.zero)
  have HB0 := Lib.hid ((Below.refl w.heap.size w).alloc (Nat.le_refl _) (.cells Fr.zero.cells 24))
  have HS0 := Lib.hid (show (w.alloc (.cells Fr.zero.cells 24)).heap.size = w.heap.size + 1 by simp)
  clear hr
  go_enter Try.func17, Try.ntmps17
  go_wp2_with fail
  refine (gothrough_any A n cap zs w _ (w.heap.size + 1) HR.out hn (alloc2 w (.cells Fr.zero.cells 24) _) (Nat.le_succ _) (rd_two w)).mono ?_
  rintro e w2 ⟨rfl, hb2, vt, vo, t, st⟩
  have F2 : Fb w2 w.heap.size Fr.zero := (rd_two_fb w).below hb2 (Nat.lt_succ_self _)
  have HB2 := Lib.hid ((alloc2 w (.cells Fr.zero.cells 24) (.cells #[.slice none 0 0, .slice none 0 0, .int .i64 0] 52)).trans (hb2.mono (Nat.le_succ _)))
  have HF2 := Lib.hid F2
  by_cases h0 : dE zs = 0
  · have HD := Lib.hid (show dF zs = frm (dO zs) from if_pos h0)
    have HW := Lib.hid (d_whole h0)
    have HE := Lib.hid h0
    obtain ⟨A', cap', rfl, hi, hc⟩ := st.oo.il2
    have HI := Lib.hid hi
    have c1 := st.c1
    have HL := Lib.hid (show (dO zs).length ≤ 200 by have h1 := HW.out.len; rw [sumW_hW] at h1; have := ahead_le (dO zs); omega)
    rw [h0]
    clear h0 hb2 F2 hi st HF0 HB0 HS0
    generalize (dO zs).length = m at *
    go_wp2_with fail
    refine (frame_any A' m cap' (dO zs) _ HI.out (by have := HL.out; omega) hc HW.out.lev).mono ?_
    rintro e w3 ⟨rfl, hb3⟩
    rw [whole_fout HW.out]
    have F3 := HF2.out.below hb3 HF2.out.lt
    have HF3 := Lib.hid F3
    have HB3 := Lib.hid (nxt HB2.out hb3)
    have hl3 := F3.lt
    have fz := fun i => F3.frozen i
    obtain ⟨c0, c1, c2, c3, c4, c5, c6, c7, c8, c9, c10, c11⟩ := F3.bx
    have hne : w3.heap.size ≠ w.heap.size := by omega
    generalize frm (dO zs) = f at *
    obtain ⟨k, hkn⟩ : ∃ k, dN zs = k := ⟨_, rfl⟩
    have HKN := Lib.hid hkn
    rw [hkn]
    clear hkn
    clear hb3 F3
    go_wp2
    refine bodyPost_ret (v := .tuple #[f.val, .int .i64 (k : Nat), .int .i64 0]) (by rw [results_ctt rfl]; go_simp) rfl ⟨by unfold dV; rw [HD.out, HE.out, HKN.out], ?_⟩
    exact (set12 HB3.out (Nat.le_refl _) _ _ _ _ _ _ _ _ _ _ _ _).alloc (by simp only [World.size_setCell]; omega) _
  · have HD := Lib.hid (show dF zs = Fr.zero from if_neg h0)
    have hq : (dE zs != 0) = true := by simpa using h0
    have fz := fun i => F2.frozen i
    obtain ⟨c0, c1, c2, c3, c4, c5, c6, c7, c8, c9, c10, c11⟩ := F2.bx
    obtain ⟨er, her⟩ : ∃ er, dE zs = er := ⟨_, rfl⟩
    have HEE := Lib.hid her
    rw [her] at hq ⊢
    clear her
    obtain ⟨k, hkn⟩ : ∃ k, dN zs = k := ⟨_, rfl⟩
    have HKN := Lib.hid hkn
    rw [hkn]
    clear hkn
    clear h0 hb2 F2 st HF0 HB0 HS0
    go_wp2
    refine bodyPost_ret (v := .tuple #[Fr.zero.val, .int .i64 (k : Nat), .int .i64 er]) (by rw [results_ctt rfl]; go_simp; decide) rfl ⟨by unfold dV; rw [HD.out, HKN.out, HEE.out], ?_⟩
    exact set12 HB2.out (Nat.le_refl _) _ _ _ _ _ _ _ _ _ _ _ _
end Go.Proofs.Ytffhhegpkejdgaa

