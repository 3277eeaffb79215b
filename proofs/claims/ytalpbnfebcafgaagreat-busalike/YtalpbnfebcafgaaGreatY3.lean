/- The contracts of a node's small ways: tell, enter, passive. -/
import Derived.Test.YtalpbnfebcafgaaGreatY2
namespace Go.Proofs.YtalpbnfebcafgaaGreat
set_option maxRecDepth 20000
open Go.RowKit
set_option linter.unusedSimpArgs false

theorem tl_same {l n z : Int} (h : z = l) : tlN l n z = n + 1 := if_pos h
theorem tl_other {l n z : Int} (h : ¬ z = l) : tlN l n z = 1 := if_neg h

set_option maxHeartbeats 400000 in
theorem tell_seen {w : World} {B : Nat} {p : NP} {n : Nd} (hl : Lay w B p n) (z : Int) (h0 : 0 ≤ n.sn) (h1 : n.sn ≤ 4000000) :
    Calls Tryz.prog 110 #[.pointer (some ⟨p.g, 1, none⟩), .int .i64 z] w fun e w' => e = .returned (.int .i64 (tlN n.sl n.sn z)) ∧ Lay w' B p (n.see z) ∧ Only p.g w w' := by
  have HL := Lib.hid hl
  have c1 := hl.c1
  have c2 := hl.c2
  have f1 := hl.fz 1
  have f2 := hl.fz 2
  have d2 : (((w.setCell ⟨p.g, 1, none⟩ (.int .i64 z)).setCell ⟨p.g, 2, none⟩ (.int .i64 0)).setCell ⟨p.g, 2, none⟩ (.int .i64 1)).cell? ⟨p.g, 2, none⟩ = some (.int .i64 1) := cell_of_row _ p.g 2 _ _ (0, 0) (cells_set (cells_set (cells_set hl.blk)))
  clear hl
  by_cases hz : z = n.sl
  · have HT := Lib.hid (show tlN n.sl n.sn z = n.sn + 1 from tl_same hz)
    have HZ := Lib.hid hz
    subst hz
    go_enter Tryz.func110, Tryz.ntmps110
    go_wp2
    go_ret
    refine ⟨ret_int HT.out.symm, ?_⟩
    have ho : Only p.g w (w.setCell ⟨p.g, 2, none⟩ (.int .i64 (n.sn + 1))) := (Only.refl _ _).set
    refine ⟨HL.out.turn ho ?_ rfl rfl rfl, ho⟩
    unfold Nd.see
    rw [HT.out]
    exact cells_set HL.out.blk
  · have HT := Lib.hid (show tlN n.sl n.sn z = 1 from tl_other hz)
    go_enter Tryz.func110, Tryz.ntmps110
    go_wp2
    go_ret
    refine ⟨ret_int HT.out.symm, ?_⟩
    have ho : Only p.g w (((w.setCell ⟨p.g, 1, none⟩ (.int .i64 z)).setCell ⟨p.g, 2, none⟩ (.int .i64 0)).setCell ⟨p.g, 2, none⟩ (.int .i64 1)) := (Only.refl _ _).set.set.set
    refine ⟨HL.out.turn ho ?_ rfl rfl rfl, ho⟩
    unfold Nd.see
    rw [HT.out]
    exact cells_set (cells_set (cells_set HL.out.blk))
set_option maxHeartbeats 400000 in
theorem tell_same {w : World} {B : Nat} {p : NP} {n : Nd} (hl : Lay w B p n) (z : Int) (h0 : 0 ≤ n.bn) (h1 : n.bn ≤ 4000000) :
    Calls Tryz.prog 110 #[.pointer (some ⟨p.g, 9, none⟩), .int .i64 z] w fun e w' => e = .returned (.int .i64 (tlN n.bl n.bn z)) ∧ Lay w' B p (n.told z) ∧ Only p.g w w' := by
  have HL := Lib.hid hl
  have c1 := hl.c9
  have c2 := hl.c10
  have f1 := hl.fz 9
  have f2 := hl.fz 10
  have d2 : (((w.setCell ⟨p.g, 9, none⟩ (.int .i64 z)).setCell ⟨p.g, 10, none⟩ (.int .i64 0)).setCell ⟨p.g, 10, none⟩ (.int .i64 1)).cell? ⟨p.g, 10, none⟩ = some (.int .i64 1) := cell_of_row _ p.g 10 _ _ (0, 0) (cells_set (cells_set (cells_set hl.blk)))
  clear hl
  by_cases hz : z = n.bl
  · have HT := Lib.hid (show tlN n.bl n.bn z = n.bn + 1 from tl_same hz)
    have HZ := Lib.hid hz
    subst hz
    go_enter Tryz.func110, Tryz.ntmps110
    go_wp2
    go_ret
    refine ⟨ret_int HT.out.symm, ?_⟩
    have ho : Only p.g w (w.setCell ⟨p.g, 10, none⟩ (.int .i64 (n.bn + 1))) := (Only.refl _ _).set
    refine ⟨HL.out.turn ho ?_ rfl rfl rfl, ho⟩
    unfold Nd.told
    rw [HT.out]
    exact cells_set HL.out.blk
  · have HT := Lib.hid (show tlN n.bl n.bn z = 1 from tl_other hz)
    go_enter Tryz.func110, Tryz.ntmps110
    go_wp2
    go_ret
    refine ⟨ret_int HT.out.symm, ?_⟩
    have ho : Only p.g w (((w.setCell ⟨p.g, 9, none⟩ (.int .i64 z)).setCell ⟨p.g, 10, none⟩ (.int .i64 0)).setCell ⟨p.g, 10, none⟩ (.int .i64 1)) := (Only.refl _ _).set.set.set
    refine ⟨HL.out.turn ho ?_ rfl rfl rfl, ho⟩
    unfold Nd.told
    rw [HT.out]
    exact cells_set (cells_set (cells_set HL.out.blk))

theorem evt_any (k : Int) (w : World) : Calls Tryz.prog 107 #[.int .i64 k] w fun e w' => ∃ u, e = .returned u ∧ Eown w' w.heap.size u [ev k] ∧ Below w.heap.size w w' := by
  go_enter Tryz.func107, Tryz.ntmps107
  go_wp2
  go_ret
  exact ⟨_, rfl, Eown.lit w _ [ev k] (Nat.le_refl _) (by simp), (Below.refl _ _).alloc (Nat.le_refl _) _⟩

set_option maxHeartbeats 1000000 in
theorem enter_any {w : World} {B : Nat} {p : NP} {n : Nd} (hl : Lay w B p n) (m : Int) :
    Calls Tryz.prog 103 #[.pointer (some ⟨p.g, 0, none⟩), .int .i64 m] w fun e w' => e = .returned (.tuple #[]) ∧ Lay w' B { p with vo := .slice none 0 0, vl := .slice none 0 0 } (n.enter m) ∧ Only p.g w w' := by
  have HL := Lib.hid hl
  have fz := fun i => hl.fz i
  have c0 := hl.c0
  have c1 := hl.c1
  have c2 := hl.c2
  have c3 := hl.c3
  have c4 := hl.c4
  have c5 := hl.c5
  have c6 := hl.c6
  have c7 := hl.c7
  have c8 := hl.c8
  have c9 := hl.c9
  have c10 := hl.c10
  have c11 := hl.c11
  have c12 := hl.c12
  have c13 := hl.c13
  have c14 := hl.c14
  have c15 := hl.c15
  have c16 := hl.c16
  have c17 := hl.c17
  have c18 := hl.c18
  have c19 := hl.c19
  have c20 := hl.c20
  have c21 := hl.c21
  have c22 := hl.c22
  have c23 := hl.c23
  clear hl
  go_enter Tryz.func103, Tryz.ntmps103
  go_wp2
  go_end0
  refine ⟨rfl, HL.out.clear ?_ ?_ rfl rfl rfl, ?_⟩
  · repeat apply Only.set
    exact Only.refl _ _
  · apply cells_to
    · repeat apply cells_set
      exact HL.out.blk
    · simp only [List.setIfInBounds_toArray, List.set_cons_zero, List.set_cons_succ, Nd.enter]
      rfl
  · repeat apply Only.set
    exact Only.refl _ _

/-- A call tells events, and leaves a node. -/
def Res (B : Nat) (p : NP) (w : World) (r : List Ev × Nd) (e : Ending) (w' : World) : Prop :=
  ∃ u vo vl vq, e = .returned u ∧ Eown w' w.heap.size u r.1 ∧ Lay w' B ⟨p.g, p.gq, vo, vl, vq⟩ r.2 ∧ Moves p.fp (NP.fp ⟨p.g, p.gq, vo, vl, vq⟩) w w'
/-- A call leaves a node. -/
def Nor (B : Nat) (p : NP) (w : World) (n' : Nd) (e : Ending) (w' : World) : Prop :=
  ∃ vo vl vq, e = .returned (.tuple #[]) ∧ Lay w' B ⟨p.g, p.gq, vo, vl, vq⟩ n' ∧ Moves p.fp (NP.fp ⟨p.g, p.gq, vo, vl, vq⟩) w w'
theorem enter_nor {w : World} {B : Nat} {p : NP} {n : Nd} (hl : Lay w B p n) (m : Int) : Calls Tryz.prog 103 #[.pointer (some ⟨p.g, 0, none⟩), .int .i64 m] w (Nor B p w (n.enter m)) :=
  (enter_any hl m).mono fun _ _ ⟨h1, h2, h3⟩ => ⟨_, _, _, h1, h2, (NP.moves p h3).less p.fp_clear⟩

set_option maxHeartbeats 400000 in
theorem passive_any {w : World} {B : Nat} {p : NP} {n : Nd} (hl : Lay w B p n) :
    Calls Tryz.prog 114 #[.pointer (some ⟨p.g, 0, none⟩)] w fun e w' => e = .returned (.bool n.pas) ∧ Below w.heap.size w w' := by
  have c25 := hl.c25
  have c26 := hl.c26
  have c27 := hl.c27
  clear hl
  go_enter Tryz.func114, Tryz.ntmps114
  go_wp2_with fail
  refine (state_any n.ct _).mono ?_
  rintro e w1 ⟨rfl, hb1⟩
  have HB := Lib.hid hb1
  clear hb1
  go_wp2
  go_ret
  exact ⟨rfl, HB.out⟩
end Go.Proofs.YtalpbnfebcafgaaGreat

/- The contracts of countAsItIs, failUncounted, fail, overload. -/
namespace Go.Proofs.YtalpbnfebcafgaaGreat
set_option maxRecDepth 20000
open Go.RowKit
set_option linter.unusedSimpArgs false

theorem Lay.put_ct {w w1 : World} {B : Nat} {p : NP} {n : Nd} (hl : Lay w1 B p n) (d : Ct) (_hw : w = w1) :
    Lay (((w1.setCell ⟨p.g, 25, none⟩ (.int .i64 d.t)).setCell ⟨p.g, 26, none⟩ (.int .i64 d.r)).setCell ⟨p.g, 27, none⟩ (.bool d.o)) B p { n with ct := d } ∧
    Only p.g w1 (((w1.setCell ⟨p.g, 25, none⟩ (.int .i64 d.t)).setCell ⟨p.g, 26, none⟩ (.int .i64 d.r)).setCell ⟨p.g, 27, none⟩ (.bool d.o)) := by
  have ho : Only p.g w1 (((w1.setCell ⟨p.g, 25, none⟩ (.int .i64 d.t)).setCell ⟨p.g, 26, none⟩ (.int .i64 d.r)).setCell ⟨p.g, 27, none⟩ (.bool d.o)) := (Only.refl _ _).set.set.set
  refine ⟨hl.turn ho ?_ rfl rfl rfl, ho⟩
  exact cells_set (cells_set (cells_set hl.blk))
theorem casE_off {n : Nd} {x : Int} (h : (n.cnt x).ct.st = 2) : n.casE x = [ev 10] ∧ n.casN x = (n.cnt x).enter 10 := ⟨if_pos h, if_pos h⟩
theorem casE_on {n : Nd} {x : Int} (h : ¬ (n.cnt x).ct.st = 2) : n.casE x = [] ∧ n.casN x = n.cnt x := ⟨if_neg h, if_neg h⟩

set_option maxHeartbeats 1000000 in
theorem cas_any {w : World} {B : Nat} {p : NP} {n : Nd} (hl : Lay w B p n) (x : Int) :
    Calls Tryz.prog 112 #[.pointer (some ⟨p.g, 0, none⟩), .int .i64 x] w (Res B p w (n.casE x, n.casN x)) := by
  have HL := Lib.hid hl
  have c24 := hl.c24
  have c25 := hl.c25
  have c26 := hl.c26
  have c27 := hl.c27
  have HK := Lib.hid (show ∀ w0, Calls Tryz.prog 126 #[n.ct.val] w0 fun e w' => e = .returned (n.ct.txx).val ∧ Below w0.heap.size w0 w' from fun w0 => tx_any n.ct w0)
  have HK2 := Lib.hid (show ∀ w0, Calls Tryz.prog 127 #[n.ct.val, .int .i64 x] w0 fun e w' => e = .returned (n.ct.rxx x).val ∧ Below w0.heap.size w0 w' from fun w0 => rx_any n.ct x w0)
  clear hl
  cases htx : n.tx
  · rw [htx] at c24
    have HD := Lib.hid (show n.cnt x = { n with ct := n.ct.rxx x } by unfold Nd.cnt; rw [htx]; rfl)
    go_enter Tryz.func112, Tryz.ntmps112
    go_wp2_with fail
    refine (HK2.out _).mono ?_
    rintro e w1 ⟨rfl, hb1⟩
    have HB := Lib.hid hb1
    have HL1 := Lib.hid (HL.out.next hb1)
    have d25 := HL1.out.c25
    have d26 := HL1.out.c26
    have d27 := HL1.out.c27
    have f25 := HL1.out.fz 25
    have f26 := HL1.out.fz 26
    have f27 := HL1.out.fz 27
    clear hb1 HK HK2
    have HP := Lib.hid (HL1.out.put_ct (n.ct.rxx x) rfl)
    rw [← HD.out] at HP
    have HX := Lib.hid (show (n.cnt x).ct = n.ct.rxx x by rw [HD.out])
    generalize n.ct.rxx x = d at *
    go_wp2_with fail
    refine (state_any d _).mono ?_
    rintro e w2 ⟨rfl, hb2⟩
    have HL2 := Lib.hid (HP.out.1.next hb2)
    have HM := Lib.hid (((Moves.of_below HB.out p.fp).trans (NP.moves p HP.out.2)).next hb2)
    clear hb2 d25 d26 d27 f25 f26 f27 c24 c25 c26 c27 HP
    by_cases ho : d.st = 2
    · have HE := Lib.hid (casE_off (n := n) (x := x) (by rw [HX.out]; exact ho))
      go_wp2_with fail
      refine (enter_nor HL2.out 10).mono ?_
      rintro e w3 ⟨vo', vl', vq', rfl, h1, h2⟩
      have HF := Lib.hid (And.intro h1 (HM.out.trans h2))
      clear h1 h2
      go_wp2_with fail
      refine (evt_any 10 _).mono ?_
      rintro e w4 ⟨u, rfl, h5, h6⟩
      have HG := Lib.hid (And.intro h5 h6)
      clear h5 h6
      go_wp2
      go_ret
      obtain ⟨h1, h2⟩ := HF.out
      refine ⟨u, _, _, _, rfl, ?_, ?_, h2.next HG.out.2⟩
      · rw [show (n.casE x, n.casN x).1 = [ev 10] from HE.out.1]; exact HG.out.1.base h2.size
      · rw [show (n.casE x, n.casN x).2 = (n.cnt x).enter 10 from HE.out.2]; exact h1.next HG.out.2
    · have HE := Lib.hid (casE_on (n := n) (x := x) (by rw [HX.out]; exact ho))
      go_wp2
      go_ret
      refine ⟨_, _, _, _, rfl, ?_, ?_, HM.out⟩
      · rw [show (n.casE x, n.casN x).1 = [] from HE.out.1]; exact Eown.nil _ _
      · rw [show (n.casE x, n.casN x).2 = n.cnt x from HE.out.2]; exact HL2.out
  · rw [htx] at c24
    have HD := Lib.hid (show n.cnt x = { n with ct := n.ct.txx } by unfold Nd.cnt; rw [htx]; rfl)
    go_enter Tryz.func112, Tryz.ntmps112
    go_wp2_with fail
    refine (HK.out _).mono ?_
    rintro e w1 ⟨rfl, hb1⟩
    have HB := Lib.hid hb1
    have HL1 := Lib.hid (HL.out.next hb1)
    have d25 := HL1.out.c25
    have d26 := HL1.out.c26
    have d27 := HL1.out.c27
    have f25 := HL1.out.fz 25
    have f26 := HL1.out.fz 26
    have f27 := HL1.out.fz 27
    clear hb1 HK HK2
    have HP := Lib.hid (HL1.out.put_ct (n.ct.txx) rfl)
    rw [← HD.out] at HP
    have HX := Lib.hid (show (n.cnt x).ct = n.ct.txx by rw [HD.out])
    generalize n.ct.txx = d at *
    go_wp2_with fail
    refine (state_any d _).mono ?_
    rintro e w2 ⟨rfl, hb2⟩
    have HL2 := Lib.hid (HP.out.1.next hb2)
    have HM := Lib.hid (((Moves.of_below HB.out p.fp).trans (NP.moves p HP.out.2)).next hb2)
    clear hb2 d25 d26 d27 f25 f26 f27 c24 c25 c26 c27 HP
    by_cases ho : d.st = 2
    · have HE := Lib.hid (casE_off (n := n) (x := x) (by rw [HX.out]; exact ho))
      go_wp2_with fail
      refine (enter_nor HL2.out 10).mono ?_
      rintro e w3 ⟨vo', vl', vq', rfl, h1, h2⟩
      have HF := Lib.hid (And.intro h1 (HM.out.trans h2))
      clear h1 h2
      go_wp2_with fail
      refine (evt_any 10 _).mono ?_
      rintro e w4 ⟨u, rfl, h5, h6⟩
      have HG := Lib.hid (And.intro h5 h6)
      clear h5 h6
      go_wp2
      go_ret
      obtain ⟨h1, h2⟩ := HF.out
      refine ⟨u, _, _, _, rfl, ?_, ?_, h2.next HG.out.2⟩
      · rw [show (n.casE x, n.casN x).1 = [ev 10] from HE.out.1]; exact HG.out.1.base h2.size
      · rw [show (n.casE x, n.casN x).2 = (n.cnt x).enter 10 from HE.out.2]; exact h1.next HG.out.2
    · have HE := Lib.hid (casE_on (n := n) (x := x) (by rw [HX.out]; exact ho))
      go_wp2
      go_ret
      refine ⟨_, _, _, _, rfl, ?_, ?_, HM.out⟩
      · rw [show (n.casE x, n.casN x).1 = [] from HE.out.1]; exact Eown.nil _ _
      · rw [show (n.casE x, n.casN x).2 = n.cnt x from HE.out.2]; exact HL2.out

set_option maxHeartbeats 400000 in
theorem failU_any {w : World} {B : Nat} {p : NP} {n : Nd} (hl : Lay w B p n) (k : Int) :
    Calls Tryz.prog 121 #[.pointer (some ⟨p.g, 0, none⟩), .int .i64 k] w (Res B p w (n.failU k)) := by
  have HL := Lib.hid hl
  clear hl
  cases hp : n.pas
  · have HE := Lib.hid (show n.failU k = ([ev k], n.enter 3) by unfold Nd.failU Nd.flg; rw [hp]; rfl)
    go_enter Tryz.func121, Tryz.ntmps121
    go_wp2_with fail
    refine (passive_any HL.out).mono ?_
    rintro e w1 ⟨rfl, hb1⟩
    have HB := Lib.hid hb1
    clear hb1
    rw [hp]
    go_wp2_with fail
    refine (enter_nor (HL.out.next HB.out) 3).mono ?_
    rintro e w2 ⟨vo', vl', vq', rfl, h1, h2⟩
    have HF := Lib.hid (And.intro h1 ((Moves.of_below HB.out p.fp).trans h2))
    clear h1 h2
    go_wp2_with fail
    refine (evt_any k _).mono ?_
    rintro e w4 ⟨u, rfl, h5, h6⟩
    have HG := Lib.hid (And.intro h5 h6)
    clear h5 h6
    go_wp2
    go_ret
    obtain ⟨h1, h2⟩ := HF.out
    rw [HE.out]
    exact ⟨u, _, _, _, rfl, HG.out.1.base h2.size, h1.next HG.out.2, h2.next HG.out.2⟩
  · have HE := Lib.hid (show n.failU k = ([ev k], n.enter 4) by unfold Nd.failU Nd.flg; rw [hp]; rfl)
    go_enter Tryz.func121, Tryz.ntmps121
    go_wp2_with fail
    refine (passive_any HL.out).mono ?_
    rintro e w1 ⟨rfl, hb1⟩
    have HB := Lib.hid hb1
    clear hb1
    rw [hp]
    go_wp2_with fail
    refine (enter_nor (HL.out.next HB.out) 4).mono ?_
    rintro e w2 ⟨vo', vl', vq', rfl, h1, h2⟩
    have HF := Lib.hid (And.intro h1 ((Moves.of_below HB.out p.fp).trans h2))
    clear h1 h2
    go_wp2_with fail
    refine (evt_any k _).mono ?_
    rintro e w4 ⟨u, rfl, h5, h6⟩
    have HG := Lib.hid (And.intro h5 h6)
    clear h5 h6
    go_wp2
    go_ret
    obtain ⟨h1, h2⟩ := HF.out
    rw [HE.out]
    exact ⟨u, _, _, _, rfl, HG.out.1.base h2.size, h1.next HG.out.2, h2.next HG.out.2⟩

set_option maxHeartbeats 400000 in
theorem over_any {w : World} {B : Nat} {p : NP} {n : Nd} (hl : Lay w B p n) :
    Calls Tryz.prog 113 #[.pointer (some ⟨p.g, 0, none⟩)] w (Res B p w n.over) := by
  have HL := Lib.hid hl
  clear hl
  go_enter Tryz.func113, Tryz.ntmps113
  go_wp2_with fail
  refine (enter_nor HL.out 5).mono ?_
  rintro e w2 ⟨vo', vl', vq', rfl, h1, h2⟩
  have HF := Lib.hid (And.intro h1 h2)
  clear h1 h2
  go_wp2_with fail
  refine (evt_any 9 _).mono ?_
  rintro e w4 ⟨u, rfl, h5, h6⟩
  have HG := Lib.hid (And.intro h5 h6)
  clear h5 h6
  go_wp2
  go_ret
  obtain ⟨h1, h2⟩ := HF.out
  exact ⟨u, _, _, _, rfl, HG.out.1.base h2.size, h1.next HG.out.2, h2.next HG.out.2⟩

theorem Moves.grown {F F' : Nat → Prop} {w w2 w3 : World} {row : Option Nat} (hm : Moves F F' w w2) (hg : w2.grownBy w3 row) (hr : ∀ k, row = some k → w.heap.size ≤ k) : Moves F F' w w3 := by
  refine ⟨hg.os.trans hm.os, hg.tape.trans hm.tape, hg.output.trans hm.output, Nat.le_trans hm.size hg.size, fun k hk hn => ?_, hm.new⟩
  refine (hg.block k (Nat.lt_of_lt_of_le hk hm.size) fun e => ?_).trans (hm.block k hk hn)
  have := hr k e.symm
  omega
theorem Lay.grown {w w' : World} {B : Nat} {p : NP} {n : Nd} {row : Option Nat} (hl : Lay w B p n) (hg : w.grownBy w' row) (hr : ∀ k, row = some k → ¬ p.fp k) : Lay w' B p n := by
  have hk : ∀ k, p.fp k → w'.heap[k]? = w.heap[k]? := fun k hf => hg.block k (hl.fp_lt k hf) fun e => hr k e.symm hf
  exact ⟨(hk _ (.inl rfl)).trans hl.blk, owns_move hl.own fun k e => hk k (.inr (.inr (.inl e))), owns_move hl.lev fun k e => hk k (.inr (.inr (.inr (.inl e)))),
    ⟨(hk _ (.inr (.inl rfl))).trans hl.que.q, owns_move hl.que.own fun k e => hk k (.inr (.inr (.inr (.inr e)))), hl.que.at_⟩, hl.sep, hl.at_⟩

set_option maxHeartbeats 400000 in
theorem fail_any {w : World} {B : Nat} {p : NP} {n : Nd} (hl : Lay w B p n) (k : Int) :
    Calls Tryz.prog 105 #[.pointer (some ⟨p.g, 0, none⟩), .int .i64 k] w (Res B p w (n.fail k)) := by
  have HL := Lib.hid hl
  clear hl
  go_enter Tryz.func105, Tryz.ntmps105
  go_wp2_with fail
  refine (failU_any HL.out k).mono ?_
  rintro e w1 ⟨u, vo1, vl1, vq1, rfl, h1, h2, h3⟩
  have HF := Lib.hid (And.intro h1 (And.intro h2 h3))
  have hc := cas_any h2 1
  have HC := Lib.hid hc
  clear h1 h2 h3 hc
  go_wp2_with fail
  refine HC.out.mono ?_
  rintro e w2 ⟨v, vo2, vl2, vq2, rfl, g1, g2, g3⟩
  obtain ⟨h1, h2, h3⟩ := HF.out
  have ha := h1.apart h2
  have hu := h1.moves g3 ha
  have hap := hu.apart g2
  obtain ⟨A, cap, rfl, hcap⟩ := g1.len
  have HU := Lib.hid hu
  have HS := Lib.hid g1.es
  have HA := Lib.hid hap
  have HG := Lib.hid (And.intro g2 (h3.trans g3))
  have HN := Lib.hid (show (n.flg.casE 1).length ≤ 1 by unfold Nd.casE; split <;> simp)
  have HZ := Lib.hid (Nat.le_trans h3.size g3.size)
  clear h1 h2 h3 g1 g2 g3 hap hu ha hcap HC HF
  go_wp2_with (first | (at_builtin; refine append_E _ (by rfl) _ _ rfl w.heap.size _ _ rfl HU.out _ _ _ _ rfl HS.out (by have := HN.out; have e : (n.failU k).1.length = 1 := rfl; change _ + (n.flg.casE 1).length ≤ _; omega) HZ.out ?_; intro v' w' h1 h2 h3) | fail)
  go_wp2
  go_ret
  obtain ⟨g2, g3⟩ := HG.out
  exact ⟨v', _, _, _, rfl, h1, g2.grown h2 HA.out, g3.grown h2 fun k hk => (World.ownsRow.lt HU.out k hk).1⟩
end Go.Proofs.YtalpbnfebcafgaaGreat

/- The contracts of what takes levels: added, right, take. -/
namespace Go.Proofs.YtalpbnfebcafgaaGreat
set_option maxRecDepth 20000
open Go.RowKit
set_option linter.unusedSimpArgs false

theorem owns_at {w : World} {B n size k : Nat} {e : TypeId} {v : Value} {xs : List Value} (h : w.ownsRow B e size v n xs) (hk : v.ownBlock = some k) : ∃ cur, w.heap[k]? = some (.cells cur e) := by
  rcases h.2 with ⟨rfl, _⟩ | ⟨b, cap, cur, rfl, _, hh, _⟩
  · cases hk
  · injection hk with hk
    have hk : b = k := hk
    subst hk
    exact ⟨cur, hh⟩
theorem Lay.push {w w2 : World} {B : Nat} {p : NP} {n : Nd} {ob : Obj} {v' : Value} {ys : List Int} (hl : Lay w B p n) (ho : Own w2 B v' ys) (hg : (w.alloc ob).grownBy w2 p.vo.ownBlock) (hs : Lies (w.alloc ob) p.vo v') :
    Lay (w2.setCell ⟨p.g, 6, none⟩ v') B { p with vo := v' } { n with own := ys } ∧ Moves p.fp (NP.fp { p with vo := v' }) w (w2.setCell ⟨p.g, 6, none⟩ v') ∧ w2.cell? ⟨p.g, 6, none⟩ = some p.vo ∧ w2.frozen? ⟨p.g, 6, none⟩ = false := by
  have hl1 := hl.next ((Below.refl _ _).alloc (Nat.le_refl _) ob)
  have hk : ∀ k, k < (w.alloc ob).heap.size → p.vo.ownBlock ≠ some k → w2.heap[k]? = (w.alloc ob).heap[k]? := fun k h hn => hg.block k h fun e => hn e.symm
  have blk2 := (hk _ hl1.lt hl1.no).trans hl1.blk
  have hset : Only p.g w2 (w2.setCell ⟨p.g, 6, none⟩ v') := (Only.refl _ _).set
  have hlev : ∀ k, p.vl.ownBlock = some k → w2.heap[k]? = (w.alloc ob).heap[k]? := fun k e => hk k (World.ownsRow.lt hl1.lev k e).2 fun h => by
    rcases hl.sep with h1 | h1
    · rw [h] at h1; cases h1
    · exact h1 (h.trans e.symm)
  have hvq : ∀ k, p.vq.ownBlock = some k → w2.heap[k]? = (w.alloc ob).heap[k]? := fun k e => by
    obtain ⟨cur, hc⟩ := owns_at hl1.que.own e
    exact hk k (World.ownsRow.lt hl1.que.own k e).2 (owns_ne hl1.own hc (by decide))
  have hgq := hk _ hl1.que.lt (owns_ne hl1.own hl1.que.q (by decide))
  have hvs : v'.ownBlock ≠ some p.g := owns_ne ho blk2 (by decide)
  refine ⟨⟨cells_set blk2, ?_, ?_, ⟨?_, ?_, hl.que.at_⟩, (Sep.lies hl.sep.symm hl1.lev hs).symm, hl.at_⟩, ?_, cell_of_row w2 p.g 6 _ _ (0, 0) blk2, typed_frozen blk2 6⟩
  · exact owns_move ho fun k e => hset.block k fun h => hvs (h ▸ e)
  · exact owns_move hl1.lev fun k e => (hset.block k fun h => hl1.nl (h ▸ e)).trans (hlev k e)
  · exact ((hset.block _ hl1.nq).trans hgq).trans hl1.que.q
  · exact owns_move hl1.que.own fun k e => (hset.block k fun h => hl1.nqv (h ▸ e)).trans (hvq k e)
  · have hsz := hg.size
    have ha : w.heap.size ≤ (w.alloc ob).heap.size := by simp
    refine ⟨hg.os, hg.tape, hg.output, Nat.le_trans (Nat.le_trans ha hsz) (Nat.le_of_eq hset.size.symm), fun k hlt hn => ?_, fun k hf => ?_⟩
    · have h1 : (w.alloc ob).heap[k]? = w.heap[k]? := ((Below.refl w.heap.size w).alloc (Nat.le_refl _) ob).block k hlt
      refine ((hset.block k fun e => hn (.inl e)).trans (hk k (by omega) fun e => hn (.inr (.inr (.inl e))))).trans h1
    · rcases hf with hf | hf | hf | hf | hf
      · exact .inl (.inl hf)
      · exact .inl (.inr (.inl hf))
      · rcases hs with e | e
        · exact .inl (.inr (.inr (.inl (e.symm.trans hf))))
        · rw [e] at hf; injection hf with hf; exact .inr (by omega)
      · exact .inl (.inr (.inr (.inr (.inl hf))))
      · exact .inl (.inr (.inr (.inr (.inr hf))))

set_option maxHeartbeats 400000 in
theorem nadded_any {w : World} {B : Nat} {p : NP} {n : Nd} (hl : Lay w B p n) :
    Calls Tryz.prog 87 #[.pointer (some ⟨p.g, 6, none⟩)] w fun e w' => e = .returned (.bool n.added) ∧ w = w' := by
  have c7 := hl.c7
  have c10 := hl.c10
  have HA := Lib.hid (show n.added = (decide (n.kind ≤ 5) && n.bn == 5) from rfl)
  clear hl
  by_cases hk : n.kind ≤ 5
  · by_cases hb : n.bn = 5
    · go_enter Tryz.func87, Tryz.ntmps87
      go_wp2
      go_ret
      exact ⟨ret_boolK (by rw [HA.out]; simp [hk, hb]), rfl⟩
    · go_enter Tryz.func87, Tryz.ntmps87
      go_wp2
      go_ret
      exact ⟨ret_boolK (by rw [HA.out]; simp; omega), rfl⟩
  · go_enter Tryz.func87, Tryz.ntmps87
    go_wp2
    go_ret
    exact ⟨ret_boolK (by rw [HA.out]; simp; omega), rfl⟩

set_option maxHeartbeats 400000 in
theorem nright_any {w : World} {B : Nat} {p : NP} {n : Nd} (hl : Lay w B p n) (ho : ∀ z ∈ n.own, lvl z = true) (hn : n.own.length ≤ 100000) :
    Calls Tryz.prog 89 #[.pointer (some ⟨p.g, 6, none⟩)] w fun e w' => e = .returned (.bool (rok n.own)) ∧ Below w.heap.size w w' := by
  have c6 := hl.c6
  obtain ⟨A, cap, e, hi, hc⟩ := hl.own.il2
  rw [e] at c6
  have HI := Lib.hid hi
  have HO := Lib.hid ho
  have HR := Lib.hid (rout_rok n.own)
  clear hl hi e ho
  go_enter Tryz.func89, Tryz.ntmps89
  go_wp2_with fail
  refine (fright_any A _ cap n.own _ HI.out hn hc HO.out).mono ?_
  rintro e w1 ⟨rfl, hb1⟩
  have HB := Lib.hid hb1
  clear hb1
  rcases HR.out with ⟨e1, e2⟩ | e1
  · rw [e1]
    go_wp2
    go_ret
    exact ⟨ret_boolK e2.symm, HB.out⟩
  · rw [e1]
    go_wp2
    go_ret
    exact ⟨rfl, HB.out⟩

theorem nout_kp {o : List Int} {z : Int} (h : kd o < 9) : nout (hW (o ++ [z])) (o.length + 1) 0 = .tuple #[.int .i64 (kd (o ++ [z]) : Nat), .int .i64 (pl (o ++ [z]) : Nat), .int .i64 0] := by
  have := kd_next (z := z) h
  rw [nout_nx _ _ _ this]
  unfold kd pl
  rw [List.length_append, List.length_singleton]
theorem Lay.put_kn {w : World} {B : Nat} {p : NP} {n : Nd} (hl : Lay w B p n) (a b : Int) :
    Lay ((w.setCell ⟨p.g, 7, none⟩ (.int .i64 a)).setCell ⟨p.g, 8, none⟩ (.int .i64 b)) B p { n with kind := a, nth := b } ∧ Only p.g w ((w.setCell ⟨p.g, 7, none⟩ (.int .i64 a)).setCell ⟨p.g, 8, none⟩ (.int .i64 b)) := by
  have ho : Only p.g w ((w.setCell ⟨p.g, 7, none⟩ (.int .i64 a)).setCell ⟨p.g, 8, none⟩ (.int .i64 b)) := (Only.refl _ _).set.set
  exact ⟨hl.turn ho (cells_set (cells_set hl.blk)) rfl rfl rfl, ho⟩

set_option maxHeartbeats 1000000 in
theorem take_any10 {w : World} {B : Nat} {p : NP} {n : Nd} (hl : Lay w B p n) (z : Int) (ho : ∀ z ∈ n.own, lvl z = true) (hz : lvl z = true) (hn : n.own.length ≤ 10000) (hk : n.added = true ∨ kd n.own < 9) (h0 : 0 ≤ n.bn) (h1 : n.bn ≤ 4000000) :
    Calls Tryz.prog 120 #[.pointer (some ⟨p.g, 6, none⟩), .int .i64 z] w (Nor B p w (n.take z)) := by
  have HL := Lib.hid hl
  have HO := Lib.hid ho
  have HZ := Lib.hid hz
  have HH := Lib.hid (And.intro h0 h1)
  clear hl ho hz h0 h1
  cases ha : n.added
  · have hk' : kd n.own < 9 := by
      rcases hk with h | h
      · rw [ha] at h; cases h
      · exact h
    have HT := Lib.hid (show n.take z = (n.takeOwn z).told z by unfold Nd.take; rw [ha]; rfl)
    have HK := Lib.hid (nout_kp (z := z) hk')
    have hsz := HL.out.size
    have c6 := HL.out.c6
    clear hk hk'
    go_enter Tryz.func120, Tryz.ntmps120
    go_wp2_with fail
    refine (nadded_any HL.out).mono ?_
    rintro e w1 ⟨rfl, rfl⟩
    rw [ha]
    go_wp2_with (first | (at_builtin; (refine append_ints2 _ rfl (.tmp 11) (.tmp 13) rfl B p.vo n.own rfl (HL.out.own.alloc _) _ 1 1 [z] rfl (Arr.new w .i64 3 [z]).il (by omega) (by simp; omega) ?_); intro v1 w1 ho1 hg1 hl1; have hp := HL.out.push ho1 hg1 hl1; (obtain ⟨A1, cap1, rfl, hi1, hc1⟩ := ho1.il2); rw [List.length_append, List.length_singleton] at hp hc1; (have k0 := hp.2.2.1); (have k1 := hp.2.2.2); have HP := Lib.hid (And.intro hp.1 hp.2.1); clear ho1 hg1 hl1 hi1 hp) | fail)
    obtain ⟨A2, cap2, e2, hi2, hc2⟩ := HP.out.1.own.il2
    have e2' : Value.slice A1 (n.own.length + 1) cap1 = .slice A2 (n.own ++ [z]).length cap2 := e2
    rw [List.length_append, List.length_singleton] at e2'
    injection e2' with e3 e4 e5
    subst e3
    have HI := Lib.hid hi2
    rw [List.length_append, List.length_singleton] at HI
    have ha2 := all_append HO.out (show ∀ y ∈ [z], lvl y = true from fun y hy => by rw [List.mem_singleton.1 hy]; exact HZ.out)
    have HA2 := Lib.hid ha2
    clear hi2 ha2 e2 e5 hc2
    refine (next_any_row A1 _ cap1 (n.own ++ [z]) _ HI.out (by omega) hc1 HA2.out).mono ?_
    rintro e w2 ⟨rfl, hb2⟩
    rw [HK.out]
    have HL2 := Lib.hid (HP.out.1.next hb2)
    have HM2 := Lib.hid (HP.out.2.next hb2)
    clear hb2
    have f7 := HL2.out.fz 7
    have f8 := HL2.out.fz 8
    have d7 := HL2.out.c7
    have d8 := HL2.out.c8
    have HL3 := Lib.hid (HL2.out.put_kn (kd (n.own ++ [z]) : Nat) (pl (n.own ++ [z]) : Nat))
    go_wp2_with fail
    have ht := tell_same HL3.out.1 z HH.out.1 HH.out.2
    refine ht.mono ?_
    rintro e w4 ⟨rfl, h1, h2⟩
    have HF := Lib.hid (And.intro h1 h2)
    clear h1 h2 ht
    go_wp2
    go_end0
    rw [HT.out]
    exact ⟨_, _, _, rfl, HF.out.1, (HM2.out.trans (NP.moves _ HL3.out.2)).trans (NP.moves _ HF.out.2)⟩
  · have HT := Lib.hid (show n.take z = n.told z by unfold Nd.take; rw [ha]; rfl)
    clear hk
    go_enter Tryz.func120, Tryz.ntmps120
    go_wp2_with fail
    refine (nadded_any HL.out).mono ?_
    rintro e w1 ⟨rfl, rfl⟩
    rw [ha]
    go_wp2_with fail
    refine (tell_same HL.out z HH.out.1 HH.out.2).mono ?_
    rintro e w2 ⟨rfl, h1, h2⟩
    have HF := Lib.hid (And.intro h1 h2)
    clear h1 h2
    go_wp2
    go_end0
    rw [HT.out]
    exact ⟨_, _, _, rfl, HF.out.1, NP.moves p HF.out.2⟩
end Go.Proofs.YtalpbnfebcafgaaGreat

/- The contracts of driveInFrame and Drive. -/
namespace Go.Proofs.YtalpbnfebcafgaaGreat
set_option maxRecDepth 20000
open Go.RowKit
set_option linter.unusedSimpArgs false

theorem oth_any (l : Int) (w : World) : Calls Tryz.prog 88 #[.int .i64 l] w fun e w' => e = .returned (.int .i64 (oth l)) ∧ w = w' := by
  have HO := Lib.hid (show oth l = if l = 0 then 1 else 0 from rfl)
  by_cases h : l = 0
  · go_enter Tryz.func88, Tryz.ntmps88
    go_wp2
    go_ret
    exact ⟨ret_intK (by rw [HO.out, if_pos h]), rfl⟩
  · go_enter Tryz.func88, Tryz.ntmps88
    go_wp2
    go_ret
    exact ⟨ret_intK (by rw [HO.out, if_neg h]), rfl⟩

/-- What a frame's levels must be for a node to go on with them. -/
structure Okf (n : Nd) : Prop where
  own : ∀ z ∈ n.own, lvl z = true
  len : n.own.length ≤ 10000
  out : n.tx = true → n.own.length < n.outL.length
theorem drvIn_def (n : Nd) : n.drvIn = if n.tx && n.added then oth n.bl else if n.tx then n.outL.getD n.own.length 0 else if n.kind == 6 && rok n.own then 0 else 1 := rfl

set_option maxHeartbeats 800000 in
theorem drvIn_any {w : World} {B : Nat} {p : NP} {n : Nd} (hl : Lay w B p n) (hf : Okf n) :
    Calls Tryz.prog 79 #[.pointer (some ⟨p.g, 0, none⟩)] w fun e w' => e = .returned (.int .i64 n.drvIn) ∧ Below w.heap.size w w' := by
  have HL := Lib.hid hl
  have HF := Lib.hid hf
  have c24 := hl.c24
  have HD := Lib.hid (drvIn_def n)
  clear hl hf
  cases htx : n.tx
  · rw [htx] at c24
    rw [htx] at HD
    have c7 := HL.out.c7
    by_cases hk : n.kind = 6
    · rw [hk] at HD
      cases hr : rok n.own
      · rw [hr] at HD
        go_enter Tryz.func79, Tryz.ntmps79
        go_wp2_with fail
        refine (nright_any HL.out HF.out.own (by have := HF.out.len; omega)).mono ?_
        rintro e w1 ⟨rfl, hb1⟩
        have HB := Lib.hid hb1
        clear hb1
        rw [hr]
        go_wp2
        go_ret
        exact ⟨ret_intK HD.out.symm, HB.out⟩
      · rw [hr] at HD
        go_enter Tryz.func79, Tryz.ntmps79
        go_wp2_with fail
        refine (nright_any HL.out HF.out.own (by have := HF.out.len; omega)).mono ?_
        rintro e w1 ⟨rfl, hb1⟩
        have HB := Lib.hid hb1
        clear hb1
        rw [hr]
        go_wp2
        go_ret
        exact ⟨ret_intK HD.out.symm, HB.out⟩
    · have HK := Lib.hid (show (n.kind == 6) = false by simpa using hk)
      rw [HK.out] at HD
      go_enter Tryz.func79, Tryz.ntmps79
      go_wp2
      go_ret
      exact ⟨ret_intK HD.out.symm, Below.refl _ _⟩
  · rw [htx] at c24
    rw [htx] at HD
    cases ha : n.added
    · rw [ha] at HD
      have c6 := HL.out.c6
      have c23 := HL.out.c23
      have hlt := HF.out.out htx
      obtain ⟨A, cap, e, hi, hc⟩ := HL.out.own.il2
      obtain ⟨A2, cap2, e2, hi2, hc2⟩ := HL.out.lev.il2
      rw [e] at c6
      rw [e2] at c23
      have hltI : (n.own.length : Int) < (n.outL.length : Int) := by omega
      obtain ⟨ad, rfl, hla, hcell⟩ := hi2.2 (by omega)
      have d0 := hcell n.own.length hlt
      have HX := Lib.hid (show n.drvIn = n.outL.getD n.own.length 0 from HD.out)
      generalize n.own.length = m at *
      generalize n.outL.length = k at *
      generalize n.outL.getD m 0 = x at *
      clear HD hcell hi hi2 e e2 hla
      go_enter Tryz.func79, Tryz.ntmps79
      go_wp2_with fail
      refine (nadded_any HL.out).mono ?_
      rintro e w1 ⟨rfl, rfl⟩
      rw [ha]
      go_wp2
      go_quiet (fail)
      go_wp2
      go_ret
      exact ⟨ret_intK HX.out.symm, belowN (Below.refl _ _) _⟩
    · rw [ha] at HD
      have c9 := HL.out.c9
      go_enter Tryz.func79, Tryz.ntmps79
      go_wp2_with fail
      refine (nadded_any HL.out).mono ?_
      rintro e w1 ⟨rfl, rfl⟩
      rw [ha]
      go_wp2_with fail
      refine (oth_any n.bl _).mono ?_
      rintro e w2 ⟨rfl, rfl⟩
      go_wp2
      go_ret
      exact ⟨ret_intK HD.out.symm, Below.refl _ _⟩

theorem drv_nil (w : World) : Calls Tryz.prog 65 #[.pointer none] w fun e w' => e = .returned (.int .i64 1) ∧ w = w' := by
  go_enter Tryz.func65, Tryz.ntmps65
  go_wp2
  go_ret
  exact ⟨rfl, rfl⟩
theorem drv_def (n : Nd) : n.drv = if n.mode = 1 then (if 0 < n.q.length then 0 else 1) else if n.mode = 2 then n.drvIn else if n.mode = 3 ∨ n.mode = 5 then 0 else 1 := rfl

set_option maxHeartbeats 800000 in
theorem drv_any {w : World} {B : Nat} {p : NP} {n : Nd} (hl : Lay w B p n) (hf : n.mode = 2 → Okf n) :
    Calls Tryz.prog 65 #[.pointer (some ⟨p.g, 0, none⟩)] w fun e w' => e = .returned (.int .i64 n.drv) ∧ Below w.heap.size w w' := by
  have HL := Lib.hid hl
  have HF := Lib.hid hf
  have c0 := hl.c0
  have c28 := hl.c28
  have HD := Lib.hid (drv_def n)
  clear hl hf
  by_cases m1 : n.mode = 1
  · rw [if_pos m1] at HD
    rw [m1] at c0
    by_cases hq : 0 < n.q.length
    · rw [if_pos hq] at HD
      have hqi : (0 : Int) < (n.q.length : Int) := by omega
      go_enter Tryz.func65, Tryz.ntmps65
      go_wp2_with fail
      refine (len_q HL.out.que).mono ?_
      rintro e w1 ⟨rfl, rfl⟩
      go_wp2
      go_ret
      exact ⟨ret_intK HD.out.symm, Below.refl _ _⟩
    · rw [if_neg hq] at HD
      have hqi : ¬ (0 : Int) < (n.q.length : Int) := by omega
      have hq0 : (n.q.length : Int) = 0 := by omega
      go_enter Tryz.func65, Tryz.ntmps65
      go_wp2_with fail
      refine (len_q HL.out.que).mono ?_
      rintro e w1 ⟨rfl, rfl⟩
      rw [hq0]
      go_wp2
      go_ret
      exact ⟨ret_intK HD.out.symm, Below.refl _ _⟩
  rw [if_neg m1] at HD
  by_cases m2 : n.mode = 2
  · rw [if_pos m2] at HD
    rw [m2] at c0
    go_enter Tryz.func65, Tryz.ntmps65
    go_wp2_with fail
    refine (drvIn_any HL.out (HF.out m2)).mono ?_
    rintro e w1 ⟨rfl, hb⟩
    have HB := Lib.hid hb
    clear hb
    go_wp2
    go_ret
    exact ⟨ret_intK HD.out.symm, HB.out⟩
  rw [if_neg m2] at HD
  by_cases m3 : n.mode = 3
  · rw [if_pos (.inl m3)] at HD
    rw [m3] at c0
    go_enter Tryz.func65, Tryz.ntmps65
    go_wp2
    go_ret
    exact ⟨ret_intK HD.out.symm, Below.refl _ _⟩
  by_cases m5 : n.mode = 5
  · rw [if_pos (.inr m5)] at HD
    rw [m5] at c0
    go_enter Tryz.func65, Tryz.ntmps65
    go_wp2
    go_ret
    exact ⟨ret_intK HD.out.symm, Below.refl _ _⟩
  rw [if_neg (by simp [m3, m5])] at HD
  go_enter Tryz.func65, Tryz.ntmps65
  go_wp2
  go_ret
  exact ⟨ret_intK HD.out.symm, Below.refl _ _⟩
end Go.Proofs.YtalpbnfebcafgaaGreat

/- The contracts of late, wrong, loses. -/
namespace Go.Proofs.YtalpbnfebcafgaaGreat
set_option maxRecDepth 20000
open Go.RowKit
set_option linter.unusedSimpArgs false

set_option maxHeartbeats 400000 in
theorem late_any {w : World} {B : Nat} {p : NP} {n : Nd} (hl : Lay w B p n) (z : Int) :
    Calls Tryz.prog 122 #[.pointer (some ⟨p.g, 0, none⟩), .int .i64 z] w fun e w' => e = .returned (.bool (decide (n.kind = 8 ∧ n.nth = 6 ∧ z = 0))) ∧ w = w' := by
  have c7 := hl.c7
  have c8 := hl.c8
  clear hl
  by_cases hk : n.kind = 8
  · by_cases hn : n.nth = 6
    · by_cases hz : z = 0
      · go_enter Tryz.func122, Tryz.ntmps122
        go_wp2
        go_ret
        exact ⟨ret_boolK (by simp [hk, hn, hz]), rfl⟩
      · go_enter Tryz.func122, Tryz.ntmps122
        go_wp2
        go_ret
        exact ⟨ret_boolK (by simp [hk, hn, hz]), rfl⟩
    · go_enter Tryz.func122, Tryz.ntmps122
      go_wp2
      go_ret
      exact ⟨ret_boolK (by simp [hk, hn]), rfl⟩
  · go_enter Tryz.func122, Tryz.ntmps122
    go_wp2
    go_ret
    exact ⟨ret_boolK (by simp [hk]), rfl⟩

theorem drv_two {n : Nd} (h : n.mode = 2) : n.drv = n.drvIn := by rw [drv_def, if_neg (by omega), if_pos h]
theorem drv_frame {w : World} {B : Nat} {p : NP} {n : Nd} (hl : Lay w B p n) (hf : Okf n) (hm : n.mode = 2) :
    Calls Tryz.prog 65 #[.pointer (some ⟨p.g, 0, none⟩)] w fun e w' => e = .returned (.int .i64 n.drvIn) ∧ Below w.heap.size w w' := by
  have h := drv_any hl fun _ => hf
  rw [drv_two hm] at h
  exact h

set_option maxHeartbeats 400000 in
theorem loses_any10 {w : World} {B : Nat} {p : NP} {n : Nd} (hl : Lay w B p n) (hf : Okf n) (hm : n.mode = 2) (z : Int) :
    Calls Tryz.prog 106 #[.pointer (some ⟨p.g, 0, none⟩), .int .i64 z] w fun e w' => e = .returned (.bool (n.loses z)) ∧ Below w.heap.size w w' := by
  have HL := Lib.hid hl
  have HD := Lib.hid (drv_frame hl hf hm)
  have c24 := hl.c24
  have c7 := hl.c7
  have HS := Lib.hid (show n.loses z = (n.tx && (n.kind == 1 && (!n.added && decide (z < n.drvIn)))) from rfl)
  clear hl hf hm
  cases htx : n.tx
  · rw [htx] at c24 HS
    go_enter Tryz.func106, Tryz.ntmps106
    go_wp2
    go_ret
    exact ⟨ret_boolK (by rw [HS.out]; rfl), Below.refl _ _⟩
  · rw [htx] at c24 HS
    by_cases hk : n.kind = 1
    · rw [hk] at c7 HS
      cases ha : n.added
      · rw [ha] at HS
        by_cases hz : z < n.drvIn
        · go_enter Tryz.func106, Tryz.ntmps106
          go_wp2_with fail
          refine (nadded_any HL.out).mono ?_
          rintro e w1 ⟨rfl, rfl⟩
          rw [ha]
          go_wp2_with fail
          refine HD.out.mono ?_
          rintro e w1 ⟨rfl, hb⟩
          have HB := Lib.hid hb
          clear hb
          go_wp2
          go_ret
          exact ⟨ret_boolK (by rw [HS.out]; simp [hz]), HB.out⟩
        · go_enter Tryz.func106, Tryz.ntmps106
          go_wp2_with fail
          refine (nadded_any HL.out).mono ?_
          rintro e w1 ⟨rfl, rfl⟩
          rw [ha]
          go_wp2_with fail
          refine HD.out.mono ?_
          rintro e w1 ⟨rfl, hb⟩
          have HB := Lib.hid hb
          clear hb
          go_wp2
          go_ret
          exact ⟨ret_boolK (by rw [HS.out]; simp; try omega), HB.out⟩
      · rw [ha] at HS
        go_enter Tryz.func106, Tryz.ntmps106
        go_wp2_with fail
        refine (nadded_any HL.out).mono ?_
        rintro e w1 ⟨rfl, rfl⟩
        rw [ha]
        go_wp2
        go_ret
        exact ⟨ret_boolK (by rw [HS.out]; simp), Below.refl _ _⟩
    · have HK := Lib.hid (show (n.kind == 1) = false by simpa using hk)
      go_enter Tryz.func106, Tryz.ntmps106
      go_wp2
      go_ret
      exact ⟨ret_boolK (by rw [HS.out, HK.out]; rfl), Below.refl _ _⟩

theorem wrongK_def (n : Nd) (z : Int) : n.wrongK z = if n.drvIn < z then 4 else if n.added then (if z = n.bl then 5 else 0)
  else if n.kind = 5 ∨ n.kind = 7 ∨ n.kind = 8 then (if z = 0 then 7 else if n.kind = 7 ∧ rok n.own = false then 6 else 0) else 0 := rfl
theorem ret_kb {a b : Int} (h : b = a) : Ending.returned (.tuple #[.int .i64 a, .bool (decide (a ≠ 0))]) = .returned (.tuple #[.int .i64 b, .bool (decide (b ≠ 0))]) := by rw [h]

set_option maxHeartbeats 1000000 in
theorem nwrong_any {w : World} {B : Nat} {p : NP} {n : Nd} (hl : Lay w B p n) (hf : Okf n) (hm : n.mode = 2) (z : Int) :
    Calls Tryz.prog 123 #[.pointer (some ⟨p.g, 0, none⟩), .int .i64 z] w fun e w' => e = .returned (.tuple #[.int .i64 (n.wrongK z), .bool (decide (n.wrongK z ≠ 0))]) ∧ Below w.heap.size w w' := by
  have HL := Lib.hid hl
  have HD := Lib.hid (drv_frame hl hf hm)
  have HO := Lib.hid hf
  have c7 := hl.c7
  have c9 := hl.c9
  have HW := Lib.hid (wrongK_def n z)
  clear hl hf hm
  by_cases h1 : n.drvIn < z
  · rw [if_pos h1] at HW
    go_enter Tryz.func123, Tryz.ntmps123
    go_wp2_with fail
    refine HD.out.mono ?_
    rintro e w1 ⟨rfl, hb⟩
    have HB := Lib.hid hb
    clear hb
    go_wp2
    go_ret2
    exact ⟨ret_kb HW.out, HB.out⟩
  rw [if_neg h1] at HW
  cases ha : n.added
  · rw [ha, if_neg (by simp)] at HW
    by_cases k5 : n.kind = 5
    · rw [if_pos (.inl k5)] at HW
      by_cases hz : z = 0
      · rw [if_pos hz] at HW
        go_enter Tryz.func123, Tryz.ntmps123
        go_wp2_with fail
        refine HD.out.mono ?_
        rintro e w1 ⟨rfl, hb⟩
        have HB := Lib.hid hb
        have HL1 := Lib.hid (HL.out.next hb)
        have d7 := HL1.out.c7
        have d9 := HL1.out.c9
        rw [k5] at d7
        clear hb
        go_wp2_with fail
        refine (nadded_any HL1.out).mono ?_
        rintro e w2 ⟨rfl, rfl⟩
        rw [ha]
        go_wp2
        go_ret2
        exact ⟨ret_kb HW.out, HB.out⟩
      · rw [if_neg hz] at HW
        rw [if_neg (by simp [k5])] at HW
        go_enter Tryz.func123, Tryz.ntmps123
        go_wp2_with fail
        refine HD.out.mono ?_
        rintro e w1 ⟨rfl, hb⟩
        have HB := Lib.hid hb
        have HL1 := Lib.hid (HL.out.next hb)
        have d7 := HL1.out.c7
        have d9 := HL1.out.c9
        rw [k5] at d7
        clear hb
        go_wp2_with fail
        refine (nadded_any HL1.out).mono ?_
        rintro e w2 ⟨rfl, rfl⟩
        rw [ha]
        go_wp2
        go_ret2
        exact ⟨ret_kb HW.out, HB.out⟩
    by_cases k7 : n.kind = 7
    · rw [if_pos (.inr (.inl k7))] at HW
      by_cases hz : z = 0
      · rw [if_pos hz] at HW
        go_enter Tryz.func123, Tryz.ntmps123
        go_wp2_with fail
        refine HD.out.mono ?_
        rintro e w1 ⟨rfl, hb⟩
        have HB := Lib.hid hb
        have HL1 := Lib.hid (HL.out.next hb)
        have d7 := HL1.out.c7
        have d9 := HL1.out.c9
        rw [k7] at d7
        clear hb
        go_wp2_with fail
        refine (nadded_any HL1.out).mono ?_
        rintro e w2 ⟨rfl, rfl⟩
        rw [ha]
        go_wp2
        go_ret2
        exact ⟨ret_kb HW.out, HB.out⟩
      · rw [if_neg hz] at HW
        cases hr : rok n.own
        · rw [if_pos ⟨k7, hr⟩] at HW
          go_enter Tryz.func123, Tryz.ntmps123
          go_wp2_with fail
          refine HD.out.mono ?_
          rintro e w1 ⟨rfl, hb⟩
          have HB := Lib.hid hb
          have HL1 := Lib.hid (HL.out.next hb)
          have d7 := HL1.out.c7
          have d9 := HL1.out.c9
          rw [k7] at d7
          clear hb
          go_wp2_with fail
          refine (nadded_any HL1.out).mono ?_
          rintro e w2 ⟨rfl, rfl⟩
          rw [ha]
          go_wp2_with fail
          refine (nright_any HL1.out HO.out.own (by have := HO.out.len; omega)).mono ?_
          rintro e w3 ⟨rfl, hb3⟩
          have HB3 := Lib.hid (nxt HB.out hb3)
          clear hb3
          rw [hr]
          go_wp2
          go_ret2
          exact ⟨ret_kb HW.out, HB3.out⟩
        · rw [if_neg (by rw [hr]; simp)] at HW
          go_enter Tryz.func123, Tryz.ntmps123
          go_wp2_with fail
          refine HD.out.mono ?_
          rintro e w1 ⟨rfl, hb⟩
          have HB := Lib.hid hb
          have HL1 := Lib.hid (HL.out.next hb)
          have d7 := HL1.out.c7
          have d9 := HL1.out.c9
          rw [k7] at d7
          clear hb
          go_wp2_with fail
          refine (nadded_any HL1.out).mono ?_
          rintro e w2 ⟨rfl, rfl⟩
          rw [ha]
          go_wp2_with fail
          refine (nright_any HL1.out HO.out.own (by have := HO.out.len; omega)).mono ?_
          rintro e w3 ⟨rfl, hb3⟩
          have HB3 := Lib.hid (nxt HB.out hb3)
          clear hb3
          rw [hr]
          go_wp2
          go_ret2
          exact ⟨ret_kb HW.out, HB3.out⟩
    by_cases k8 : n.kind = 8
    · rw [if_pos (.inr (.inr k8))] at HW
      by_cases hz : z = 0
      · rw [if_pos hz] at HW
        go_enter Tryz.func123, Tryz.ntmps123
        go_wp2_with fail
        refine HD.out.mono ?_
        rintro e w1 ⟨rfl, hb⟩
        have HB := Lib.hid hb
        have HL1 := Lib.hid (HL.out.next hb)
        have d7 := HL1.out.c7
        have d9 := HL1.out.c9
        rw [k8] at d7
        clear hb
        go_wp2_with fail
        refine (nadded_any HL1.out).mono ?_
        rintro e w2 ⟨rfl, rfl⟩
        rw [ha]
        go_wp2
        go_ret2
        exact ⟨ret_kb HW.out, HB.out⟩
      · rw [if_neg hz] at HW
        rw [if_neg (by simp [k8])] at HW
        go_enter Tryz.func123, Tryz.ntmps123
        go_wp2_with fail
        refine HD.out.mono ?_
        rintro e w1 ⟨rfl, hb⟩
        have HB := Lib.hid hb
        have HL1 := Lib.hid (HL.out.next hb)
        have d7 := HL1.out.c7
        have d9 := HL1.out.c9
        rw [k8] at d7
        clear hb
        go_wp2_with fail
        refine (nadded_any HL1.out).mono ?_
        rintro e w2 ⟨rfl, rfl⟩
        rw [ha]
        go_wp2
        go_ret2
        exact ⟨ret_kb HW.out, HB.out⟩
    rw [if_neg (by simp [k5, k7, k8])] at HW
    go_enter Tryz.func123, Tryz.ntmps123
    go_wp2_with fail
    refine HD.out.mono ?_
    rintro e w1 ⟨rfl, hb⟩
    have HB := Lib.hid hb
    have HL1 := Lib.hid (HL.out.next hb)
    have d7 := HL1.out.c7
    have d9 := HL1.out.c9
    clear hb
    go_wp2_with fail
    refine (nadded_any HL1.out).mono ?_
    rintro e w2 ⟨rfl, rfl⟩
    rw [ha]
    go_wp2
    go_ret2
    exact ⟨ret_kb HW.out, HB.out⟩
  · rw [ha, if_pos rfl] at HW
    by_cases hz : z = n.bl
    · rw [if_pos hz] at HW
      go_enter Tryz.func123, Tryz.ntmps123
      go_wp2_with fail
      refine HD.out.mono ?_
      rintro e w1 ⟨rfl, hb⟩
      have HB := Lib.hid hb
      have HL1 := Lib.hid (HL.out.next hb)
      have d7 := HL1.out.c7
      have d9 := HL1.out.c9
      rw [← hz] at d9
      clear hb
      go_wp2_with fail
      refine (nadded_any HL1.out).mono ?_
      rintro e w2 ⟨rfl, rfl⟩
      rw [ha]
      go_wp2
      go_ret2
      exact ⟨ret_kb HW.out, HB.out⟩
    · rw [if_neg hz] at HW
      go_enter Tryz.func123, Tryz.ntmps123
      go_wp2_with fail
      refine HD.out.mono ?_
      rintro e w1 ⟨rfl, hb⟩
      have HB := Lib.hid hb
      have HL1 := Lib.hid (HL.out.next hb)
      have d7 := HL1.out.c7
      have d9 := HL1.out.c9
      clear hb
      go_wp2_with fail
      refine (nadded_any HL1.out).mono ?_
      rintro e w2 ⟨rfl, rfl⟩
      rw [ha]
      go_wp2
      go_ret2
      exact ⟨ret_kb HW.out, HB.out⟩
end Go.Proofs.YtalpbnfebcafgaaGreat

/- The contracts of end, goOn. -/
namespace Go.Proofs.YtalpbnfebcafgaaGreat
set_option maxRecDepth 20000
open Go.RowKit
set_option linter.unusedSimpArgs false

theorem Lay.turnq {w w' : World} {B : Nat} {p : NP} {n : Nd} {u : Value} {gs : List Fr} (hl : Lay w B p n) (hq : Que w' B p.gq u 16 gs) (ht : Turn p.gq p.vq u w w') :
    Lay w' B { p with vq := u } { n with q := gs } ∧ Moves p.fp (NP.fp { p with vq := u }) w w' := by
  have hk : ∀ k, k < w.heap.size → k ≠ p.gq → p.vq.ownBlock ≠ some k → w'.heap[k]? = w.heap[k]? := fun k h1 h2 h3 => ht.block k h1 h2 fun e => h3 e.symm
  have hint : ∀ (v : Value) (xs : List Int), Own w B v xs → ∀ k, v.ownBlock = some k → w'.heap[k]? = w.heap[k]? := fun v xs ho k e => by
    obtain ⟨cur, hc⟩ := owns_at ho e
    refine hk k (World.ownsRow.lt ho k e).2 (fun h => ?_) (owns_ne hl.que.own hc (by decide))
    subst h
    have hqq := hl.que.q
    unfold Qb at hqq
    rw [hc] at hqq
    injection hqq with hqq
    injection hqq with _ h2
    exact absurd h2 (by decide)
  refine ⟨⟨(hk _ hl.lt (Ne.symm hl.nq) hl.nqv).trans hl.blk, owns_move hl.own (hint _ _ hl.own), owns_move hl.lev (hint _ _ hl.lev), hq, hl.sep, hl.at_⟩, ?_⟩
  refine ⟨ht.os, ht.tape, ht.output, ht.size, fun k hlt hn => hk k hlt (fun e => hn (.inr (.inl e))) fun e => hn (.inr (.inr (.inr (.inr e)))), fun k hf => ?_⟩
  rcases hf with hf | hf | hf | hf | hf
  · exact .inl (.inl hf)
  · exact .inl (.inr (.inl hf))
  · exact .inl (.inr (.inr (.inl hf)))
  · exact .inl (.inr (.inr (.inr (.inl hf))))
  · rcases ht.lies with e | e
    · exact .inl (.inr (.inr (.inr (.inr (e.symm.trans hf)))))
    · exact .inr (e k hf)
theorem fb_apart {w : World} {B : Nat} {p : NP} {n : Nd} (hl : Lay w B p n) : ¬ p.fp w.heap.size := fun h => by have := hl.fp_lt _ h; omega
theorem evV_lit (w : World) (B : Nat) (k : Int) (f : Fr) (hB : B ≤ w.heap.size) : Eown (w.alloc (.cells (evcs (k, f)).toArray 41)) B (.slice (some ⟨w.heap.size, 0, none⟩) 1 1) [(k, f)] := Eown.lit w B [(k, f)] hB (by simp)

set_option maxHeartbeats 1600000 in
set_option maxRecDepth 100000 in
theorem fin_any {w : World} {B : Nat} {p : NP} {n : Nd} (hl : Lay w B p n) (hn : n.q.length ≤ 16) :
    Calls Tryz.prog 133 #[.pointer (some ⟨p.g, 0, none⟩)] w (Res B p w n.fin) := by
  have HL := Lib.hid hl
  have HN := Lib.hid hn
  have c11 := hl.c11
  have c12 := hl.c12
  have c13 := hl.c13
  have c14 := hl.c14
  have c15 := hl.c15
  have c16 := hl.c16
  have c17 := hl.c17
  have c18 := hl.c18
  have c19 := hl.c19
  have c20 := hl.c20
  have c21 := hl.c21
  have c22 := hl.c22
  have HF := Lib.hid (show n.fin = if n.tx then ([(1, n.outF)], { n.enter 8 with ct := n.ct.snt, q := drp n.outF n.q }) else ([], n.enter 8) from rfl)
  clear hl hn
  cases htx : n.tx
  · rw [htx, if_neg (by simp)] at HF
    go_enter Tryz.func133, Tryz.ntmps133
    go_wp2_with fail
    refine (enter_nor (HL.out.next (boxed n.outF w)) 8).mono ?_
    rintro e w2 ⟨vo', vl', vq', rfl, h1, h2⟩
    have d24 := h1.c24
    rw [show (n.enter 8).tx = false from htx] at d24
    have HG := Lib.hid (And.intro h1 ((Moves.of_below (boxed n.outF w) p.fp).trans h2))
    clear h1 h2
    go_wp2
    go_ret
    rw [HF.out]
    exact ⟨_, _, _, _, rfl, Eown.nil _ _, HG.out.1, HG.out.2⟩
  · rw [htx, if_pos rfl] at HF
    have HQ := Lib.hid (show (n.enter 8).q = n.q from rfl)
    have HC := Lib.hid (show (n.enter 8).ct = n.ct from rfl)
    go_enter Tryz.func133, Tryz.ntmps133
    go_wp2_with fail
    refine (enter_nor (HL.out.next (boxed n.outF w)) 8).mono ?_
    rintro e w2 ⟨vo', vl', vq', rfl, h1, h2⟩
    have d24 := h1.c24
    have d25 := h1.c25
    have d26 := h1.c26
    have d27 := h1.c27
    rw [show (n.enter 8).tx = true from htx] at d24
    have hfb := h2.blk (fb_new w n.outF) (fb_apart HL.out)
    have HFB := Lib.hid hfb
    have HG := Lib.hid (And.intro h1 ((Moves.of_below (boxed n.outF w) p.fp).trans h2))
    clear h1 h2 hfb
    rw [HC.out] at d25 d26 d27
    go_wp2_with fail
    refine (sent_any n.ct _).mono ?_
    rintro e w3 ⟨rfl, hb3⟩
    obtain ⟨h1, h2⟩ := HG.out
    have hl3 := h1.next hb3
    have e25 := hl3.c25
    have e26 := hl3.c26
    have e27 := hl3.c27
    have f25 := hl3.fz 25
    have f26 := hl3.fz 26
    have f27 := hl3.fz 27
    have hp := hl3.put_ct n.ct.snt rfl
    have hm := (h2.next hb3).trans (NP.moves _ hp.2)
    have hfb3 : Fb w3 w.heap.size n.outF := (hb3.block _ (typed_lt HFB.out.1)).trans HFB.out.1
    have HX := Lib.hid (And.intro hp.1 hm)
    have HFC := Lib.hid (show Fb (((w3.setCell ⟨p.g, 25, none⟩ (.int .i64 n.ct.snt.t)).setCell ⟨p.g, 26, none⟩ (.int .i64 n.ct.snt.r)).setCell ⟨p.g, 27, none⟩ (.bool n.ct.snt.o)) w.heap.size n.outF from
      (hp.2.block _ (by have := HL.out.lt; show w.heap.size ≠ p.g; omega)).trans hfb3)
    clear d25 d26 d27 d24 hb3 hl3 hp hm hfb3 h1 h2 c11 c12 c13 c14 c15 c16 c17 c18 c19 c20 c21 c22 HG
    dsimp only at HX
    go_wp2_with fail
    generalize (((w3.setCell ⟨p.g, 25, none⟩ (.int .i64 n.ct.snt.t)).setCell ⟨p.g, 26, none⟩ (.int .i64 n.ct.snt.r)).setCell ⟨p.g, 27, none⟩ (.bool n.ct.snt.o)) = W at *
    clear e25 e26 e27 f25 f26 f27
    refine wp_region_held_drew (S := fun w' => w'.cell? ⟨p.g, 28, none⟩ = some (.pointer (some ⟨p.gq, 0, none⟩)) ∧ Fb w' w.heap.size n.outF) (by kernel_rfl) ⟨HX.out.1.c28, HFC.out⟩ (fun hHeld => ?_)
    refine takeH (i := 0) (v := .pointer (some ⟨p.g, 0, none⟩)) rfl (by kernel_rfl) (by kernel_rfl) (by kernel_rfl) (fun _ _ _ h => h) (Or.inl ⟨by rfl, fun w hSw => ?_⟩) hHeld ?_
    · (clear hSw; go_simp)
    simp only [Act.put, List.setIfInBounds_toArray, List.set_cons_zero, List.set_cons_succ]
    refine takeH (i := 1) (v := .pointer (some ⟨p.g, 0, none⟩)) rfl (by kernel_rfl) (by kernel_rfl) (by kernel_rfl) (fun _ _ _ h => h) (Or.inl ⟨by rfl, fun w hSw => ?_⟩) hHeld ?_
    · (clear hSw; go_simp)
    simp only [Act.put, List.setIfInBounds_toArray, List.set_cons_zero, List.set_cons_succ]
    refine takeH (i := 2) (v := .pointer (some ⟨p.g, 28, none⟩)) rfl (by kernel_rfl) (by kernel_rfl) (by kernel_rfl) (fun _ _ _ h => h) (Or.inl ⟨by rfl, fun w hSw => ?_⟩) hHeld ?_
    · (clear hSw; go_simp)
    simp only [Act.put, List.setIfInBounds_toArray, List.set_cons_zero, List.set_cons_succ]
    refine takeH (i := 3) (v := .pointer (some ⟨p.gq, 0, none⟩)) rfl (by kernel_rfl) (by kernel_rfl) (by kernel_rfl) (fun _ _ _ h => h) (Or.inl ⟨by rfl, fun w hSw => ?_⟩) hHeld ?_
    · (have q1 := hSw.1; clear hSw; go_simp)
    simp only [Act.put, List.setIfInBounds_toArray, List.set_cons_zero, List.set_cons_succ]
    refine takeH (i := 4) (v := n.outF.val) rfl (by kernel_rfl) (by kernel_rfl) (by kernel_rfl) (fun _ _ _ h => h) (Or.inl ⟨by rfl, fun w hSw => ?_⟩) hHeld ?_
    · (obtain ⟨q0, q1, q2, q3, q4, q5, q6, q7, q8, q9, q10, q11⟩ := hSw.2.bx; clear hSw; go_simp)
    simp only [Act.put, List.setIfInBounds_toArray, List.set_cons_zero, List.set_cons_succ]
    refine wpAnyH_ready (rs := [5]) (by kernel_rfl) (by simp) ?_
    refine AllReadyH.cons rfl (fun K hK => ?_) AllReadyH.nil
    go_simp
    have hd := drop_q (f := n.outF) HX.out.1.drew.que (show _ ≤ 1000 from Nat.le_trans HN.out (by omega))
    refine hd.mono ?_
    rintro e w5 ⟨u, rfl, g1, g2⟩
    have ht := HX.out.1.drew.turnq g1 g2
    have hfb5 := ht.2.blk (show W.drew.heap[w.heap.size]? = _ from HFC.out) HFB.out.2
    have HT := Lib.hid (And.intro ht.1 ((HX.out.2.drew).trans ht.2))
    have HFD := Lib.hid (show Fb w5 w.heap.size n.outF from hfb5.1)
    clear hHeld g1 g2 ht hfb5 hd
    dsimp only
    refine hK.out _ _ ⟨HT.out.1.c28, HFD.out⟩ (fun hHeld => ?_)
    clear hK K
    try simp only [Act.put, List.setIfInBounds_toArray, List.set_cons_zero, List.set_cons_succ]
    refine wpAnyH_done (by kernel_rfl) ?_ _
    clear hHeld
    obtain ⟨b0, b1, b2, b3, b4, b5, b6, b7, b8, b9, b10, b11⟩ := HFD.out.bx
    go_wp2
    go_ret
    rw [HF.out]
    exact ⟨_, _, _, _, rfl, evV_lit w5 _ 1 n.outF HT.out.2.size, HT.out.1.next ((Below.refl _ _).alloc (Nat.le_refl _) _), HT.out.2.next ((Below.refl _ _).alloc (Nat.le_refl _) _)⟩
end Go.Proofs.YtalpbnfebcafgaaGreat

/- The contract of goOn. -/
namespace Go.Proofs.YtalpbnfebcafgaaGreat
set_option maxRecDepth 20000
open Go.RowKit
set_option linter.unusedSimpArgs false

theorem evV_lit2 (w : World) (o : Obj) (B : Nat) (k : Int) (f : Fr) (hB : B ≤ (w.alloc o).heap.size) : Eown ((w.alloc o).alloc (.cells (evcs (k, f)).toArray 41)) B (.slice (some ⟨w.heap.size + 1, 0, none⟩) 1 1) [(k, f)] := by
  have h := evV_lit (w.alloc o) B k f hB
  simpa using h
theorem fout_fF (o : List Int) : ∃ e : Int, fout o = .tuple #[(fF o).val, .int .i64 e] := by
  unfold fout fF
  by_cases h : o.length < hEnd (hEx o) ∨ o.length < ahead o
  · rw [if_pos h, if_pos (h.elim .inl fun h => .inr (.inl h))]; exact ⟨_, rfl⟩
  · rw [if_neg h]
    by_cases h0 : one o 0 = true
    · rw [if_pos h0, if_pos (.inr (.inr h0))]; exact ⟨_, rfl⟩
    · rw [if_neg h0, if_neg (fun h2 => h2.elim (fun h2 => h (.inl h2)) fun h2 => h2.elim (fun h2 => h (.inr h2)) h0)]; exact ⟨_, rfl⟩
/-- A node may take a level. -/
structure Okt (n : Nd) : Prop where
  own : ∀ z ∈ n.own, lvl z = true
  len : n.own.length ≤ 9000
  go : n.added = true ∨ kd n.own < 9
  b0 : 0 ≤ n.bn
  b1 : n.bn ≤ 4000000
  q : n.q.length ≤ 16
theorem take_own {n : Nd} {z : Int} (h : ∀ z ∈ n.own, lvl z = true) (hz : lvl z = true) : ∀ y ∈ (n.take z).own, lvl y = true := by
  unfold Nd.take
  split
  · exact h
  · exact all_append h fun y hy => by rw [List.mem_singleton.1 hy]; exact hz
theorem take_len {n : Nd} {z : Int} : (n.take z).own.length ≤ n.own.length + 1 := by
  unfold Nd.take
  split
  · exact Nat.le_succ _
  · show (n.own ++ [z]).length ≤ _
    rw [List.length_append]; exact Nat.le_refl _
theorem take_q {n : Nd} {z : Int} : (n.take z).q = n.q := by
  unfold Nd.take
  split <;> rfl
theorem onto_def (n : Nd) : n.onto = if n.kind = 9 then n.fin else if n.kind = 8 ∧ n.nth = 6 ∧ n.tx = false then ([(2, fF n.own)], { n with ct := n.ct.rcv }) else ([], n) := rfl

set_option maxHeartbeats 1600000 in
theorem ngoOn_any {w : World} {B : Nat} {p : NP} {n : Nd} (hl : Lay w B p n) (ht : Okt n) (z : Int) (hz : lvl z = true) :
    Calls Tryz.prog 124 #[.pointer (some ⟨p.g, 0, none⟩), .int .i64 z] w (Res B p w (n.goOn z)) := by
  have HO := Lib.hid (take_own (n := n) ht.own hz)
  have HN := Lib.hid (show (n.take z).own.length ≤ 10000 from Nat.le_trans take_len (by have := ht.len; omega))
  have HQ := Lib.hid (show (n.take z).q.length ≤ 16 by rw [take_q]; exact ht.q)
  have HT := Lib.hid (take_any10 hl z ht.own hz (by have := ht.len; omega) ht.go ht.b0 ht.b1)
  have HG := Lib.hid (show n.goOn z = (n.take z).onto from rfl)
  clear hl ht hz
  generalize n.take z = m at *
  have HD := Lib.hid (onto_def m)
  by_cases k9 : m.kind = 9
  · rw [if_pos k9] at HD
    go_enter Tryz.func124, Tryz.ntmps124
    go_wp2_with fail
    refine HT.out.mono ?_
    rintro e w1 ⟨vo1, vl1, vq1, rfl, h1, h2⟩
    have d7 := h1.c7
    rw [k9] at d7
    have HF := Lib.hid (And.intro h1 h2)
    clear h1 h2 HT
    go_wp2_with fail
    refine (fin_any HF.out.1 HQ.out).mono ?_
    rintro e w2 ⟨u, vo2, vl2, vq2, rfl, g1, g2, g3⟩
    have HE := Lib.hid (And.intro g1 (And.intro g2 g3))
    clear g1 g2 g3
    go_wp2
    go_ret
    rw [HG.out, HD.out]
    obtain ⟨g1, g2, g3⟩ := HE.out
    exact ⟨u, _, _, _, rfl, g1.base HF.out.2.size, g2, HF.out.2.trans g3⟩
  rw [if_neg k9] at HD
  by_cases k8 : m.kind = 8
  · by_cases k6 : m.nth = 6
    · cases htx : m.tx
      · rw [if_pos ⟨k8, k6, htx⟩] at HD
        obtain ⟨er, he⟩ := fout_fF m.own
        have HFF := Lib.hid he
        clear he
        go_enter Tryz.func124, Tryz.ntmps124
        go_wp2_with fail
        refine HT.out.mono ?_
        rintro e w1 ⟨vo1, vl1, vq1, rfl, h1, h2⟩
        have d7 := h1.c7
        rw [k8] at d7
        have d8 := h1.c8
        rw [k6] at d8
        have d24 := h1.c24
        rw [htx] at d24
        have d25 := h1.c25
        have d26 := h1.c26
        have d27 := h1.c27
        have HF := Lib.hid (And.intro h1 h2)
        clear h1 h2 HT
        go_wp2_with fail
        refine (received_any m.ct _).mono ?_
        rintro e w3 ⟨rfl, hb3⟩
        obtain ⟨h1, h2⟩ := HF.out
        have hl3 := h1.next hb3
        have e25 := hl3.c25
        have e26 := hl3.c26
        have e27 := hl3.c27
        have f25 := hl3.fz 25
        have f26 := hl3.fz 26
        have f27 := hl3.fz 27
        have c6 := hl3.c6
        have hp := hl3.put_ct m.ct.rcv rfl
        have hm := (h2.next hb3).trans (NP.moves _ hp.2)
        obtain ⟨A, cap, ev, hi, hc⟩ := hp.1.own.il2
        have ev' : vo1 = .slice A m.own.length cap := ev
        subst ev'
        have HI := Lib.hid hi
        have HX := Lib.hid (And.intro hp.1 hm)
        clear d7 d8 d24 d25 d26 d27 h1 h2 hb3 hl3 hp hm hi ev HF
        dsimp only at HX HI
        go_wp2_with fail
        refine (frame_any A _ cap m.own _ HI.out (by have := HN.out; omega) hc HO.out).mono ?_
        rintro e w4 ⟨rfl, hb4⟩
        rw [HFF.out]
        have HY := Lib.hid (And.intro (HX.out.1.next hb4) (HX.out.2.next hb4))
        clear hb4 HX HI e25 e26 e27 f25 f26 f27 c6 hc
        have HB := Lib.hid (boxed (fF m.own) w4)
        go_wp2
        go_ret
        rw [HG.out, HD.out]
        obtain ⟨h1, h2⟩ := HY.out
        have h3 := h1.next HB.out
        have h4 := h2.next HB.out
        exact ⟨_, _, _, _, rfl, evV_lit2 _ _ _ 2 (fF m.own) h4.size, h3.next ((Below.refl _ _).alloc (Nat.le_refl _) _), h4.next ((Below.refl _ _).alloc (Nat.le_refl _) _)⟩
      · rw [if_neg (by rw [htx]; simp)] at HD
        go_enter Tryz.func124, Tryz.ntmps124
        go_wp2_with fail
        refine HT.out.mono ?_
        rintro e w1 ⟨vo1, vl1, vq1, rfl, h1, h2⟩
        have d7 := h1.c7
        rw [k8] at d7
        have d8 := h1.c8
        rw [k6] at d8
        have d24 := h1.c24
        rw [htx] at d24
        have HF := Lib.hid (And.intro h1 h2)
        clear h1 h2 HT
        go_wp2
        go_ret
        rw [HG.out, HD.out]
        exact ⟨_, _, _, _, rfl, Eown.nil _ _, HF.out.1, HF.out.2⟩
    · rw [if_neg (by simp [k6])] at HD
      go_enter Tryz.func124, Tryz.ntmps124
      go_wp2_with fail
      refine HT.out.mono ?_
      rintro e w1 ⟨vo1, vl1, vq1, rfl, h1, h2⟩
      have d7 := h1.c7
      rw [k8] at d7
      have d8 := h1.c8
      have HF := Lib.hid (And.intro h1 h2)
      clear h1 h2 HT
      go_wp2
      go_ret
      rw [HG.out, HD.out]
      exact ⟨_, _, _, _, rfl, Eown.nil _ _, HF.out.1, HF.out.2⟩
  · rw [if_neg (by simp [k8])] at HD
    go_enter Tryz.func124, Tryz.ntmps124
    go_wp2_with fail
    refine HT.out.mono ?_
    rintro e w1 ⟨vo1, vl1, vq1, rfl, h1, h2⟩
    have d7 := h1.c7
    have HF := Lib.hid (And.intro h1 h2)
    clear h1 h2 HT
    go_wp2
    go_ret
    rw [HG.out, HD.out]
    exact ⟨_, _, _, _, rfl, Eown.nil _ _, HF.out.1, HF.out.2⟩
end Go.Proofs.YtalpbnfebcafgaaGreat

/- The contracts of failUnheard, receive, send, inFrame. -/
namespace Go.Proofs.YtalpbnfebcafgaaGreat
set_option maxRecDepth 20000
open Go.RowKit
set_option linter.unusedSimpArgs false

/-- A node is in a frame, and may take a level. -/
structure Inf (n : Nd) : Prop where
  f : Okf n
  t : Okt n
  m : n.mode = 2

/-- What a call hands on that it was told. -/
theorem Res.of {B : Nat} {p : NP} {w w1 w2 : World} {vo vl vq : Value} {r : List Ev × Nd} {e : Ending} (hm : Moves p.fp (NP.fp ⟨p.g, p.gq, vo, vl, vq⟩) w w1) (h : Res B ⟨p.g, p.gq, vo, vl, vq⟩ w1 r e w2) : Res B p w r e w2 := by
  obtain ⟨u, vo2, vl2, vq2, rfl, g1, g2, g3⟩ := h
  exact ⟨u, _, _, _, rfl, g1.base hm.size, g2, hm.trans g3⟩
theorem Res.ret {B : Nat} {p : NP} {w w2 : World} {r : List Ev × Nd} {u : Value} (h : Res B p w r (.returned u) w2) {r' : List Ev × Nd} (e : r' = r) : Res B p w r' (.returned u) w2 := e ▸ h
theorem Res.plain {B : Nat} {p : NP} {w w' : World} {n : Nd} (hl : Lay w' B p n) (hm : Moves p.fp p.fp w w') : Res B p w ([], n) (.returned (.slice none 0 0)) w' := ⟨_, _, _, _, rfl, Eown.nil _ _, hl, hm⟩

set_option maxHeartbeats 800000 in
theorem unheard_any {w : World} {B : Nat} {p : NP} {n : Nd} (hl : Lay w B p n) :
    Calls Tryz.prog 125 #[.pointer (some ⟨p.g, 0, none⟩)] w (Res B p w n.unheard) := by
  have HL := Lib.hid hl
  have HU := Lib.hid (show n.unheard = if n.pas then ([ev 8], { n.flg with owed := true }) else n.fail 8 from rfl)
  clear hl
  cases hp : n.pas
  · rw [hp] at HU
    go_enter Tryz.func125, Tryz.ntmps125
    go_wp2_with fail
    refine (passive_any HL.out).mono ?_
    rintro e w1 ⟨rfl, hb1⟩
    have HB := Lib.hid hb1
    clear hb1
    rw [hp]
    go_wp2_with fail
    refine (fail_any (HL.out.next HB.out) 8).mono ?_
    rintro e w2 ⟨u, vo1, vl1, vq1, rfl, g1, g2, g3⟩
    have HE := Lib.hid (And.intro g1 (And.intro g2 g3))
    clear g1 g2 g3
    go_wp2
    go_ret
    obtain ⟨g1, g2, g3⟩ := HE.out
    rw [HU.out]
    exact ⟨u, _, _, _, rfl, g1.base HB.out.size, g2, (Moves.of_below HB.out p.fp).trans g3⟩
  · rw [hp] at HU
    go_enter Tryz.func125, Tryz.ntmps125
    go_wp2_with fail
    refine (passive_any HL.out).mono ?_
    rintro e w1 ⟨rfl, hb1⟩
    have HB := Lib.hid hb1
    clear hb1
    rw [hp]
    go_wp2_with fail
    refine (failU_any (HL.out.next HB.out) 8).mono ?_
    rintro e w2 ⟨u, vo1, vl1, vq1, rfl, g1, g2, g3⟩
    have d4 := g2.c4
    have f4 := g2.fz 4
    have HE := Lib.hid (And.intro g1 (And.intro g2 g3))
    clear g1 g2 g3
    go_wp2
    go_ret
    obtain ⟨g1, g2, g3⟩ := HE.out
    rw [HU.out]
    have ho : Only p.g w2 (w2.setCell ⟨p.g, 4, none⟩ (.bool true)) := (Only.refl _ _).set
    refine ⟨u, _, _, _, rfl, ?_, g2.turn (n' := { n.flg with owed := true }) ho (cells_set g2.blk) rfl rfl rfl, ((Moves.of_below HB.out p.fp).trans g3).trans (NP.moves ⟨p.g, p.gq, vo1, vl1, vq1⟩ ho)⟩
    exact (g1.moves (NP.moves ⟨p.g, p.gq, vo1, vl1, vq1⟩ ho) (g1.apart g2)).base HB.out.size

theorem recv_def (n : Nd) (z : Int) : n.recv z = if n.kind = 8 ∧ n.nth = 6 ∧ z = 0 then n.over else if n.wrongK z ≠ 0 then n.fail (n.wrongK z) else n.goOn z := rfl
set_option maxHeartbeats 800000 in
theorem recv_any {w : World} {B : Nat} {p : NP} {n : Nd} (hl : Lay w B p n) (hi : Inf n) (z : Int) (hz : lvl z = true) :
    Calls Tryz.prog 108 #[.pointer (some ⟨p.g, 0, none⟩), .int .i64 z] w (Res B p w (n.recv z)) := by
  have HL := Lib.hid hl
  have HI := Lib.hid hi
  have HZ := Lib.hid hz
  have HD := Lib.hid (recv_def n z)
  clear hl hi hz
  by_cases hlt : n.kind = 8 ∧ n.nth = 6 ∧ z = 0
  · rw [if_pos hlt] at HD
    have hb : decide (n.kind = 8 ∧ n.nth = 6 ∧ z = 0) = true := decide_eq_true hlt
    clear hlt
    go_enter Tryz.func108, Tryz.ntmps108
    go_wp2_with fail
    refine (late_any HL.out z).mono ?_
    rintro e w1 ⟨rfl, rfl⟩
    rw [hb]
    go_wp2_with fail
    refine (over_any HL.out).mono ?_
    rintro e w2 ⟨u, vo1, vl1, vq1, rfl, g1, g2, g3⟩
    have HE := Lib.hid (And.intro g1 (And.intro g2 g3))
    clear g1 g2 g3
    go_wp2
    go_ret
    rw [HD.out]
    exact ⟨u, _, _, _, rfl, HE.out.1, HE.out.2.1, HE.out.2.2⟩
  · rw [if_neg hlt] at HD
    have hb : decide (n.kind = 8 ∧ n.nth = 6 ∧ z = 0) = false := decide_eq_false hlt
    clear hlt
    by_cases hk : n.wrongK z ≠ 0
    · rw [if_pos hk] at HD
      have hc : decide (n.wrongK z ≠ 0) = true := decide_eq_true hk
      clear hk
      go_enter Tryz.func108, Tryz.ntmps108
      go_wp2_with fail
      refine (late_any HL.out z).mono ?_
      rintro e w1 ⟨rfl, rfl⟩
      rw [hb]
      go_wp2_with fail
      refine (nwrong_any HL.out HI.out.f HI.out.m z).mono ?_
      rintro e w1 ⟨rfl, hb1⟩
      have HB := Lib.hid hb1
      rw [hc]
      clear hb1
      go_wp2_with fail
      refine (fail_any (HL.out.next HB.out) (n.wrongK z)).mono ?_
      rintro e w2 ⟨u, vo1, vl1, vq1, rfl, g1, g2, g3⟩
      have HE := Lib.hid (And.intro g1 (And.intro g2 g3))
      clear g1 g2 g3
      go_wp2
      go_ret
      rw [HD.out]
      exact ⟨u, _, _, _, rfl, HE.out.1.base HB.out.size, HE.out.2.1, (Moves.of_below HB.out p.fp).trans HE.out.2.2⟩
    · rw [if_neg hk] at HD
      have hc : decide (n.wrongK z ≠ 0) = false := decide_eq_false hk
      clear hk
      go_enter Tryz.func108, Tryz.ntmps108
      go_wp2_with fail
      refine (late_any HL.out z).mono ?_
      rintro e w1 ⟨rfl, rfl⟩
      rw [hb]
      go_wp2_with fail
      refine (nwrong_any HL.out HI.out.f HI.out.m z).mono ?_
      rintro e w1 ⟨rfl, hb1⟩
      have HB := Lib.hid hb1
      rw [hc]
      clear hb1
      go_wp2_with fail
      refine (ngoOn_any (HL.out.next HB.out) HI.out.t z HZ.out).mono ?_
      rintro e w2 ⟨u, vo1, vl1, vq1, rfl, g1, g2, g3⟩
      have HE := Lib.hid (And.intro g1 (And.intro g2 g3))
      clear g1 g2 g3
      go_wp2
      go_ret
      rw [HD.out]
      exact ⟨u, _, _, _, rfl, HE.out.1.base HB.out.size, HE.out.2.1, (Moves.of_below HB.out p.fp).trans HE.out.2.2⟩

theorem send_def (n : Nd) (z : Int) : n.send z = if n.kind = 6 then (if z = 0 then n.goOn z else n.unheard)
  else if n.kind = 1 ∧ n.added = true ∧ z < n.drvIn then n.failU 5 else if z = n.drvIn then n.goOn z else n.fail 4 := rfl
set_option maxHeartbeats 4000000 in
theorem send_any10 {w : World} {B : Nat} {p : NP} {n : Nd} (hl : Lay w B p n) (hi : Inf n) (z : Int) (hz : lvl z = true) :
    Calls Tryz.prog 109 #[.pointer (some ⟨p.g, 0, none⟩), .int .i64 z] w (Res B p w (n.send z)) := by
  have HL := Lib.hid hl
  have HI := Lib.hid hi
  have HZ := Lib.hid hz
  have HD := Lib.hid (send_def n z)
  clear hl hi hz
  by_cases k6 : n.kind = 6
  · rw [if_pos k6] at HD
    by_cases hz0 : z = 0
    · rw [if_pos hz0] at HD
      subst hz0
      go_enter Tryz.func109, Tryz.ntmps109
      go_wp2_with fail
      refine (drv_frame HL.out HI.out.f HI.out.m).mono ?_
      rintro e w1 ⟨rfl, hb1⟩
      have HB := Lib.hid hb1
      have HL1 := Lib.hid (HL.out.next hb1)
      have d7 := HL1.out.c7
      rw [k6] at d7
      clear hb1
      go_wp2_with fail
      refine (ngoOn_any HL1.out HI.out.t 0 HZ.out).mono ?_
      rintro e w2 ⟨u, vo1, vl1, vq1, rfl, g1, g2, g3⟩
      have HE := Lib.hid (And.intro g1 (And.intro g2 g3))
      clear g1 g2 g3
      go_wp2
      go_ret
      rw [HD.out]
      exact ⟨u, _, _, _, rfl, HE.out.1.base HB.out.size, HE.out.2.1, (Moves.of_below HB.out p.fp).trans HE.out.2.2⟩
    · rw [if_neg hz0] at HD
      go_enter Tryz.func109, Tryz.ntmps109
      go_wp2_with fail
      refine (drv_frame HL.out HI.out.f HI.out.m).mono ?_
      rintro e w1 ⟨rfl, hb1⟩
      have HB := Lib.hid hb1
      have HL1 := Lib.hid (HL.out.next hb1)
      have d7 := HL1.out.c7
      rw [k6] at d7
      clear hb1
      go_wp2_with fail
      refine (unheard_any HL1.out).mono ?_
      rintro e w2 ⟨u, vo1, vl1, vq1, rfl, g1, g2, g3⟩
      have HE := Lib.hid (And.intro g1 (And.intro g2 g3))
      clear g1 g2 g3
      go_wp2
      go_ret
      rw [HD.out]
      exact ⟨u, _, _, _, rfl, HE.out.1.base HB.out.size, HE.out.2.1, (Moves.of_below HB.out p.fp).trans HE.out.2.2⟩
  rw [if_neg k6] at HD
  by_cases hs : z = n.drvIn
  · have hn : ¬ z < n.drvIn := by omega
    rw [if_neg (fun h => hn h.2.2), if_pos hs] at HD
    have HS := Lib.hid hs
    have hs1 : (z != n.drvIn) = false := by simp [hs]
    clear hs
    by_cases k1 : n.kind = 1
    · cases ha : n.added
      · go_enter Tryz.func109, Tryz.ntmps109
        go_wp2_with fail
        refine (drv_frame HL.out HI.out.f HI.out.m).mono ?_
        rintro e w1 ⟨rfl, hb1⟩
        have HB := Lib.hid hb1
        have HL1 := Lib.hid (HL.out.next hb1)
        have d7 := HL1.out.c7
        rw [k1] at d7
        clear hb1
        go_wp2_with fail
        refine (nadded_any HL1.out).mono ?_
        rintro e w2 ⟨rfl, rfl⟩
        rw [ha]
        go_wp2_with fail
        refine (ngoOn_any HL1.out HI.out.t z HZ.out).mono ?_
        rintro e w2 ⟨u, vo1, vl1, vq1, rfl, g1, g2, g3⟩
        have HE := Lib.hid (And.intro g1 (And.intro g2 g3))
        clear g1 g2 g3
        go_wp2
        go_ret
        rw [HD.out]
        exact ⟨u, _, _, _, rfl, HE.out.1.base HB.out.size, HE.out.2.1, (Moves.of_below HB.out p.fp).trans HE.out.2.2⟩
      · go_enter Tryz.func109, Tryz.ntmps109
        go_wp2_with fail
        refine (drv_frame HL.out HI.out.f HI.out.m).mono ?_
        rintro e w1 ⟨rfl, hb1⟩
        have HB := Lib.hid hb1
        have HL1 := Lib.hid (HL.out.next hb1)
        have d7 := HL1.out.c7
        rw [k1] at d7
        clear hb1
        go_wp2_with fail
        refine (nadded_any HL1.out).mono ?_
        rintro e w2 ⟨rfl, rfl⟩
        rw [ha]
        go_wp2_with fail
        refine (ngoOn_any HL1.out HI.out.t z HZ.out).mono ?_
        rintro e w2 ⟨u, vo1, vl1, vq1, rfl, g1, g2, g3⟩
        have HE := Lib.hid (And.intro g1 (And.intro g2 g3))
        clear g1 g2 g3
        go_wp2
        go_ret
        rw [HD.out]
        exact ⟨u, _, _, _, rfl, HE.out.1.base HB.out.size, HE.out.2.1, (Moves.of_below HB.out p.fp).trans HE.out.2.2⟩
    · go_enter Tryz.func109, Tryz.ntmps109
      go_wp2_with fail
      refine (drv_frame HL.out HI.out.f HI.out.m).mono ?_
      rintro e w1 ⟨rfl, hb1⟩
      have HB := Lib.hid hb1
      have HL1 := Lib.hid (HL.out.next hb1)
      have d7 := HL1.out.c7
      clear hb1
      go_wp2_with fail
      refine (ngoOn_any HL1.out HI.out.t z HZ.out).mono ?_
      rintro e w2 ⟨u, vo1, vl1, vq1, rfl, g1, g2, g3⟩
      have HE := Lib.hid (And.intro g1 (And.intro g2 g3))
      clear g1 g2 g3
      go_wp2
      go_ret
      rw [HD.out]
      exact ⟨u, _, _, _, rfl, HE.out.1.base HB.out.size, HE.out.2.1, (Moves.of_below HB.out p.fp).trans HE.out.2.2⟩
  by_cases k1 : n.kind = 1
  · cases ha : n.added
    · rw [if_neg (by rw [ha]; simp), if_neg hs] at HD
      go_enter Tryz.func109, Tryz.ntmps109
      go_wp2_with fail
      refine (drv_frame HL.out HI.out.f HI.out.m).mono ?_
      rintro e w1 ⟨rfl, hb1⟩
      have HB := Lib.hid hb1
      have HL1 := Lib.hid (HL.out.next hb1)
      have d7 := HL1.out.c7
      rw [k1] at d7
      clear hb1
      go_wp2_with fail
      refine (nadded_any HL1.out).mono ?_
      rintro e w2 ⟨rfl, rfl⟩
      rw [ha]
      go_wp2_with fail
      refine (fail_any HL1.out 4).mono ?_
      rintro e w2 ⟨u, vo1, vl1, vq1, rfl, g1, g2, g3⟩
      have HE := Lib.hid (And.intro g1 (And.intro g2 g3))
      clear g1 g2 g3
      go_wp2
      go_ret
      rw [HD.out]
      exact ⟨u, _, _, _, rfl, HE.out.1.base HB.out.size, HE.out.2.1, (Moves.of_below HB.out p.fp).trans HE.out.2.2⟩
    · by_cases hlt : z < n.drvIn
      · rw [if_pos ⟨k1, ha, hlt⟩] at HD
        go_enter Tryz.func109, Tryz.ntmps109
        go_wp2_with fail
        refine (drv_frame HL.out HI.out.f HI.out.m).mono ?_
        rintro e w1 ⟨rfl, hb1⟩
        have HB := Lib.hid hb1
        have HL1 := Lib.hid (HL.out.next hb1)
        have d7 := HL1.out.c7
        rw [k1] at d7
        clear hb1
        go_wp2_with fail
        refine (nadded_any HL1.out).mono ?_
        rintro e w2 ⟨rfl, rfl⟩
        rw [ha]
        go_wp2_with fail
        refine (failU_any HL1.out 5).mono ?_
        rintro e w2 ⟨u, vo1, vl1, vq1, rfl, g1, g2, g3⟩
        have HE := Lib.hid (And.intro g1 (And.intro g2 g3))
        clear g1 g2 g3
        go_wp2
        go_ret
        rw [HD.out]
        exact ⟨u, _, _, _, rfl, HE.out.1.base HB.out.size, HE.out.2.1, (Moves.of_below HB.out p.fp).trans HE.out.2.2⟩
      · rw [if_neg (fun h => hlt h.2.2), if_neg hs] at HD
        go_enter Tryz.func109, Tryz.ntmps109
        go_wp2_with fail
        refine (drv_frame HL.out HI.out.f HI.out.m).mono ?_
        rintro e w1 ⟨rfl, hb1⟩
        have HB := Lib.hid hb1
        have HL1 := Lib.hid (HL.out.next hb1)
        have d7 := HL1.out.c7
        rw [k1] at d7
        clear hb1
        go_wp2_with fail
        refine (nadded_any HL1.out).mono ?_
        rintro e w2 ⟨rfl, rfl⟩
        rw [ha]
        go_wp2_with fail
        refine (fail_any HL1.out 4).mono ?_
        rintro e w2 ⟨u, vo1, vl1, vq1, rfl, g1, g2, g3⟩
        have HE := Lib.hid (And.intro g1 (And.intro g2 g3))
        clear g1 g2 g3
        go_wp2
        go_ret
        rw [HD.out]
        exact ⟨u, _, _, _, rfl, HE.out.1.base HB.out.size, HE.out.2.1, (Moves.of_below HB.out p.fp).trans HE.out.2.2⟩
  · rw [if_neg (fun h => k1 h.1), if_neg hs] at HD
    go_enter Tryz.func109, Tryz.ntmps109
    go_wp2_with fail
    refine (drv_frame HL.out HI.out.f HI.out.m).mono ?_
    rintro e w1 ⟨rfl, hb1⟩
    have HB := Lib.hid hb1
    have HL1 := Lib.hid (HL.out.next hb1)
    have d7 := HL1.out.c7
    clear hb1
    go_wp2_with fail
    refine (fail_any HL1.out 4).mono ?_
    rintro e w2 ⟨u, vo1, vl1, vq1, rfl, g1, g2, g3⟩
    have HE := Lib.hid (And.intro g1 (And.intro g2 g3))
    clear g1 g2 g3
    go_wp2
    go_ret
    rw [HD.out]
    exact ⟨u, _, _, _, rfl, HE.out.1.base HB.out.size, HE.out.2.1, (Moves.of_below HB.out p.fp).trans HE.out.2.2⟩
end Go.Proofs.YtalpbnfebcafgaaGreat

