/- The contract of inFrame. -/
import Derived.Test.YtalpbnfebcafgaaGreatY3
import Derived.Laws.EntriesVeiled
namespace Go.Proofs.YtalpbnfebcafgaaGreat
set_option maxRecDepth 20000
open Go.RowKit
set_option linter.unusedSimpArgs false

theorem NP.fp_nol (p : NP) (k : Nat) (h : NP.fp { p with vl := .slice none 0 0 } k) : p.fp k := by
  rcases h with h | h | h | h | h
  · exact .inl h
  · exact .inr (.inl h)
  · exact .inr (.inr (.inl h))
  · cases h
  · exact .inr (.inr (.inr (.inr h)))
theorem Lay.nol {w w' : World} {B : Nat} {p : NP} {n n' : Nd} (h : Lay w B p n) (ho : Only p.g w w') (hb : w'.heap[p.g]? = some (.cells (n'.cells p.vo (.slice none 0 0) p.gq) 109)) (e1 : n'.own = n.own) (e2 : n'.outL = []) (e3 : n'.q = n.q) : Lay w' B { p with vl := .slice none 0 0 } n' := by
  refine ⟨hb, ?_, ?_, ?_, .symm (.inl rfl), h.at_⟩
  · rw [e1]; exact owns_move h.own fun k hk => ho.block k fun e => h.no (e ▸ hk)
  · rw [e2]; exact Own.nil _ _
  · rw [e3]; exact ⟨(ho.block _ h.nq).trans h.que.q, owns_move h.que.own fun k hk => ho.block k fun e => h.nqv (e ▸ hk), h.que.at_⟩
theorem Inf.lost {n : Nd} (h : Inf n) : Inf n.lost := ⟨⟨h.f.own, h.f.len, fun e => by cases e⟩, ⟨h.t.own, h.t.len, h.t.go, h.t.b0, h.t.b1, h.t.q⟩, h.m⟩
theorem inF_def (n : Nd) (z : Int) : n.inF z = if n.loses z then (ev 3 :: (n.lost.recv z).1, (n.lost.recv z).2) else if n.tx then n.send z else n.recv z := rfl
theorem casE_len (n : Nd) (x : Int) : (n.casE x).length ≤ 1 := by unfold Nd.casE; split <;> simp
theorem fail_len (n : Nd) (k : Int) : (n.fail k).1.length ≤ 2 := by
  have := casE_len n.flg 1
  show (ev k :: n.flg.casE 1).length ≤ 2
  rw [List.length_cons]; omega
theorem goOn_len (n : Nd) (z : Int) : (n.goOn z).1.length ≤ 1 := by
  unfold Nd.goOn Nd.onto Nd.fin
  split
  · split <;> simp
  · split <;> simp
theorem recv_len (n : Nd) (z : Int) : (n.recv z).1.length ≤ 2 := by
  rw [recv_def]
  split
  · show [ev 9].length ≤ 2; simp
  · split
    · exact fail_len _ _
    · have := goOn_len n z; omega

set_option maxHeartbeats 2000000 in
theorem inF_any {w : World} {B : Nat} {p : NP} {n : Nd} (hl : Lay w B p n) (hi : Inf n) (z : Int) (hz : lvl z = true) :
    Calls Tryz.prog 92 #[.pointer (some ⟨p.g, 0, none⟩), .int .i64 z] w (Res B p w (n.inF z)) := by
  have HL := Lib.hid hl
  have HI := Lib.hid hi
  have HZ := Lib.hid hz
  have HD := Lib.hid (inF_def n z)
  clear hl hi hz
  cases hs : n.loses z
  · rw [hs, if_neg (by simp)] at HD
    cases htx : n.tx
    · rw [htx, if_neg (by simp)] at HD
      go_enter Tryz.func92, Tryz.ntmps92
      go_wp2_with fail
      refine (loses_any10 HL.out HI.out.f HI.out.m z).mono ?_
      rintro e w1 ⟨rfl, hb1⟩
      have HB := Lib.hid hb1
      have HL1 := Lib.hid (HL.out.next hb1)
      have d24 := HL1.out.c24
      rw [htx] at d24
      rw [hs]
      clear hb1
      go_wp2_with fail
      refine (recv_any HL1.out HI.out z HZ.out).mono ?_
      rintro e w2 ⟨u, vo1, vl1, vq1, rfl, g1, g2, g3⟩
      have HE := Lib.hid (And.intro g1 (And.intro g2 g3))
      clear g1 g2 g3
      go_wp2
      go_ret
      rw [HD.out]
      exact ⟨u, _, _, _, rfl, HE.out.1.base HB.out.size, HE.out.2.1, (Moves.of_below HB.out p.fp).trans HE.out.2.2⟩
    · rw [htx, if_pos rfl] at HD
      go_enter Tryz.func92, Tryz.ntmps92
      go_wp2_with fail
      refine (loses_any10 HL.out HI.out.f HI.out.m z).mono ?_
      rintro e w1 ⟨rfl, hb1⟩
      have HB := Lib.hid hb1
      have HL1 := Lib.hid (HL.out.next hb1)
      have d24 := HL1.out.c24
      rw [htx] at d24
      rw [hs]
      clear hb1
      go_wp2_with fail
      refine (send_any10 HL1.out HI.out z HZ.out).mono ?_
      rintro e w2 ⟨u, vo1, vl1, vq1, rfl, g1, g2, g3⟩
      have HE := Lib.hid (And.intro g1 (And.intro g2 g3))
      clear g1 g2 g3
      go_wp2
      go_ret
      rw [HD.out]
      exact ⟨u, _, _, _, rfl, HE.out.1.base HB.out.size, HE.out.2.1, (Moves.of_below HB.out p.fp).trans HE.out.2.2⟩
  · rw [hs, if_pos rfl] at HD
    go_enter Tryz.func92, Tryz.ntmps92
    go_wp2_with fail
    refine (loses_any10 HL.out HI.out.f HI.out.m z).mono ?_
    rintro e w1 ⟨rfl, hb1⟩
    have HB := Lib.hid hb1
    have HL1 := Lib.hid (HL.out.next hb1)
    rw [hs]
    have fz := fun i => HL1.out.fz i
    have d11 := HL1.out.c11
    have d12 := HL1.out.c12
    have d13 := HL1.out.c13
    have d14 := HL1.out.c14
    have d15 := HL1.out.c15
    have d16 := HL1.out.c16
    have d17 := HL1.out.c17
    have d18 := HL1.out.c18
    have d19 := HL1.out.c19
    have d20 := HL1.out.c20
    have d21 := HL1.out.c21
    have d22 := HL1.out.c22
    have d23 := HL1.out.c23
    have d24 := HL1.out.c24
    clear hb1
    obtain ⟨W, hW⟩ : ∃ W, ((((((((((((((w1.setCell ⟨p.g, 24, none⟩ (.bool false)).setCell ⟨p.g, 11, none⟩ (.int .i64 0)).setCell ⟨p.g, 12, none⟩ (.bool false)).setCell ⟨p.g, 13, none⟩ (.bool false)).setCell ⟨p.g, 14, none⟩ (.int .i64 0)).setCell ⟨p.g, 15, none⟩ (.int .u8 0)).setCell ⟨p.g, 16, none⟩ (.int .u8 0)).setCell ⟨p.g, 17, none⟩ (.int .u8 0)).setCell ⟨p.g, 18, none⟩ (.int .u8 0)).setCell ⟨p.g, 19, none⟩ (.int .u8 0)).setCell ⟨p.g, 20, none⟩ (.int .u8 0)).setCell ⟨p.g, 21, none⟩ (.int .u8 0)).setCell ⟨p.g, 22, none⟩ (.int .u8 0)).setCell ⟨p.g, 23, none⟩ (.slice none 0 0)) = W := ⟨_, rfl⟩
    have ho : Only p.g w1 W := by
      rw [← hW]
      repeat apply Only.set
      exact Only.refl _ _
    have hlw : Lay W B { p with vl := .slice none 0 0 } n.lost := by
      refine HL1.out.nol ho ?_ rfl rfl rfl
      rw [← hW]
      apply cells_to
      · repeat apply cells_set
        exact HL1.out.blk
      · simp only [List.setIfInBounds_toArray, List.set_cons_zero, List.set_cons_succ, Nd.lost]
        rfl
    have HLW := Lib.hid (And.intro hlw (((Moves.of_below HB.out p.fp).trans (NP.moves p ho)).less p.fp_nol))
    clear ho hlw
    go_wp2_with fail
    refine (evt_any 3 _).mono ?_
    rintro e w4 ⟨u, rfl, h5, h6⟩
    have HU := Lib.hid (And.intro (h5.base HLW.out.2.size) (And.intro (HLW.out.1.next h6) (HLW.out.2.next h6)))
    have hap := (HU.out.1.apart HU.out.2.1)
    have HA := Lib.hid hap
    clear h5 h6 hap d11 d12 d13 d14 d15 d16 d17 d18 d19 d20 d21 d22 d23 d24 fz hW HL1
    go_wp2_with fail
    refine (recv_any HU.out.2.1 HI.out.lost z HZ.out).mono ?_
    rintro e w5 ⟨v, vo2, vl2, vq2, rfl, g1, g2, g3⟩
    have hu := HU.out.1.moves g3 HA.out
    have hap := hu.apart g2
    obtain ⟨A, cap, rfl, hcap⟩ := g1.len
    have HU2 := Lib.hid hu
    have HS := Lib.hid g1.es
    have HA2 := Lib.hid hap
    have HG := Lib.hid (And.intro g2 (HU.out.2.2.trans g3))
    have HN := Lib.hid (recv_len n.lost z)
    have HSZ := Lib.hid (Nat.le_trans HU.out.2.2.size g3.size)
    clear g1 g2 g3 hap hu hcap
    go_wp2_with (first | (at_builtin; refine append_E _ (by rfl) _ _ rfl w.heap.size _ _ rfl HU2.out _ _ _ _ rfl HS.out (by have := HN.out; have e : [ev 3].length = 1 := rfl; omega) HSZ.out ?_; intro v' w' h1 h2 h3) | fail)
    go_wp2
    go_ret
    obtain ⟨g2, g3⟩ := HG.out
    rw [HD.out]
    exact ⟨v', _, _, _, rfl, h1, g2.grown h2 HA2.out, g3.grown h2 fun k hk => (World.ownsRow.lt HU2.out k hk).1⟩
end Go.Proofs.YtalpbnfebcafgaaGreat

/- The contract of begin. -/
namespace Go.Proofs.YtalpbnfebcafgaaGreat
set_option maxRecDepth 20000
open Go.RowKit
set_option linter.unusedSimpArgs false

theorem Lay.putL {w : World} {B : Nat} {p : NP} {n : Nd} {v : Value} {ys : List Int} (h : Lay w B p n) (hv : Own w B v ys) (ha : Sep p.vo v) : Lay (w.setCell ⟨p.g, 23, none⟩ v) B { p with vl := v } { n with outL := ys } := by
  have ho : Only p.g w (w.setCell ⟨p.g, 23, none⟩ v) := (Only.refl _ _).set
  have hvs : v.ownBlock ≠ some p.g := owns_ne hv h.blk (by decide)
  refine ⟨cells_set h.blk, ?_, ?_, ?_, ha, h.at_⟩
  · exact owns_move h.own fun k hk => ho.block k fun e => h.no (e ▸ hk)
  · exact owns_move hv fun k hk => ho.block k fun e => hvs (e ▸ hk)
  · exact ⟨(ho.block _ h.nq).trans h.que.q, owns_move h.que.own fun k hk => ho.block k fun e => h.nqv (e ▸ hk), h.que.at_⟩
theorem Moves.putL {F : Nat → Prop} {w w' : World} {p : NP} {v : Value} (hm : Moves F p.fp w w') (hv : ∀ k, v.ownBlock = some k → w.heap.size ≤ k) : Moves F (NP.fp { p with vl := v }) w (w'.setCell ⟨p.g, 23, none⟩ v) := by
  have ho : Only p.g w' (w'.setCell ⟨p.g, 23, none⟩ v) := (Only.refl _ _).set
  have h2 := hm.trans (NP.moves p ho)
  refine ⟨h2.os, h2.tape, h2.output, h2.size, h2.block, fun k hk => ?_⟩
  rcases hk with hk | hk | hk | hk | hk
  · exact hm.new k (.inl hk)
  · exact hm.new k (.inr (.inl hk))
  · exact hm.new k (.inr (.inr (.inl hk)))
  · exact .inr (hv k hk)
  · exact hm.new k (.inr (.inr (.inr (.inr hk))))
theorem Lay.put_tx {w : World} {B : Nat} {p : NP} {n : Nd} (h : Lay w B p n) (b : Bool) : Lay (w.setCell ⟨p.g, 24, none⟩ (.bool b)) B p { n with tx := b } ∧ Only p.g w (w.setCell ⟨p.g, 24, none⟩ (.bool b)) := by
  have ho : Only p.g w (w.setCell ⟨p.g, 24, none⟩ (.bool b)) := (Only.refl _ _).set
  exact ⟨h.turn ho (cells_set h.blk) rfl rfl rfl, ho⟩

/-- A queue's frames, as they have to be to be sent. -/
def Okfs (gs : List Fr) : Prop := ∀ g ∈ gs, g.may = true ∧ g.wf
theorem load_none {n : Nd} {may : Bool} (h : n.q = [] ∨ may = false) : n.load may = { n.enter 2 with tx := false } := by
  unfold Nd.load
  rcases h with h | h
  · rw [h]; cases may <;> rfl
  · rw [h]; rfl
theorem load_some {n : Nd} {f : Fr} {gs : List Fr} (h : n.q = f :: gs) : n.load true = { n.enter 2 with tx := true, outF := f, outL := alls f } := by
  unfold Nd.load
  rw [h]
  simp

set_option maxHeartbeats 2000000 in
theorem begin_no {w : World} {B : Nat} {p : NP} {n : Nd} (hl : Lay w B p n) (may : Bool) (hq : n.q = [] ∨ may = false) :
    Calls Tryz.prog 104 #[.pointer (some ⟨p.g, 0, none⟩), .bool may] w (Nor B p w (n.begin_ may)) := by
  have HL := Lib.hid hl
  have HE := Lib.hid (show n.begin_ may = ({ n.enter 2 with tx := false } : Nd).take 0 by unfold Nd.begin_; rw [load_none hq])
  have HQ := Lib.hid (show (n.enter 2).q = n.q from rfl)
  clear hl
  have hfirst : ∀ W vo vl vq, Lay W B ⟨p.g, p.gq, vo, vl, vq⟩ (n.enter 2) → ∃ f : Fr, ∃ b : Bool, (may && b) = false ∧ Calls Tryz.prog 119 #[.pointer (some ⟨p.gq, 0, none⟩)] W fun e w' => e = .returned (.tuple #[f.val, .bool b]) ∧ Below W.heap.size W w' := by
    intro W vo vl vq h
    have hque := h.que
    rw [HQ.out] at hque
    cases hx : n.q with
    | nil => rw [hx] at hque; exact ⟨Fr.zero, false, by simp, first_empty hque⟩
    | cons f gs =>
      rw [hx] at hque
      refine ⟨f, true, ?_, first_q hque⟩
      rcases hq with h | h
      · rw [h] at hx; cases hx
      · rw [h]; rfl
  have HFI := Lib.hid hfirst
  clear hfirst hq
  go_enter Tryz.func104, Tryz.ntmps104
  go_wp2_with fail
  refine (enter_nor HL.out 2).mono ?_
  rintro e w1 ⟨vo1, vl1, vq1, rfl, h1, h2⟩
  have d28 := h1.c28
  obtain ⟨f, b, hb, hf⟩ := HFI.out _ _ _ _ h1
  have HC := Lib.hid hf
  have HX := Lib.hid (And.intro h1 h2)
  clear h1 h2 hf
  go_wp2_with fail
  refine HC.out.mono ?_
  rintro e w2 ⟨rfl, hb2⟩
  have hbb : Below w1.heap.size w1 (w2.alloc (.cells f.cells 31)) := nxt hb2 (boxed f w2)
  have HY := Lib.hid (And.intro (HX.out.1.next hbb) (HX.out.2.next hbb))
  have hp := HY.out.1.put_tx false
  have HP := Lib.hid (And.intro hp.1 (HY.out.2.trans (NP.moves _ hp.2)))
  have d24 := HY.out.1.c24
  have f24 := HY.out.1.fz 24
  have e24 := hp.1.c24
  clear hb2 hbb hp HC HX HFI
  dsimp only at HP
  have ht := take_any10 HP.out.1 0 (fun z hz => by cases hz) (by decide) (Nat.zero_le _) (.inr (show kd [] < 9 by decide)) (Int.le_refl 0) (by show (0 : Int) ≤ 4000000; omega)
  have HT := Lib.hid ht
  clear ht
  cases may
  · go_wp2_with fail
    refine HT.out.mono ?_
    rintro e w3 ⟨vo3, vl3, vq3, rfl, g1, g2⟩
    have HG := Lib.hid (And.intro g1 g2)
    clear g1 g2
    go_wp2
    go_end0
    rw [HE.out]
    exact ⟨_, _, _, rfl, HG.out.1, HP.out.2.trans HG.out.2⟩
  · have hbf : b = false := by simpa using hb
    subst hbf
    go_wp2_with fail
    refine HT.out.mono ?_
    rintro e w3 ⟨vo3, vl3, vq3, rfl, g1, g2⟩
    have HG := Lib.hid (And.intro g1 g2)
    clear g1 g2
    go_wp2
    go_end0
    rw [HE.out]
    exact ⟨_, _, _, rfl, HG.out.1, HP.out.2.trans HG.out.2⟩

theorem Lay.put_out {w : World} {B : Nat} {p : NP} {n : Nd} (h : Lay w B p n) (f : Fr) {W : World} (hW : ((((((((((((w.setCell ⟨p.g, 11, none⟩ (.int .i64 f.id)).setCell ⟨p.g, 12, none⟩ (.bool f.ext)).setCell ⟨p.g, 13, none⟩ (.bool f.rtr)).setCell ⟨p.g, 14, none⟩ (.int .i64 f.len)).setCell ⟨p.g, 15, none⟩ (.int .u8 (f.d 0))).setCell ⟨p.g, 16, none⟩ (.int .u8 (f.d 1))).setCell ⟨p.g, 17, none⟩ (.int .u8 (f.d 2))).setCell ⟨p.g, 18, none⟩ (.int .u8 (f.d 3))).setCell ⟨p.g, 19, none⟩ (.int .u8 (f.d 4))).setCell ⟨p.g, 20, none⟩ (.int .u8 (f.d 5))).setCell ⟨p.g, 21, none⟩ (.int .u8 (f.d 6))).setCell ⟨p.g, 22, none⟩ (.int .u8 (f.d 7))) = W) :
    Lay W B p { n with outF := f } ∧ Only p.g w W := by
  have ho : Only p.g w W := by
    rw [← hW]
    repeat apply Only.set
    exact Only.refl _ _
  refine ⟨h.turn ho ?_ rfl rfl rfl, ho⟩
  rw [← hW]
  apply cells_to
  · repeat apply cells_set
    exact h.blk
  · simp only [List.setIfInBounds_toArray, List.set_cons_zero, List.set_cons_succ]

set_option maxHeartbeats 2000000 in
theorem begin_yes {w : World} {B : Nat} {p : NP} {n : Nd} (hl : Lay w B p n) {f : Fr} {gs : List Fr} (hq : n.q = f :: gs) (hf : f.may = true) (hw : f.wf) :
    Calls Tryz.prog 104 #[.pointer (some ⟨p.g, 0, none⟩), .bool true] w (Nor B p w (n.begin_ true)) := by
  have HL := Lib.hid hl
  have HE := Lib.hid (show n.begin_ true = ({ n.enter 2 with tx := true, outF := f, outL := alls f } : Nd).take 0 by unfold Nd.begin_; rw [load_some hq])
  have HQ := Lib.hid (show (n.enter 2).q = f :: gs from hq)
  have HM := Lib.hid (And.intro hf hw)
  clear hl hq hf hw
  go_enter Tryz.func104, Tryz.ntmps104
  go_wp2_with fail
  refine (enter_nor HL.out 2).mono ?_
  rintro e w1 ⟨vo1, vl1, vq1, rfl, h1, h2⟩
  have d28 := h1.c28
  have hque := h1.que
  rw [HQ.out] at hque
  have HC := Lib.hid hque
  have HX := Lib.hid (And.intro h1 h2)
  clear h1 h2 hque
  go_wp2_with fail
  refine (first_q HC.out).mono ?_
  rintro e w2 ⟨rfl, hb2⟩
  have HY := Lib.hid (And.intro (HX.out.1.next hb2) (HX.out.2.next hb2))
  have hp := HY.out.1.put_tx true
  have d24 := HY.out.1.c24
  have f24 := HY.out.1.fz 24
  have HP := Lib.hid (And.intro hp.1 (HY.out.2.trans (NP.moves ⟨p.g, p.gq, vo1, vl1, vq1⟩ hp.2)))
  have e11 := HY.out.1.c11
  have e12 := HY.out.1.c12
  have e13 := HY.out.1.c13
  have e14 := HY.out.1.c14
  have e15 := HY.out.1.c15
  have e16 := HY.out.1.c16
  have e17 := HY.out.1.c17
  have e18 := HY.out.1.c18
  have e19 := HY.out.1.c19
  have e20 := HY.out.1.c20
  have e21 := HY.out.1.c21
  have e22 := HY.out.1.c22
  have fz := fun i => HY.out.1.fz i
  dsimp only at fz HP
  obtain ⟨W, hW⟩ : ∃ W, (((((((((((((w2.setCell ⟨p.g, 24, none⟩ (.bool true)).setCell ⟨p.g, 11, none⟩ (.int .i64 f.id)).setCell ⟨p.g, 12, none⟩ (.bool f.ext)).setCell ⟨p.g, 13, none⟩ (.bool f.rtr)).setCell ⟨p.g, 14, none⟩ (.int .i64 f.len)).setCell ⟨p.g, 15, none⟩ (.int .u8 (f.d 0))).setCell ⟨p.g, 16, none⟩ (.int .u8 (f.d 1))).setCell ⟨p.g, 17, none⟩ (.int .u8 (f.d 2))).setCell ⟨p.g, 18, none⟩ (.int .u8 (f.d 3))).setCell ⟨p.g, 19, none⟩ (.int .u8 (f.d 4))).setCell ⟨p.g, 20, none⟩ (.int .u8 (f.d 5))).setCell ⟨p.g, 21, none⟩ (.int .u8 (f.d 6))).setCell ⟨p.g, 22, none⟩ (.int .u8 (f.d 7))) = W := ⟨_, rfl⟩
  have hpo := HP.out.1.put_out f hW
  have HW := Lib.hid hW
  have hsz : W.heap.size = w2.heap.size := hpo.2.size.trans hp.2.size
  have hbx : Below W.heap.size W (W.alloc (.cells f.cells 31)) := boxed f W
  have HPO := Lib.hid (And.intro (hpo.1.next hbx) ((HP.out.2.trans (NP.moves ⟨p.g, p.gq, vo1, vl1, vq1⟩ hpo.2)).next hbx))
  have hglt : p.g < w2.heap.size := Nat.lt_of_lt_of_le HX.out.1.lt hb2.size
  have hgne : ¬ p.g = w2.heap.size := by omega
  have hgne2 : ¬ w2.heap.size = p.g := by omega
  clear hb2 hp HC HX hW hpo hbx hsz
  go_wp2_with fail
  rw [HW.out]
  refine (fall_ok f _ HM.out.1 HM.out.2).mono ?_
  rintro e w3 ⟨v, rfl, ho, hb3⟩
  obtain ⟨A, cap, hve, -, -⟩ := ho.il2
  subst hve
  have hl3 := HPO.out.1.next hb3
  have hm3 := HPO.out.2.next hb3
  have d23 := hl3.c23
  have f23 := hl3.fz 23
  dsimp only at d23 f23
  have hsep : Sep vo1 (.slice A (alls f).length cap) := by
    rcases hk : vo1.ownBlock with _ | k
    · exact .inl hk
    · refine .inr fun e => ?_
      have h1 := (World.ownsRow.lt HPO.out.1.own k hk).2
      have h2 := (World.ownsRow.lt ho k (e.symm.trans hk)).1
      exact Nat.not_le_of_lt h1 h2
  have hpl := hl3.putL (ho.mono HPO.out.1.size) hsep
  have hml := hm3.putL (v := .slice A (alls f).length cap) fun k hk => Nat.le_trans HPO.out.2.size (World.ownsRow.lt ho k hk).1
  have HV := Lib.hid (And.intro hpl hml)
  clear ho hb3 hl3 hm3 hsep hpl hml HPO HW e11 e12 e13 e14 e15 e16 e17 e18 e19 e20 e21 e22 fz d24 f24
  dsimp only at HV
  go_wp2_with fail
  have ht := take_any10 HV.out.1 0 (fun z hz => by cases hz) (by decide) (Nat.zero_le _) (.inr (show kd [] < 9 by decide)) (Int.le_refl 0) (by show (0 : Int) ≤ 4000000; omega)
  refine ht.mono ?_
  rintro e w4 ⟨vo3, vl3, vq3, rfl, g1, g2⟩
  have HG := Lib.hid (And.intro g1 g2)
  clear g1 g2 ht
  go_wp2
  go_end0
  rw [HE.out]
  exact ⟨_, _, _, rfl, HG.out.1, HV.out.2.trans HG.out.2⟩

theorem begin_any {w : World} {B : Nat} {p : NP} {n : Nd} (hl : Lay w B p n) (hq : Okfs n.q) (may : Bool) : Calls Tryz.prog 104 #[.pointer (some ⟨p.g, 0, none⟩), .bool may] w (Nor B p w (n.begin_ may)) := by
  cases may
  · exact begin_no hl false (.inr rfl)
  · cases h : n.q with
    | nil => exact begin_no hl true (.inl h)
    | cons f gs =>
      have := hq f (by rw [h]; exact List.mem_cons_self)
      exact begin_yes hl h this.1 this.2
end Go.Proofs.YtalpbnfebcafgaaGreat

/- The contracts of quiet, join, idle, endFlag, flag. -/
namespace Go.Proofs.YtalpbnfebcafgaaGreat
set_option maxRecDepth 20000
open Go.RowKit
set_option linter.unusedSimpArgs false

theorem see_enter (n : Nd) (z m : Int) : (n.see z).enter m = n.enter m := rfl
theorem tup0 {P : Prop} (h : P) : Ending.returned (.tuple #[]) = Ending.returned (.tuple #[]) ∧ P := ⟨rfl, h⟩

set_option maxHeartbeats 400000 in
theorem quiet_any {w : World} {B : Nat} {p : NP} {n : Nd} (hl : Lay w B p n) (z : Int) (h0 : 0 ≤ n.sn) (h1 : n.sn ≤ 4000000) :
    Calls Tryz.prog 102 #[.pointer (some ⟨p.g, 0, none⟩), .int .i64 z] w fun e w' => e = .returned (.bool (n.quiet z)) ∧ Lay w' B p (n.see z) ∧ Only p.g w w' := by
  have HT := Lib.hid (tell_seen hl z h0 h1)
  have HQ := Lib.hid (show n.quiet z = (tlN n.sl n.sn z == 11 && z == 1) from rfl)
  clear hl h0 h1
  generalize tlN n.sl n.sn z = k at *
  by_cases hk : k = 11
  · by_cases hz : z = 1
    · subst hz
      go_enter Tryz.func102, Tryz.ntmps102
      go_wp2_with fail
      refine HT.out.mono ?_
      rintro e w1 ⟨rfl, h1, h2⟩
      have HX := Lib.hid (And.intro h1 h2)
      clear h1 h2
      go_wp2
      go_ret
      exact ⟨ret_boolK (by rw [HQ.out]; simp [hk]), HX.out⟩
    · go_enter Tryz.func102, Tryz.ntmps102
      go_wp2_with fail
      refine HT.out.mono ?_
      rintro e w1 ⟨rfl, h1, h2⟩
      have HX := Lib.hid (And.intro h1 h2)
      clear h1 h2
      go_wp2
      go_ret
      exact ⟨ret_boolK (by rw [HQ.out]; simp [hk, hz]), HX.out⟩
  · go_enter Tryz.func102, Tryz.ntmps102
    go_wp2_with fail
    refine HT.out.mono ?_
    rintro e w1 ⟨rfl, h1, h2⟩
    have HX := Lib.hid (And.intro h1 h2)
    clear h1 h2
    go_wp2
    go_ret
    exact ⟨ret_boolK (by rw [HQ.out]; simp [hk]), HX.out⟩

set_option maxHeartbeats 400000 in
theorem join_any {w : World} {B : Nat} {p : NP} {n : Nd} (hl : Lay w B p n) (z : Int) (h0 : 0 ≤ n.sn) (h1 : n.sn ≤ 4000000) :
    Calls Tryz.prog 90 #[.pointer (some ⟨p.g, 0, none⟩), .int .i64 z] w (Res B p w (n.join z)) := by
  have HT := Lib.hid (quiet_any hl z h0 h1)
  have HJ := Lib.hid (show n.join z = ([], if n.quiet z then n.enter 1 else n.see z) from rfl)
  clear hl h0 h1
  cases hq : n.quiet z
  · rw [hq, if_neg (by simp)] at HJ
    go_enter Tryz.func90, Tryz.ntmps90
    go_wp2_with fail
    refine HT.out.mono ?_
    rintro e w1 ⟨rfl, h1, h2⟩
    have HX := Lib.hid (And.intro h1 (NP.moves p h2))
    clear h1 h2
    rw [hq]
    go_wp2
    go_ret
    rw [HJ.out]
    exact ⟨_, _, _, _, rfl, Eown.nil _ _, HX.out.1, HX.out.2⟩
  · rw [hq, if_pos rfl] at HJ
    go_enter Tryz.func90, Tryz.ntmps90
    go_wp2_with fail
    refine HT.out.mono ?_
    rintro e w1 ⟨rfl, h1, h2⟩
    have HX := Lib.hid (And.intro h1 (NP.moves p h2))
    clear h1 h2
    rw [hq]
    go_wp2_with fail
    refine (enter_nor HX.out.1 1).mono ?_
    rintro e w2 ⟨vo1, vl1, vq1, rfl, g1, g2⟩
    have HY := Lib.hid (And.intro g1 (HX.out.2.trans g2))
    clear g1 g2
    go_wp2
    go_ret
    rw [HJ.out]
    exact ⟨_, _, _, _, rfl, Eown.nil _ _, HY.out.1, HY.out.2⟩

theorem drv_one {n : Nd} (h : n.mode = 1) : n.drv = if 0 < n.q.length then 0 else 1 := by rw [drv_def, if_pos h]
set_option maxHeartbeats 800000 in
theorem idle_any {w : World} {B : Nat} {p : NP} {n : Nd} (hl : Lay w B p n) (hm : n.mode = 1) (hq : Okfs n.q) (z : Int) :
    Calls Tryz.prog 91 #[.pointer (some ⟨p.g, 0, none⟩), .int .i64 z] w (Res B p w (n.idle z)) := by
  have HL := Lib.hid hl
  have HQ := Lib.hid hq
  have HM := Lib.hid hm
  have HD := Lib.hid (show n.idle z = if z = 0 then ([], n.begin_ true) else if 0 < n.q.length then ({ n with tx := true } : Nd).fail 4 else ([], n) from rfl)
  have HE := Lib.hid (drv_one hm)
  have hdr := drv_any hl fun h => by omega
  have HDR := Lib.hid hdr
  clear hl hm hq hdr
  by_cases hz : z = 0
  · rw [if_pos hz] at HD
    go_enter Tryz.func91, Tryz.ntmps91
    go_wp2_with fail
    refine (begin_any HL.out HQ.out true).mono ?_
    rintro e w2 ⟨vo1, vl1, vq1, rfl, g1, g2⟩
    have HY := Lib.hid (And.intro g1 g2)
    clear g1 g2
    go_wp2
    go_ret
    rw [HD.out]
    exact ⟨_, _, _, _, rfl, Eown.nil _ _, HY.out.1, HY.out.2⟩
  · rw [if_neg hz] at HD
    by_cases hn : 0 < n.q.length
    · rw [if_pos hn] at HD HE
      rw [HE.out] at HDR
      clear hn
      go_enter Tryz.func91, Tryz.ntmps91
      go_wp2_with fail
      refine HDR.out.mono ?_
      rintro e w1 ⟨rfl, hb1⟩
      have hl1 := HL.out.next hb1
      have d24 := hl1.c24
      have f24 := hl1.fz 24
      have hp := hl1.put_tx true
      have HP := Lib.hid (And.intro hp.1 ((Moves.of_below hb1 p.fp).trans (NP.moves p hp.2)))
      clear hb1 hl1 hp
      go_wp2_with fail
      refine (fail_any HP.out.1 4).mono ?_
      rintro e w2 ⟨u, vo1, vl1, vq1, rfl, g1, g2, g3⟩
      have HE2 := Lib.hid (And.intro (g1.base HP.out.2.size) (And.intro g2 (HP.out.2.trans g3)))
      clear g1 g2 g3
      go_wp2
      go_ret
      rw [HD.out]
      exact ⟨u, _, _, _, rfl, HE2.out.1, HE2.out.2.1, HE2.out.2.2⟩
    · rw [if_neg hn] at HD HE
      rw [HE.out] at HDR
      clear hn
      go_enter Tryz.func91, Tryz.ntmps91
      go_wp2_with fail
      refine HDR.out.mono ?_
      rintro e w1 ⟨rfl, hb1⟩
      have HB := Lib.hid hb1
      clear hb1
      go_wp2
      go_ret
      rw [HD.out]
      exact ⟨_, _, _, _, rfl, Eown.nil _ _, HL.out.next HB.out, .of_below HB.out _⟩

theorem Lay.put_erred {w : World} {B : Nat} {p : NP} {n : Nd} (h : Lay w B p n) (b : Bool) : Lay (w.setCell ⟨p.g, 5, none⟩ (.bool b)) B p { n with erred := b } ∧ Only p.g w (w.setCell ⟨p.g, 5, none⟩ (.bool b)) := by
  have ho : Only p.g w (w.setCell ⟨p.g, 5, none⟩ (.bool b)) := (Only.refl _ _).set
  exact ⟨h.turn ho (cells_set h.blk) rfl rfl rfl, ho⟩
set_option maxHeartbeats 400000 in
theorem endF_any {w : World} {B : Nat} {p : NP} {n : Nd} (hl : Lay w B p n) :
    Calls Tryz.prog 111 #[.pointer (some ⟨p.g, 0, none⟩)] w (Nor B p w n.endF) := by
  have HL := Lib.hid hl
  have c0 := hl.c0
  have HE := Lib.hid (show n.endF = { n.enter 6 with erred := decide (n.mode ≠ 5) } from rfl)
  clear hl
  by_cases hm : n.mode = 5
  · rw [hm] at c0
    rw [decide_eq_false (by rw [hm]; simp)] at HE
    go_enter Tryz.func111, Tryz.ntmps111
    go_wp2_with fail
    refine (enter_nor HL.out 6).mono ?_
    rintro e w2 ⟨vo1, vl1, vq1, rfl, g1, g2⟩
    have d5 := g1.c5
    have f5 := g1.fz 5
    have hp := g1.put_erred false
    have HY := Lib.hid (And.intro hp.1 (g2.trans (NP.moves ⟨p.g, p.gq, vo1, vl1, vq1⟩ hp.2)))
    clear g1 g2 hp
    go_wp2
    go_end0
    rw [HE.out]
    exact ⟨_, _, _, rfl, HY.out.1, HY.out.2⟩
  · rw [decide_eq_true hm] at HE
    have hmb : (n.mode != 5) = true := by simpa using hm
    go_enter Tryz.func111, Tryz.ntmps111
    go_wp2_with fail
    refine (enter_nor HL.out 6).mono ?_
    rintro e w2 ⟨vo1, vl1, vq1, rfl, g1, g2⟩
    have d5 := g1.c5
    have f5 := g1.fz 5
    have hp := g1.put_erred true
    have HY := Lib.hid (And.intro hp.1 (g2.trans (NP.moves ⟨p.g, p.gq, vo1, vl1, vq1⟩ hp.2)))
    clear g1 g2 hp
    go_wp2
    go_end0
    rw [HE.out]
    exact ⟨_, _, _, rfl, HY.out.1, HY.out.2⟩
end Go.Proofs.YtalpbnfebcafgaaGreat

/- The contracts of flag, passiveFlag, close, wait. -/
namespace Go.Proofs.YtalpbnfebcafgaaGreat
set_option maxRecDepth 20000
open Go.RowKit
set_option linter.unusedSimpArgs false

theorem see_endF (n : Nd) (z : Int) : (n.see z).endF = n.endF := rfl

set_option maxHeartbeats 1600000 in
theorem flag_any {w : World} {B : Nat} {p : NP} {n : Nd} (hl : Lay w B p n) (z : Int) (h0 : 0 ≤ n.sn) (h1 : n.sn ≤ 4000000) :
    Calls Tryz.prog 93 #[.pointer (some ⟨p.g, 0, none⟩), .int .i64 z] w (Res B p w (n.flag z)) := by
  have HT := Lib.hid (tell_seen hl 0 h0 h1)
  have HF := Lib.hid (show n.flagN = if tlN n.sl n.sn 0 = 6 then n.endF else n.see 0 from rfl)
  have HD := Lib.hid (show n.flag z = if z = 0 then ([], n.flagN) else (ev 4 :: n.flagN.casE 8, n.flagN.casN 8) from rfl)
  clear hl h0 h1
  generalize tlN n.sl n.sn 0 = k at *
  by_cases hz : z = 0
  · subst hz
    rw [if_pos rfl] at HD
    by_cases hk : k = 6
    · rw [if_pos hk] at HF
      subst hk
      go_enter Tryz.func93, Tryz.ntmps93
      go_wp2_with fail
      refine HT.out.mono ?_
      rintro e w1 ⟨rfl, h1, h2⟩
      have HX0 := Lib.hid (And.intro h1 (NP.moves p h2))
      clear h1 h2
      go_wp2_with fail
      refine (endF_any HX0.out.1).mono ?_
      rintro e w2 ⟨vo1, vl1, vq1, rfl, g1, g2⟩
      rw [see_endF, ← HF.out] at g1
      have HX := Lib.hid (And.intro g1 (HX0.out.2.trans g2))
      clear g1 g2
      go_wp2
      go_ret
      rw [HD.out]
      exact ⟨_, _, _, _, rfl, Eown.nil _ _, HX.out.1, HX.out.2⟩
    · rw [if_neg hk] at HF
      go_enter Tryz.func93, Tryz.ntmps93
      go_wp2_with fail
      refine HT.out.mono ?_
      rintro e w1 ⟨rfl, h1, h2⟩
      rw [← HF.out] at h1
      have HX := Lib.hid (And.intro h1 (NP.moves p h2))
      clear h1 h2
      go_wp2
      go_ret
      rw [HD.out]
      exact ⟨_, _, _, _, rfl, Eown.nil _ _, HX.out.1, HX.out.2⟩
  · rw [if_neg hz] at HD
    by_cases hk : k = 6
    · rw [if_pos hk] at HF
      subst hk
      go_enter Tryz.func93, Tryz.ntmps93
      go_wp2_with fail
      refine HT.out.mono ?_
      rintro e w1 ⟨rfl, h1, h2⟩
      have HX0 := Lib.hid (And.intro h1 (NP.moves p h2))
      clear h1 h2
      go_wp2_with fail
      refine (endF_any HX0.out.1).mono ?_
      rintro e w2 ⟨vo1, vl1, vq1, rfl, g1, g2⟩
      rw [see_endF, ← HF.out] at g1
      have HX := Lib.hid (And.intro g1 (HX0.out.2.trans g2))
      clear g1 g2
      go_wp2_with fail
      refine (evt_any 4 _).mono ?_
      rintro e w4 ⟨u, rfl, h5, h6⟩
      have HU := Lib.hid (And.intro (h5.base HX.out.2.size) (And.intro (HX.out.1.next h6) (HX.out.2.next h6)))
      have hap := (HU.out.1.apart HU.out.2.1)
      have HA := Lib.hid hap
      clear h5 h6 hap
      go_wp2_with fail
      refine (cas_any HU.out.2.1 8).mono ?_
      rintro e w5 ⟨v, vo2, vl2, vq2, rfl, g1, g2, g3⟩
      have hu := HU.out.1.moves g3 HA.out
      have hap := hu.apart g2
      obtain ⟨A, cap, rfl, hcap⟩ := g1.len
      have HU2 := Lib.hid hu
      have HS := Lib.hid g1.es
      have HA2 := Lib.hid hap
      have HG := Lib.hid (And.intro g2 (HU.out.2.2.trans g3))
      have HN := Lib.hid (casE_len n.flagN 8)
      have HSZ := Lib.hid (Nat.le_trans HU.out.2.2.size g3.size)
      clear g1 g2 g3 hap hu hcap
      go_wp2_with (first | (at_builtin; refine append_E _ (by rfl) _ _ rfl w.heap.size _ _ rfl HU2.out _ _ _ _ rfl HS.out (show [ev 4].length + (n.flagN.casE 8).length ≤ 1000000 by have := HN.out; have e : [ev 4].length = 1 := rfl; omega) HSZ.out ?_; intro v' w' h1 h2 h3) | fail)
      go_wp2
      go_ret
      obtain ⟨g2, g3⟩ := HG.out
      rw [HD.out]
      exact ⟨v', _, _, _, rfl, h1, g2.grown h2 HA2.out, g3.grown h2 fun k hk => (World.ownsRow.lt HU2.out k hk).1⟩
    · rw [if_neg hk] at HF
      go_enter Tryz.func93, Tryz.ntmps93
      go_wp2_with fail
      refine HT.out.mono ?_
      rintro e w1 ⟨rfl, h1, h2⟩
      rw [← HF.out] at h1
      have HX := Lib.hid (And.intro h1 (NP.moves p h2))
      clear h1 h2
      go_wp2_with fail
      refine (evt_any 4 _).mono ?_
      rintro e w4 ⟨u, rfl, h5, h6⟩
      have HU := Lib.hid (And.intro (h5.base HX.out.2.size) (And.intro (HX.out.1.next h6) (HX.out.2.next h6)))
      have hap := (HU.out.1.apart HU.out.2.1)
      have HA := Lib.hid hap
      clear h5 h6 hap
      go_wp2_with fail
      refine (cas_any HU.out.2.1 8).mono ?_
      rintro e w5 ⟨v, vo2, vl2, vq2, rfl, g1, g2, g3⟩
      have hu := HU.out.1.moves g3 HA.out
      have hap := hu.apart g2
      obtain ⟨A, cap, rfl, hcap⟩ := g1.len
      have HU2 := Lib.hid hu
      have HS := Lib.hid g1.es
      have HA2 := Lib.hid hap
      have HG := Lib.hid (And.intro g2 (HU.out.2.2.trans g3))
      have HN := Lib.hid (casE_len n.flagN 8)
      have HSZ := Lib.hid (Nat.le_trans HU.out.2.2.size g3.size)
      clear g1 g2 g3 hap hu hcap
      go_wp2_with (first | (at_builtin; refine append_E _ (by rfl) _ _ rfl w.heap.size _ _ rfl HU2.out _ _ _ _ rfl HS.out (show [ev 4].length + (n.flagN.casE 8).length ≤ 1000000 by have := HN.out; have e : [ev 4].length = 1 := rfl; omega) HSZ.out ?_; intro v' w' h1 h2 h3) | fail)
      go_wp2
      go_ret
      obtain ⟨g2, g3⟩ := HG.out
      rw [HD.out]
      exact ⟨v', _, _, _, rfl, h1, g2.grown h2 HA2.out, g3.grown h2 fun k hk => (World.ownsRow.lt HU2.out k hk).1⟩

theorem Lay.put_owed {w : World} {B : Nat} {p : NP} {n : Nd} (h : Lay w B p n) (b : Bool) : Lay (w.setCell ⟨p.g, 4, none⟩ (.bool b)) B p { n with owed := b } ∧ Only p.g w (w.setCell ⟨p.g, 4, none⟩ (.bool b)) := by
  have ho : Only p.g w (w.setCell ⟨p.g, 4, none⟩ (.bool b)) := (Only.refl _ _).set
  exact ⟨h.turn ho (cells_set h.blk) rfl rfl rfl, ho⟩
set_option maxHeartbeats 1600000 in
theorem pflag_any {w : World} {B : Nat} {p : NP} {n : Nd} (hl : Lay w B p n) (z : Int) (h0 : 0 ≤ n.sn) (h1 : n.sn ≤ 4000000) :
    Calls Tryz.prog 94 #[.pointer (some ⟨p.g, 0, none⟩), .int .i64 z] w (Res B p w (n.pflag z)) := by
  have HF := Lib.hid (show n.pflN z = if tlN n.sl n.sn z = 6 then n.endF else { n.see z with owed := n.owed && !(n.owed && z == 0) } from rfl)
  have HD := Lib.hid (show n.pflag z = if n.due z then ((n.pflN z).casE 1, (n.pflN z).casN 1) else ([], n.pflN z) from rfl)
  have c4 := hl.c4
  cases ho : n.owed
  · rw [ho] at c4
    rw [if_neg (show ¬ n.due z = true by unfold Nd.due; rw [ho]; simp)] at HD
    have HT := Lib.hid (tell_seen hl z h0 h1)
    have HE := Lib.hid (show ({ n.see z with owed := n.owed && !(n.owed && z == 0) } : Nd) = n.see z by unfold Nd.see; rw [ho]; rfl)
    clear hl h0 h1
    generalize tlN n.sl n.sn z = k at *
    by_cases hk : k = 6
    · rw [if_pos hk] at HF
      subst hk
      go_enter Tryz.func94, Tryz.ntmps94
      go_wp2_with fail
      refine HT.out.mono ?_
      rintro e w1 ⟨rfl, h1, h2⟩
      have HX0 := Lib.hid (And.intro h1 (NP.moves p h2))
      clear h1 h2
      go_wp2_with fail
      refine (endF_any HX0.out.1).mono ?_
      rintro e w2 ⟨vo1, vl1, vq1, rfl, g1, g2⟩
      rw [see_endF, ← HF.out] at g1
      have HX := Lib.hid (And.intro g1 (HX0.out.2.trans g2))
      clear g1 g2
      go_wp2
      go_ret
      rw [HD.out]
      exact ⟨_, _, _, _, rfl, Eown.nil _ _, HX.out.1, HX.out.2⟩
    · rw [if_neg hk, HE.out] at HF
      go_enter Tryz.func94, Tryz.ntmps94
      go_wp2_with fail
      refine HT.out.mono ?_
      rintro e w1 ⟨rfl, h1, h2⟩
      rw [← HF.out] at h1
      have HX := Lib.hid (And.intro h1 (NP.moves p h2))
      clear h1 h2
      go_wp2
      go_ret
      rw [HD.out]
      exact ⟨_, _, _, _, rfl, Eown.nil _ _, HX.out.1, HX.out.2⟩
  · rw [ho] at c4
    by_cases hz : z = 0
    · subst hz
      rw [if_pos (show n.due 0 = true by unfold Nd.due; rw [ho]; rfl)] at HD
      have f4 := hl.fz 4
      have hp := hl.put_owed false
      have HT := Lib.hid (tell_seen hp.1 0 h0 h1)
      have HO := Lib.hid hp.2
      have HE := Lib.hid (show ({ n.see 0 with owed := n.owed && !(n.owed && (0 : Int) == 0) } : Nd) = ({ n with owed := false } : Nd).see 0 by unfold Nd.see; rw [ho]; rfl)
      clear hl h0 h1 hp
      dsimp only at HT
      generalize tlN n.sl n.sn 0 = k at *
      by_cases hk : k = 6
      · rw [if_pos hk] at HF
        subst hk
        go_enter Tryz.func94, Tryz.ntmps94
        go_wp2_with fail
        refine HT.out.mono ?_
        rintro e w1 ⟨rfl, h1, h2⟩
        have HX0 := Lib.hid (And.intro h1 ((NP.moves p HO.out).trans (NP.moves p h2)))
        clear h1 h2
        go_wp2_with fail
        refine (endF_any HX0.out.1).mono ?_
        rintro e w2 ⟨vo1, vl1, vq1, rfl, g1, g2⟩
        rw [show (({ n with owed := false } : Nd).see 0).endF = n.endF from rfl, ← HF.out] at g1
        have HX := Lib.hid (And.intro g1 (HX0.out.2.trans g2))
        clear g1 g2
        go_wp2_with fail
        refine (cas_any HX.out.1 1).mono ?_
        rintro e w3 ⟨u, vo2, vl2, vq2, rfl, g1, g2, g3⟩
        have HE2 := Lib.hid (And.intro (g1.base HX.out.2.size) (And.intro g2 (HX.out.2.trans g3)))
        clear g1 g2 g3
        go_wp2
        go_ret
        rw [HD.out]
        exact ⟨u, _, _, _, rfl, HE2.out.1, HE2.out.2.1, HE2.out.2.2⟩
      · rw [if_neg hk, HE.out] at HF
        go_enter Tryz.func94, Tryz.ntmps94
        go_wp2_with fail
        refine HT.out.mono ?_
        rintro e w1 ⟨rfl, h1, h2⟩
        rw [← HF.out] at h1
        have HX := Lib.hid (And.intro h1 ((NP.moves p HO.out).trans (NP.moves p h2)))
        clear h1 h2
        go_wp2_with fail
        refine (cas_any HX.out.1 1).mono ?_
        rintro e w3 ⟨u, vo2, vl2, vq2, rfl, g1, g2, g3⟩
        have HE2 := Lib.hid (And.intro (g1.base HX.out.2.size) (And.intro g2 (HX.out.2.trans g3)))
        clear g1 g2 g3
        go_wp2
        go_ret
        rw [HD.out]
        exact ⟨u, _, _, _, rfl, HE2.out.1, HE2.out.2.1, HE2.out.2.2⟩
    · rw [if_neg (show ¬ n.due z = true by unfold Nd.due; rw [ho]; simp [hz])] at HD
      have HT := Lib.hid (tell_seen hl z h0 h1)
      have HE := Lib.hid (show ({ n.see z with owed := n.owed && !(n.owed && z == 0) } : Nd) = n.see z by unfold Nd.see; rw [show (z == 0) = false by simpa using hz, ho]; simp [ho])
      clear hl h0 h1
      generalize tlN n.sl n.sn z = k at *
      by_cases hk : k = 6
      · rw [if_pos hk] at HF
        subst hk
        go_enter Tryz.func94, Tryz.ntmps94
        go_wp2_with fail
        refine HT.out.mono ?_
        rintro e w1 ⟨rfl, h1, h2⟩
        have HX0 := Lib.hid (And.intro h1 (NP.moves p h2))
        clear h1 h2
        go_wp2_with fail
        refine (endF_any HX0.out.1).mono ?_
        rintro e w2 ⟨vo1, vl1, vq1, rfl, g1, g2⟩
        rw [see_endF, ← HF.out] at g1
        have HX := Lib.hid (And.intro g1 (HX0.out.2.trans g2))
        clear g1 g2
        go_wp2
        go_ret
        rw [HD.out]
        exact ⟨_, _, _, _, rfl, Eown.nil _ _, HX.out.1, HX.out.2⟩
      · rw [if_neg hk, HE.out] at HF
        go_enter Tryz.func94, Tryz.ntmps94
        go_wp2_with fail
        refine HT.out.mono ?_
        rintro e w1 ⟨rfl, h1, h2⟩
        rw [← HF.out] at h1
        have HX := Lib.hid (And.intro h1 (NP.moves p h2))
        clear h1 h2
        go_wp2
        go_ret
        rw [HD.out]
        exact ⟨_, _, _, _, rfl, Eown.nil _ _, HX.out.1, HX.out.2⟩
end Go.Proofs.YtalpbnfebcafgaaGreat

/- The contracts of close, wait, pause, suspend, off. -/
namespace Go.Proofs.YtalpbnfebcafgaaGreat
set_option maxRecDepth 20000
open Go.RowKit
set_option linter.unusedSimpArgs false

set_option maxHeartbeats 1600000 in
theorem close_any {w : World} {B : Nat} {p : NP} {n : Nd} (hl : Lay w B p n) (z : Int) (h0 : 0 ≤ n.sn) (h1 : n.sn ≤ 4000000) :
    Calls Tryz.prog 96 #[.pointer (some ⟨p.g, 0, none⟩), .int .i64 z] w (Res B p w (n.close z)) := by
  have HD := Lib.hid (show n.close z = if z = 1 then ([], n.closeN) else if n.sn = 7 then n.over else n.fail 7 from rfl)
  by_cases hz : z = 1
  · subst hz
    rw [if_pos rfl] at HD
    have HT := Lib.hid (tell_seen hl 1 h0 h1)
    have HF := Lib.hid (show n.closeN = if tlN n.sl n.sn 1 = 8 then n.enter 8 else n.see 1 from rfl)
    clear hl h0 h1
    generalize tlN n.sl n.sn 1 = k at *
    by_cases hk : k = 8
    · rw [if_pos hk] at HF
      rw [HF.out] at HD
      subst hk
      go_enter Tryz.func96, Tryz.ntmps96
      go_wp2_with fail
      refine HT.out.mono ?_
      rintro e w1 ⟨rfl, h1, h2⟩
      have HX := Lib.hid (And.intro h1 (NP.moves p h2))
      clear h1 h2
      go_wp2_with fail
      refine (enter_nor HX.out.1 8).mono ?_
      rintro e w3 ⟨vo2, vl2, vq2, rfl, g1, g2⟩
      have HY := Lib.hid (And.intro g1 (HX.out.2.trans g2))
      clear g1 g2
      go_wp2
      go_ret
      rw [HD.out]
      exact ⟨_, _, _, _, rfl, Eown.nil _ _, HY.out.1, HY.out.2⟩
    · rw [if_neg hk] at HF
      rw [HF.out] at HD
      go_enter Tryz.func96, Tryz.ntmps96
      go_wp2_with fail
      refine HT.out.mono ?_
      rintro e w1 ⟨rfl, h1, h2⟩
      have HX := Lib.hid (And.intro h1 (NP.moves p h2))
      clear h1 h2
      go_wp2
      go_ret
      rw [HD.out]
      exact ⟨_, _, _, _, rfl, Eown.nil _ _, HX.out.1, HX.out.2⟩
  · rw [if_neg hz] at HD
    have HL := Lib.hid hl
    have c2 := hl.c2
    clear hl h0 h1
    by_cases hk : n.sn = 7
    · rw [if_pos hk] at HD
      rw [hk] at c2
      go_enter Tryz.func96, Tryz.ntmps96
      go_wp2_with fail
      refine (over_any HL.out).mono ?_
      rintro e w3 ⟨u, vo2, vl2, vq2, rfl, g1, g2, g3⟩
      have HE2 := Lib.hid (And.intro g1 (And.intro g2 g3))
      clear g1 g2 g3
      go_wp2
      go_ret
      rw [HD.out]
      exact ⟨u, _, _, _, rfl, HE2.out.1, HE2.out.2.1, HE2.out.2.2⟩
    · rw [if_neg hk] at HD
      go_enter Tryz.func96, Tryz.ntmps96
      go_wp2_with fail
      refine (fail_any HL.out 7).mono ?_
      rintro e w3 ⟨u, vo2, vl2, vq2, rfl, g1, g2, g3⟩
      have HE2 := Lib.hid (And.intro g1 (And.intro g2 g3))
      clear g1 g2 g3
      go_wp2
      go_ret
      rw [HD.out]
      exact ⟨u, _, _, _, rfl, HE2.out.1, HE2.out.2.1, HE2.out.2.2⟩

theorem heavy_def (n : Nd) : n.heavy = ((tlN n.sl n.sn 0 == 1 && (n.erred && !n.tx)) || tlN n.sl n.sn 0 % 8 == 0) := rfl
theorem tl_pos {l n z : Int} (h : 0 ≤ n) : 1 ≤ tlN l n z := by unfold tlN; split <;> omega
theorem tl_le {l n z : Int} (h : 0 ≤ n) : tlN l n z ≤ n + 1 := by unfold tlN; split <;> omega
set_option maxHeartbeats 1600000 in
theorem wait_any {w : World} {B : Nat} {p : NP} {n : Nd} (hl : Lay w B p n) (z : Int) (hz : z = 0 ∨ z = 1) (h0 : 0 ≤ n.sn) (h1 : n.sn ≤ 4000000) :
    Calls Tryz.prog 95 #[.pointer (some ⟨p.g, 0, none⟩), .int .i64 z] w (Res B p w (n.wait z)) := by
  have HD := Lib.hid (show n.wait z = if z = 1 then (n.enter 7).close 1 else if n.heavy then ((n.see 0).casE 8, (n.see 0).casN 8) else ([], n.see 0) from rfl)
  rcases hz with rfl | rfl
  · rw [if_neg (by omega)] at HD
    have HT := Lib.hid (tell_seen hl 0 h0 h1)
    have HH := Lib.hid (heavy_def n)
    have hkp := tl_pos (l := n.sl) (z := 0) h0
    have hkl := tl_le (l := n.sl) (z := 0) h0
    clear hl
    generalize tlN n.sl n.sn 0 = k at *
    have hkm : k ≤ 4000001 := by omega
    clear hkl h0 h1
    by_cases k1 : k = 1
    · subst k1
      cases her : n.erred
      · rw [her] at HH
        rw [if_neg (by rw [HH.out]; simp)] at HD
        go_enter Tryz.func95, Tryz.ntmps95
        go_wp2_with fail
        refine HT.out.mono ?_
        rintro e w1 ⟨rfl, h1, h2⟩
        have d5 := h1.c5
        have d24 := h1.c24
        rw [show (n.see 0).erred = false from her] at d5
        have HX := Lib.hid (And.intro h1 (NP.moves p h2))
        clear h1 h2
        go_wp2
        go_ret
        rw [HD.out]
        exact ⟨_, _, _, _, rfl, Eown.nil _ _, HX.out.1, HX.out.2⟩
      · cases htx : n.tx
        · rw [her, htx] at HH
          rw [if_pos (by rw [HH.out]; simp)] at HD
          go_enter Tryz.func95, Tryz.ntmps95
          go_wp2_with fail
          refine HT.out.mono ?_
          rintro e w1 ⟨rfl, h1, h2⟩
          have d5 := h1.c5
          have d24 := h1.c24
          rw [show (n.see 0).erred = true from her] at d5
          rw [show (n.see 0).tx = false from htx] at d24
          have HX := Lib.hid (And.intro h1 (NP.moves p h2))
          clear h1 h2
          go_wp2_with fail
          refine (cas_any HX.out.1 8).mono ?_
          rintro e w3 ⟨u, vo2, vl2, vq2, rfl, g1, g2, g3⟩
          have HE2 := Lib.hid (And.intro (g1.base HX.out.2.size) (And.intro g2 (HX.out.2.trans g3)))
          clear g1 g2 g3
          go_wp2
          go_ret
          rw [HD.out]
          exact ⟨u, _, _, _, rfl, HE2.out.1, HE2.out.2.1, HE2.out.2.2⟩
        · rw [her, htx] at HH
          rw [if_neg (by rw [HH.out]; simp)] at HD
          go_enter Tryz.func95, Tryz.ntmps95
          go_wp2_with fail
          refine HT.out.mono ?_
          rintro e w1 ⟨rfl, h1, h2⟩
          have d5 := h1.c5
          have d24 := h1.c24
          rw [show (n.see 0).erred = true from her] at d5
          rw [show (n.see 0).tx = true from htx] at d24
          have HX := Lib.hid (And.intro h1 (NP.moves p h2))
          clear h1 h2
          go_wp2
          go_ret
          rw [HD.out]
          exact ⟨_, _, _, _, rfl, Eown.nil _ _, HX.out.1, HX.out.2⟩
    · have kb : (k == 1) = false := by simpa using k1
      by_cases k8 : k % 8 = 0
      · rw [if_pos (by rw [HH.out, kb, k8]; simp)] at HD
        have kr : (Int.tmod k 8 == 0) = true := by rw [Int.tmod_eq_emod_of_nonneg (by omega), k8]; rfl
        go_enter Tryz.func95, Tryz.ntmps95
        go_wp2_with fail
        refine HT.out.mono ?_
        rintro e w1 ⟨rfl, h1, h2⟩
        have d5 := h1.c5
        have d24 := h1.c24
        have HX := Lib.hid (And.intro h1 (NP.moves p h2))
        clear h1 h2
        go_wp2_with fail
        refine (cas_any HX.out.1 8).mono ?_
        rintro e w3 ⟨u, vo2, vl2, vq2, rfl, g1, g2, g3⟩
        have HE2 := Lib.hid (And.intro (g1.base HX.out.2.size) (And.intro g2 (HX.out.2.trans g3)))
        clear g1 g2 g3
        go_wp2
        go_ret
        rw [HD.out]
        exact ⟨u, _, _, _, rfl, HE2.out.1, HE2.out.2.1, HE2.out.2.2⟩
      · have k8b : (k % 8 == 0) = false := by simpa using k8
        rw [if_neg (by rw [HH.out, kb, k8b]; simp)] at HD
        have kr : (Int.tmod k 8 == 0) = false := by rw [Int.tmod_eq_emod_of_nonneg (by omega), k8b]
        go_enter Tryz.func95, Tryz.ntmps95
        go_wp2_with fail
        refine HT.out.mono ?_
        rintro e w1 ⟨rfl, h1, h2⟩
        have d5 := h1.c5
        have d24 := h1.c24
        have HX := Lib.hid (And.intro h1 (NP.moves p h2))
        clear h1 h2
        go_wp2
        go_ret
        rw [HD.out]
        exact ⟨_, _, _, _, rfl, Eown.nil _ _, HX.out.1, HX.out.2⟩
  · rw [if_pos rfl] at HD
    have HL := Lib.hid hl
    clear hl h0 h1
    go_enter Tryz.func95, Tryz.ntmps95
    go_wp2_with fail
    refine (enter_nor HL.out 7).mono ?_
    rintro e w2 ⟨vo1, vl1, vq1, rfl, g1, g2⟩
    have HX := Lib.hid (And.intro g1 g2)
    clear g1 g2
    go_wp2_with fail
    refine (close_any HX.out.1 1 (Int.le_refl 0) (by show (0 : Int) ≤ 4000000; omega)).mono ?_
    rintro e w3 ⟨u, vo2, vl2, vq2, rfl, g1, g2, g3⟩
    have HE2 := Lib.hid (And.intro (g1.base HX.out.2.size) (And.intro g2 (HX.out.2.trans g3)))
    clear g1 g2 g3
    go_wp2
    go_ret
    rw [HD.out]
    exact ⟨u, _, _, _, rfl, HE2.out.1, HE2.out.2.1, HE2.out.2.2⟩

set_option maxHeartbeats 1600000 in
theorem susp_any {w : World} {B : Nat} {p : NP} {n : Nd} (hl : Lay w B p n) (hq : Okfs n.q) (z : Int) (hz : z = 0 ∨ z = 1) (h0 : 0 ≤ n.sn) (h1 : n.sn ≤ 4000000) :
    Calls Tryz.prog 98 #[.pointer (some ⟨p.g, 0, none⟩), .int .i64 z] w (Res B p w (n.susp z)) := by
  have HD := Lib.hid (show n.susp z = if z = 0 then ([], n.begin_ false) else ([], if tlN n.sl n.sn 1 = 8 then n.enter 1 else n.see 1) from rfl)
  rcases hz with rfl | rfl
  · rw [if_pos rfl] at HD
    have HL := Lib.hid hl
    have HQ := Lib.hid hq
    clear hl h0 h1 hq
    go_enter Tryz.func98, Tryz.ntmps98
    go_wp2_with fail
    refine (begin_any HL.out HQ.out false).mono ?_
    rintro e w3 ⟨vo2, vl2, vq2, rfl, g1, g2⟩
    have HY := Lib.hid (And.intro g1 g2)
    clear g1 g2
    go_wp2
    go_ret
    rw [HD.out]
    exact ⟨_, _, _, _, rfl, Eown.nil _ _, HY.out.1, HY.out.2⟩
  · rw [if_neg (by omega)] at HD
    have HT := Lib.hid (tell_seen hl 1 h0 h1)
    clear hl h0 h1 hq
    generalize tlN n.sl n.sn 1 = k at *
    by_cases hk : k = 8
    · rw [if_pos hk] at HD
      subst hk
      go_enter Tryz.func98, Tryz.ntmps98
      go_wp2_with fail
      refine HT.out.mono ?_
      rintro e w1 ⟨rfl, h1, h2⟩
      have HX := Lib.hid (And.intro h1 (NP.moves p h2))
      clear h1 h2
      go_wp2_with fail
      refine (enter_nor HX.out.1 1).mono ?_
      rintro e w3 ⟨vo2, vl2, vq2, rfl, g1, g2⟩
      have HY := Lib.hid (And.intro g1 (HX.out.2.trans g2))
      clear g1 g2
      go_wp2
      go_ret
      rw [HD.out]
      exact ⟨_, _, _, _, rfl, Eown.nil _ _, HY.out.1, HY.out.2⟩
    · rw [if_neg hk] at HD
      go_enter Tryz.func98, Tryz.ntmps98
      go_wp2_with fail
      refine HT.out.mono ?_
      rintro e w1 ⟨rfl, h1, h2⟩
      have HX := Lib.hid (And.intro h1 (NP.moves p h2))
      clear h1 h2
      go_wp2
      go_ret
      rw [HD.out]
      exact ⟨_, _, _, _, rfl, Eown.nil _ _, HX.out.1, HX.out.2⟩

set_option maxHeartbeats 3000000 in
theorem pause_any {w : World} {B : Nat} {p : NP} {n : Nd} (hl : Lay w B p n) (hq : Okfs n.q) (z : Int) (hz : z = 0 ∨ z = 1) (h0 : 0 ≤ n.sn) (h1 : n.sn ≤ 4000000) :
    Calls Tryz.prog 97 #[.pointer (some ⟨p.g, 0, none⟩), .int .i64 z] w (Res B p w (n.pause z)) := by
  have HD := Lib.hid (show n.pause z = if z = 0 then (if n.sn = 2 then ([], n.begin_ (!n.back)) else n.over)
    else if n.sn ≠ 2 then ([], n.see 1) else if n.back then ([], n.enter 9) else ([], n.enter 1) from rfl)
  have HL := Lib.hid hl
  have HQ := Lib.hid hq
  have HT := Lib.hid (fun (W : World) (h : Below w.heap.size w W) => tell_seen (hl.next h) 1 h0 h1)
  have HBK := Lib.hid (show n.back = (n.pas && n.tx) from rfl)
  have c2 := hl.c2
  clear hl hq h0 h1
  rcases hz with rfl | rfl
  · rw [if_pos rfl] at HD
    by_cases hk : n.sn = 2
    · rw [if_pos hk] at HD
      rw [hk] at c2
      cases hp : n.pas
      · rw [hp] at HBK
        rw [HBK.out] at HD
        go_enter Tryz.func97, Tryz.ntmps97
        go_wp2_with fail
        refine (passive_any HL.out).mono ?_
        rintro e w1 ⟨rfl, hb1⟩
        have HB := Lib.hid hb1
        have hl1 := HL.out.next hb1
        have d24 := hl1.c24
        have HX := Lib.hid (And.intro hl1 (Moves.of_below hb1 p.fp))
        clear hb1 hl1
        rw [hp]
        go_wp2_with fail
        refine (begin_any HX.out.1 HQ.out true).mono ?_
        rintro e w3 ⟨vo2, vl2, vq2, rfl, g1, g2⟩
        have HY := Lib.hid (And.intro g1 (HX.out.2.trans g2))
        clear g1 g2
        go_wp2
        go_ret
        rw [HD.out]
        exact ⟨_, _, _, _, rfl, Eown.nil _ _, HY.out.1, HY.out.2⟩
      · cases htx : n.tx
        · rw [hp, htx] at HBK
          rw [HBK.out] at HD
          go_enter Tryz.func97, Tryz.ntmps97
          go_wp2_with fail
          refine (passive_any HL.out).mono ?_
          rintro e w1 ⟨rfl, hb1⟩
          have HB := Lib.hid hb1
          have hl1 := HL.out.next hb1
          have d24 := hl1.c24
          have HX := Lib.hid (And.intro hl1 (Moves.of_below hb1 p.fp))
          clear hb1 hl1
          rw [hp]
          rw [htx] at d24
          go_wp2_with fail
          refine (begin_any HX.out.1 HQ.out true).mono ?_
          rintro e w3 ⟨vo2, vl2, vq2, rfl, g1, g2⟩
          have HY := Lib.hid (And.intro g1 (HX.out.2.trans g2))
          clear g1 g2
          go_wp2
          go_ret
          rw [HD.out]
          exact ⟨_, _, _, _, rfl, Eown.nil _ _, HY.out.1, HY.out.2⟩
        · rw [hp, htx] at HBK
          rw [HBK.out] at HD
          go_enter Tryz.func97, Tryz.ntmps97
          go_wp2_with fail
          refine (passive_any HL.out).mono ?_
          rintro e w1 ⟨rfl, hb1⟩
          have HB := Lib.hid hb1
          have hl1 := HL.out.next hb1
          have d24 := hl1.c24
          have HX := Lib.hid (And.intro hl1 (Moves.of_below hb1 p.fp))
          clear hb1 hl1
          rw [hp]
          rw [htx] at d24
          go_wp2_with fail
          refine (begin_any HX.out.1 HQ.out false).mono ?_
          rintro e w3 ⟨vo2, vl2, vq2, rfl, g1, g2⟩
          have HY := Lib.hid (And.intro g1 (HX.out.2.trans g2))
          clear g1 g2
          go_wp2
          go_ret
          rw [HD.out]
          exact ⟨_, _, _, _, rfl, Eown.nil _ _, HY.out.1, HY.out.2⟩
    · rw [if_neg hk] at HD
      have hkb : (n.sn == 2) = false := by simpa using hk
      cases hp : n.pas
      · skip
        go_enter Tryz.func97, Tryz.ntmps97
        go_wp2_with fail
        refine (passive_any HL.out).mono ?_
        rintro e w1 ⟨rfl, hb1⟩
        have HB := Lib.hid hb1
        have hl1 := HL.out.next hb1
        have d24 := hl1.c24
        have HX := Lib.hid (And.intro hl1 (Moves.of_below hb1 p.fp))
        clear hb1 hl1
        rw [hp]
        go_wp2_with fail
        refine (over_any HX.out.1).mono ?_
        rintro e w3 ⟨u, vo2, vl2, vq2, rfl, g1, g2, g3⟩
        have HE2 := Lib.hid (And.intro (g1.base HX.out.2.size) (And.intro g2 (HX.out.2.trans g3)))
        clear g1 g2 g3
        go_wp2
        go_ret
        rw [HD.out]
        exact ⟨u, _, _, _, rfl, HE2.out.1, HE2.out.2.1, HE2.out.2.2⟩
      · cases htx : n.tx
        · skip
          go_enter Tryz.func97, Tryz.ntmps97
          go_wp2_with fail
          refine (passive_any HL.out).mono ?_
          rintro e w1 ⟨rfl, hb1⟩
          have HB := Lib.hid hb1
          have hl1 := HL.out.next hb1
          have d24 := hl1.c24
          have HX := Lib.hid (And.intro hl1 (Moves.of_below hb1 p.fp))
          clear hb1 hl1
          rw [hp]
          rw [htx] at d24
          go_wp2_with fail
          refine (over_any HX.out.1).mono ?_
          rintro e w3 ⟨u, vo2, vl2, vq2, rfl, g1, g2, g3⟩
          have HE2 := Lib.hid (And.intro (g1.base HX.out.2.size) (And.intro g2 (HX.out.2.trans g3)))
          clear g1 g2 g3
          go_wp2
          go_ret
          rw [HD.out]
          exact ⟨u, _, _, _, rfl, HE2.out.1, HE2.out.2.1, HE2.out.2.2⟩
        · skip
          go_enter Tryz.func97, Tryz.ntmps97
          go_wp2_with fail
          refine (passive_any HL.out).mono ?_
          rintro e w1 ⟨rfl, hb1⟩
          have HB := Lib.hid hb1
          have hl1 := HL.out.next hb1
          have d24 := hl1.c24
          have HX := Lib.hid (And.intro hl1 (Moves.of_below hb1 p.fp))
          clear hb1 hl1
          rw [hp]
          rw [htx] at d24
          go_wp2_with fail
          refine (over_any HX.out.1).mono ?_
          rintro e w3 ⟨u, vo2, vl2, vq2, rfl, g1, g2, g3⟩
          have HE2 := Lib.hid (And.intro (g1.base HX.out.2.size) (And.intro g2 (HX.out.2.trans g3)))
          clear g1 g2 g3
          go_wp2
          go_ret
          rw [HD.out]
          exact ⟨u, _, _, _, rfl, HE2.out.1, HE2.out.2.1, HE2.out.2.2⟩
  · rw [if_neg (by omega)] at HD
    by_cases hk : n.sn = 2
    · rw [if_neg (fun h => h hk)] at HD
      rw [hk] at c2
      cases hp : n.pas
      · rw [hp] at HBK
        rw [HBK.out] at HD
        go_enter Tryz.func97, Tryz.ntmps97
        go_wp2_with fail
        refine (passive_any HL.out).mono ?_
        rintro e w1 ⟨rfl, hb1⟩
        have HB := Lib.hid hb1
        have hl1 := HL.out.next hb1
        have d24 := hl1.c24
        have HX := Lib.hid (And.intro hl1 (Moves.of_below hb1 p.fp))
        clear hb1 hl1
        rw [hp]
        rw [if_neg (by simp)] at HD
        go_wp2_with fail
        refine (enter_nor HX.out.1 1).mono ?_
        rintro e w3 ⟨vo2, vl2, vq2, rfl, g1, g2⟩
        have HY := Lib.hid (And.intro g1 (HX.out.2.trans g2))
        clear g1 g2
        go_wp2
        go_ret
        rw [HD.out]
        exact ⟨_, _, _, _, rfl, Eown.nil _ _, HY.out.1, HY.out.2⟩
      · cases htx : n.tx
        · rw [hp, htx] at HBK
          rw [HBK.out] at HD
          go_enter Tryz.func97, Tryz.ntmps97
          go_wp2_with fail
          refine (passive_any HL.out).mono ?_
          rintro e w1 ⟨rfl, hb1⟩
          have HB := Lib.hid hb1
          have hl1 := HL.out.next hb1
          have d24 := hl1.c24
          have HX := Lib.hid (And.intro hl1 (Moves.of_below hb1 p.fp))
          clear hb1 hl1
          rw [hp]
          rw [htx] at d24
          rw [if_neg (by simp)] at HD
          go_wp2_with fail
          refine (enter_nor HX.out.1 1).mono ?_
          rintro e w3 ⟨vo2, vl2, vq2, rfl, g1, g2⟩
          have HY := Lib.hid (And.intro g1 (HX.out.2.trans g2))
          clear g1 g2
          go_wp2
          go_ret
          rw [HD.out]
          exact ⟨_, _, _, _, rfl, Eown.nil _ _, HY.out.1, HY.out.2⟩
        · rw [hp, htx] at HBK
          rw [HBK.out] at HD
          go_enter Tryz.func97, Tryz.ntmps97
          go_wp2_with fail
          refine (passive_any HL.out).mono ?_
          rintro e w1 ⟨rfl, hb1⟩
          have HB := Lib.hid hb1
          have hl1 := HL.out.next hb1
          have d24 := hl1.c24
          have HX := Lib.hid (And.intro hl1 (Moves.of_below hb1 p.fp))
          clear hb1 hl1
          rw [hp]
          rw [htx] at d24
          rw [if_pos (show (true && true) = true from rfl)] at HD
          go_wp2_with fail
          refine (enter_nor HX.out.1 9).mono ?_
          rintro e w3 ⟨vo2, vl2, vq2, rfl, g1, g2⟩
          have HY := Lib.hid (And.intro g1 (HX.out.2.trans g2))
          clear g1 g2
          go_wp2
          go_ret
          rw [HD.out]
          exact ⟨_, _, _, _, rfl, Eown.nil _ _, HY.out.1, HY.out.2⟩
    · rw [if_pos hk] at HD
      have hkb : (n.sn == 2) = false := by simpa using hk
      cases hp : n.pas
      · skip
        go_enter Tryz.func97, Tryz.ntmps97
        go_wp2_with fail
        refine (passive_any HL.out).mono ?_
        rintro e w1 ⟨rfl, hb1⟩
        have HB := Lib.hid hb1
        have hl1 := HL.out.next hb1
        have d24 := hl1.c24
        have HX := Lib.hid (And.intro hl1 (Moves.of_below hb1 p.fp))
        clear hb1 hl1
        rw [hp]
        go_wp2_with fail
        refine (HT.out _ HB.out).mono ?_
        rintro e w3 ⟨rfl, g1, g2⟩
        have HY := Lib.hid (And.intro g1 (HX.out.2.trans (NP.moves p g2)))
        clear g1 g2
        go_wp2
        go_ret
        rw [HD.out]
        exact ⟨_, _, _, _, rfl, Eown.nil _ _, HY.out.1, HY.out.2⟩
      · cases htx : n.tx
        · skip
          go_enter Tryz.func97, Tryz.ntmps97
          go_wp2_with fail
          refine (passive_any HL.out).mono ?_
          rintro e w1 ⟨rfl, hb1⟩
          have HB := Lib.hid hb1
          have hl1 := HL.out.next hb1
          have d24 := hl1.c24
          have HX := Lib.hid (And.intro hl1 (Moves.of_below hb1 p.fp))
          clear hb1 hl1
          rw [hp]
          rw [htx] at d24
          go_wp2_with fail
          refine (HT.out _ HB.out).mono ?_
          rintro e w3 ⟨rfl, g1, g2⟩
          have HY := Lib.hid (And.intro g1 (HX.out.2.trans (NP.moves p g2)))
          clear g1 g2
          go_wp2
          go_ret
          rw [HD.out]
          exact ⟨_, _, _, _, rfl, Eown.nil _ _, HY.out.1, HY.out.2⟩
        · skip
          go_enter Tryz.func97, Tryz.ntmps97
          go_wp2_with fail
          refine (passive_any HL.out).mono ?_
          rintro e w1 ⟨rfl, hb1⟩
          have HB := Lib.hid hb1
          have hl1 := HL.out.next hb1
          have d24 := hl1.c24
          have HX := Lib.hid (And.intro hl1 (Moves.of_below hb1 p.fp))
          clear hb1 hl1
          rw [hp]
          rw [htx] at d24
          go_wp2_with fail
          refine (HT.out _ HB.out).mono ?_
          rintro e w3 ⟨rfl, g1, g2⟩
          have HY := Lib.hid (And.intro g1 (HX.out.2.trans (NP.moves p g2)))
          clear g1 g2
          go_wp2
          go_ret
          rw [HD.out]
          exact ⟨_, _, _, _, rfl, Eown.nil _ _, HY.out.1, HY.out.2⟩

set_option maxHeartbeats 2000000 in
theorem off_any {w : World} {B : Nat} {p : NP} {n : Nd} (hl : Lay w B p n) (z : Int) (h0 : 0 ≤ n.sn) (h1 : n.sn ≤ 4000000) (h2 : 0 ≤ n.rows) (h3 : n.rows ≤ 4000000) :
    Calls Tryz.prog 99 #[.pointer (some ⟨p.g, 0, none⟩), .int .i64 z] w (Res B p w (n.off z)) := by
  have HD := Lib.hid (show n.off z = if n.quiet z then (if n.rows + 1 < 128 then ([], n.row0) else ([ev 11], { n.enter 1 with ct := Ct.zero, tx := false }))
    else ([], n.see z) from rfl)
  have HT := Lib.hid (quiet_any hl z h0 h1)
  clear hl h0 h1
  cases hq : n.quiet z
  · rw [hq, if_neg (by simp)] at HD
    go_enter Tryz.func99, Tryz.ntmps99
    go_wp2_with fail
    refine HT.out.mono ?_
    rintro e w1 ⟨rfl, g1, g2⟩
    rw [hq]
    have HX := Lib.hid (And.intro g1 (NP.moves p g2))
    clear g1 g2
    go_wp2
    go_ret
    rw [HD.out]
    exact ⟨_, _, _, _, rfl, Eown.nil _ _, HX.out.1, HX.out.2⟩
  · rw [hq, if_pos rfl] at HD
    by_cases hr : n.rows + 1 < 128
    · rw [if_pos hr] at HD
      go_enter Tryz.func99, Tryz.ntmps99
      go_wp2_with fail
      refine HT.out.mono ?_
      rintro e w1 ⟨rfl, g1, g2⟩
      rw [hq]
      have d1 := g1.c1
      have d2 := g1.c2
      have d3 := g1.c3
      rw [show (n.see z).rows = n.rows from rfl] at d3
      have fz := fun i => g1.fz i
      obtain ⟨W, hW⟩ : ∃ W, ((w1.setCell ⟨p.g, 1, none⟩ (.int .i64 0)).setCell ⟨p.g, 2, none⟩ (.int .i64 0)).setCell ⟨p.g, 3, none⟩ (.int .i64 (n.rows + 1)) = W := ⟨_, rfl⟩
      have ho : Only p.g w1 W := by
        rw [← hW]
        exact (Only.refl _ _).set.set.set
      have hlw : Lay W B p n.row0 := by
        refine g1.turn ho ?_ rfl rfl rfl
        rw [← hW]
        exact cells_set (cells_set (cells_set g1.blk))
      have HX := Lib.hid (And.intro hlw ((NP.moves p g2).trans (NP.moves p ho)))
      have x3 := hlw.c3
      rw [show n.row0.rows = n.rows + 1 from rfl] at x3
      clear g1 g2 hlw ho
      go_wp2
      go_ret
      rw [HD.out]
      exact ⟨_, _, _, _, rfl, Eown.nil _ _, HX.out.1, HX.out.2⟩
    · rw [if_neg hr] at HD
      go_enter Tryz.func99, Tryz.ntmps99
      go_wp2_with fail
      refine HT.out.mono ?_
      rintro e w1 ⟨rfl, g1, g2⟩
      rw [hq]
      have d1 := g1.c1
      have d2 := g1.c2
      have d3 := g1.c3
      rw [show (n.see z).rows = n.rows from rfl] at d3
      have fz := fun i => g1.fz i
      obtain ⟨W, hW⟩ : ∃ W, ((w1.setCell ⟨p.g, 1, none⟩ (.int .i64 0)).setCell ⟨p.g, 2, none⟩ (.int .i64 0)).setCell ⟨p.g, 3, none⟩ (.int .i64 (n.rows + 1)) = W := ⟨_, rfl⟩
      have ho : Only p.g w1 W := by
        rw [← hW]
        exact (Only.refl _ _).set.set.set
      have hlw : Lay W B p n.row0 := by
        refine g1.turn ho ?_ rfl rfl rfl
        rw [← hW]
        exact cells_set (cells_set (cells_set g1.blk))
      have HX := Lib.hid (And.intro hlw ((NP.moves p g2).trans (NP.moves p ho)))
      have x3 := hlw.c3
      rw [show n.row0.rows = n.rows + 1 from rfl] at x3
      have d25 := HX.out.1.c25
      have d26 := HX.out.1.c26
      have d27 := HX.out.1.c27
      have d24 := HX.out.1.c24
      have fw := fun i => HX.out.1.fz i
      clear g1 g2 hlw ho
      go_wp2_with fail
      refine (back_any n.row0.ct _).mono ?_
      rintro e w3 ⟨rfl, hb3⟩
      have hl3 := HX.out.1.next hb3
      have e25 := hl3.c25
      have e26 := hl3.c26
      have e27 := hl3.c27
      have e24 := hl3.c24
      have fy := fun i => hl3.fz i
      have hp := hl3.put_ct Ct.zero rfl
      have hp2 := hp.1.put_tx false
      have HY := Lib.hid (And.intro hp2.1 (((HX.out.2.next hb3).trans (NP.moves p hp.2)).trans (NP.moves p hp2.2)))
      clear hb3 hl3 hp hp2 d25 d26 d27 d24 fw x3 hW d1 d2 d3 fz
      go_wp2_with fail
      refine (enter_nor HY.out.1 1).mono ?_
      rintro e w4 ⟨vo2, vl2, vq2, rfl, g1, g2⟩
      have HZ := Lib.hid (And.intro g1 (HY.out.2.trans g2))
      clear g1 g2
      go_wp2_with fail
      refine (evt_any 11 _).mono ?_
      rintro e w5 ⟨u, rfl, h5, h6⟩
      have HG := Lib.hid (And.intro h5 h6)
      clear h5 h6
      go_wp2
      go_ret
      rw [HD.out]
      exact ⟨u, _, _, _, rfl, HG.out.1.base HZ.out.2.size, HZ.out.1.next HG.out.2, HZ.out.2.next HG.out.2⟩
end Go.Proofs.YtalpbnfebcafgaaGreat

/- The contract of Step. -/
namespace Go.Proofs.YtalpbnfebcafgaaGreat
set_option maxRecDepth 20000
open Go.RowKit
set_option linter.unusedSimpArgs false

abbrev deedsA : Array Value := #[.func (.func 90) #[] #[], .func (.func 91) #[] #[], .func (.func 92) #[] #[], .func (.func 93) #[] #[], .func (.func 94) #[] #[], .func (.func 93) #[] #[], .func (.func 95) #[] #[], .func (.func 96) #[] #[], .func (.func 97) #[] #[], .func (.func 98) #[] #[], .func (.func 99) #[] #[]]
set_option maxHeartbeats 800000 in
theorem deeds_any (w : World) : Calls Tryz.prog 80 #[] w fun e w' => e = .returned (.agg deedsA) ∧ Below w.heap.size w w' := by
  have hmf : ∀ (fn : Fn) (first cap : Array Value) (w : World), (Instr.makeFunc fn first cap).run Tryz.prog w = .ok (.func fn first cap) w := fun _ _ _ _ => rfl
  go_enter Tryz.func80, Tryz.ntmps80
  go_wp2
  refine bodyPost_ret (v := .agg deedsA) (by rw [results_cellK rfl]; go_simp) rfl ⟨rfl, (Below.refl _ _).alloc (Nat.le_refl _) _⟩

theorem ix11 (k : Nat) (hk : k < 11) (v : Value) (e : deedsA[k]? = some v) (w : World) : (Instr.index 143 (.agg deedsA) (.int .i64 (k : Int))).run Tryz.prog w = .ok v w := by
  have h1 : (0 : Int) ≤ (k : Int) ∧ (k : Int) < 11 := by omega
  have e2 := e
  rw [← Array.getElem?_toList] at e2
  simp [Instr.index, run_underlying Tryz.underlying143, asIntOf, h1, part, isAgg, run_underlying Tryz.underlying142]
  rw [if_pos hk, e2]
  rfl
/-- A step tells events, and leaves a node. -/
def Sts (B : Nat) (p : NP) (w : World) (r : List Ev × Nd) (e : Ending) (w' : World) : Prop :=
  ∃ u vo vl vq, e = .returned (.tuple #[u, .int .i64 0]) ∧ Eown w' w.heap.size u r.1 ∧ Lay w' B ⟨p.g, p.gq, vo, vl, vq⟩ r.2 ∧ Moves p.fp (NP.fp ⟨p.g, p.gq, vo, vl, vq⟩) w w'
theorem Res.drew {B : Nat} {p : NP} {w : World} {r : List Ev × Nd} {e : Ending} {w' : World} (h : Res B p w.drew r e w') : Res B p w r e w' := by
  obtain ⟨u, vo, vl, vq, h1, h2, h3, h4⟩ := h
  exact ⟨u, vo, vl, vq, h1, h2, h3, h4.undrew⟩

theorem step_nil (z : Int) (w : World) : Calls Tryz.prog 67 #[.pointer none, .int .i64 z] w fun e w' => e = .returned (.tuple #[.slice none 0 0, .int .i64 2]) ∧ w = w' := by
  go_enter Tryz.func67, Tryz.ntmps67
  go_wp2
  go_ret2
  exact ⟨rfl, rfl⟩
theorem step_bad {w : World} {B : Nat} {p : NP} {n : Nd} (_hl : Lay w B p n) (z : Int) (h0 : z ≠ 0) (h1 : z ≠ 1) : Calls Tryz.prog 67 #[.pointer (some ⟨p.g, 0, none⟩), .int .i64 z] w fun e w' => e = .returned (.tuple #[.slice none 0 0, .int .i64 10]) ∧ w = w' := by
  clear _hl
  have b0 : (z != 0) = true := by simpa using h0
  have b1 : (z != 1) = true := by simpa using h1
  go_enter Tryz.func67, Tryz.ntmps67
  go_wp2
  go_ret2
  exact ⟨rfl, rfl⟩

set_option maxHeartbeats 1600000 in
set_option maxRecDepth 100000 in
theorem step_by {w : World} {B : Nat} {p : NP} {n : Nd} {F : FuncId} {r : List Ev × Nd} (hl : Lay w B p n) (z : Int) (hz : z = 0 ∨ z = 1)
    (hcall : ∀ (args : Array Value) (W : World), (callFunc F args).run Tryz.prog W = .ok (.enter F args) W)
    (hix : ∀ W : World, (Instr.index 143 (.agg deedsA) (.int .i64 n.mode)).run Tryz.prog W = .ok (.func (.func F) #[] #[]) W)
    (hf : ∀ W, Lay W B p n → Calls Tryz.prog F #[.pointer (some ⟨p.g, 0, none⟩), .int .i64 z] W (Res B p W r)) :
    Calls Tryz.prog 67 #[.pointer (some ⟨p.g, 0, none⟩), .int .i64 z] w (Sts B p w r) := by
  have HL := Lib.hid hl
  have HF := Lib.hid hf
  have c0 := hl.c0
  clear hl hf
  rcases hz with rfl | rfl
  · go_enter Tryz.func67, Tryz.ntmps67
    go_wp2_with fail
    refine wp_region_held_drew (S := fun _ => True) (by kernel_rfl) trivial (fun hHeld => ?_)
    refine takeH (i := 1) (v := .pointer (some ⟨p.g, 0, none⟩)) rfl (by kernel_rfl) (by kernel_rfl) (by kernel_rfl) (fun _ _ _ h => h) (Or.inl ⟨by rfl, fun w hSw => ?_⟩) hHeld ?_
    · (clear hSw; go_simp)
    simp only [Act.put, List.setIfInBounds_toArray, List.set_cons_zero, List.set_cons_succ]
    refine takeH (i := 2) (v := .pointer (some ⟨p.g, 0, none⟩)) rfl (by kernel_rfl) (by kernel_rfl) (by kernel_rfl) (fun _ _ _ h => h) (Or.inl ⟨by rfl, fun w hSw => ?_⟩) hHeld ?_
    · (clear hSw; go_simp)
    simp only [Act.put, List.setIfInBounds_toArray, List.set_cons_zero, List.set_cons_succ]
    refine takeH (i := 3) (v := .pointer (some ⟨p.g, 0, none⟩)) rfl (by kernel_rfl) (by kernel_rfl) (by kernel_rfl) (fun _ _ _ h => h) (Or.inl ⟨by rfl, fun w hSw => ?_⟩) hHeld ?_
    · (clear hSw; go_simp)
    simp only [Act.put, List.setIfInBounds_toArray, List.set_cons_zero, List.set_cons_succ]
    refine takeH (i := 4) (v := .pointer (some ⟨p.g, 0, none⟩)) rfl (by kernel_rfl) (by kernel_rfl) (by kernel_rfl) (fun _ _ _ h => h) (Or.inl ⟨by rfl, fun w hSw => ?_⟩) hHeld ?_
    · (clear hSw; go_simp)
    simp only [Act.put, List.setIfInBounds_toArray, List.set_cons_zero, List.set_cons_succ]
    refine takeH (i := 7) (v := .pointer (some ⟨p.g, 0, none⟩)) rfl (by kernel_rfl) (by kernel_rfl) (by kernel_rfl) (fun _ _ _ h => h) (Or.inl ⟨by rfl, fun w hSw => ?_⟩) hHeld ?_
    · (clear hSw; go_simp)
    simp only [Act.put, List.setIfInBounds_toArray, List.set_cons_zero, List.set_cons_succ]
    refine takeH (i := 8) (v := .int .i64 0) rfl (by kernel_rfl) (by kernel_rfl) (by kernel_rfl) (fun _ _ _ h => h) (Or.inl ⟨by rfl, fun w hSw => ?_⟩) hHeld ?_
    · (clear hSw; go_simp)
    simp only [Act.put, List.setIfInBounds_toArray, List.set_cons_zero, List.set_cons_succ]
    refine wpAnyH_ready (rs := [0, 5]) (by kernel_rfl) (by simp) ?_
    refine AllReadyH.cons rfl (fun K hK => ?_) (AllReadyH.cons rfl (fun K hK => ?_) AllReadyH.nil)
    · go_simp
      refine (deeds_any _).mono ?_
      rintro e w1 ⟨rfl, hb1⟩
      have HB := Lib.hid (undrew hb1)
      clear hb1
      have d0 := (HL.out.next HB.out).c0
      dsimp only
      refine hK.out _ _ trivial (fun hHeld => ?_)
      clear hK K
      try simp only [Act.put, List.setIfInBounds_toArray, List.set_cons_zero, List.set_cons_succ]
      refine wpAnyH_ready (rs := [5]) (by kernel_rfl) (by simp) ?_
      refine AllReadyH.cons rfl (fun K hK => ?_) AllReadyH.nil
      go_simp
      refine hK.out _ _ trivial (fun hHeld => ?_)
      clear hK K
      try simp only [Act.put, List.setIfInBounds_toArray, List.set_cons_zero, List.set_cons_succ]
      refine takeH (i := 6) (v := .func (.func F) #[] #[]) rfl (by kernel_rfl) (by kernel_rfl) (by kernel_rfl) (fun _ _ _ h => h) (Or.inl ⟨by rfl, fun w hSw => ?_⟩) hHeld ?_
      · (clear hSw; go_simp)
      simp only [Act.put, List.setIfInBounds_toArray, List.set_cons_zero, List.set_cons_succ]
      refine wpAnyH_ready (rs := [9]) (by kernel_rfl) (by simp) ?_
      refine AllReadyH.cons rfl (fun K hK => ?_) AllReadyH.nil
      go_simp
      refine (HF.out _ (HL.out.next HB.out)).mono ?_
      rintro e w5 ⟨u, vo, vl, vq, rfl, g1, g2, g3⟩
      have HG := Lib.hid (And.intro (g1.base HB.out.size) (And.intro g2 ((Moves.of_below HB.out p.fp).trans g3)))
      obtain ⟨A, cap, hu, hc⟩ := g1.len
      subst hu
      clear g1 g2 g3 hc
      dsimp only
      refine hK.out _ _ trivial (fun hHeld => ?_)
      clear hK K
      try simp only [Act.put, List.setIfInBounds_toArray, List.set_cons_zero, List.set_cons_succ]
      refine takeH (i := 10) (v := .slice A r.1.length cap) rfl (by kernel_rfl) (by kernel_rfl) (by kernel_rfl) (fun _ _ _ h => h) (Or.inl ⟨by rfl, fun w hSw => ?_⟩) hHeld ?_
      · (clear hSw; go_simp)
      simp only [Act.put, List.setIfInBounds_toArray, List.set_cons_zero, List.set_cons_succ]
      refine takeH (i := 11) (v := .int .i64 0) rfl (by kernel_rfl) (by kernel_rfl) (by kernel_rfl) (fun _ _ _ h => h) (Or.inl ⟨by rfl, fun w hSw => ?_⟩) hHeld ?_
      · (clear hSw; go_simp)
      simp only [Act.put, List.setIfInBounds_toArray, List.set_cons_zero, List.set_cons_succ]
      refine wpAnyH_done (by kernel_rfl) ?_ _
      clear hHeld
      go_wp2
      go_ret2
      exact ⟨_, _, _, _, rfl, HG.out.1, HG.out.2.1, HG.out.2.2⟩
    · have d0 : w.drew.cell? ⟨p.g, 0, none⟩ = some (.int .i64 n.mode) := c0
      go_simp
      refine hK.out _ _ trivial (fun hHeld => ?_)
      clear hK K
      try simp only [Act.put, List.setIfInBounds_toArray, List.set_cons_zero, List.set_cons_succ]
      refine wpAnyH_ready (rs := [0]) (by kernel_rfl) (by simp) ?_
      refine AllReadyH.cons rfl (fun K hK => ?_) AllReadyH.nil
      go_simp
      refine (deeds_any _).mono ?_
      rintro e w1 ⟨rfl, hb1⟩
      have HB := Lib.hid (undrew hb1)
      clear hb1
      have d0 := (HL.out.next HB.out).c0
      dsimp only
      refine hK.out _ _ trivial (fun hHeld => ?_)
      clear hK K
      try simp only [Act.put, List.setIfInBounds_toArray, List.set_cons_zero, List.set_cons_succ]
      refine takeH (i := 6) (v := .func (.func F) #[] #[]) rfl (by kernel_rfl) (by kernel_rfl) (by kernel_rfl) (fun _ _ _ h => h) (Or.inl ⟨by rfl, fun w hSw => ?_⟩) hHeld ?_
      · (clear hSw; go_simp)
      simp only [Act.put, List.setIfInBounds_toArray, List.set_cons_zero, List.set_cons_succ]
      refine wpAnyH_ready (rs := [9]) (by kernel_rfl) (by simp) ?_
      refine AllReadyH.cons rfl (fun K hK => ?_) AllReadyH.nil
      go_simp
      refine (HF.out _ (HL.out.next HB.out)).mono ?_
      rintro e w5 ⟨u, vo, vl, vq, rfl, g1, g2, g3⟩
      have HG := Lib.hid (And.intro (g1.base HB.out.size) (And.intro g2 ((Moves.of_below HB.out p.fp).trans g3)))
      obtain ⟨A, cap, hu, hc⟩ := g1.len
      subst hu
      clear g1 g2 g3 hc
      dsimp only
      refine hK.out _ _ trivial (fun hHeld => ?_)
      clear hK K
      try simp only [Act.put, List.setIfInBounds_toArray, List.set_cons_zero, List.set_cons_succ]
      refine takeH (i := 10) (v := .slice A r.1.length cap) rfl (by kernel_rfl) (by kernel_rfl) (by kernel_rfl) (fun _ _ _ h => h) (Or.inl ⟨by rfl, fun w hSw => ?_⟩) hHeld ?_
      · (clear hSw; go_simp)
      simp only [Act.put, List.setIfInBounds_toArray, List.set_cons_zero, List.set_cons_succ]
      refine takeH (i := 11) (v := .int .i64 0) rfl (by kernel_rfl) (by kernel_rfl) (by kernel_rfl) (fun _ _ _ h => h) (Or.inl ⟨by rfl, fun w hSw => ?_⟩) hHeld ?_
      · (clear hSw; go_simp)
      simp only [Act.put, List.setIfInBounds_toArray, List.set_cons_zero, List.set_cons_succ]
      refine wpAnyH_done (by kernel_rfl) ?_ _
      clear hHeld
      go_wp2
      go_ret2
      exact ⟨_, _, _, _, rfl, HG.out.1, HG.out.2.1, HG.out.2.2⟩
  · go_enter Tryz.func67, Tryz.ntmps67
    go_wp2_with fail
    refine wp_region_held_drew (S := fun _ => True) (by kernel_rfl) trivial (fun hHeld => ?_)
    refine takeH (i := 1) (v := .pointer (some ⟨p.g, 0, none⟩)) rfl (by kernel_rfl) (by kernel_rfl) (by kernel_rfl) (fun _ _ _ h => h) (Or.inl ⟨by rfl, fun w hSw => ?_⟩) hHeld ?_
    · (clear hSw; go_simp)
    simp only [Act.put, List.setIfInBounds_toArray, List.set_cons_zero, List.set_cons_succ]
    refine takeH (i := 2) (v := .pointer (some ⟨p.g, 0, none⟩)) rfl (by kernel_rfl) (by kernel_rfl) (by kernel_rfl) (fun _ _ _ h => h) (Or.inl ⟨by rfl, fun w hSw => ?_⟩) hHeld ?_
    · (clear hSw; go_simp)
    simp only [Act.put, List.setIfInBounds_toArray, List.set_cons_zero, List.set_cons_succ]
    refine takeH (i := 3) (v := .pointer (some ⟨p.g, 0, none⟩)) rfl (by kernel_rfl) (by kernel_rfl) (by kernel_rfl) (fun _ _ _ h => h) (Or.inl ⟨by rfl, fun w hSw => ?_⟩) hHeld ?_
    · (clear hSw; go_simp)
    simp only [Act.put, List.setIfInBounds_toArray, List.set_cons_zero, List.set_cons_succ]
    refine takeH (i := 4) (v := .pointer (some ⟨p.g, 0, none⟩)) rfl (by kernel_rfl) (by kernel_rfl) (by kernel_rfl) (fun _ _ _ h => h) (Or.inl ⟨by rfl, fun w hSw => ?_⟩) hHeld ?_
    · (clear hSw; go_simp)
    simp only [Act.put, List.setIfInBounds_toArray, List.set_cons_zero, List.set_cons_succ]
    refine takeH (i := 7) (v := .pointer (some ⟨p.g, 0, none⟩)) rfl (by kernel_rfl) (by kernel_rfl) (by kernel_rfl) (fun _ _ _ h => h) (Or.inl ⟨by rfl, fun w hSw => ?_⟩) hHeld ?_
    · (clear hSw; go_simp)
    simp only [Act.put, List.setIfInBounds_toArray, List.set_cons_zero, List.set_cons_succ]
    refine takeH (i := 8) (v := .int .i64 1) rfl (by kernel_rfl) (by kernel_rfl) (by kernel_rfl) (fun _ _ _ h => h) (Or.inl ⟨by rfl, fun w hSw => ?_⟩) hHeld ?_
    · (clear hSw; go_simp)
    simp only [Act.put, List.setIfInBounds_toArray, List.set_cons_zero, List.set_cons_succ]
    refine wpAnyH_ready (rs := [0, 5]) (by kernel_rfl) (by simp) ?_
    refine AllReadyH.cons rfl (fun K hK => ?_) (AllReadyH.cons rfl (fun K hK => ?_) AllReadyH.nil)
    · go_simp
      refine (deeds_any _).mono ?_
      rintro e w1 ⟨rfl, hb1⟩
      have HB := Lib.hid (undrew hb1)
      clear hb1
      have d0 := (HL.out.next HB.out).c0
      dsimp only
      refine hK.out _ _ trivial (fun hHeld => ?_)
      clear hK K
      try simp only [Act.put, List.setIfInBounds_toArray, List.set_cons_zero, List.set_cons_succ]
      refine wpAnyH_ready (rs := [5]) (by kernel_rfl) (by simp) ?_
      refine AllReadyH.cons rfl (fun K hK => ?_) AllReadyH.nil
      go_simp
      refine hK.out _ _ trivial (fun hHeld => ?_)
      clear hK K
      try simp only [Act.put, List.setIfInBounds_toArray, List.set_cons_zero, List.set_cons_succ]
      refine takeH (i := 6) (v := .func (.func F) #[] #[]) rfl (by kernel_rfl) (by kernel_rfl) (by kernel_rfl) (fun _ _ _ h => h) (Or.inl ⟨by rfl, fun w hSw => ?_⟩) hHeld ?_
      · (clear hSw; go_simp)
      simp only [Act.put, List.setIfInBounds_toArray, List.set_cons_zero, List.set_cons_succ]
      refine wpAnyH_ready (rs := [9]) (by kernel_rfl) (by simp) ?_
      refine AllReadyH.cons rfl (fun K hK => ?_) AllReadyH.nil
      go_simp
      refine (HF.out _ (HL.out.next HB.out)).mono ?_
      rintro e w5 ⟨u, vo, vl, vq, rfl, g1, g2, g3⟩
      have HG := Lib.hid (And.intro (g1.base HB.out.size) (And.intro g2 ((Moves.of_below HB.out p.fp).trans g3)))
      obtain ⟨A, cap, hu, hc⟩ := g1.len
      subst hu
      clear g1 g2 g3 hc
      dsimp only
      refine hK.out _ _ trivial (fun hHeld => ?_)
      clear hK K
      try simp only [Act.put, List.setIfInBounds_toArray, List.set_cons_zero, List.set_cons_succ]
      refine takeH (i := 10) (v := .slice A r.1.length cap) rfl (by kernel_rfl) (by kernel_rfl) (by kernel_rfl) (fun _ _ _ h => h) (Or.inl ⟨by rfl, fun w hSw => ?_⟩) hHeld ?_
      · (clear hSw; go_simp)
      simp only [Act.put, List.setIfInBounds_toArray, List.set_cons_zero, List.set_cons_succ]
      refine takeH (i := 11) (v := .int .i64 0) rfl (by kernel_rfl) (by kernel_rfl) (by kernel_rfl) (fun _ _ _ h => h) (Or.inl ⟨by rfl, fun w hSw => ?_⟩) hHeld ?_
      · (clear hSw; go_simp)
      simp only [Act.put, List.setIfInBounds_toArray, List.set_cons_zero, List.set_cons_succ]
      refine wpAnyH_done (by kernel_rfl) ?_ _
      clear hHeld
      go_wp2
      go_ret2
      exact ⟨_, _, _, _, rfl, HG.out.1, HG.out.2.1, HG.out.2.2⟩
    · have d0 : w.drew.cell? ⟨p.g, 0, none⟩ = some (.int .i64 n.mode) := c0
      go_simp
      refine hK.out _ _ trivial (fun hHeld => ?_)
      clear hK K
      try simp only [Act.put, List.setIfInBounds_toArray, List.set_cons_zero, List.set_cons_succ]
      refine wpAnyH_ready (rs := [0]) (by kernel_rfl) (by simp) ?_
      refine AllReadyH.cons rfl (fun K hK => ?_) AllReadyH.nil
      go_simp
      refine (deeds_any _).mono ?_
      rintro e w1 ⟨rfl, hb1⟩
      have HB := Lib.hid (undrew hb1)
      clear hb1
      have d0 := (HL.out.next HB.out).c0
      dsimp only
      refine hK.out _ _ trivial (fun hHeld => ?_)
      clear hK K
      try simp only [Act.put, List.setIfInBounds_toArray, List.set_cons_zero, List.set_cons_succ]
      refine takeH (i := 6) (v := .func (.func F) #[] #[]) rfl (by kernel_rfl) (by kernel_rfl) (by kernel_rfl) (fun _ _ _ h => h) (Or.inl ⟨by rfl, fun w hSw => ?_⟩) hHeld ?_
      · (clear hSw; go_simp)
      simp only [Act.put, List.setIfInBounds_toArray, List.set_cons_zero, List.set_cons_succ]
      refine wpAnyH_ready (rs := [9]) (by kernel_rfl) (by simp) ?_
      refine AllReadyH.cons rfl (fun K hK => ?_) AllReadyH.nil
      go_simp
      refine (HF.out _ (HL.out.next HB.out)).mono ?_
      rintro e w5 ⟨u, vo, vl, vq, rfl, g1, g2, g3⟩
      have HG := Lib.hid (And.intro (g1.base HB.out.size) (And.intro g2 ((Moves.of_below HB.out p.fp).trans g3)))
      obtain ⟨A, cap, hu, hc⟩ := g1.len
      subst hu
      clear g1 g2 g3 hc
      dsimp only
      refine hK.out _ _ trivial (fun hHeld => ?_)
      clear hK K
      try simp only [Act.put, List.setIfInBounds_toArray, List.set_cons_zero, List.set_cons_succ]
      refine takeH (i := 10) (v := .slice A r.1.length cap) rfl (by kernel_rfl) (by kernel_rfl) (by kernel_rfl) (fun _ _ _ h => h) (Or.inl ⟨by rfl, fun w hSw => ?_⟩) hHeld ?_
      · (clear hSw; go_simp)
      simp only [Act.put, List.setIfInBounds_toArray, List.set_cons_zero, List.set_cons_succ]
      refine takeH (i := 11) (v := .int .i64 0) rfl (by kernel_rfl) (by kernel_rfl) (by kernel_rfl) (fun _ _ _ h => h) (Or.inl ⟨by rfl, fun w hSw => ?_⟩) hHeld ?_
      · (clear hSw; go_simp)
      simp only [Act.put, List.setIfInBounds_toArray, List.set_cons_zero, List.set_cons_succ]
      refine wpAnyH_done (by kernel_rfl) ?_ _
      clear hHeld
      go_wp2
      go_ret2
      exact ⟨_, _, _, _, rfl, HG.out.1, HG.out.2.1, HG.out.2.2⟩

/-- A node may take a step. -/
structure Fit (n : Nd) : Prop where
  m0 : 0 ≤ n.mode
  m1 : n.mode ≤ 10
  s0 : 0 ≤ n.sn
  s1 : n.sn ≤ 4000000
  r0 : 0 ≤ n.rows
  r1 : n.rows ≤ 4000000
  q : Okfs n.q
  ql : n.q.length ≤ 16
  inf : n.mode = 2 → Inf n
theorem lvl_of {z : Int} (h : z = 0 ∨ z = 1) : lvl z = true := by rcases h with rfl | rfl <;> rfl
theorem step_any10 {w : World} {B : Nat} {p : NP} {n : Nd} (hl : Lay w B p n) (hn : Fit n) (z : Int) (hz : z = 0 ∨ z = 1) :
    Calls Tryz.prog 67 #[.pointer (some ⟨p.g, 0, none⟩), .int .i64 z] w (Sts B p w (n.stp z)) := by
  have h0 := hn.m0
  have h1 := hn.m1
  by_cases hm : n.mode = 0
  · rw [show n.stp z = n.join z by unfold Nd.stp; simp [hm]]
    exact step_by hl z hz (fun args W => by go_simp) (fun W => by rw [hm]; exact ix11 0 (by omega) _ rfl W) fun W h => join_any h z hn.s0 hn.s1
  by_cases hm : n.mode = 1
  · rw [show n.stp z = n.idle z by unfold Nd.stp; simp [hm]]
    exact step_by hl z hz (fun args W => by go_simp) (fun W => by rw [hm]; exact ix11 1 (by omega) _ rfl W) fun W h => idle_any h hm hn.q z
  by_cases hm : n.mode = 2
  · rw [show n.stp z = n.inF z by unfold Nd.stp; simp [hm]]
    exact step_by hl z hz (fun args W => by go_simp) (fun W => by rw [hm]; exact ix11 2 (by omega) _ rfl W) fun W h => inF_any h (hn.inf hm) z (lvl_of hz)
  by_cases hm : n.mode = 3
  · rw [show n.stp z = n.flag z by unfold Nd.stp; simp [hm]]
    exact step_by hl z hz (fun args W => by go_simp) (fun W => by rw [hm]; exact ix11 3 (by omega) _ rfl W) fun W h => flag_any h z hn.s0 hn.s1
  by_cases hm : n.mode = 4
  · rw [show n.stp z = n.pflag z by unfold Nd.stp; simp [hm]]
    exact step_by hl z hz (fun args W => by go_simp) (fun W => by rw [hm]; exact ix11 4 (by omega) _ rfl W) fun W h => pflag_any h z hn.s0 hn.s1
  by_cases hm : n.mode = 5
  · rw [show n.stp z = n.flag z by unfold Nd.stp; simp [hm]]
    exact step_by hl z hz (fun args W => by go_simp) (fun W => by rw [hm]; exact ix11 5 (by omega) _ rfl W) fun W h => flag_any h z hn.s0 hn.s1
  by_cases hm : n.mode = 6
  · rw [show n.stp z = n.wait z by unfold Nd.stp; simp [hm]]
    exact step_by hl z hz (fun args W => by go_simp) (fun W => by rw [hm]; exact ix11 6 (by omega) _ rfl W) fun W h => wait_any h z hz hn.s0 hn.s1
  by_cases hm : n.mode = 7
  · rw [show n.stp z = n.close z by unfold Nd.stp; simp [hm]]
    exact step_by hl z hz (fun args W => by go_simp) (fun W => by rw [hm]; exact ix11 7 (by omega) _ rfl W) fun W h => close_any h z hn.s0 hn.s1
  by_cases hm : n.mode = 8
  · rw [show n.stp z = n.pause z by unfold Nd.stp; simp [hm]]
    exact step_by hl z hz (fun args W => by go_simp) (fun W => by rw [hm]; exact ix11 8 (by omega) _ rfl W) fun W h => pause_any h hn.q z hz hn.s0 hn.s1
  by_cases hm : n.mode = 9
  · rw [show n.stp z = n.susp z by unfold Nd.stp; simp [hm]]
    exact step_by hl z hz (fun args W => by go_simp) (fun W => by rw [hm]; exact ix11 9 (by omega) _ rfl W) fun W h => susp_any h hn.q z hz hn.s0 hn.s1
  have hm : n.mode = 10 := by omega
  rw [show n.stp z = n.off z by unfold Nd.stp; simp [hm]]
  exact step_by hl z hz (fun args W => by go_simp) (fun W => by rw [hm]; exact ix11 10 (by omega) _ rfl W) fun W h => off_any h z hn.s0 hn.s1 hn.r0 hn.r1
end Go.Proofs.YtalpbnfebcafgaaGreat

/- The contracts of New, Put, Queue, Look. -/
namespace Go.Proofs.YtalpbnfebcafgaaGreat
set_option maxRecDepth 20000
open Go.RowKit
set_option linter.unusedSimpArgs false

theorem NP.fp_new {p : NP} {B : Nat} (h1 : B ≤ p.g) (h2 : B ≤ p.gq) (h3 : p.vo = .slice none 0 0) (h4 : p.vl = .slice none 0 0) (h5 : ∀ k, p.vq.ownBlock = some k → B ≤ k) : ∀ k, p.fp k → B ≤ k := by
  rintro k (rfl | rfl | h | h | h)
  · exact h1
  · exact h2
  · rw [h3] at h; cases h
  · rw [h4] at h; cases h
  · exact h5 k h

set_option maxHeartbeats 800000 in
theorem new_any (w : World) : Calls Tryz.prog 33 #[] w fun e w' => ∃ p, e = .returned (.pointer (some ⟨p.g, 0, none⟩)) ∧ Lay w' w.heap.size p Nd.new ∧ Below w.heap.size w w' := by
  go_enter Tryz.func33, Tryz.ntmps33
  go_wp2_with fail
  refine (new_ok 16 w (by omega) (by omega)).mono ?_
  rintro e w1 ⟨rfl, h1, h2⟩
  have HQ := Lib.hid h1
  have HB := Lib.hid h2
  clear h1 h2
  go_wp2
  go_ret
  have hbb : Below w1.heap.size w1 (w1.alloc (.cells (Nd.new.cells (.slice none 0 0) (.slice none 0 0) w.heap.size) 109)) := (Below.refl _ _).alloc (Nat.le_refl _) _
  refine ⟨⟨w1.heap.size, w.heap.size, .slice none 0 0, .slice none 0 0, .slice none 0 0⟩, rfl, ⟨heap_alloc_new w1 _, Own.nil _ _, Own.nil _ _, HQ.out.next hbb, .inl rfl, HB.out.size⟩, nxt HB.out hbb⟩

theorem nput_nil (f : Fr) (w : World) : Calls Tryz.prog 35 #[.pointer none, f.val] w fun e w' => e = .returned (.int .i64 2) ∧ Below w.heap.size w w' := by
  have HB := Lib.hid (boxed f w)
  go_enter Tryz.func35, Tryz.ntmps35
  go_wp2
  go_ret
  exact ⟨rfl, HB.out⟩
set_option maxHeartbeats 1600000 in
set_option maxRecDepth 100000 in
theorem nput_any {w : World} {B : Nat} {p : NP} {n : Nd} (hl : Lay w B p n) (f : Fr) (hok : Okq n.q) (hn : n.q.length ≤ 1000) :
    Calls Tryz.prog 35 #[.pointer (some ⟨p.g, 0, none⟩), f.val] w fun e w' => ∃ vq, e = .returned (.int .i64 (pE 16 f n.q)) ∧ Lay w' B { p with vq := vq } { n with q := pL 16 f n.q } ∧ Moves p.fp (NP.fp { p with vq := vq }) w w' := by
  have HL := Lib.hid hl
  have HN := Lib.hid hn
  have HOK := Lib.hid hok
  have HB := Lib.hid (boxed f w)
  have HL1 := Lib.hid (hl.next (boxed f w))
  clear hl hn hok
  go_enter Tryz.func35, Tryz.ntmps35
  go_wp2_with fail
  refine wp_region_held_drew (S := fun w' => w'.cell? ⟨p.g, 28, none⟩ = some (.pointer (some ⟨p.gq, 0, none⟩)) ∧ Fb w' w.heap.size f) (by kernel_rfl) ⟨HL1.out.c28, fb_new w f⟩ (fun hHeld => ?_)
  refine takeH (i := 0) (v := .pointer (some ⟨p.g, 0, none⟩)) rfl (by kernel_rfl) (by kernel_rfl) (by kernel_rfl) (fun _ _ _ h => h) (Or.inl ⟨by rfl, fun w hSw => ?_⟩) hHeld ?_
  · (clear hSw; go_simp)
  simp only [Act.put, List.setIfInBounds_toArray, List.set_cons_zero, List.set_cons_succ]
  refine takeH (i := 1) (v := .pointer (some ⟨p.g, 0, none⟩)) rfl (by kernel_rfl) (by kernel_rfl) (by kernel_rfl) (fun _ _ _ h => h) (Or.inl ⟨by rfl, fun w hSw => ?_⟩) hHeld ?_
  · (clear hSw; go_simp)
  simp only [Act.put, List.setIfInBounds_toArray, List.set_cons_zero, List.set_cons_succ]
  refine takeH (i := 2) (v := .pointer (some ⟨p.g, 28, none⟩)) rfl (by kernel_rfl) (by kernel_rfl) (by kernel_rfl) (fun _ _ _ h => h) (Or.inl ⟨by rfl, fun w hSw => ?_⟩) hHeld ?_
  · (clear hSw; go_simp)
  simp only [Act.put, List.setIfInBounds_toArray, List.set_cons_zero, List.set_cons_succ]
  refine takeH (i := 3) (v := .pointer (some ⟨p.gq, 0, none⟩)) rfl (by kernel_rfl) (by kernel_rfl) (by kernel_rfl) (fun _ _ _ h => h) (Or.inl ⟨by rfl, fun w hSw => ?_⟩) hHeld ?_
  · (have q1 := hSw.1; clear hSw; go_simp)
  simp only [Act.put, List.setIfInBounds_toArray, List.set_cons_zero, List.set_cons_succ]
  refine takeH (i := 4) (v := f.val) rfl (by kernel_rfl) (by kernel_rfl) (by kernel_rfl) (fun _ _ _ h => h) (Or.inl ⟨by rfl, fun w hSw => ?_⟩) hHeld ?_
  · (obtain ⟨q0, q1, q2, q3, q4, q5, q6, q7, q8, q9, q10, q11⟩ := hSw.2.bx; clear hSw; go_simp)
  simp only [Act.put, List.setIfInBounds_toArray, List.set_cons_zero, List.set_cons_succ]
  refine wpAnyH_ready (rs := [5]) (by kernel_rfl) (by simp) ?_
  refine AllReadyH.cons rfl (fun K hK => ?_) AllReadyH.nil
  go_simp
  refine (put_q (f := f) HL1.out.drew.que HOK.out HN.out HL1.out.size).mono ?_
  rintro e w5 ⟨u, rfl, g1, g2⟩
  have ht := HL1.out.drew.turnq g1 g2
  have hfb5 := ht.2.blk (show (w.alloc (.cells f.cells 31)).drew.heap[w.heap.size]? = _ from fb_new w f) (fb_apart HL.out)
  have HT := Lib.hid (And.intro ht.1 (((Moves.of_below HB.out p.fp).drew).trans ht.2))
  have HFD := Lib.hid (show Fb w5 w.heap.size f from hfb5.1)
  clear hHeld g1 g2 ht hfb5
  dsimp only
  refine hK.out _ _ ⟨HT.out.1.c28, HFD.out⟩ (fun hHeld => ?_)
  clear hK K
  try simp only [Act.put, List.setIfInBounds_toArray, List.set_cons_zero, List.set_cons_succ]
  refine takeH (i := 6) (v := .int .i64 (pE 16 f n.q)) rfl (by kernel_rfl) (by kernel_rfl) (by kernel_rfl) (fun _ _ _ h => h) (Or.inl ⟨by rfl, fun w hSw => ?_⟩) hHeld ?_
  · (clear hSw; go_simp)
  simp only [Act.put, List.setIfInBounds_toArray, List.set_cons_zero, List.set_cons_succ]
  refine wpAnyH_done (by kernel_rfl) ?_ _
  clear hHeld
  go_wp2
  go_ret
  exact ⟨_, rfl, HT.out.1, HT.out.2⟩

/-- What one sees of a node. -/
abbrev Nd.lookV (n : Nd) : Value := .agg #[.int .i64 n.mode, .bool n.tx, .int .i64 n.ct.t, .int .i64 n.ct.r, .bool n.ct.o, .int .i64 (n.q.length : Nat)]
abbrev look0 : Value := .agg #[.int .i64 0, .bool false, .int .i64 0, .int .i64 0, .bool false, .int .i64 0]
theorem lookF0 (m : Int) (x : Bool) (t r : Int) (o : Bool) (l : Int) (w : World) : (Instr.field 56 (.agg #[.int .i64 m, .bool x, .int .i64 t, .int .i64 r, .bool o, .int .i64 l]) 0).run Tryz.prog w = .ok (.int .i64 m) w := by kernel_rfl
theorem lookF1 (m : Int) (x : Bool) (t r : Int) (o : Bool) (l : Int) (w : World) : (Instr.field 56 (.agg #[.int .i64 m, .bool x, .int .i64 t, .int .i64 r, .bool o, .int .i64 l]) 1).run Tryz.prog w = .ok (.bool x) w := by kernel_rfl
theorem lookF2 (m : Int) (x : Bool) (t r : Int) (o : Bool) (l : Int) (w : World) : (Instr.field 56 (.agg #[.int .i64 m, .bool x, .int .i64 t, .int .i64 r, .bool o, .int .i64 l]) 2).run Tryz.prog w = .ok (.agg #[.int .i64 t, .int .i64 r, .bool o]) w := by kernel_rfl
theorem lookF3 (m : Int) (x : Bool) (t r : Int) (o : Bool) (l : Int) (w : World) : (Instr.field 56 (.agg #[.int .i64 m, .bool x, .int .i64 t, .int .i64 r, .bool o, .int .i64 l]) 3).run Tryz.prog w = .ok (.int .i64 l) w := by kernel_rfl
set_option maxHeartbeats 800000 in
theorem look_nil (w : World) : Calls Tryz.prog 37 #[.pointer none] w fun e w' => e = .returned look0 ∧ Below w.heap.size w w' := by
  go_enter Tryz.func37, Tryz.ntmps37
  go_wp2
  refine bodyPost_ret (v := look0) (by rw [results_cellK rfl]; go_simp) rfl ⟨rfl, (Below.refl _ _).alloc (Nat.le_refl _) _⟩

set_option maxHeartbeats 1600000 in
set_option maxRecDepth 100000 in
theorem look_any {w : World} {B : Nat} {p : NP} {n : Nd} (hl : Lay w B p n) :
    Calls Tryz.prog 37 #[.pointer (some ⟨p.g, 0, none⟩)] w fun e w' => e = .returned n.lookV ∧ Below w.heap.size w w' := by
  have HL := Lib.hid hl
  have hb : Below w.heap.size w (w.alloc (.cells #[.int .i64 0, .bool false, .int .i64 0, .int .i64 0, .bool false, .int .i64 0] 56)) := (Below.refl _ _).alloc (Nat.le_refl _) _
  have HB := Lib.hid hb
  have HL1 := Lib.hid (hl.next hb)
  have hglt := hl.lt
  clear hl hb
  go_enter Tryz.func37, Tryz.ntmps37
  go_wp2_with fail
  refine wp_region_held_drew (S := fun w' => w'.heap[p.g]? = some (.cells (n.cells p.vo p.vl p.gq) 109)) (by kernel_rfl) HL1.out.blk (fun hHeld => ?_)
  refine takeH (i := 0) (v := .pointer (some ⟨p.g, 0, none⟩)) rfl (by kernel_rfl) (by kernel_rfl) (by kernel_rfl) (fun _ _ _ h => h) (Or.inl ⟨by rfl, fun w hSw => ?_⟩) hHeld ?_
  · (clear hSw; go_simp)
  simp only [Act.put, List.setIfInBounds_toArray, List.set_cons_zero, List.set_cons_succ]
  refine takeH (i := 1) (v := .pointer (some ⟨p.g, 0, none⟩)) rfl (by kernel_rfl) (by kernel_rfl) (by kernel_rfl) (fun _ _ _ h => h) (Or.inl ⟨by rfl, fun w hSw => ?_⟩) hHeld ?_
  · (clear hSw; go_simp)
  simp only [Act.put, List.setIfInBounds_toArray, List.set_cons_zero, List.set_cons_succ]
  refine takeH (i := 2) (v := .pointer (some ⟨p.g, 0, none⟩)) rfl (by kernel_rfl) (by kernel_rfl) (by kernel_rfl) (fun _ _ _ h => h) (Or.inl ⟨by rfl, fun w hSw => ?_⟩) hHeld ?_
  · (clear hSw; go_simp)
  simp only [Act.put, List.setIfInBounds_toArray, List.set_cons_zero, List.set_cons_succ]
  refine takeH (i := 3) (v := .pointer (some ⟨p.g, 0, none⟩)) rfl (by kernel_rfl) (by kernel_rfl) (by kernel_rfl) (fun _ _ _ h => h) (Or.inl ⟨by rfl, fun w hSw => ?_⟩) hHeld ?_
  · (clear hSw; go_simp)
  simp only [Act.put, List.setIfInBounds_toArray, List.set_cons_zero, List.set_cons_succ]
  refine takeH (i := 4) (v := .int .i64 n.mode) rfl (by kernel_rfl) (by kernel_rfl) (by kernel_rfl) (fun _ _ _ h => h) (Or.inl ⟨by rfl, fun w hSw => ?_⟩) hHeld ?_
  · (have q1 : w.cell? ⟨p.g, 0, none⟩ = some (.int .i64 n.mode) := cell_of_row w p.g 0 _ _ (0, 0) hSw; clear hSw; go_simp)
  simp only [Act.put, List.setIfInBounds_toArray, List.set_cons_zero, List.set_cons_succ]
  refine takeH (i := 5) (v := .pointer (some ⟨p.g, 0, none⟩)) rfl (by kernel_rfl) (by kernel_rfl) (by kernel_rfl) (fun _ _ _ h => h) (Or.inl ⟨by rfl, fun w hSw => ?_⟩) hHeld ?_
  · (clear hSw; go_simp)
  simp only [Act.put, List.setIfInBounds_toArray, List.set_cons_zero, List.set_cons_succ]
  refine takeH (i := 6) (v := .pointer (some ⟨p.g, 0, none⟩)) rfl (by kernel_rfl) (by kernel_rfl) (by kernel_rfl) (fun _ _ _ h => h) (Or.inl ⟨by rfl, fun w hSw => ?_⟩) hHeld ?_
  · (clear hSw; go_simp)
  simp only [Act.put, List.setIfInBounds_toArray, List.set_cons_zero, List.set_cons_succ]
  refine takeH (i := 7) (v := .pointer (some ⟨p.g, 24, none⟩)) rfl (by kernel_rfl) (by kernel_rfl) (by kernel_rfl) (fun _ _ _ h => h) (Or.inl ⟨by rfl, fun w hSw => ?_⟩) hHeld ?_
  · (clear hSw; go_simp)
  simp only [Act.put, List.setIfInBounds_toArray, List.set_cons_zero, List.set_cons_succ]
  refine takeH (i := 8) (v := .bool n.tx) rfl (by kernel_rfl) (by kernel_rfl) (by kernel_rfl) (fun _ _ _ h => h) (Or.inl ⟨by rfl, fun w hSw => ?_⟩) hHeld ?_
  · (have q1 : w.cell? ⟨p.g, 24, none⟩ = some (.bool n.tx) := cell_of_row w p.g 24 _ _ (0, 0) hSw; clear hSw; go_simp)
  simp only [Act.put, List.setIfInBounds_toArray, List.set_cons_zero, List.set_cons_succ]
  refine takeH (i := 9) (v := .pointer (some ⟨p.g, 0, none⟩)) rfl (by kernel_rfl) (by kernel_rfl) (by kernel_rfl) (fun _ _ _ h => h) (Or.inl ⟨by rfl, fun w hSw => ?_⟩) hHeld ?_
  · (clear hSw; go_simp)
  simp only [Act.put, List.setIfInBounds_toArray, List.set_cons_zero, List.set_cons_succ]
  refine takeH (i := 10) (v := .pointer (some ⟨p.g, 0, none⟩)) rfl (by kernel_rfl) (by kernel_rfl) (by kernel_rfl) (fun _ _ _ h => h) (Or.inl ⟨by rfl, fun w hSw => ?_⟩) hHeld ?_
  · (clear hSw; go_simp)
  simp only [Act.put, List.setIfInBounds_toArray, List.set_cons_zero, List.set_cons_succ]
  refine takeH (i := 11) (v := .pointer (some ⟨p.g, 25, none⟩)) rfl (by kernel_rfl) (by kernel_rfl) (by kernel_rfl) (fun _ _ _ h => h) (Or.inl ⟨by rfl, fun w hSw => ?_⟩) hHeld ?_
  · (clear hSw; go_simp)
  simp only [Act.put, List.setIfInBounds_toArray, List.set_cons_zero, List.set_cons_succ]
  refine takeH (i := 12) (v := n.ct.val) rfl (by kernel_rfl) (by kernel_rfl) (by kernel_rfl) (fun _ _ _ h => h) (Or.inl ⟨by rfl, fun w hSw => ?_⟩) hHeld ?_
  · (have q1 : w.cell? ⟨p.g, 25, none⟩ = some (.int .i64 n.ct.t) := cell_of_row w p.g 25 _ _ (0, 0) hSw; have q2 : w.cell? ⟨p.g, 26, none⟩ = some (.int .i64 n.ct.r) := cell_of_row w p.g 26 _ _ (0, 0) hSw; have q3 : w.cell? ⟨p.g, 27, none⟩ = some (.bool n.ct.o) := cell_of_row w p.g 27 _ _ (0, 0) hSw; clear hSw; go_simp)
  simp only [Act.put, List.setIfInBounds_toArray, List.set_cons_zero, List.set_cons_succ]
  refine takeH (i := 13) (v := .pointer (some ⟨p.g, 0, none⟩)) rfl (by kernel_rfl) (by kernel_rfl) (by kernel_rfl) (fun _ _ _ h => h) (Or.inl ⟨by rfl, fun w hSw => ?_⟩) hHeld ?_
  · (clear hSw; go_simp)
  simp only [Act.put, List.setIfInBounds_toArray, List.set_cons_zero, List.set_cons_succ]
  refine takeH (i := 14) (v := .pointer (some ⟨p.g, 0, none⟩)) rfl (by kernel_rfl) (by kernel_rfl) (by kernel_rfl) (fun _ _ _ h => h) (Or.inl ⟨by rfl, fun w hSw => ?_⟩) hHeld ?_
  · (clear hSw; go_simp)
  simp only [Act.put, List.setIfInBounds_toArray, List.set_cons_zero, List.set_cons_succ]
  refine takeH (i := 15) (v := .pointer (some ⟨p.g, 28, none⟩)) rfl (by kernel_rfl) (by kernel_rfl) (by kernel_rfl) (fun _ _ _ h => h) (Or.inl ⟨by rfl, fun w hSw => ?_⟩) hHeld ?_
  · (clear hSw; go_simp)
  simp only [Act.put, List.setIfInBounds_toArray, List.set_cons_zero, List.set_cons_succ]
  refine takeH (i := 16) (v := .pointer (some ⟨p.gq, 0, none⟩)) rfl (by kernel_rfl) (by kernel_rfl) (by kernel_rfl) (fun _ _ _ h => h) (Or.inl ⟨by rfl, fun w hSw => ?_⟩) hHeld ?_
  · (have q1 : w.cell? ⟨p.g, 28, none⟩ = some (.pointer (some ⟨p.gq, 0, none⟩)) := cell_of_row w p.g 28 _ _ (0, 0) hSw; clear hSw; go_simp)
  simp only [Act.put, List.setIfInBounds_toArray, List.set_cons_zero, List.set_cons_succ]
  refine wpAnyH_ready (rs := [17]) (by kernel_rfl) (by simp) ?_
  refine AllReadyH.cons rfl (fun K hK => ?_) AllReadyH.nil
  go_simp
  refine (len_q HL1.out.drew.que).mono ?_
  rintro e w5 ⟨rfl, rfl⟩
  dsimp only
  refine hK.out _ _ hHeld (fun hHeld => ?_)
  clear hK K
  try simp only [Act.put, List.setIfInBounds_toArray, List.set_cons_zero, List.set_cons_succ]
  refine takeH (i := 18) (v := n.lookV) rfl (by kernel_rfl) (by kernel_rfl) (by kernel_rfl) (fun _ _ _ h => h) (Or.inl ⟨by rfl, fun w hSw => ?_⟩) hHeld ?_
  · (clear hSw; go_simp)
  simp only [Act.put, List.setIfInBounds_toArray, List.set_cons_zero, List.set_cons_succ]
  obtain ⟨W, hW⟩ : ∃ W, (w.alloc (.cells #[.int .i64 0, .bool false, .int .i64 0, .int .i64 0, .bool false, .int .i64 0] 56)).drew = W := ⟨_, rfl⟩
  have hwl : W.heap[w.heap.size]? = some (.cells #[.int .i64 0, .bool false, .int .i64 0, .int .i64 0, .bool false, .int .i64 0] 56) := by rw [← hW]; exact heap_alloc_new w _
  have HBW := Lib.hid (show Below w.heap.size w W by rw [← hW]; exact below_drew HB.out)
  rw [hW] at hHeld ⊢
  clear hW
  have l0 := cell_of_row W w.heap.size 0 _ _ (0, 0) hwl
  have l1 := cell_of_row W w.heap.size 1 _ _ (0, 0) hwl
  have l2 := cell_of_row W w.heap.size 2 _ _ (0, 0) hwl
  have l3 := cell_of_row W w.heap.size 3 _ _ (0, 0) hwl
  have l4 := cell_of_row W w.heap.size 4 _ _ (0, 0) hwl
  have l5 := cell_of_row W w.heap.size 5 _ _ (0, 0) hwl
  have fz := fun i => typed_frozen hwl i
  have HH := Lib.hid hHeld
  have hbs : ∀ (x0 x1 x2 x3 x4 x5 : Value), Only w.heap.size W ((((((W.setCell ⟨w.heap.size, 0, none⟩ x0).setCell ⟨w.heap.size, 1, none⟩ x1).setCell ⟨w.heap.size, 2, none⟩ x2).setCell ⟨w.heap.size, 3, none⟩ x3).setCell ⟨w.heap.size, 4, none⟩ x4).setCell ⟨w.heap.size, 5, none⟩ x5) := fun _ _ _ _ _ _ => (Only.refl _ _).set.set.set.set.set.set
  have HO := Lib.hid hbs
  clear hHeld hbs hwl
  refine wpAnyH_ready (rs := [19]) (by kernel_rfl) (by simp) ?_
  refine AllReadyH.cons rfl (fun K hK => ?_) AllReadyH.nil
  go_simp
  refine hK.out _ _ (((HO.out _ _ _ _ _ _).block _ (by omega)).trans HH.out) (fun hHeld => ?_)
  clear hK K
  try simp only [Act.put, List.setIfInBounds_toArray, List.set_cons_zero, List.set_cons_succ]
  refine wpAnyH_done (by kernel_rfl) ?_ _
  clear hHeld
  go_wp2
  refine bodyPost_ret (v := n.lookV) (by rw [results_cellK rfl]; go_simp) rfl ⟨rfl, ?_⟩
  have ho := HO.out (.int .i64 n.mode) (.bool n.tx) (.int .i64 n.ct.t) (.int .i64 n.ct.r) (.bool n.ct.o) (.int .i64 (n.q.length : Nat))
  exact ⟨ho.os.trans HBW.out.os, ho.tape.trans HBW.out.tape, ho.output.trans HBW.out.output, Nat.le_trans HBW.out.size (Nat.le_of_eq ho.size.symm), fun k hk => (ho.block k (by omega)).trans (HBW.out.block k hk)⟩
end Go.Proofs.YtalpbnfebcafgaaGreat

