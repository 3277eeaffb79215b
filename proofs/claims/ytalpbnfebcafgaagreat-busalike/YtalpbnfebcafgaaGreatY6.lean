/- A law's node, and what lies beside it. -/
import Derived.Test.YtalpbnfebcafgaaGreatY4
import Derived.Test.YtalpbnfebcafgaaGreatY5
import Derived.Test.YtalpbnfebcafgaaGreatY0
import Derived.Test.YtalpbnfebcafgaaGreatY1
import Derived.Deep.WholeRow
import Derived.Laws.BitsAllLaws
import Derived.Maps.Own
import Derived.Maps.Views
namespace Go.Proofs.YtalpbnfebcafgaaGreat
set_option maxRecDepth 20000
open Go.RowKit
set_option linter.unusedSimpArgs false

/-- What stays, whatever a node turns of its own blocks. -/
def Kept (P : World → (Nat → Prop) → Prop) : Prop := ∀ w w' F F', Moves F F' w w' → P w F → P w' F'
def NoSide : World → (Nat → Prop) → Prop := fun _ _ => True
theorem kept_no : Kept NoSide := fun _ _ _ _ _ _ => trivial
def Both (P Q : World → (Nat → Prop) → Prop) : World → (Nat → Prop) → Prop := fun w F => P w F ∧ Q w F
theorem kept_both {P Q : World → (Nat → Prop) → Prop} (h : Kept P) (h' : Kept Q) : Kept (Both P Q) := fun w w' F F' hm hp => ⟨h w w' F F' hm hp.1, h' w w' F F' hm hp.2⟩
/-- A row of ints beside it. -/
def RowS (B : Nat) (v : Value) (rs : List Int) : World → (Nat → Prop) → Prop := fun w F => Own w B v rs ∧ ∀ k, v.ownBlock = some k → ¬ F k
theorem kept_row (B : Nat) (v : Value) (rs : List Int) : Kept (RowS B v rs) := fun _ _ _ _ hm hp => hm.owns hp.1 hp.2
/-- A row of frames beside it. -/
def FrsS (B : Nat) (v : Value) (gs : List Fr) : World → (Nat → Prop) → Prop := fun w F => Fown w B v gs ∧ ∀ k, v.ownBlock = some k → ¬ F k
theorem kept_frs (B : Nat) (v : Value) (gs : List Fr) : Kept (FrsS B v gs) := fun _ _ _ _ hm hp => hm.owns hp.1 hp.2
/-- A frame's block beside it. -/
def FbS (g : Nat) (f : Fr) : World → (Nat → Prop) → Prop := fun w F => Fb w g f ∧ ¬ F g
theorem kept_fb (g : Nat) (f : Fr) : Kept (FbS g f) := fun _ _ _ _ hm hp => hm.blk hp.1 hp.2

/-- A law's node, and what lies beside it. -/
def Nst (w0 w : World) (g gq : Nat) (n : Nd) (P : World → (Nat → Prop) → Prop) : Prop :=
  ∃ vo vl vq, Lay w w0.heap.size ⟨g, gq, vo, vl, vq⟩ n ∧ P w (NP.fp ⟨g, gq, vo, vl, vq⟩) ∧ Below w0.heap.size w0 w
section
variable {w0 w w' : World} {g gq : Nat} {n : Nd} {P Q : World → (Nat → Prop) → Prop}
theorem Nst.below (h : Nst w0 w g gq n P) : Below w0.heap.size w0 w := h.choose_spec.choose_spec.choose_spec.2.2
theorem Nst.next (h : Nst w0 w g gq n P) (hP : Kept P) (hb : Below w.heap.size w w') : Nst w0 w' g gq n P := by
  obtain ⟨vo, vl, vq, h1, h2, h3⟩ := h
  exact ⟨vo, vl, vq, h1.next hb, hP _ _ _ _ (.of_below hb _) h2, nxt h3 hb⟩
theorem Nst.drew (h : Nst w0 w g gq n P) (hP : Kept P) : Nst w0 w.drew g gq n P := h.next hP (below_drew (Below.refl _ _))
theorem Nst.add (h : Nst w0 w g gq n P) (hP : Kept P) (hb : Below w.heap.size w w') (hq : ∀ F : Nat → Prop, (∀ k, F k → k < w.heap.size) → Q w' F) : Nst w0 w' g gq n (Both P Q) := by
  obtain ⟨vo, vl, vq, h1, h2, h3⟩ := h
  exact ⟨vo, vl, vq, h1.next hb, ⟨hP _ _ _ _ (.of_below hb _) h2, hq _ h1.fp_lt⟩, nxt h3 hb⟩
theorem Nst.side (h : Nst w0 w g gq n P) : ∃ F : Nat → Prop, P w F := by
  obtain ⟨vo, vl, vq, h1, h2, h3⟩ := h
  exact ⟨_, h2⟩
theorem Nst.less (h : Nst w0 w g gq n P) (hq : ∀ F : Nat → Prop, P w F → Q w F) : Nst w0 w g gq n Q := by
  obtain ⟨vo, vl, vq, h1, h2, h3⟩ := h
  exact ⟨vo, vl, vq, h1, hq _ h2, h3⟩
theorem Nst.to (h : Nst w0 w g gq n P) {n' : Nd} (e : n = n') : Nst w0 w g gq n' P := e ▸ h

theorem nst_drive (h : Nst w0 w g gq n P) (hf : n.mode = 2 → Okf n) : Calls Tryz.prog 65 #[.pointer (some ⟨g, 0, none⟩)] w fun e w' => e = .returned (.int .i64 n.drv) ∧ Below w.heap.size w w' := by
  obtain ⟨vo, vl, vq, h1, h2, h3⟩ := h
  exact drv_any (p := ⟨g, gq, vo, vl, vq⟩) h1 hf
theorem nst_look (h : Nst w0 w g gq n P) : Calls Tryz.prog 37 #[.pointer (some ⟨g, 0, none⟩)] w fun e w' => e = .returned n.lookV ∧ Below w.heap.size w w' := by
  obtain ⟨vo, vl, vq, h1, h2, h3⟩ := h
  exact look_any (p := ⟨g, gq, vo, vl, vq⟩) h1
theorem nst_step (h : Nst w0 w g gq n P) (hP : Kept P) (hn : Fit n) (z : Int) (hz : z = 0 ∨ z = 1) : Calls Tryz.prog 67 #[.pointer (some ⟨g, 0, none⟩), .int .i64 z] w fun e w' =>
    ∃ u, e = .returned (.tuple #[u, .int .i64 0]) ∧ Eown w' w.heap.size u (n.stp z).1 ∧ Nst w0 w' g gq (n.stp z).2 P ∧ Below w0.heap.size w w' := by
  obtain ⟨vo, vl, vq, h1, h2, h3⟩ := h
  refine (step_any10 (p := ⟨g, gq, vo, vl, vq⟩) h1 hn z hz).mono ?_
  rintro e w' ⟨u, vo', vl', vq', rfl, g1, g2, g3⟩
  have hb := h1.below g3
  exact ⟨u, rfl, g1, ⟨vo', vl', vq', g2, hP _ _ _ _ g3 h2, h3.trans hb⟩, hb⟩
theorem nst_put (h : Nst w0 w g gq n P) (hP : Kept P) (f : Fr) (hok : Okq n.q) (hn : n.q.length ≤ 1000) : Calls Tryz.prog 35 #[.pointer (some ⟨g, 0, none⟩), f.val] w fun e w' =>
    e = .returned (.int .i64 (pE 16 f n.q)) ∧ Nst w0 w' g gq { n with q := pL 16 f n.q } P := by
  obtain ⟨vo, vl, vq, h1, h2, h3⟩ := h
  refine (nput_any (p := ⟨g, gq, vo, vl, vq⟩) h1 f hok hn).mono ?_
  rintro e w' ⟨vq', rfl, g1, g2⟩
  have hb := h1.below g2
  exact ⟨rfl, vo, vl, vq', g1, hP _ _ _ _ g2 h2, h3.trans hb⟩
theorem nst_new (w0 w : World) (hb : Below w0.heap.size w0 w) : Calls Tryz.prog 33 #[] w fun e w' => ∃ g gq, e = .returned (.pointer (some ⟨g, 0, none⟩)) ∧ Nst w0 w' g gq Nd.new NoSide ∧ Below w.heap.size w w' := by
  refine (new_any w).mono ?_
  rintro e w' ⟨⟨g, gq, vo, vl, vq⟩, rfl, h1, h2⟩
  exact ⟨g, gq, rfl, ⟨vo, vl, vq, h1.base hb.size, trivial, nxt hb h2⟩, h2⟩
end
theorem rowS_new {w : World} {B B' : Nat} {v : Value} {rs : List Int} (h : Own w B v rs) (hB : B' ≤ B) : ∀ F : Nat → Prop, (∀ k, F k → k < B) → RowS B' v rs w F :=
  fun F hF => ⟨h.mono hB, fun k hk hf => by have := (World.ownsRow.lt h k hk).1; have := hF k hf; omega⟩
end Go.Proofs.YtalpbnfebcafgaaGreat

/- How rows of turns that came in are opened. -/
namespace Go.Proofs.YtalpbnfebcafgaaGreat
set_option maxRecDepth 20000
open Go.ChangeShapes Go.WideShapes Go.ChangeAt Go.RowKit

/-- A turn: whether a frame is put in, the frame, and the level. -/
structure Tn where
  put : Bool
  f : Fr
  lv : Int
instance : Inhabited Tn := ⟨⟨false, Fr.zero, 0⟩⟩
abbrev tnc (t : Tn) : Array Value := #[.bool t.put, .int .i64 t.f.id, .bool t.f.ext, .bool t.f.rtr, .int .i64 t.f.len, .int .u8 (t.f.d 0), .int .u8 (t.f.d 1), .int .u8 (t.f.d 2), .int .u8 (t.f.d 3), .int .u8 (t.f.d 4), .int .u8 (t.f.d 5), .int .u8 (t.f.d 6), .int .u8 (t.f.d 7), .int .i64 t.lv]
def Tn.val (t : Tn) : Value := .agg (tnc t)
/-- The slice value '.slice A n c' holds turns. -/
def Tl (w : World) (A : Option Addr) (n : Nat) (ts : Nat → Tn) : Prop :=
  0 < n → ∃ ad, A = some ad ∧ ad.block < w.heap.size ∧ ∀ j, j < n → ∀ c v, (tnc (ts j))[c]? = some v → w.cell? (ad.add (j * 14 + c)) = some v
theorem Tl.below {w w' : World} {A : Option Addr} {n : Nat} {ts : Nat → Tn} (h : Tl w A n ts) (hb : Below w.heap.size w w') : Tl w' A n ts := fun hn => by
  obtain ⟨ad, e, hl, hc⟩ := h hn
  exact ⟨ad, e, Nat.lt_of_lt_of_le hl hb.size, fun j hj c v hv => (hb.cell (by rw [block_of_add]; exact hl)).trans (hc j hj c v hv)⟩
/-- A turn lies at p. -/
def Txa (w : World) (p : Addr) (t : Tn) : Prop := w.cell? p = some (.bool t.put) ∧ w.cell? ⟨p.block, p.off + 1, none⟩ = some (.int .i64 t.f.id) ∧ w.cell? ⟨p.block, p.off + 2, none⟩ = some (.bool t.f.ext) ∧ w.cell? ⟨p.block, p.off + 3, none⟩ = some (.bool t.f.rtr) ∧ w.cell? ⟨p.block, p.off + 4, none⟩ = some (.int .i64 t.f.len) ∧ w.cell? ⟨p.block, p.off + 5, none⟩ = some (.int .u8 (t.f.d 0)) ∧ w.cell? ⟨p.block, p.off + 6, none⟩ = some (.int .u8 (t.f.d 1)) ∧ w.cell? ⟨p.block, p.off + 7, none⟩ = some (.int .u8 (t.f.d 2)) ∧ w.cell? ⟨p.block, p.off + 8, none⟩ = some (.int .u8 (t.f.d 3)) ∧ w.cell? ⟨p.block, p.off + 9, none⟩ = some (.int .u8 (t.f.d 4)) ∧ w.cell? ⟨p.block, p.off + 10, none⟩ = some (.int .u8 (t.f.d 5)) ∧ w.cell? ⟨p.block, p.off + 11, none⟩ = some (.int .u8 (t.f.d 6)) ∧ w.cell? ⟨p.block, p.off + 12, none⟩ = some (.int .u8 (t.f.d 7)) ∧ w.cell? ⟨p.block, p.off + 13, none⟩ = some (.int .i64 t.lv)
theorem Tl.at_ {w : World} {A : Option Addr} {n k : Nat} {ts : Nat → Tn} (h : Tl w A n ts) (hk : k < n) : ∃ ad, A = some ad ∧ ad.block < w.heap.size ∧ Txa w (ad.add (k * 14)) (ts k) := by
  obtain ⟨ad, e, hl, hc⟩ := h (by omega)
  have h0 := hc k hk
  have g : ∀ c v, 0 < c → (tnc (ts k))[c]? = some v → w.cell? ⟨(ad.add (k * 14)).block, (ad.add (k * 14)).off + c, none⟩ = some v := fun c v hc hv => by
    rw [← add_pos _ hc, add_add]; exact h0 c v hv
  exact ⟨ad, e, hl, h0 0 _ rfl, g 1 _ (by omega) rfl, g 2 _ (by omega) rfl, g 3 _ (by omega) rfl, g 4 _ (by omega) rfl, g 5 _ (by omega) rfl, g 6 _ (by omega) rfl, g 7 _ (by omega) rfl, g 8 _ (by omega) rfl, g 9 _ (by omega) rfl, g 10 _ (by omega) rfl, g 11 _ (by omega) rfl, g 12 _ (by omega) rfl, g 13 _ (by omega) rfl⟩

section
variable {H : Type} {enc : TypeId × Value → H} {W : World} {m : Nat} {x : DataW H × List MemPlace}
end
/-- The level of a turn. -/
def Tn.z (t : Tn) (d : Int) : Int := if t.lv = 0 ∨ t.lv = 1 then t.lv else d
theorem Tn.z01 {t : Tn} {d : Int} (h : d = 0 ∨ d = 1) : t.z d = 0 ∨ t.z d = 1 := by
  unfold Tn.z
  split
  · assumption
  · exact h
end Go.Proofs.YtalpbnfebcafgaaGreat

/- Counts, turn by turn: how a node goes off, and comes back; events told; blocks beside a node. -/
namespace Go.Proofs.YtalpbnfebcafgaaGreat
set_option maxRecDepth 20000
open Go.RowKit
set_option linter.unusedSectionVars false

/-- One that has just gone off has counted nothing. -/
def Fresh (n : Nd) : Prop := n.mode = 10 → n.run = 0 ∧ n.rows = 0
section
variable {B : Nat} {n : Nd} {z : Int}
theorem fresh_not (h : n.mode ≠ 10) : Fresh n := fun e => absurd e h
theorem fresh_cas {x : Int} (h : n.mode ≠ 10) : Fresh (n.casN x) := by
  unfold Nd.casN
  split
  · exact fun _ => ⟨rfl, rfl⟩
  · exact fresh_not h
theorem fresh_fail {k : Int} : Fresh (n.fail k).2 := by
  unfold Nd.fail Nd.flg
  exact fresh_cas (by show (if n.pas then 4 else 3 : Int) ≠ 10; split <;> omega)
theorem fresh_goOn (hm : n.mode = 2) : Fresh (n.goOn z).2 := by
  have e : (n.take z).mode = 2 := by unfold Nd.take; split <;> exact hm
  unfold Nd.goOn Nd.onto
  split
  · unfold Nd.fin
    split
    · exact fresh_not (by show (8 : Int) ≠ 10; omega)
    · exact fresh_not (by show (8 : Int) ≠ 10; omega)
  · split
    · exact fresh_not (by show (n.take z).mode ≠ 10; omega)
    · exact fresh_not (by show (n.take z).mode ≠ 10; omega)
theorem fresh_recv (hm : n.mode = 2) : Fresh (n.recv z).2 := by
  unfold Nd.recv
  split
  · exact fresh_not (by show (5 : Int) ≠ 10; omega)
  · split
    · exact fresh_fail
    · exact fresh_goOn hm
theorem fresh_send (hm : n.mode = 2) : Fresh (n.send z).2 := by
  have hf : ∀ k, (n.enter k).mode = k := fun _ => rfl
  unfold Nd.send
  split
  · split
    · exact fresh_goOn hm
    · unfold Nd.unheard
      split
      · exact fresh_not (by show (if n.pas then 4 else 3 : Int) ≠ 10; split <;> omega)
      · exact fresh_fail
  · split
    · exact fresh_not (by show (if n.pas then 4 else 3 : Int) ≠ 10; split <;> omega)
    · split
      · exact fresh_goOn hm
      · exact fresh_fail
theorem fresh_inF (hm : n.mode = 2) : Fresh (n.inF z).2 := by
  unfold Nd.inF
  split
  · exact fresh_recv (n := n.lost) hm
  · split
    · exact fresh_send hm
    · exact fresh_recv hm
theorem fresh_stp (hs : Sound B n) (h10 : n.mode ≠ 10) : Fresh (n.stp z).2 := by
  have m0 := hs.m0
  have m1 := hs.m1
  have hen : ∀ (m : Nd) (k : Int), k ≠ 10 → Fresh (m.enter k) := fun m k h => fresh_not h
  have hfl : n.mode = 3 ∨ n.mode = 5 → n.flagN.mode ≠ 10 := fun h => (hs.flagN h).2.1
  have hcl : ∀ m : Nd, m.mode ≠ 10 → Fresh (m.close z).2 := fun m h => by
    unfold Nd.close
    split
    · unfold Nd.closeN
      split
      · exact hen _ _ (by omega)
      · exact fresh_not h
    · split
      · exact hen _ _ (by omega)
      · exact fresh_fail
  have hpf : n.mode = 4 → (n.pflN z).mode ≠ 10 := fun h => by
    unfold Nd.pflN
    split
    · show (6 : Int) ≠ 10; omega
    · show n.mode ≠ 10; omega
  unfold Nd.stp
  split
  · unfold Nd.join
    split
    · exact hen _ _ (by omega)
    · exact fresh_not h10
  split
  · unfold Nd.idle
    split
    · exact fresh_not (by show (2 : Int) ≠ 10; omega)
    · split
      · exact fresh_fail
      · exact fresh_not h10
  split
  · exact fresh_inF (by assumption)
  split
  · unfold Nd.flag
    split
    · exact fresh_not (hfl (.inl (by assumption)))
    · exact fresh_cas (hfl (.inl (by assumption)))
  split
  · unfold Nd.pflag
    split
    · exact fresh_cas (hpf (by assumption))
    · exact fresh_not (hpf (by assumption))
  split
  · unfold Nd.flag
    split
    · exact fresh_not (hfl (.inr (by assumption)))
    · exact fresh_cas (hfl (.inr (by assumption)))
  split
  · unfold Nd.wait
    split
    · rename_i hz1
      have := hcl (n.enter 7) (by show (7 : Int) ≠ 10; omega)
      rw [hz1] at this
      exact this
    · split
      · exact fresh_cas h10
      · exact fresh_not h10
  split
  · exact hcl n h10
  split
  · unfold Nd.pause
    split
    · split
      · exact fresh_not (by show (2 : Int) ≠ 10; omega)
      · exact hen _ _ (by omega)
    · split
      · exact fresh_not h10
      · split <;> exact hen _ _ (by omega)
  split
  · unfold Nd.susp
    split
    · exact fresh_not (by show (2 : Int) ≠ 10; omega)
    · show Fresh (if tlN n.sl n.sn 1 = 8 then n.enter 1 else n.see 1)
      split
      · exact hen _ _ (by omega)
      · exact fresh_not h10
  · omega
/-- A node, behind any turns, and what one has counted of it as it is off. -/
structure Cn (B : Nat) (n : Nd) (run rows : Int) : Prop where
  s : Sound B n
  d : Tidy n
  o : n.ct.o = true → run = n.run ∧ rows = n.rows
  a : 0 ≤ run ∧ run ≤ 11
  b : 0 ≤ rows ∧ rows ≤ 128
theorem cn_new : Cn 0 Nd.new 0 0 := ⟨sound_new, cm_new.d, fun e => (by cases e), by omega, by omega⟩
theorem Cn.put {run rows : Int} (h : Cn B n run rows) (f : Fr) (hf : f.wf) : Cn B { n with q := pL 16 f n.q } run rows :=
  ⟨sound_put h.s f hf, h.d.of rfl rfl rfl, h.o, h.a, h.b⟩
/-- What is told of going off, and coming back. -/
def has (k : Int) (es : List Ev) : Bool := es.any fun e => e.1 == k
theorem has_iff {k : Int} {es : List Ev} : has k es = true ↔ ∃ e ∈ es, e.1 = k := by
  unfold has
  rw [List.any_eq_true]
  constructor
  · rintro ⟨e, h1, h2⟩
    exact ⟨e, h1, by simpa using h2⟩
  · rintro ⟨e, h1, h2⟩
    exact ⟨e, h1, by simpa using h2⟩
theorem has_more {k : Int} {es : List Ev} {j : Nat} (hj : j < es.length) : has k (es.take (j + 1)) = (has k (es.take j) || (es.getD j (0, Fr.zero)).1 == k) := by
  unfold has
  rw [List.take_add_one, List.getElem?_eq_getElem hj, List.any_append]
  simp [List.getD, List.getElem?_eq_getElem hj]
theorem Cn.told {run rows : Int} (h : Cn B n run rows) (hz : z = 0 ∨ z = 1) {o' : Bool} (ho' : (n.stp z).2.ct.o = o') : has 10 (n.stp z).1 = (!n.ct.o && o') ∧ has 11 (n.stp z).1 = (n.ct.o && !o') ∧ (n.stp z).1.length ≤ 3 ∧ (n.stp z).2.ct.t ≤ n.ct.t + 8 ∧ (o' = true ↔ (n.stp z).2.mode = 10) := by
  have g := good_stp h.s hz
  have e1 := g.gone
  have e2 := g.back
  rw [← has_iff] at e1 e2
  rw [ho'] at e1 e2
  refine ⟨?_, ?_, g.len, g.t, by rw [← ho']; exact g.s.off⟩
  · cases h10 : has 10 (n.stp z).1 <;> cases hn : n.ct.o <;> cases o' <;> simp_all
  · cases h11 : has 11 (n.stp z).1 <;> cases hn : n.ct.o <;> cases o' <;> simp_all
theorem Cn.stp_on {run rows : Int} (h : Cn B n run rows) (ho : n.ct.o = false) (hz : z = 0 ∨ z = 1) : Cn (B + 1) (n.stp z).2 0 0 := by
  have g := good_stp h.s hz
  refine ⟨g.s, tidy_stp h.s h.d, fun e => ?_, by omega, by omega⟩
  have h10 : n.mode ≠ 10 := fun e2 => by
    have := h.s.off.2 e2
    rw [ho] at this
    cases this
  obtain ⟨f1, f2⟩ := fresh_stp (z := z) h.s h10 (g.s.off.1 e)
  exact ⟨f1.symm, f2.symm⟩
/-- What a level does to one that is off, as one counts. -/
theorem Cn.stp_off {run rows : Int} (h : Cn B n run rows) (ho : n.ct.o = true) (hz : z = 0 ∨ z = 1) :
    (z = 0 ∧ (n.stp z).2.ct = n.ct ∧ rows ≠ 128 ∧ Cn (B + 1) (n.stp z).2 0 rows) ∨
    (z = 1 ∧ run + 1 ≠ 11 ∧ (n.stp z).2.ct = n.ct ∧ rows ≠ 128 ∧ Cn (B + 1) (n.stp z).2 (run + 1) rows) ∨
    (z = 1 ∧ run + 1 = 11 ∧ (n.stp z).2.ct = n.ct ∧ rows + 1 ≠ 128 ∧ Cn (B + 1) (n.stp z).2 0 (rows + 1)) ∨
    (z = 1 ∧ run + 1 = 11 ∧ (n.stp z).2.ct = Ct.zero ∧ rows + 1 = 128 ∧ Cn (B + 1) (n.stp z).2 0 128) := by
  have g := (good_stp h.s hz).s
  have hd := tidy_stp (z := z) h.s h.d
  have hm := h.s.off.1 ho
  obtain ⟨e1, e2⟩ := h.o ho
  obtain ⟨r0, r1⟩ := off_run h.s h.d hm
  have q0 := h.s.r0
  have q1 := h.s.r1
  rcases hz with rfl | rfl
  · have hst := off_stp0 hm
    rw [hst] at g hd ⊢
    exact .inl ⟨rfl, rfl, by omega, g, hd, fun _ => ⟨run_see0.symm, e2⟩, by omega, h.b⟩
  · by_cases hr : n.run = 10
    · by_cases h1 : n.rows + 1 < 128
      · have hst := off_stpR hm hr h1
        rw [hst] at g hd ⊢
        exact .inr (.inr (.inl ⟨rfl, by omega, rfl, by omega, g, hd, fun _ => ⟨rfl, by show rows + 1 = n.rows + 1; omega⟩, by omega, by omega⟩))
      · have hst := off_stpB hm hr h1
        rw [hst] at g hd ⊢
        exact .inr (.inr (.inr ⟨rfl, by omega, rfl, by omega, g, hd, fun e => (by cases e), by omega, by omega⟩))
    · have hst := off_stp1 hm hr
      rw [hst] at g hd ⊢
      exact .inr (.inl ⟨rfl, by omega, rfl, by omega, g, hd, fun _ => ⟨by rw [run_see1]; omega, e2⟩, by omega, h.b⟩)
theorem err_ok8 {c : Ct} (h : c.right = true) : c.err = 0 := by
  unfold Ct.err
  rw [h]; rfl
theorem off_drv (hm : n.mode = 10) : n.drv = 1 := by
  unfold Nd.drv
  rw [if_neg (by omega), if_neg (by omega), if_neg (by omega)]
/-- All that a turn's level does, as one counts. -/
theorem Cn.turn {run rows : Int} (h : Cn B n run rows) (hz : z = 0 ∨ z = 1) {t r t' r' : Int} {o o' : Bool} (hc : n.ct = ⟨t, r, o⟩) (hc' : (n.stp z).2.ct = ⟨t', r', o'⟩) :
    (0 ≤ t ∧ t ≤ 256 ∧ t' ≤ t + 8) ∧ Ct.err ⟨t', r', o'⟩ = 0 ∧ has 10 (n.stp z).1 = (!o && o') ∧ has 11 (n.stp z).1 = (o && !o') ∧ (n.stp z).1.length ≤ 3 ∧ (o' = true ↔ (n.stp z).2.mode = 10) ∧
    (o = false → Cn (B + 1) (n.stp z).2 0 0) ∧ (o = true → n.drv = 1 ∧ ((t' = t ∧ r' = r ∧ o' = true ∧
      ((z = 0 ∧ rows ≠ 128 ∧ Cn (B + 1) (n.stp z).2 0 rows) ∨ (z = 1 ∧ run + 1 ≠ 11 ∧ rows ≠ 128 ∧ Cn (B + 1) (n.stp z).2 (run + 1) rows) ∨ (z = 1 ∧ run + 1 = 11 ∧ rows + 1 ≠ 128 ∧ Cn (B + 1) (n.stp z).2 0 (rows + 1)))) ∨
      (t' = 0 ∧ r' = 0 ∧ o' = false ∧ z = 1 ∧ run + 1 = 11 ∧ rows + 1 = 128 ∧ Cn (B + 1) (n.stp z).2 0 128))) := by
  obtain ⟨e1, e2, e3, e4, e5⟩ := h.told hz (o' := o') (by rw [hc'])
  have g := (good_stp h.s hz).s
  rw [hc] at e1 e2 e4
  rw [hc'] at e4
  have hr := h.s.ct
  rw [hc] at hr
  obtain ⟨h1, h2, h3⟩ := right_iff.1 hr
  simp only at h1 e4
  refine ⟨⟨by omega, by omega, e4⟩, by rw [← hc']; exact err_ok8 g.ct, e1, e2, e3, e5, fun e => h.stp_on (by rw [hc]; exact e) hz, fun e => ⟨off_drv (h.s.off.1 (by rw [hc]; exact e)), ?_⟩⟩
  have hk : ∀ {a b : Ct}, a = b → a.t = b.t ∧ a.r = b.r ∧ a.o = b.o := fun e => by subst e; exact ⟨rfl, rfl, rfl⟩
  rcases h.stp_off (by rw [hc]; exact e) hz with ⟨a1, a2, a3, a4⟩ | ⟨a1, a2, a3, a4, a5⟩ | ⟨a1, a2, a3, a4, a5⟩ | ⟨a1, a2, a3, a4, a5⟩
  · obtain ⟨b1, b2, b3⟩ := hk (hc'.symm.trans (a2.trans hc))
    exact .inl ⟨b1, b2, b3.trans e, .inl ⟨a1, a3, a4⟩⟩
  · obtain ⟨b1, b2, b3⟩ := hk (hc'.symm.trans (a3.trans hc))
    exact .inl ⟨b1, b2, b3.trans e, .inr (.inl ⟨a1, a2, a4, a5⟩)⟩
  · obtain ⟨b1, b2, b3⟩ := hk (hc'.symm.trans (a3.trans hc))
    exact .inl ⟨b1, b2, b3.trans e, .inr (.inr ⟨a1, a2, a4, a5⟩)⟩
  · obtain ⟨b1, b2, b3⟩ := hk (hc'.symm.trans a3)
    exact .inr ⟨b1, b2, b3, a1, a2, a4, a5⟩
end
/-- A block beside a node. -/
def BlkS (g : Nat) (a : Array Value) (T : TypeId) : World → (Nat → Prop) → Prop := fun w F => w.heap[g]? = some (.cells a T) ∧ ¬ F g
theorem kept_blk (g : Nat) (a : Array Value) (T : TypeId) : Kept (BlkS g a T) := fun _ _ _ _ hm hp => hm.blk hp.1 hp.2
theorem blkS_new (w : World) (a : Array Value) (T : TypeId) : ∀ F : Nat → Prop, (∀ k, F k → k < w.heap.size) → BlkS w.heap.size a T (w.alloc (.cells a T)) F :=
  fun F hF => ⟨heap_alloc_new w _, fun hf => by have := hF _ hf; omega⟩
theorem below_new (w : World) (o : Obj) : Below w.heap.size w (w.alloc o) := (Below.refl _ _).alloc (Nat.le_refl _) o
/-- Events' row beside a node. -/
def EvS (B : Nat) (v : Value) (es : List Ev) : World → (Nat → Prop) → Prop := fun w F => Eown w B v es ∧ ∀ k, v.ownBlock = some k → ¬ F k
theorem kept_ev (B : Nat) (v : Value) (es : List Ev) : Kept (EvS B v es) := fun _ _ _ _ hm hp => hm.owns hp.1 hp.2
theorem ecs_at {es : List Ev} {j : Nat} (hj : j < es.length) {c : Nat} {v : Value} (hv : (evcs (es.getD j (0, Fr.zero)))[c]? = some v) : (ecs es)[j * 15 + c]? = some v := by
  induction es generalizing j with
  | nil => simp at hj
  | cons e es ih =>
    have hc : c < 15 := by
      rcases Nat.lt_or_ge c 15 with h | h
      · exact h
      · rw [List.getElem?_eq_none (by simpa using h)] at hv; cases hv
    have e1 : ecs (e :: es) = evcs e ++ ecs es := by simp [ecs]
    rw [e1]
    rcases j with _ | j
    · rw [List.getElem?_append_left (by simpa using hc)]
      simpa using hv
    · rw [List.getElem?_append_right (by simp; omega)]
      have := ih (j := j) (by simpa using hj) (by simpa using hv)
      rw [← this]
      congr 1
      simp
      omega
theorem Eown.at_ {w : World} {B : Nat} {A : Option Addr} {n c : Nat} {es : List Ev} (h : Eown w B (.slice A n c) es) {j : Nat} (hj : j < es.length) : ∃ g, A = some ⟨g, 0, none⟩ ∧ ∀ c v, (evcs (es.getD j (0, Fr.zero)))[c]? = some v → w.cell? ⟨g, j * 15 + c, none⟩ = some v := by
  rcases h.2 with ⟨_, h0⟩ | ⟨g, cap, cur, e, rest⟩
  · omega
  · injection e with e1 e2 e3
    subst e1
    refine ⟨g, rfl, fun c v hv => ?_⟩
    have := World.ownsRow.cells h (g := g) rfl (j * 15 + c) v (ecs_at hj hv)
    rw [add_zero_off] at this
    exact this
end Go.Proofs.YtalpbnfebcafgaaGreat

/- The contracts of slices.Clone of ints, and of a node's Clone. -/
namespace Go.Proofs.YtalpbnfebcafgaaGreat
set_option maxRecDepth 20000
open Go.RowKit
set_option linter.unusedSimpArgs false

set_option maxHeartbeats 800000 in
theorem iclone_any {w : World} {B : Nat} {v : Value} {zs : List Int} (h : Own w B v zs) (hn : zs.length ≤ 100000) :
    Calls Tryz.prog 53 #[v] w fun e w' => ∃ u, e = .returned u ∧ Own w' w.heap.size u zs ∧ Below w.heap.size w w' := by
  rcases h.2 with ⟨rfl, h0⟩ | ⟨g, cap, cur, rfl, hb, hh, hnc, hcm, hcs, hx⟩
  · have hnl : zs = [] := List.eq_nil_of_length_eq_zero h0
    subst hnl
    clear h
    have heq := fun W : World => Go.Lib.run_eql_slice_nil (P := Tryz.prog) W 23 3 none 0 0 0 0 Tryz.underlying23
    go_enter Tryz.func53, Tryz.ntmps53
    go_wp2
    go_ret
    exact ⟨_, rfl, Own.nil _ _, Below.refl _ _⟩
  · obtain ⟨A, c2, hv, hil, -⟩ := h.il2
    injection hv with e1 e2 e3
    subst e1
    subst e3
    have HO := Lib.hid h
    have HI := Lib.hid hil
    have hg := (Array.getElem?_eq_some_iff.1 hh).1
    clear h hh hcs hx hcm hb hil
    have heq := fun W : World => Go.Lib.run_eql_slice_nil (P := Tryz.prog) W 23 3 (some ⟨g, 0, none⟩) zs.length cap 0 0 Tryz.underlying23
    have HN := Lib.hid hn
    clear hn
    go_enter Tryz.func53, Tryz.ntmps53
    have HF := Lib.hid (show Own (w.alloc (.cells #[] 3)) w.heap.size (.slice (some ⟨w.heap.size, 0, none⟩) 0 0) [] from Own.lit w w.heap.size [] (Nat.le_refl _) (by simp))
    have HS := Lib.hid (HI.out.below (below1 w (.cells #[] 3)))
    go_wp2_with (first | (at_builtin; refine append_ints2 _ (by rfl) _ _ rfl w.heap.size _ [] rfl HF.out _ _ _ zs rfl HS.out (by have := HN.out; simp; omega) (by simp) ?_; intro v' w' h1 h2 h3) | fail)
    go_wp2
    go_ret
    exact ⟨_, rfl, by simpa using h1, Below.grown ((Below.refl _ _).alloc (Nat.le_refl _) _) h2 (by simp) (fun k hk => by injection hk with hk; have hk : w.heap.size = k := hk; omega)⟩
theorem Only.below {g B : Nat} {w w' : World} (h : Only g w w') (hB : B ≤ g) : Below B w w' := ⟨h.os, h.tape, h.output, Nat.le_of_eq h.size.symm, fun k hk => h.block k (by omega)⟩
theorem Que.only {w w' : World} {B g k : Nat} {v : Value} {m : Int} {gs : List Fr} (h : Que w B g v m gs) (ho : Only k w w') (hk : k < B) : Que w' B g v m gs :=
  ⟨(ho.block _ (by have := h.at_; omega)).trans h.q, owns_move h.own fun j hj => ho.block j (by have := (World.ownsRow.lt h.own j hj).1; omega), h.at_⟩
theorem Own.only {w w' : World} {B k : Nat} {v : Value} {zs : List Int} (h : Own w B v zs) (ho : Only k w w') (hk : k < B) : Own w' B v zs :=
  owns_move h fun j hj => ho.block j (by have := (World.ownsRow.lt h j hj).1; omega)
theorem sep_later {w w' : World} {B B' : Nat} {u v : Value} {zs ys : List Int} (h : Own w B u zs) (h' : Own w' B' v ys) (hB : w.heap.size ≤ B') : Sep u v := by
  cases hu : u.ownBlock with
  | none => exact .inl hu
  | some k =>
    refine .inr fun e => ?_
    have h1 := (World.ownsRow.lt h k hu).2
    rw [hu] at e
    have h2 := (World.ownsRow.lt h' k e.symm).1
    omega

abbrev zNode : Array Value := #[.int .i64 0, .int .i64 0, .int .i64 0, .int .i64 0, .bool false, .bool false, .slice none 0 0, .int .i64 0, .int .i64 0, .int .i64 0, .int .i64 0, .int .i64 0, .bool false, .bool false, .int .i64 0, .int .u8 0, .int .u8 0, .int .u8 0, .int .u8 0, .int .u8 0, .int .u8 0, .int .u8 0, .int .u8 0, .slice none 0 0, .bool false, .int .i64 0, .int .i64 0, .bool false, .pointer none]

set_option maxHeartbeats 3200000 in
set_option maxRecDepth 100000 in
theorem nclone_any {w : World} {B : Nat} {p : NP} {n : Nd} (hl : Lay w B p n) (hq : n.q.length ≤ 1000000) (ho : n.own.length ≤ 100000) (hv : n.outL.length ≤ 100000) :
    Calls Tryz.prog 39 #[.pointer (some ⟨p.g, 0, none⟩)] w fun e w' => ∃ p', e = .returned (.pointer (some ⟨p'.g, 0, none⟩)) ∧ Lay w' w.heap.size p' n ∧ Below w.heap.size w w' := by
  obtain ⟨g, gq, vo, vl, vq⟩ := p
  obtain ⟨Ao, co, hvo, -, -⟩ := hl.own.il2
  obtain ⟨Av, cv, hvl, -, -⟩ := hl.lev.il2
  simp only at hvo hvl
  subst hvo
  subst hvl
  have HL := Lib.hid hl
  have HQ := Lib.hid hq
  have HO := Lib.hid ho
  have HV := Lib.hid hv
  have HB1 := Lib.hid (below1 w (.cells (n.cells (.slice Ao n.own.length co) (.slice Av n.outL.length cv) gq) 109))
  have HL1 := Lib.hid (hl.next HB1.out)
  have HK1 := Lib.hid (heap_alloc_new w (.cells (n.cells (.slice Ao n.own.length co) (.slice Av n.outL.length cv) gq) 109))
  have c0 := HL.out.c0
  have c1 := HL.out.c1
  have c2 := HL.out.c2
  have c3 := HL.out.c3
  have c4 := HL.out.c4
  have c5 := HL.out.c5
  have c6 := HL.out.c6
  have c7 := HL.out.c7
  have c8 := HL.out.c8
  have c9 := HL.out.c9
  have c10 := HL.out.c10
  have c11 := HL.out.c11
  have c12 := HL.out.c12
  have c13 := HL.out.c13
  have c14 := HL.out.c14
  have c15 := HL.out.c15
  have c16 := HL.out.c16
  have c17 := HL.out.c17
  have c18 := HL.out.c18
  have c19 := HL.out.c19
  have c20 := HL.out.c20
  have c21 := HL.out.c21
  have c22 := HL.out.c22
  have c23 := HL.out.c23
  have c24 := HL.out.c24
  have c25 := HL.out.c25
  have c26 := HL.out.c26
  have c27 := HL.out.c27
  have c28 := HL.out.c28
  have d28 := HL1.out.c28
  clear hl hq ho hv
  go_enter Tryz.func39, Tryz.ntmps39
  go_upto_region 3 with fail
  go_cut [3] (fun s3 wx => s3 = .pointer (some ⟨w.heap.size, 0, none⟩) ∧ wx = w.alloc (.cells (n.cells (.slice Ao n.own.length co) (.slice Av n.outL.length cv) gq) 109))
  case first =>
    as_aux_lemma =>
      clear d28 c0 c1 c2 c3 c4 c5 c6 c7 c8 c9 c10 c11 c12 c13 c14 c15 c16 c17 c18 c19 c20 c21 c22 c23 c24 c25 c26 c27 c28
      refine wp_region_lit ?_
      refine wpList_plain rfl fun K hK => ?_
      go_simp
      refine hK _ _ ?_
      clear hK K
      refine wpList_plain rfl fun K hK => ?_
      go_simp
      refine hK _ _ ?_
      clear hK K
      refine wpList_load_row rfl 109 (.tmp 7) rfl g rfl 109 (n.cells (.slice Ao n.own.length co) (.slice Av n.outL.length cv) gq) (0, 0) _ HL.out.blk Tryz.underlying109 rfl (by kernel_rfl) ?_
      simp only [Act.put, List.setIfInBounds_toArray, List.set_cons_zero, List.set_cons_succ]
      refine wpList_plain rfl fun K hK => ?_
      go_simp
      refine hK _ _ ?_
      clear hK K
      refine wpList_store_row rfl 109 (.tmp 3) (.tmp 8) rfl w.heap.size (n.cells (.slice Ao n.own.length co) (.slice Av n.outL.length cv) gq) rfl rfl 109 zNode (heap_alloc_new w _) (by kernel_rfl) rfl (by simp [Value.oneCell']) ?_
      rw [World.setRow_alloc_new]
      go_wp2
      go_meet
      case rel => exact ⟨rfl, rfl⟩
  case rest =>
    as_aux_lemma =>
      obtain ⟨rfl, rfl⟩ := hcut
      go_wp2_with fail
      clear d28 c0 c1 c2 c3 c4 c5 c6 c7 c8 c9 c10 c11 c12 c13 c14 c15 c16 c17 c18 c19 c20 c21 c22 c23 c24 c25 c26 c27 c28
      refine (clone_q HL1.out.que HQ.out).mono ?_
      rintro e w1 ⟨gq', u, rfl, hq1, hb1⟩
      have HB2 := Lib.hid (nxt HB1.out hb1)
      have HQ2 := Lib.hid hq1
      have hk := (hb1.block w.heap.size (by simp)).trans HK1.out
      have HK2 := Lib.hid hk
      have HL2 := Lib.hid (HL1.out.next hb1)
      have HZ2 := Lib.hid (show (w.alloc (.cells (n.cells (.slice Ao n.own.length co) (.slice Av n.outL.length cv) gq) 109)).heap.size = w.heap.size + 1 by simp)
      have fz := typed_frozen hk 28
      have k28 := cell_of_row w1 w.heap.size 28 _ _ (0, 0) hk
      clear hb1 hq1 hk HK1
      obtain ⟨wx, hwx⟩ : ∃ wx, w1.setCell ⟨w.heap.size, 28, none⟩ (.pointer (some ⟨gq', 0, none⟩)) = wx := ⟨_, rfl⟩
      have hox : Only w.heap.size w1 wx := by rw [← hwx]; exact (Only.refl _ _).set
      have HOX := Lib.hid hox
      have HKX := Lib.hid (show wx.heap[w.heap.size]? = some (.cells (n.cells (.slice Ao n.own.length co) (.slice Av n.outL.length cv) gq') 109) by rw [← hwx]; exact cells_to (cells_set HK2.out) rfl)
      have HBX := Lib.hid (HB2.out.trans (hox.below (Nat.le_refl _)))
      have HQX := Lib.hid (HQ2.out.only hox (by rw [HZ2.out]; omega))
      have e6 := (HL.out.next HBX.out).c6
      clear hox
      go_wp2_with fail
      clear fz k28 hwx e6
      refine (iclone_any (HL.out.next HBX.out).own HO.out).mono ?_
      rintro e w3 ⟨u1, rfl, ho3, hb3⟩
      obtain ⟨A1, q1, e1, -, -⟩ := ho3.il2
      subst e1
      have HB3 := Lib.hid (nxt HBX.out hb3)
      have HO3 := Lib.hid (ho3.mono HBX.out.size)
      have HQ3 := Lib.hid (HQX.out.next hb3)
      have hk := (hb3.block w.heap.size (by have := HQX.out.lt; have := HQX.out.at_; have := HZ2.out; omega)).trans HKX.out
      have HK3 := Lib.hid hk
      have fz := typed_frozen hk 6
      have k6 := cell_of_row w3 w.heap.size 6 _ _ (0, 0) hk
      have HS3 := Lib.hid (show w.heap.size < wx.heap.size by have := HQX.out.lt; have := HQX.out.at_; have := HZ2.out; omega)
      have HO3b := Lib.hid ho3
      clear hb3 ho3 hk
      obtain ⟨wy, hwy⟩ : ∃ wy, w3.setCell ⟨w.heap.size, 6, none⟩ (.slice A1 n.own.length q1) = wy := ⟨_, rfl⟩
      have hoy : Only w.heap.size w3 wy := by rw [← hwy]; exact (Only.refl _ _).set
      have HKY := Lib.hid (show wy.heap[w.heap.size]? = some (.cells (n.cells (.slice A1 n.own.length q1) (.slice Av n.outL.length cv) gq') 109) by rw [← hwy]; exact cells_to (cells_set HK3.out) rfl)
      have HBY := Lib.hid (HB3.out.trans (hoy.below (Nat.le_refl _)))
      have HQY := Lib.hid (HQ3.out.only hoy (by rw [HZ2.out]; omega))
      have HOY := Lib.hid (HO3b.out.only hoy HS3.out)
      have HSY := Lib.hid hoy.size
      have e23 := (HL.out.next HBY.out).c23
      clear hoy
      go_wp2_with fail
      clear fz k6 hwy e23
      refine (iclone_any (HL.out.next HBY.out).lev HV.out).mono ?_
      rintro e w5 ⟨u2, rfl, ho5, hb5⟩
      obtain ⟨A2, q2, e2, -, -⟩ := ho5.il2
      subst e2
      have HB5 := Lib.hid (nxt HBY.out hb5)
      have HO5 := Lib.hid ho5
      have HQ5 := Lib.hid (HQY.out.next hb5)
      have HP5 := Lib.hid (HOY.out.below hb5)
      have HSZ := Lib.hid (show w.heap.size < wy.heap.size by have := HQY.out.lt; have := HQY.out.at_; have := HZ2.out; omega)
      have hk := (hb5.block w.heap.size HSZ.out).trans HKY.out
      have HK5 := Lib.hid hk
      have fz := typed_frozen hk 23
      have k23 := cell_of_row w5 w.heap.size 23 _ _ (0, 0) hk
      clear hb5 ho5 hk
      obtain ⟨wz, hwz⟩ : ∃ wz, w5.setCell ⟨w.heap.size, 23, none⟩ (.slice A2 n.outL.length q2) = wz := ⟨_, rfl⟩
      have hoz : Only w.heap.size w5 wz := by rw [← hwz]; exact (Only.refl _ _).set
      have HKZ := Lib.hid (show wz.heap[w.heap.size]? = some (.cells (n.cells (.slice A1 n.own.length q1) (.slice A2 n.outL.length q2) gq') 109) by rw [← hwz]; exact cells_to (cells_set HK5.out) rfl)
      have HBZ := Lib.hid (HB5.out.trans (hoz.below (Nat.le_refl _)))
      have HQZ := Lib.hid (HQ5.out.only hoz (by rw [HZ2.out]; omega))
      have HPZ := Lib.hid (HP5.out.only hoz HS3.out)
      have HOZ := Lib.hid (HO5.out.only hoz HSZ.out)
      have HSP := Lib.hid (sep_later (u := (.slice A1 n.own.length q1)) (v := (.slice A2 n.outL.length q2)) HOY.out HO5.out (Nat.le_refl _))
      clear hoz
      go_wp2
      go_ret
      exact ⟨⟨w.heap.size, gq', (.slice A1 n.own.length q1), (.slice A2 n.outL.length q2), u⟩, rfl, ⟨HKZ.out, HPZ.out.mono (Nat.le_of_lt HS3.out), HOZ.out.mono (Nat.le_of_lt HSZ.out), HQZ.out.base (by rw [HZ2.out]; omega), HSP.out, Nat.le_refl _⟩, HBZ.out⟩
theorem nclone_nil (w : World) : Calls Tryz.prog 39 #[.pointer none] w fun e w' => e = .returned (.pointer none) ∧ w' = w := by
  go_enter Tryz.func39, Tryz.ntmps39
  go_wp2
  go_ret
  exact ⟨rfl, rfl⟩
end Go.Proofs.YtalpbnfebcafgaaGreat

/- Three nodes in one world. -/
namespace Go.Proofs.YtalpbnfebcafgaaGreat
set_option maxRecDepth 20000
open Go.RowKit
set_option linter.unusedSimpArgs false

/-- Two nodes apart. -/
def Dis (p q : NP) : Prop := ∀ k, p.fp k → ¬ q.fp k
theorem Dis.symm {p q : NP} (h : Dis p q) : Dis q p := fun k hq hp => h k hp hq
/-- A node lies apart from what moves. -/
theorem Lay.apart {w w' : World} {B : Nat} {q : NP} {b : Nd} {F F' : Nat → Prop} (h : Lay w B q b) (hm : Moves F F' w w') (hF : ∀ k, q.fp k → ¬ F k) : Lay w' B q b ∧ ∀ k, q.fp k → ¬ F' k := by
  have a1 := hm.blk h.blk (hF _ (.inl rfl))
  have a2 := hm.blk h.que.q (hF _ (.inr (.inl rfl)))
  have a3 := hm.owns h.own fun k hk => hF k (.inr (.inr (.inl hk)))
  have a4 := hm.owns h.lev fun k hk => hF k (.inr (.inr (.inr (.inl hk))))
  have a5 := hm.owns h.que.own fun k hk => hF k (.inr (.inr (.inr (.inr hk))))
  refine ⟨⟨a1.1, a3.1, a4.1, ⟨a2.1, a5.1, h.que.at_⟩, h.sep, h.at_⟩, ?_⟩
  rintro k (rfl | rfl | hk | hk | hk)
  · exact a1.2
  · exact a2.2
  · exact a3.2 k hk
  · exact a4.2 k hk
  · exact a5.2 k hk
/-- Three nodes in one world, and what lies beside them. -/
def Nd3 (w0 w : World) (ga : Nat) (a : Nd) (gb : Nat) (b : Nd) (gc : Nat) (c : Nd) (P : World → (Nat → Prop) → Prop) : Prop :=
  ∃ pa pb pc : NP, pa.g = ga ∧ pb.g = gb ∧ pc.g = gc ∧ Lay w w0.heap.size pa a ∧ Lay w w0.heap.size pb b ∧ Lay w w0.heap.size pc c ∧ Dis pa pb ∧ Dis pb pc ∧ Dis pc pa ∧
    P w (fun k => pa.fp k ∨ pb.fp k ∨ pc.fp k) ∧ Below w0.heap.size w0 w
section
variable {w0 w w' : World} {ga gb gc : Nat} {a b c : Nd} {P Q : World → (Nat → Prop) → Prop}
theorem Nd3.below (h : Nd3 w0 w ga a gb b gc c P) : Below w0.heap.size w0 w := by
  obtain ⟨_, _, _, _, _, _, _, _, _, _, _, _, _, h⟩ := h
  exact h
theorem Nd3.rot (h : Nd3 w0 w ga a gb b gc c P) : Nd3 w0 w gb b gc c ga a P := by
  obtain ⟨pa, pb, pc, e1, e2, e3, l1, l2, l3, d1, d2, d3, hp, hb⟩ := h
  refine ⟨pb, pc, pa, e2, e3, e1, l2, l3, l1, d2, d3, d1, ?_, hb⟩
  have : (fun k => pb.fp k ∨ pc.fp k ∨ pa.fp k) = fun k => pa.fp k ∨ pb.fp k ∨ pc.fp k := by
    funext k
    apply propext
    constructor
    · rintro (h | h | h)
      · exact .inr (.inl h)
      · exact .inr (.inr h)
      · exact .inl h
    · rintro (h | h | h)
      · exact .inr (.inr h)
      · exact .inl h
      · exact .inr (.inl h)
  rw [this]
  exact hp
theorem Nd3.moved {pa pb pc pa' : NP} {a' : Nd} (e2 : pb.g = gb) (e3 : pc.g = gc) (l2 : Lay w w0.heap.size pb b) (l3 : Lay w w0.heap.size pc c) (d1 : Dis pa pb) (d2 : Dis pb pc) (d3 : Dis pc pa)
    (hP : Kept P) (hp : P w (fun k => pa.fp k ∨ pb.fp k ∨ pc.fp k)) (e1 : pa'.g = ga) (l1 : Lay w' w0.heap.size pa' a') (hm : Moves pa.fp pa'.fp w w') (hb : Below w0.heap.size w0 w') : Nd3 w0 w' ga a' gb b gc c P := by
  obtain ⟨m2, n2⟩ := l2.apart hm d1.symm
  obtain ⟨m3, n3⟩ := l3.apart hm d3
  have hm' : Moves (fun k => pa.fp k ∨ pb.fp k ∨ pc.fp k) (fun k => pa'.fp k ∨ pb.fp k ∨ pc.fp k) w w' := by
    refine ⟨hm.os, hm.tape, hm.output, hm.size, fun k hk hn => hm.block k hk fun h => hn (.inl h), ?_⟩
    rintro k (h | h | h)
    · exact (hm.new k h).imp .inl id
    · exact .inl (.inr (.inl h))
    · exact .inl (.inr (.inr h))
  exact ⟨pa', pb, pc, e1, e2, e3, l1, m2, m3, Dis.symm n2, d2, n3, hP _ _ _ _ hm' hp, hb⟩
theorem Nd3.next (h : Nd3 w0 w ga a gb b gc c P) (hP : Kept P) (hb : Below w.heap.size w w') : Nd3 w0 w' ga a gb b gc c P := by
  obtain ⟨pa, pb, pc, e1, e2, e3, l1, l2, l3, d1, d2, d3, hp, h0⟩ := h
  exact ⟨pa, pb, pc, e1, e2, e3, l1.next hb, l2.next hb, l3.next hb, d1, d2, d3, hP _ _ _ _ (.of_below hb _) hp, nxt h0 hb⟩
theorem Nd3.drew (h : Nd3 w0 w ga a gb b gc c P) (hP : Kept P) : Nd3 w0 w.drew ga a gb b gc c P := h.next hP (below_drew (Below.refl _ _))
theorem Nd3.add (h : Nd3 w0 w ga a gb b gc c P) (hq : ∀ F : Nat → Prop, (∃ p q r : NP, (∀ k, F k ↔ p.fp k ∨ q.fp k ∨ r.fp k) ∧ Lay w w0.heap.size p a ∧ Lay w w0.heap.size q b ∧ Lay w w0.heap.size r c) → Q w F) : Nd3 w0 w ga a gb b gc c (Both P Q) := by
  obtain ⟨pa, pb, pc, e1, e2, e3, l1, l2, l3, d1, d2, d3, hp, h0⟩ := h
  exact ⟨pa, pb, pc, e1, e2, e3, l1, l2, l3, d1, d2, d3, ⟨hp, hq _ ⟨pa, pb, pc, fun _ => Iff.rfl, l1, l2, l3⟩⟩, h0⟩
/-- Events' rows lie apart from nodes. -/
theorem Nd3.addE (h : Nd3 w0 w ga a gb b gc c P) {B : Nat} {v : Value} {es : List Ev} (he : Eown w B v es) : Nd3 w0 w ga a gb b gc c (Both P (EvS B v es)) := by
  refine h.add ?_
  rintro F ⟨p, q, r, hF, l1, l2, l3⟩
  refine ⟨he, fun k hk hf => ?_⟩
  rcases (hF k).1 hf with h | h | h
  · exact he.apart l1 k hk h
  · exact he.apart l2 k hk h
  · exact he.apart l3 k hk h
theorem Nd3.less (h : Nd3 w0 w ga a gb b gc c P) (hq : ∀ F : Nat → Prop, P w F → Q w F) : Nd3 w0 w ga a gb b gc c Q := by
  obtain ⟨pa, pb, pc, e1, e2, e3, l1, l2, l3, d1, d2, d3, hp, h0⟩ := h
  exact ⟨pa, pb, pc, e1, e2, e3, l1, l2, l3, d1, d2, d3, hq _ hp, h0⟩
theorem Nd3.side (h : Nd3 w0 w ga a gb b gc c P) : ∃ F : Nat → Prop, P w F := by
  obtain ⟨pa, pb, pc, e1, e2, e3, l1, l2, l3, d1, d2, d3, hp, h0⟩ := h
  exact ⟨_, hp⟩
theorem nd3_drive (h : Nd3 w0 w ga a gb b gc c P) (hf : a.mode = 2 → Okf a) : Calls Tryz.prog 65 #[.pointer (some ⟨ga, 0, none⟩)] w fun e w' => e = .returned (.int .i64 a.drv) ∧ Below w.heap.size w w' := by
  obtain ⟨pa, pb, pc, rfl, e2, e3, l1, l2, l3, d1, d2, d3, hp, h0⟩ := h
  exact drv_any l1 hf
theorem nd3_look (h : Nd3 w0 w ga a gb b gc c P) : Calls Tryz.prog 37 #[.pointer (some ⟨ga, 0, none⟩)] w fun e w' => e = .returned a.lookV ∧ Below w.heap.size w w' := by
  obtain ⟨pa, pb, pc, rfl, e2, e3, l1, l2, l3, d1, d2, d3, hp, h0⟩ := h
  exact look_any l1
theorem nd3_step (h : Nd3 w0 w ga a gb b gc c P) (hP : Kept P) (hn : Fit a) (z : Int) (hz : z = 0 ∨ z = 1) : Calls Tryz.prog 67 #[.pointer (some ⟨ga, 0, none⟩), .int .i64 z] w fun e w' =>
    ∃ u, e = .returned (.tuple #[u, .int .i64 0]) ∧ Eown w' w.heap.size u (a.stp z).1 ∧ Nd3 w0 w' ga (a.stp z).2 gb b gc c P ∧ Below w0.heap.size w w' := by
  obtain ⟨pa, pb, pc, rfl, e2, e3, l1, l2, l3, d1, d2, d3, hp, h0⟩ := h
  refine (step_any10 l1 hn z hz).mono ?_
  rintro e w' ⟨u, vo', vl', vq', rfl, g1, g2, g3⟩
  have hb := l1.below g3
  exact ⟨u, rfl, g1, Nd3.moved (pa' := ⟨pa.g, pa.gq, vo', vl', vq'⟩) e2 e3 l2 l3 d1 d2 d3 hP hp rfl g2 g3 (h0.trans hb), hb⟩
theorem nd3_put (h : Nd3 w0 w ga a gb b gc c P) (hP : Kept P) (f : Fr) (hok : Okq a.q) (hn : a.q.length ≤ 1000) : Calls Tryz.prog 35 #[.pointer (some ⟨ga, 0, none⟩), f.val] w fun e w' =>
    e = .returned (.int .i64 (pE 16 f a.q)) ∧ Nd3 w0 w' ga { a with q := pL 16 f a.q } gb b gc c P := by
  obtain ⟨pa, pb, pc, rfl, e2, e3, l1, l2, l3, d1, d2, d3, hp, h0⟩ := h
  refine (nput_any l1 f hok hn).mono ?_
  rintro e w' ⟨vq', rfl, g1, g2⟩
  exact ⟨rfl, Nd3.moved (pa' := { pa with vq := vq' }) e2 e3 l2 l3 d1 d2 d3 hP hp rfl g1 g2 (h0.trans (l1.below g2))⟩
theorem nd3_bad (h : Nd3 w0 w ga a gb b gc c P) (z : Int) (h0 : z ≠ 0) (h1 : z ≠ 1) : Calls Tryz.prog 67 #[.pointer (some ⟨ga, 0, none⟩), .int .i64 z] w fun e w' => e = .returned (.tuple #[.slice none 0 0, .int .i64 10]) ∧ w = w' := by
  obtain ⟨pa, pb, pc, rfl, e2, e3, l1, l2, l3, d1, d2, d3, hp, h0⟩ := h
  exact step_bad l1 z (by assumption) h1
end
/-- A node, cloned. -/
theorem nst_clone {w0 w : World} {g gq : Nat} {n : Nd} {P : World → (Nat → Prop) → Prop} (h : Nst w0 w g gq n P) (hq : n.q.length ≤ 1000000) (ho : n.own.length ≤ 100000) (hv : n.outL.length ≤ 100000) :
    Calls Tryz.prog 39 #[.pointer (some ⟨g, 0, none⟩)] w fun e w' => ∃ p', e = .returned (.pointer (some ⟨p'.g, 0, none⟩)) ∧ Lay w' w.heap.size p' n ∧ Below w.heap.size w w' := by
  obtain ⟨vo, vl, vq, h1, h2, h3⟩ := h
  exact nclone_any (p := ⟨g, gq, vo, vl, vq⟩) h1 hq ho hv
/-- A node and two clones, each of which came later. -/
theorem nd3_of {w0 w w1 : World} {g gq : Nat} {n b c : Nd} {P : World → (Nat → Prop) → Prop} {B : Nat} {pb pc : NP} (h : Nst w0 w g gq n P) (hP : Kept P) (hb : Below w.heap.size w w1)
    (l2 : Lay w1 w.heap.size pb b) (hB : ∀ k, pb.fp k → k < B) (hwB : w.heap.size ≤ B) (l3 : Lay w1 B pc c) (hPn : ∀ (F G : Nat → Prop), P w1 F → (∀ k, G k → w.heap.size ≤ k) → P w1 fun k => F k ∨ G k) : Nd3 w0 w1 g n pb.g b pc.g c P := by
  obtain ⟨vo, vl, vq, h1, h2, h3⟩ := h
  have hz := h3.size
  refine ⟨⟨g, gq, vo, vl, vq⟩, pb, pc, rfl, rfl, rfl, h1.next hb, l2.base hz, l3.base (Nat.le_trans hz hwB), fun k hk hf => ?_, fun k hk hf => ?_, fun k hk hf => ?_, ?_, nxt h3 hb⟩
  · have := h1.fp_lt k hk
    have := l2.fp_ge k hf
    omega
  · have := hB k hk
    have := l3.fp_ge k hf
    omega
  · have := l3.fp_ge k hk
    have := h1.fp_lt k hf
    omega
  · refine hPn _ _ (hP _ _ _ _ (.of_below hb _) h2) ?_
    rintro k (hk | hk)
    · exact l2.fp_ge k hk
    · exact Nat.le_trans hwB (l3.fp_ge k hk)
end Go.Proofs.YtalpbnfebcafgaaGreat

/- A node's rows are short. -/
namespace Go.Proofs.YtalpbnfebcafgaaGreat
set_option maxRecDepth 20000
open Go.RowKit
set_option linter.unusedSectionVars false

/-- Out of a frame a node has no levels; one that does not send has none to send. -/
structure Slim (n : Nd) : Prop where
  o : n.mode ≠ 2 → n.own = [] ∧ n.outL = []
  t : n.mode = 2 → n.tx = false → n.outL = []
section
variable {B : Nat} {n : Nd} {z : Int}
theorem slim_enter {m : Int} (h : m ≠ 2) : Slim (n.enter m) := ⟨fun _ => ⟨rfl, rfl⟩, fun e => absurd e h⟩
theorem Slim.of {n' : Nd} (h : Slim n) (hm : n.mode ≠ 2) (e1 : n'.mode = n.mode) (e2 : n'.own = n.own) (e3 : n'.outL = n.outL) : Slim n' := by
  obtain ⟨a, b⟩ := h.o hm
  exact ⟨fun _ => ⟨e2.trans a, e3.trans b⟩, fun e => absurd (e1.symm.trans e) hm⟩
theorem slim_cas {x : Int} (h : Slim n) (hm : n.mode ≠ 2) : Slim (n.casN x) := by
  unfold Nd.casN
  split
  · exact slim_enter (by omega)
  · exact h.of hm rfl rfl rfl
theorem slim_fail {k : Int} : Slim (n.fail k).2 := by
  unfold Nd.fail Nd.flg
  have hm : (if n.pas then 4 else 3 : Int) ≠ 2 := by split <;> omega
  exact slim_cas (slim_enter hm) hm
theorem slim_in (hm : n.mode = 2) (h : n.tx = false → n.outL = []) : Slim n := ⟨fun e => absurd hm e, fun _ => h⟩
theorem slim_begin {may : Bool} : Slim (n.begin_ may) := by
  rw [begin_at]
  refine slim_in rfl fun ht => ?_
  have ht' : (may && decide (0 < n.q.length)) = false := ht
  show (if may && decide (0 < n.q.length) then alls (n.q.headD Fr.zero) else []) = []
  rw [ht', if_neg (by simp)]
theorem slim_goOn (h : Slim n) (hm : n.mode = 2) : Slim (n.goOn z).2 := by
  have e : (n.take z).mode = 2 ∧ (n.take z).tx = n.tx ∧ (n.take z).outL = n.outL := by
    unfold Nd.take
    split <;> exact ⟨hm, rfl, rfl⟩
  have ht : (n.take z).tx = false → (n.take z).outL = [] := fun a => e.2.2.trans (h.t hm (e.2.1.symm.trans a))
  unfold Nd.goOn Nd.onto
  split
  · unfold Nd.fin
    split
    · exact (slim_enter (n := n.take z) (m := 8) (by omega)).of (by show (8 : Int) ≠ 2; omega) rfl rfl rfl
    · exact slim_enter (by omega)
  · split
    · exact slim_in e.1 ht
    · exact slim_in e.1 ht
theorem slim_recv (h : Slim n) (hm : n.mode = 2) : Slim (n.recv z).2 := by
  unfold Nd.recv
  split
  · exact slim_enter (by omega)
  · split
    · exact slim_fail
    · exact slim_goOn h hm
theorem slim_send (h : Slim n) (hm : n.mode = 2) : Slim (n.send z).2 := by
  have hf : (if n.pas then 4 else 3 : Int) ≠ 2 := by split <;> omega
  unfold Nd.send
  split
  · split
    · exact slim_goOn h hm
    · unfold Nd.unheard
      split
      · exact (slim_enter (n := n) hf).of hf rfl rfl rfl
      · exact slim_fail
  · split
    · exact slim_enter hf
    · split
      · exact slim_goOn h hm
      · exact slim_fail
theorem slim_inF (h : Slim n) (hm : n.mode = 2) : Slim (n.inF z).2 := by
  unfold Nd.inF
  split
  · exact slim_recv (n := n.lost) (slim_in hm fun _ => rfl) hm
  · split
    · exact slim_send h hm
    · exact slim_recv h hm
theorem slim_endF : Slim n.endF := (slim_enter (n := n) (m := 6) (by omega)).of (by show (6 : Int) ≠ 2; omega) rfl rfl rfl
theorem slim_stp (hs : Sound B n) (h : Slim n) : Slim (n.stp z).2 := by
  have m0 := hs.m0
  have m1 := hs.m1
  have hfl : n.mode = 3 ∨ n.mode = 5 → Slim n.flagN ∧ n.flagN.mode ≠ 2 := fun e => by
    refine ⟨?_, (hs.flagN e).2.2.1⟩
    unfold Nd.flagN
    split
    · exact slim_endF
    · exact h.of (by omega) rfl rfl rfl
  have hcl : ∀ m : Nd, m.mode ≠ 2 → Slim m → Slim (m.close z).2 := fun m hm h2 => by
    unfold Nd.close
    split
    · unfold Nd.closeN
      split
      · exact slim_enter (by omega)
      · exact h2.of hm rfl rfl rfl
    · split
      · exact slim_enter (by omega)
      · exact slim_fail
  have hpf : n.mode = 4 → Slim (n.pflN z) ∧ (n.pflN z).mode ≠ 2 := fun e => by
    unfold Nd.pflN
    split
    · exact ⟨slim_endF, by show (6 : Int) ≠ 2; omega⟩
    · exact ⟨h.of (by omega) rfl rfl rfl, by show n.mode ≠ 2; omega⟩
  unfold Nd.stp
  split
  · unfold Nd.join
    split
    · exact slim_enter (by omega)
    · exact h.of (by omega) rfl rfl rfl
  split
  · unfold Nd.idle
    split
    · exact slim_begin
    · split
      · exact slim_fail
      · exact h
  split
  · exact slim_inF h (by assumption)
  split
  · unfold Nd.flag
    have a := hfl (.inl (by assumption))
    split
    · exact a.1
    · exact slim_cas a.1 a.2
  split
  · unfold Nd.pflag
    have a := hpf (by assumption)
    split
    · exact slim_cas a.1 a.2
    · exact a.1
  split
  · unfold Nd.flag
    have a := hfl (.inr (by assumption))
    split
    · exact a.1
    · exact slim_cas a.1 a.2
  split
  · unfold Nd.wait
    split
    · rename_i hz1
      have := hcl (n.enter 7) (by show (7 : Int) ≠ 2; omega) (slim_enter (by omega))
      rw [hz1] at this
      exact this
    · have a : Slim (n.see 0) := h.of (by omega) rfl rfl rfl
      split
      · exact slim_cas a (by show n.mode ≠ 2; omega)
      · exact a
  split
  · exact hcl n (by omega) h
  split
  · unfold Nd.pause
    split
    · split
      · exact slim_begin
      · exact slim_enter (by omega)
    · split
      · exact h.of (by omega) rfl rfl rfl
      · split <;> exact slim_enter (by omega)
  split
  · unfold Nd.susp
    split
    · exact slim_begin
    · show Slim (if tlN n.sl n.sn 1 = 8 then n.enter 1 else n.see 1)
      split
      · exact slim_enter (by omega)
      · exact h.of (by omega) rfl rfl rfl
  · unfold Nd.off
    split
    · split
      · exact h.of (by omega) rfl rfl rfl
      · exact (slim_enter (n := n) (m := 1) (by omega)).of (by show (1 : Int) ≠ 2; omega) rfl rfl rfl
    · exact h.of (by omega) rfl rfl rfl
theorem slim_new : Slim Nd.new := ⟨fun _ => ⟨rfl, rfl⟩, fun e => by cases e⟩
theorem alls_short {f : Fr} (hf : f.may = true) : (alls f).length ≤ 310 := by
  rw [show alls f = raw f ++ ten (slt false) from rfl, List.length_append, ten_len]
  have h1 := stf_raw_le hf
  have h2 := (stf_len (raw f)).1
  omega
/-- Behind any turns. -/
structure Ow (B : Nat) (n : Nd) : Prop where
  s : Sound B n
  l : Slim n
theorem ow_new : Ow 0 Nd.new := ⟨sound_new, slim_new⟩
theorem Ow.stp (h : Ow B n) (hz : z = 0 ∨ z = 1) : Ow (B + 1) (n.stp z).2 := ⟨(good_stp h.s hz).s, slim_stp h.s h.l⟩
theorem Ow.put (h : Ow B n) (f : Fr) (hf : f.wf) : Ow B { n with q := pL 16 f n.q } := ⟨sound_put h.s f hf, ⟨h.l.o, h.l.t⟩⟩
theorem Ow.short (h : Ow B n) : n.own.length ≤ 100000 ∧ n.outL.length ≤ 100000 := by
  by_cases hm : n.mode = 2
  · have i := h.s.inf hm
    have h1 := own_short i.go
    refine ⟨by omega, ?_⟩
    cases ht : n.tx
    · rw [h.l.t hm ht]; simp
    · obtain ⟨x1, x2, _⟩ := i.out ht
      rw [x2]
      have := alls_short (h.s.qf _ x1).1
      omega
  · obtain ⟨a, b⟩ := h.l.o hm
    rw [a, b]; simp
end
end Go.Proofs.YtalpbnfebcafgaaGreat

/- Nodes on one wire, as values. -/
namespace Go.Proofs.YtalpbnfebcafgaaGreat
set_option maxRecDepth 20000

/-- What happens on a bus: the tick, the node, and what it tells. -/
abbrev Be := Nat × Nat × Ev
/-- A run. -/
structure Rn where
  n : Int
  b : Int
  d : Nat
/-- Nodes on one wire, and how many ticks there were. -/
structure Bs where
  L : List Nd
  t : Nat

theorem ones_bit (i : Nat) : (4294967295 : Nat).testBit i = decide (i < 32) := by
  rw [show (4294967295 : Nat) = 2 ^ 32 - 1 by decide, Nat.testBit_two_pow_sub_one]
theorem less_bit {k : Nat} (hk : k < 32) (i : Nat) : (4294967295 - 2 ^ k).testBit i = (decide (i < 32) && !decide (i = k)) := by
  have h : 2 ^ k < 2 ^ 32 := Nat.pow_lt_pow_right (by omega) hk
  rw [show 4294967295 - 2 ^ k = 2 ^ 32 - (2 ^ k + 1) by omega, Nat.testBit_two_pow_sub_succ h, Nat.testBit_two_pow]
  by_cases e : k = i
  · subst e; simp
  · simp [e, Ne.symm e]
theorem not_bit {x : Nat} (hx : x < 4294967296) (i : Nat) : (4294967295 - x).testBit i = (decide (i < 32) && !x.testBit i) := by
  rw [show 4294967295 - x = 2 ^ 32 - (x + 1) by omega, Nat.testBit_two_pow_sub_succ (by omega)]
/-- What nodes drive, as a mask: of the first k the bits of those that drive 0 are 0. -/
def dmk (L : List Nd) : Nat → Nat
  | 0 => 4294967295
  | k + 1 => if (L.getD k Nd.new).drv = 0 then dmk L k &&& (4294967295 - 2 ^ k) else dmk L k
theorem dmk_lt (L : List Nd) : ∀ k, dmk L k < 4294967296
  | 0 => by show 4294967295 < 4294967296; omega
  | k + 1 => by
    unfold dmk
    split
    · exact Nat.lt_of_le_of_lt Nat.and_le_left (dmk_lt L k)
    · exact dmk_lt L k
theorem dmk_bit (L : List Nd) : ∀ {k : Nat}, k ≤ 32 → ∀ i, (dmk L k).testBit i = (decide (i < 32) && !(decide (i < k) && decide ((L.getD i Nd.new).drv = 0)))
  | 0, _, i => by rw [dmk, ones_bit]; simp
  | k + 1, hk, i => by
    have ih := dmk_bit L (k := k) (by omega) i
    unfold dmk
    split
    · rename_i h0
      rw [Nat.testBit_and, ih, less_bit (by omega)]
      by_cases e : i = k
      · subst e
        rw [decide_eq_true h0]
        simp
      · have : decide (i < k + 1) = decide (i < k) := by simp; omega
        rw [this, decide_eq_false e]
        cases decide (i < 32) <;> simp
    · rename_i h0
      rw [ih]
      by_cases e : i = k
      · subst e
        rw [decide_eq_false h0]
        simp
      · have : decide (i < k + 1) = decide (i < k) := by simp; omega
        rw [this]
/-- The level of the bus. -/
def lvO (d : Nat) : Int := if d = 4294967295 then 1 else 0
theorem lvO_01 (d : Nat) : lvO d = 0 ∨ lvO d = 1 := by unfold lvO; split <;> simp
theorem eq_ones {d : Nat} (hd : d < 4294967296) : d = 4294967295 ↔ ∀ i, i < 32 → d.testBit i = true := by
  constructor
  · rintro rfl i hi
    rw [ones_bit, decide_eq_true hi]
  · intro h
    apply Nat.eq_of_testBit_eq
    intro i
    rw [ones_bit]
    by_cases hi : i < 32
    · rw [h i hi, decide_eq_true hi]
    · rw [decide_eq_false hi]
      exact Nat.testBit_lt_two_pow (Nat.lt_of_lt_of_le hd (Nat.pow_le_pow_right (n := 2) (i := 32) (j := i) (by omega) (by omega)))
theorem lvO_dmk {L : List Nd} (hL : L.length ≤ 32) : lvO (dmk L L.length) = 1 ↔ ∀ n ∈ L, n.drv ≠ 0 := by
  unfold lvO
  have h := eq_ones (dmk_lt L L.length)
  constructor
  · intro e n hn
    have e1 : dmk L L.length = 4294967295 := by
      by_cases h1 : dmk L L.length = 4294967295
      · exact h1
      · rw [if_neg h1] at e; cases e
    obtain ⟨i, hi, rfl⟩ := List.getElem_of_mem hn
    have := h.1 e1 i (by omega)
    rw [dmk_bit L hL] at this
    have hg : L.getD i Nd.new = L[i] := by rw [List.getD, List.getElem?_eq_getElem hi]; rfl
    rw [hg, decide_eq_true (show i < 32 by omega), decide_eq_true hi] at this
    simpa using this
  · intro hn
    rw [if_pos]
    refine h.2 fun i hi => ?_
    rw [dmk_bit L hL, decide_eq_true hi]
    by_cases hl : i < L.length
    · have hg : L.getD i Nd.new = L[i] := by rw [List.getD, List.getElem?_eq_getElem hl]; rfl
      rw [hg]
      simp [hn _ (List.getElem_mem hl)]
    · simp [hl]
/-- What node i makes of the level of the bus. -/
def act1 (l : Int) (x m i : Nat) (n : Nd) : List Ev × Nd := if m.testBit i then ([], n) else n.stp (if x.testBit i then oth l else l)
/-- Nodes of which the first k have seen it. -/
def sees (l : Int) (x m : Nat) (L : List Nd) : Nat → List Nd
  | 0 => L
  | k + 1 => (sees l x m L k).set k (act1 l x m k (L.getD k Nd.new)).2
/-- What the first k tell. -/
def tells (l : Int) (x m t : Nat) (L : List Nd) : Nat → List Be
  | 0 => []
  | k + 1 => tells l x m t L k ++ (act1 l x m k (L.getD k Nd.new)).1.map fun e => (t, k, e)
section
variable {l : Int} {x m t : Nat} {L : List Nd}
theorem sees_len : ∀ k, (sees l x m L k).length = L.length
  | 0 => rfl
  | k + 1 => by rw [sees, List.length_set, sees_len k]
theorem sees_get : ∀ {k : Nat}, k ≤ L.length → ∀ {i : Nat} {n : Nd}, L[i]? = some n → (sees l x m L k)[i]? = some (if i < k then (act1 l x m i n).2 else n)
  | 0, _, i, n, h => by rw [sees, h, if_neg (by omega)]
  | k + 1, hk, i, n, h => by
    have ih := sees_get (k := k) (by omega) h
    rw [sees]
    by_cases e : k = i
    · subst e
      rw [List.getElem?_set_self (by rw [sees_len]; omega), if_pos (by omega), List.getD, h]
      rfl
    · rw [List.getElem?_set_ne e, ih]
      by_cases h1 : i < k
      · rw [if_pos h1, if_pos (by omega)]
      · rw [if_neg h1, if_neg (by omega)]

end
/-- What is driven, some nodes being forced. -/
def drvO (L : List Nd) (m d : Nat) : Nat := (dmk L L.length &&& (4294967295 - m)) ||| (d &&& m)
theorem drvO_none (L : List Nd) (d : Nat) : drvO L 0 d = dmk L L.length := by
  unfold drvO
  rw [Nat.and_zero, Nat.or_zero, Nat.sub_zero]
  apply Nat.eq_of_testBit_eq
  intro i
  rw [Nat.testBit_and, ones_bit]
  by_cases hi : i < 32
  · simp [hi]
  · have := Nat.testBit_lt_two_pow (Nat.lt_of_lt_of_le (dmk_lt L L.length) (Nat.pow_le_pow_right (n := 2) (i := 32) (j := i) (by omega) (by omega)))
    simp [hi, this]
theorem and_lt {a b : Nat} (h : a < 4294967296) : a &&& b < 4294967296 := Nat.lt_of_le_of_lt Nat.and_le_left h
theorem or_lt {a b : Nat} (h : a < 4294967296) (h' : b < 4294967296) : a ||| b < 4294967296 := Nat.or_lt_two_pow (n := 32) h h'
theorem drvO_lt (L : List Nd) (m : Nat) {d : Nat} (hd : d < 4294967296) : drvO L m d < 4294967296 := or_lt (and_lt (dmk_lt _ _)) (and_lt hd)
/-- A tick's run, its events, and the bus behind it. -/
def Bs.run (b : Bs) (m d : Nat) : Rn := ⟨1, lvO (drvO b.L m d), drvO b.L m d⟩
def Bs.evs (b : Bs) (x m d : Nat) : List Be := tells (lvO (drvO b.L m d)) x m b.t b.L b.L.length
def Bs.aft (b : Bs) (x m d : Nat) : Bs := ⟨sees (lvO (drvO b.L m d)) x m b.L b.L.length, b.t + 1⟩
def Bs.new (n : Nat) : Bs := ⟨List.replicate n Nd.new, 0⟩
/-- An act. -/
structure Ac where
  t : Int
  n : Int
  ft : Bool
  f : Fr
instance : Inhabited Ac := ⟨⟨0, 0, false, Fr.zero⟩⟩
/-- What acts do: of one. -/
def Bs.put (b : Bs) (i : Nat) (f : Fr) : Bs := { b with L := b.L.set i { b.L.getD i Nd.new with q := pL 16 f (b.L.getD i Nd.new).q } }
def Bs.do1 (p : Bs × Nat) (a : Ac) : Bs × Nat := if a.ft then (p.1, p.2 ||| 2 ^ a.n.toNat) else (p.1.put a.n.toNat a.f, p.2)
def Bs.dos (b : Bs) (l : List Ac) : Bs × Nat := l.foldl Bs.do1 (b, 0)
/-- Runs, joined. -/
def joinR (rs : List Rn) (r : Rn) : List Rn :=
  match rs.getLast? with
  | some y => if y.b = r.b ∧ y.d = r.d then rs.dropLast ++ [⟨y.n + r.n, y.b, y.d⟩] else rs ++ [r]
  | none => [r]
/-- A play: the bus, the runs, the events. -/
structure Pl where
  b : Bs
  rs : List Rn
  es : List Be
def atT (l : List Ac) (k : Nat) : List Ac := l.filter fun a => a.t == (k : Nat)
def Pl.next (l : List Ac) (p : Pl) : Pl :=
  ⟨(p.b.dos (atT l p.b.t)).1.aft (p.b.dos (atT l p.b.t)).2 0 4294967295, joinR p.rs ((p.b.dos (atT l p.b.t)).1.run 0 4294967295), p.es ++ (p.b.dos (atT l p.b.t)).1.evs (p.b.dos (atT l p.b.t)).2 0 4294967295⟩
def plays (n : Nat) (l : List Ac) : Nat → Pl
  | 0 => ⟨Bs.new n, [], []⟩
  | k + 1 => (plays n l k).next l
end Go.Proofs.YtalpbnfebcafgaaGreat

/- A bus in memory. -/
namespace Go.Proofs.YtalpbnfebcafgaaGreat
set_option maxRecDepth 20000
open Go.RowKit

/-- Where a bus lies. -/
structure BP where
  g : Nat
  v : Value
  ps : List NP
abbrev NP.ptr (q : NP) : Value := .pointer (some ⟨q.g, 0, none⟩)
/-- The blocks of a bus. -/
def BP.fp (p : BP) (k : Nat) : Prop := k = p.g ∨ p.v.ownBlock = some k ∨ ∃ q ∈ p.ps, q.fp k
/-- A bus lies there. -/
structure BLay (w : World) (B : Nat) (p : BP) (b : Bs) : Prop where
  blk : w.heap[p.g]? = some (.cells #[p.v, .int .i64 (b.t : Nat)] 84)
  row : w.ownsRow B 85 1 p.v b.L.length (p.ps.map NP.ptr)
  len : p.ps.length = b.L.length
  lay : ∀ (i : Nat) (q : NP) (n : Nd), p.ps[i]? = some q → b.L[i]? = some n → Lay w B q n
  dis : ∀ (i j : Nat) (q r : NP), p.ps[i]? = some q → p.ps[j]? = some r → i ≠ j → Dis q r
  at_ : B ≤ p.g
/-- A block of another type is none of the node's. -/
theorem Lay.nblk {w : World} {B k : Nat} {p : NP} {n : Nd} {a : Array Value} {T : TypeId} (h : Lay w B p n) (ho : w.heap[k]? = some (.cells a T)) (h1 : 109 ≠ T) (h2 : 130 ≠ T) (h3 : T ≠ 3) (h4 : T ≠ 31) : ¬ p.fp k := by
  rintro (rfl | rfl | hf | hf | hf)
  · rw [h.blk] at ho; injection ho with ho; injection ho with _ ho; exact h1 ho
  · have hq := h.que.q
    unfold Qb at hq
    rw [hq] at ho; injection ho with ho; injection ho with _ ho; exact h2 ho
  · exact owns_ne h.own ho h3 hf
  · exact owns_ne h.lev ho h3 hf
  · exact owns_ne h.que.own ho h4 hf
section
variable {w w' : World} {B B' : Nat} {p : BP} {b : Bs}
theorem BLay.c0 (h : BLay w B p b) : w.cell? ⟨p.g, 0, none⟩ = some p.v := cell_of_row w p.g 0 _ _ (0, 0) h.blk
theorem BLay.c1 (h : BLay w B p b) : w.cell? ⟨p.g, 1, none⟩ = some (.int .i64 (b.t : Nat)) := cell_of_row w p.g 1 _ _ (0, 0) h.blk
theorem BLay.fz (h : BLay w B p b) (i : Nat) : w.frozen? ⟨p.g, i, none⟩ = false := typed_frozen h.blk i
theorem BLay.lt (h : BLay w B p b) : p.g < w.heap.size := typed_lt h.blk
theorem BLay.size (h : BLay w B p b) : B ≤ w.heap.size := by have := h.lt; have := h.at_; omega
theorem BLay.base (h : BLay w B p b) (hB : B' ≤ B) : BLay w B' p b :=
  ⟨h.blk, by
    refine ⟨h.row.1, ?_⟩
    rcases h.row.2 with hn | ⟨g, cap, cur, e, hbg, rest⟩
    · exact .inl hn
    · exact .inr ⟨g, cap, cur, e, Nat.le_trans hB hbg, rest⟩, h.len, fun i q n h1 h2 => (h.lay i q n h1 h2).base hB, h.dis, Nat.le_trans hB h.at_⟩
theorem BLay.next (h : BLay w B p b) (hb : Below w.heap.size w w') : BLay w' B p b :=
  ⟨(hb.block _ h.lt).trans h.blk, owns_move h.row fun k hk => hb.block k (World.ownsRow.lt h.row k hk).2, h.len, fun i q n h1 h2 => (h.lay i q n h1 h2).next hb, h.dis, h.at_⟩
theorem BLay.drew (h : BLay w B p b) : BLay w.drew B p b := h.next (below_drew (Below.refl _ _))
/-- Node i lies there. -/
theorem BLay.get (h : BLay w B p b) {i : Nat} (hi : i < b.L.length) : ∃ q, p.ps[i]? = some q ∧ b.L[i]? = some (b.L.getD i Nd.new) ∧ Lay w B q (b.L.getD i Nd.new) := by
  have hi' : i < p.ps.length := by rw [h.len]; exact hi
  have h1 : p.ps[i]? = some p.ps[i] := List.getElem?_eq_getElem hi'
  have h2 : b.L[i]? = some (b.L.getD i Nd.new) := by rw [List.getD, List.getElem?_eq_getElem hi]; rfl
  exact ⟨_, h1, h2, h.lay _ _ _ h1 h2⟩
theorem BLay.nv (h : BLay w B p b) : p.v.ownBlock ≠ some p.g := owns_ne h.row h.blk (by decide)
theorem BLay.ng (h : BLay w B p b) {q : NP} (hq : q ∈ p.ps) : ¬ q.fp p.g := by
  obtain ⟨i, hi, rfl⟩ := List.getElem_of_mem hq
  obtain ⟨q, h1, _, h3⟩ := h.get (i := i) (by rw [← h.len]; exact hi)
  rw [List.getElem?_eq_getElem hi] at h1
  injection h1 with h1
  subst h1
  exact h3.nblk h.blk (by decide) (by decide) (by decide) (by decide)
theorem BLay.nr (h : BLay w B p b) {q : NP} (hq : q ∈ p.ps) : ∀ k, p.v.ownBlock = some k → ¬ q.fp k := by
  obtain ⟨i, hi, rfl⟩ := List.getElem_of_mem hq
  obtain ⟨q, h1, _, h3⟩ := h.get (i := i) (by rw [← h.len]; exact hi)
  rw [List.getElem?_eq_getElem hi] at h1
  injection h1 with h1
  subst h1
  exact h3.typed h.row (by decide) (by decide) (by decide) (by decide)
/-- The row of pointers. -/
theorem BLay.sl (h : BLay w B p b) : ∃ A cap, p.v = .slice A b.L.length cap ∧ b.L.length ≤ cap ∧ ∀ (i : Nat) (q : NP), p.ps[i]? = some q → ∃ ad, A = some ad ∧ ad.block < w.heap.size ∧ w.cell? (ad.add i) = some q.ptr := by
  have hl := h.len
  rcases h.row.2 with ⟨e, h0⟩ | ⟨g, cap, cur, e, _, hh, hc, _⟩
  · refine ⟨none, 0, by rw [e, h0], by omega, fun i q hq => ?_⟩
    have := (List.getElem?_eq_some_iff.1 hq).1
    omega
  · exact ⟨_, cap, e, hc, fun i q hq => ⟨_, rfl, typed_lt hh, World.ownsRow.cells h.row (g := g) (by rw [e]; rfl) i _ (by rw [List.getElem?_map, hq]; rfl)⟩⟩
theorem BLay.fp_ge (h : BLay w B p b) (k : Nat) (hk : p.fp k) : B ≤ k := by
  rcases hk with rfl | hk | ⟨q, hq, hk⟩
  · exact h.at_
  · exact (World.ownsRow.lt h.row k hk).1
  · obtain ⟨i, hi, rfl⟩ := List.getElem_of_mem hq
    obtain ⟨q, h1, _, h3⟩ := h.get (i := i) (by rw [← h.len]; exact hi)
    rw [List.getElem?_eq_getElem hi] at h1
    injection h1 with h1
    subst h1
    exact h3.fp_ge k hk
theorem BLay.fp_lt (h : BLay w B p b) (k : Nat) (hk : p.fp k) : k < w.heap.size := by
  rcases hk with rfl | hk | ⟨q, hq, hk⟩
  · exact h.lt
  · exact (World.ownsRow.lt h.row k hk).2
  · obtain ⟨i, hi, rfl⟩ := List.getElem_of_mem hq
    obtain ⟨q, h1, _, h3⟩ := h.get (i := i) (by rw [← h.len]; exact hi)
    rw [List.getElem?_eq_getElem hi] at h1
    injection h1 with h1
    subst h1
    exact h3.fp_lt k hk
theorem BLay.below (h : BLay w B p b) {F : Nat → Prop} (hm : Moves p.fp F w w') : Below B w w' := hm.below h.fp_ge h.size
/-- One of the nodes was turned. -/
theorem BLay.node (h : BLay w B p b) {i : Nat} {q q' : NP} {n' : Nd} (hq : p.ps[i]? = some q) (hm : Moves q.fp q'.fp w w') (hg : q'.g = q.g) (hl : Lay w' B q' n') :
    BLay w' B { p with ps := p.ps.set i q' } { b with L := b.L.set i n' } ∧ Moves p.fp (BP.fp { p with ps := p.ps.set i q' }) w w' := by
  have hqm : q ∈ p.ps := List.mem_of_getElem? hq
  have hi : i < p.ps.length := (List.getElem?_eq_some_iff.1 hq).1
  have hmap : (p.ps.set i q').map NP.ptr = p.ps.map NP.ptr := by
    rw [List.map_set, show NP.ptr q' = NP.ptr q by unfold NP.ptr; rw [hg]]
    apply List.ext_getElem?
    intro j
    by_cases e : i = j
    · subst e
      rw [List.getElem?_set_self (by simpa using hi), List.getElem?_map, hq]; rfl
    · rw [List.getElem?_set_ne e]
  obtain ⟨b1, b2⟩ := hm.blk h.blk (h.ng hqm)
  obtain ⟨r1, r2⟩ := hm.owns h.row (h.nr hqm)
  have other : ∀ (j : Nat) (r : NP) (n : Nd), j ≠ i → p.ps[j]? = some r → b.L[j]? = some n → Lay w' B r n ∧ ∀ k, r.fp k → ¬ q'.fp k := fun j r n hne hr hn =>
    (h.lay j r n hr hn).apart hm (h.dis j i r q hr hq hne)
  have aft : ∀ (j : Nat) (r : NP), j ≠ i → p.ps[j]? = some r → ∀ k, r.fp k → ¬ q'.fp k := fun j r hne hr => by
    have hj := (List.getElem?_eq_some_iff.1 hr).1
    obtain ⟨_, _, h2, _⟩ := h.get (i := j) (by rw [← h.len]; exact hj)
    exact (other j r _ hne hr h2).2
  refine ⟨⟨b1, ?_, ?_, ?_, ?_, h.at_⟩, ?_⟩
  · show w'.ownsRow B 85 1 p.v (b.L.set i n').length ((p.ps.set i q').map NP.ptr)
    rw [hmap, List.length_set]; exact r1
  · show (p.ps.set i q').length = (b.L.set i n').length
    rw [List.length_set, List.length_set]; exact h.len
  · intro j r n hr hn
    have hr : (p.ps.set i q')[j]? = some r := hr
    have hn : (b.L.set i n')[j]? = some n := hn
    by_cases e : i = j
    · subst e
      rw [List.getElem?_set_self hi] at hr
      rw [List.getElem?_set_self (by rw [← h.len]; exact hi)] at hn
      injection hr with hr; injection hn with hn
      subst hr; subst hn
      exact hl
    · rw [List.getElem?_set_ne e] at hr hn
      exact (other j r n (Ne.symm e) hr hn).1
  · intro j k r s hr hs hne
    have hr : (p.ps.set i q')[j]? = some r := hr
    have hs : (p.ps.set i q')[k]? = some s := hs
    by_cases e : i = j
    · subst e
      rw [List.getElem?_set_self hi] at hr
      rw [List.getElem?_set_ne hne] at hs
      injection hr with hr
      subst hr
      exact Dis.symm (aft k s (Ne.symm hne) hs)
    · rw [List.getElem?_set_ne e] at hr
      by_cases e' : i = k
      · subst e'
        rw [List.getElem?_set_self hi] at hs
        injection hs with hs
        subst hs
        exact aft j r hne hr
      · rw [List.getElem?_set_ne e'] at hs
        exact h.dis j k r s hr hs hne
  · refine ⟨hm.os, hm.tape, hm.output, hm.size, fun k hk hn => hm.block k hk fun hf => hn (.inr (.inr ⟨q, hqm, hf⟩)), ?_⟩
    rintro k (hk | hk | ⟨r, hr, hk⟩)
    · exact .inl (.inl hk)
    · exact .inl (.inr (.inl hk))
    · rcases List.mem_or_eq_of_mem_set hr with hr | rfl
      · exact .inl (.inr (.inr ⟨r, hr, hk⟩))
      · exact (hm.new k hk).imp (fun hf => .inr (.inr ⟨q, hqm, hf⟩)) id
/-- Its own block alone was turned. -/
theorem BLay.turn (h : BLay w B p b) {t : Nat} (ho : Only p.g w w') (hb : w'.heap[p.g]? = some (.cells #[p.v, .int .i64 (t : Nat)] 84)) : BLay w' B p { b with t := t } ∧ Moves p.fp p.fp w w' := by
  have hm : Moves (fun k => k = p.g) (fun k => k = p.g) w w' := .only ho rfl
  refine ⟨⟨hb, (hm.owns h.row fun k hk e => h.nv (e ▸ hk)).1, h.len, fun i q n h1 h2 => ((h.lay i q n h1 h2).apart hm fun k hk e => h.ng (List.mem_of_getElem? h1) (e ▸ hk)).1, h.dis, h.at_⟩, .only ho (.inl rfl)⟩
end
end Go.Proofs.YtalpbnfebcafgaaGreat

/- Rows of structs of the call's own, whatever their type. -/
namespace Go.Proofs.YtalpbnfebcafgaaGreat
set_option maxRecDepth 20000
open Go.RowKit

/-- A type of elements: how one lies. -/
structure Elt (α : Type) where
  e : TypeId
  s : TypeId
  k : Nat
  c : α → List Value
  z : Value
  bytes : Nat
  len : ∀ x, (c x).length = k
  pos : 0 < k
  plain : ∀ x, ∀ u ∈ c x, u.oneCell' = true
  und : Tryz.prog.underlying s = some (.slice e)
  info : ∃ i, Tryz.prog.info? e = some i ∧ i.zero = some z ∧ i.size = k ∧ i.bytes = bytes
  zs : z.cells.size = k
  by_ : bytes ≤ 1000
section
variable {α : Type} {E : Elt α} {w w' : World} {B B' : Nat} {v : Value} {xs ys : List α}
def Elt.f (E : Elt α) (xs : List α) : List Value := xs.flatMap E.c
theorem Elt.f_nil (E : Elt α) : E.f [] = [] := rfl
theorem Elt.f_one (E : Elt α) (x : α) : E.f [x] = E.c x := by simp [Elt.f]
theorem Elt.f_cons (E : Elt α) (x : α) (xs : List α) : E.f (x :: xs) = E.c x ++ E.f xs := by simp [Elt.f]
theorem Elt.f_app (E : Elt α) (xs ys : List α) : E.f (xs ++ ys) = E.f xs ++ E.f ys := by simp [Elt.f]
theorem Elt.f_len (E : Elt α) : ∀ xs : List α, (E.f xs).length = xs.length * E.k
  | [] => by simp [Elt.f]
  | x :: xs => by rw [E.f_cons, List.length_append, E.len, E.f_len xs, List.length_cons, Nat.add_mul]; omega
theorem Elt.f_plain (E : Elt α) (xs : List α) : ∀ u ∈ E.f xs, u.oneCell' = true := by
  intro u hu
  obtain ⟨x, _, hx⟩ := List.mem_flatMap.1 hu
  exact E.plain x u hx
theorem Elt.f_get (E : Elt α) : ∀ (xs : List α) (j i : Nat) (x : α) (u : Value), xs[j]? = some x → (E.c x)[i]? = some u → (E.f xs)[j * E.k + i]? = some u
  | [], j, i, x, u, h, _ => by simp at h
  | y :: xs, 0, i, x, u, h, hu => by
    simp at h
    subst h
    rw [E.f_cons, Nat.zero_mul, Nat.zero_add, List.getElem?_append_left (List.getElem?_eq_some_iff.1 hu).1, hu]
  | y :: xs, j + 1, i, x, u, h, hu => by
    rw [List.getElem?_cons_succ] at h
    rw [E.f_cons, List.getElem?_append_right (by rw [E.len, Nat.add_mul]; omega), E.len, show (j + 1) * E.k + i - E.k = j * E.k + i by rw [Nat.add_mul]; omega]
    exact E.f_get xs j i x u h hu
/-- The slice value v is the call's own row of such. -/
def Gown (E : Elt α) (w : World) (base : Nat) (v : Value) (xs : List α) : Prop := w.ownsRow base E.e E.k v xs.length (E.f xs)
theorem Gown.nil (E : Elt α) (w : World) (B : Nat) : Gown E w B (.slice none 0 0) [] := World.ownsRow_nil _ _ _ _
theorem Gown.below (h : Gown E w B v xs) (hb : Below w.heap.size w w') : Gown E w' B v xs := owns_move h fun k hk => hb.block k (World.ownsRow.lt h k hk).2
theorem Gown.base (h : Gown E w B v xs) (hB : B' ≤ B) : Gown E w B' v xs := by
  refine ⟨h.1, ?_⟩
  rcases h.2 with hn | ⟨g, cap, cur, rfl, hbg, rest⟩
  · exact .inl hn
  · exact .inr ⟨g, cap, cur, rfl, Nat.le_trans hB hbg, rest⟩
theorem Gown.len (h : Gown E w B v xs) : ∃ A cap, v = .slice A xs.length cap ∧ xs.length ≤ cap := by
  rcases h.2 with ⟨rfl, h0⟩ | ⟨g, cap, cur, rfl, _, _, hnc, _⟩
  · exact ⟨none, 0, by rw [h0], by omega⟩
  · exact ⟨_, cap, rfl, hnc⟩
theorem Gown.moves {F F' : Nat → Prop} (h : Gown E w B v xs) (hm : Moves F F' w w') (ha : ∀ k, v.ownBlock = some k → ¬ F k) : Gown E w' B v xs ∧ ∀ k, v.ownBlock = some k → ¬ F' k := hm.owns h ha
theorem Gown.lit (E : Elt α) (w : World) (B : Nat) (xs : List α) (hB : B ≤ w.heap.size) (hl : xs.length ≤ 1000000) : Gown E (w.alloc (.cells (E.f xs).toArray E.e)) B (.slice (some ⟨w.heap.size, 0, none⟩) xs.length xs.length) xs := by
  refine ⟨by rw [E.f_len], .inr ⟨w.heap.size, xs.length, _, rfl, hB, heap_alloc_new w _, Nat.le_refl _, by unfold maxLen; omega, by simp [E.f_len], by simp [List.take_of_length_le, E.f_len]⟩⟩
/-- A slice value holds such, one behind the other. -/
def Gs (E : Elt α) (w : World) (A : Option Addr) (m : Nat) (xs : List α) : Prop := xs.length = m ∧ (0 < m → ∃ ad, A = some ad ∧ ad.block < w.heap.size ∧ ∀ j u, (E.f xs)[j]? = some u → w.cell? (ad.add j) = some u)
theorem Gown.gs {A : Option Addr} {n c : Nat} (h : Gown E w B (.slice A n c) xs) : Gs E w A xs.length xs := by
  refine ⟨rfl, fun hn => ?_⟩
  rcases h.2 with ⟨_, h0⟩ | ⟨g, cap, cur, e, _, hh, _⟩
  · omega
  · injection e with e1 e2 e3
    subst e1
    exact ⟨_, rfl, typed_lt hh, fun j u hu => World.ownsRow.cells h (g := g) rfl j u hu⟩
theorem Gs.below {A : Option Addr} {m : Nat} (h : Gs E w A m xs) (hb : Below w.heap.size w w') : Gs E w' A m xs := by
  refine ⟨h.1, fun hm => ?_⟩
  obtain ⟨ad, e, hl, hc⟩ := h.2 hm
  exact ⟨ad, e, Nat.lt_of_lt_of_le hl hb.size, fun j u hu => (hb.cell (by rw [block_of_add]; exact hl)).trans (hc j u hu)⟩
theorem Gs.at_ {A : Option Addr} {m i : Nat} {x : α} (h : Gs E w A m xs) (hi : xs[i]? = some x) : ∃ ad, A = some ad ∧ ad.block < w.heap.size ∧ ∀ c u, (E.c x)[c]? = some u → w.cell? ((ad.add (i * E.k)).add c) = some u := by
  have hl := (List.getElem?_eq_some_iff.1 hi).1
  obtain ⟨ad, e, hb, hc⟩ := h.2 (by rw [← h.1]; omega)
  exact ⟨ad, e, hb, fun c u hu => by rw [add_add]; exact hc _ u (E.f_get xs i c x u hi hu)⟩
theorem append_runE11 (E : Elt α) (w : World) (ty : TypeId) (base : Nat) (v : Value) (gs : List α) (hown : Gown E w base v gs) (A : Option Addr) (m c : Nat) (hs : List α) (hr : Gs E w A m hs) (hlen : gs.length + m ≤ 1000000) (hbase : base ≤ w.heap.size) :
    ∃ v' w', (Builtin.append_ #[E.s, E.s] ty #[v, .slice A m c]).run Tryz.prog w = .ok v' w' ∧ Gown E w' base v' (gs ++ hs) ∧ w.grownBy w' v.ownBlock ∧ Lies w v v' := by
  obtain ⟨i, hi, hz, hsz, hb⟩ := E.info
  unfold Gown
  rw [List.length_append, E.f_app, hr.1]
  rcases A with _ | ad
  · have h0 : m = 0 := by
      rcases Nat.eq_zero_or_pos m with h | h
      · exact h
      · obtain ⟨ad, e, _⟩ := hr.2 h; cases e
    subst h0
    have hy : hs = [] := List.eq_nil_of_length_eq_zero hr.1
    subst hy
    exact ⟨v, w, append_runG0 w E.und hi base v _ _ hown c, by rw [E.f_nil, List.append_nil, Nat.add_zero]; exact hown, World.grownBy.refl w _, .inl rfl⟩
  · refine append_runG w E.und hi hz hsz hb E.zs E.pos base v _ _ hown ad m c (E.f hs) (by rw [E.f_len, hr.1]) ?_ (E.f_plain hs) hlen E.by_ hbase
    intro j u hu
    have hm : 0 < m := by
      rcases Nat.eq_zero_or_pos m with h | h
      · have hy : hs = [] := List.eq_nil_of_length_eq_zero (by rw [hr.1, h])
        subst hy
        simp [Elt.f] at hu
      · exact h
    obtain ⟨ad', e, _, hc⟩ := hr.2 hm
    injection e with e
    subst e
    exact hc j u hu
theorem append_E11 (E : Elt α) (w : World) {ops : Array Oper} {rest : List Oper} {o : Oper} {a : Act} {Q : Exit → Act → World → Prop} (hgd : Region.wanted o (yielded ops a.tmps) = true) (s x : Operand)
    (ho : o.op = .call { callee := .builtin .append, args := #[s, x], argTypes := #[E.s, E.s] })
    (base : Nat) (v : Value) (gs : List α) (hs : a.eval s = v) (hown : Gown E w base v gs) (A : Option Addr) (m c : Nat) (ys : List α) (hx : a.eval x = .slice A m c) (hr : Gs E w A m ys)
    (hlen : gs.length + m ≤ 1000000) (hbase : base ≤ w.heap.size)
    (h : ∀ v' w', Gown E w' base v' (gs ++ ys) → w.grownBy w' v.ownBlock → Lies w v v' → wpList Tryz.prog ops Q rest (a.put o.dst v') w') : wpList Tryz.prog ops Q (o :: rest) a w :=
  BigFrame.wpList_want hgd fun _ hK => by
    obtain ⟨v', w', hrun, h1, h2, h3⟩ := append_runE11 E w o.type base v gs hown A m c ys hr hlen hbase
    unfold Oper.wp execOp
    simp only [ho, resolve, invoke, builtin, Sem.run_bind, Sem.run_pure, Result.andThen_ok, List.map_toArray, List.map_cons, List.map_nil, hs, hx, hrun]
    exact hK _ _ (h v' w' h1 h2 h3)
/-- Rows of a type that a bus has not lie apart from it. -/
theorem BLay.typed {p : BP} {b : Bs} {m size : Nat} {e : TypeId} {u : Value} {us : List Value} (h : BLay w B p b) (ho : w.ownsRow B' e size u m us) (h1 : 109 ≠ e) (h2 : 130 ≠ e) (h3 : 3 ≠ e) (h4 : 31 ≠ e) (h5 : 84 ≠ e) (h6 : 85 ≠ e) :
    ∀ k, u.ownBlock = some k → ¬ p.fp k := by
  rintro k hk (rfl | hf | ⟨q, hq, hf⟩)
  · exact owns_ne ho h.blk h5 hk
  · rcases h.row.2 with ⟨e0, _⟩ | ⟨b, cap, cur, e0, _, hh, _⟩
    · rw [e0] at hf; cases hf
    · rw [e0] at hf; injection hf with hf; have hf : b = k := hf; subst hf; exact owns_ne ho hh h6 hk
  · obtain ⟨i, hi, rfl⟩ := List.getElem_of_mem hq
    obtain ⟨q, g1, _, g3⟩ := h.get (i := i) (by rw [← h.len]; exact hi)
    rw [List.getElem?_eq_getElem hi] at g1
    injection g1 with g1
    subst g1
    exact g3.typed ho h1 h2 h3 h4 k hk hf
end
/-- The block of a row. -/
def own11 (v : Value) (k : Nat) : Prop := v.ownBlock = some k
section
variable {w w' : World} {B : Nat} {F F' : Nat → Prop}
theorem Moves.beside (h : Moves F F' w w') (G : Nat → Prop) : Moves (fun k => F k ∨ G k) (fun k => F' k ∨ G k) w w' :=
  ⟨h.os, h.tape, h.output, h.size, fun k hk hn => h.block k hk fun hf => hn (.inl hf), fun k hk => hk.elim (fun hf => (h.new k hf).imp .inl id) fun hg => .inl (.inr hg)⟩
theorem Moves.beside' (h : Moves F F' w w') (G : Nat → Prop) : Moves (fun k => G k ∨ F k) (fun k => G k ∨ F' k) w w' :=
  ⟨h.os, h.tape, h.output, h.size, fun k hk hn => h.block k hk fun hf => hn (.inr hf), fun k hk => hk.elim (fun hg => .inl (.inl hg)) fun hf => (h.new k hf).imp .inr id⟩
theorem Moves.row {v v' : Value} (hg : w.grownBy w' v.ownBlock) (hl : Lies w v v') : Moves (own11 v) (own11 v') w w' := by
  refine ⟨hg.os, hg.tape, hg.output, hg.size, fun k hk hn => hg.block k hk fun e => hn e.symm, fun k hk => ?_⟩
  rcases hl with e | e
  · exact .inl (e.symm.trans hk)
  · refine .inr ?_
    unfold own11 at hk
    rw [e] at hk
    injection hk with hk
    omega
theorem BLay.apart {p : BP} {b : Bs} (h : BLay w B p b) (hm : Moves F F' w w') (hF : ∀ k, p.fp k → ¬ F k) : BLay w' B p b ∧ ∀ k, p.fp k → ¬ F' k := by
  obtain ⟨b1, b2⟩ := hm.blk h.blk (hF _ (.inl rfl))
  obtain ⟨r1, r2⟩ := hm.owns h.row fun k hk => hF k (.inr (.inl hk))
  have node : ∀ (i : Nat) (q : NP) (n : Nd), p.ps[i]? = some q → b.L[i]? = some n → Lay w' B q n ∧ ∀ k, q.fp k → ¬ F' k := fun i q n h1 h2 =>
    (h.lay i q n h1 h2).apart hm fun k hk => hF k (.inr (.inr ⟨q, List.mem_of_getElem? h1, hk⟩))
  refine ⟨⟨b1, r1, h.len, fun i q n h1 h2 => (node i q n h1 h2).1, h.dis, h.at_⟩, ?_⟩
  rintro k (rfl | hk | ⟨q, hq, hk⟩)
  · exact b2
  · exact r2 k hk
  · obtain ⟨i, hi, rfl⟩ := List.getElem_of_mem hq
    obtain ⟨q, g1, g2, _⟩ := h.get (i := i) (by rw [← h.len]; exact hi)
    rw [List.getElem?_eq_getElem hi] at g1
    injection g1 with g1
    subst g1
    exact (node i _ _ (List.getElem?_eq_getElem hi) g2).2 k hk
end
/-- An event's cells. -/
abbrev becs (e : Be) : List Value := [.int .i64 (e.1 : Nat), .int .i64 (e.2.1 : Nat), .int .i64 e.2.2.1, .int .i64 e.2.2.2.id, .bool e.2.2.2.ext, .bool e.2.2.2.rtr, .int .i64 e.2.2.2.len, .int .u8 (e.2.2.2.d 0), .int .u8 (e.2.2.2.d 1), .int .u8 (e.2.2.2.d 2), .int .u8 (e.2.2.2.d 3), .int .u8 (e.2.2.2.d 4), .int .u8 (e.2.2.2.d 5), .int .u8 (e.2.2.2.d 6), .int .u8 (e.2.2.2.d 7)]
def evT : Elt Be where
  e := 41
  s := 37
  k := 15
  c := becs
  z := evV (0, Fr.zero)
  bytes := 56
  len := fun _ => rfl
  pos := by decide
  plain := by
    intro x u hu
    simp only [List.mem_cons, List.not_mem_nil, or_false] at hu
    rcases hu with rfl | rfl | rfl | rfl | rfl | rfl | rfl | rfl | rfl | rfl | rfl | rfl | rfl | rfl | rfl <;> rfl
  und := Tryz.underlying37
  info := infoE
  zs := rfl
  by_ := by decide
/-- A run's cells. -/
abbrev rncs (r : Rn) : List Value := [.int .i64 r.n, .int .i64 r.b, .int .u32 (r.d : Nat)]
theorem infoR : ∃ i, Tryz.prog.info? 50 = some i ∧ i.zero = some (.agg #[.int .i64 0, .int .i64 0, .int .u32 0]) ∧ i.size = 3 ∧ i.bytes = 24 := info_parts (by kernel_rfl)
def rnT : Elt Rn where
  e := 50
  s := 36
  k := 3
  c := rncs
  z := .agg #[.int .i64 0, .int .i64 0, .int .u32 0]
  bytes := 24
  len := fun _ => rfl
  pos := by decide
  plain := by
    intro x u hu
    simp only [List.mem_cons, List.not_mem_nil, or_false] at hu
    rcases hu with rfl | rfl | rfl <;> rfl
  und := Tryz.underlying36
  info := infoR
  zs := rfl
  by_ := by decide
/-- An act's cells. -/
abbrev accs (a : Ac) : List Value := [.int .i64 a.t, .int .i64 a.n, .bool a.ft, .int .i64 a.f.id, .bool a.f.ext, .bool a.f.rtr, .int .i64 a.f.len, .int .u8 (a.f.d 0), .int .u8 (a.f.d 1), .int .u8 (a.f.d 2), .int .u8 (a.f.d 3), .int .u8 (a.f.d 4), .int .u8 (a.f.d 5), .int .u8 (a.f.d 6), .int .u8 (a.f.d 7)]
theorem infoA : ∃ i, Tryz.prog.info? 35 = some i ∧ i.zero = some (.agg (accs ⟨0, 0, false, Fr.zero⟩).toArray) ∧ i.size = 15 ∧ i.bytes = 56 := info_parts (by kernel_rfl)
def acT : Elt Ac where
  e := 35
  s := 25
  k := 15
  c := accs
  z := .agg (accs ⟨0, 0, false, Fr.zero⟩).toArray
  bytes := 56
  len := fun _ => rfl
  pos := by decide
  plain := by
    intro x u hu
    simp only [List.mem_cons, List.not_mem_nil, or_false] at hu
    rcases hu with rfl | rfl | rfl | rfl | rfl | rfl | rfl | rfl | rfl | rfl | rfl | rfl | rfl | rfl | rfl <;> rfl
  und := Tryz.underlying25
  info := infoA
  zs := rfl
  by_ := by decide
end Go.Proofs.YtalpbnfebcafgaaGreat

/- A map from ticks to rows of acts. -/
namespace Go.Proofs.YtalpbnfebcafgaaGreat
set_option maxRecDepth 20000
open Go.RowKit Go.Maps

/-- An element of the map, as it stands. -/
def heldR (v : Value) : Option (DataW Value × List MemPlace) := some (.held v, [])
/-- Block g is a map of at most n entries, that holds f t at t. -/
def Mp (w : World) (g n : Nat) (f : Int → Value) : Prop :=
  ∃ D, w.ownsMap (H := Value) Tryz.prog 3 heldR g n D ∧ IsMap D ∧ ∀ t, (Lit.int .i64 t).wf = true → D.atKey (.int .i64 t) (.held (.slice none 0 0)) = .held (f t)
theorem keyed3 : Keyed Tryz.prog 3 := int_keyed Tryz.underlying3
theorem zeroM (w : World) : (zeroValue 25).run Tryz.prog w = .ok (.slice none 0 0) w := by kernel_rfl
section
variable {w w' : World} {g n : Nat} {f : Int → Value}
theorem Mp.made (w : World) : Mp (w.alloc (.map #[] 0)) w.heap.size 0 (fun _ => .slice none 0 0) :=
  ⟨.map [], World.ownsMap_made w _ _ _, isMap_empty, fun _ _ => rfl⟩
theorem Mp.lt (h : Mp w g n f) : g < w.heap.size := by obtain ⟨D, h, _⟩ := h; exact h.lt
theorem Mp.obj (h : Mp w g n f) : ∃ es c, w.heap[g]? = some (.map es c) := by obtain ⟨D, ⟨es, c, h, _⟩, _⟩ := h; exact ⟨es, c, h⟩
theorem Mp.move (h : Mp w g n f) (hk : w'.heap[g]? = w.heap[g]?) : Mp w' g n f := by
  obtain ⟨D, ⟨es, c, h1, h2⟩, h3⟩ := h
  exact ⟨D, ⟨es, c, hk.trans h1, h2⟩, h3⟩
theorem Mp.below (h : Mp w g n f) (hb : Below w.heap.size w w') : Mp w' g n f := h.move (hb.block _ h.lt)
theorem Mp.look (h : Mp w g n f) {t : Int} (ht : (Lit.int .i64 t).wf = true) : (Instr.lookup 77 (.map (some g)) (.int .i64 t) false).run Tryz.prog w = .ok (f t) w := by
  obtain ⟨D, h1, _, h3⟩ := h
  obtain ⟨v, ps, hr, hv⟩ := h1.lookup keyed3 Tryz.underlying77 (zeroM w) (zd := .held (.slice none 0 0)) (zp := []) rfl (keyOf_int_mk Tryz.underlying3 ht)
  rw [h3 t ht] at hv
  injection hv with hv
  injection hv with hv _
  injection hv with hv
  rw [hr, hv]
theorem Mp.put (h : Mp w g n f) (hn : n < 1000000) {t : Int} (ht : (Lit.int .i64 t).wf = true) (u : Value) :
    ∃ w', (Instr.mapUpdate 77 (.map (some g)) (.int .i64 t) u).run Tryz.prog w = .ok () w' ∧ Mp w' g (n + 1) (fun s => if s = t then u else f s) ∧ w.grownBy w' (some g) := by
  obtain ⟨D, h1, hm, h3⟩ := h
  obtain ⟨w', hr, h4, h5⟩ := h1.update keyed3 Tryz.underlying77 (by unfold maxLen; omega) (keyOf_int_mk Tryz.underlying3 ht) (val := u) (d := .held u) (ps := []) rfl
  refine ⟨w', hr, ⟨_, h4, hm.put _ _, fun s hs => ?_⟩, h5⟩
  show _ = DataW.held (if s = t then u else f s)
  by_cases e : s = t
  · subst e
    rw [if_pos rfl]
    exact atKey_put_same hm (keyed3.key (keyOf_int_mk Tryz.underlying3 ht)) _ _
  · rw [if_neg e, atKey_put_other (fun e' => e (by injection e')) _ _]
    exact h3 s hs
end
/-- The acts of a tick. -/
def atI (l : List Ac) (t : Int) : List Ac := l.filter fun a => a.t == t
theorem atI_nat (l : List Ac) (k : Nat) : atI l (k : Int) = atT l k := rfl
/-- Block g is the map of acts by their ticks; its rows lie apart. -/
structure Amp (w : World) (B g : Nat) (l : List Ac) (f : Int → Value) : Prop where
  mp : Mp w g l.length f
  own : ∀ t, Gown acT w B (f t) (atI l t)
  sep : ∀ s t k, s ≠ t → (f s).ownBlock = some k → (f t).ownBlock ≠ some k
  at_ : B ≤ g
section
variable {w w' : World} {B g : Nat} {l : List Ac} {f : Int → Value} {F F' : Nat → Prop}
/-- The blocks of a map. -/
def amF (g : Nat) (f : Int → Value) (k : Nat) : Prop := k = g ∨ ∃ t, (f t).ownBlock = some k
theorem Amp.move (h : Amp w B g l f) (hk : ∀ k, amF g f k → w'.heap[k]? = w.heap[k]?) : Amp w' B g l f :=
  ⟨h.mp.move (hk _ (.inl rfl)), fun t => owns_move (h.own t) fun k hb => hk k (.inr ⟨t, hb⟩), h.sep, h.at_⟩
theorem Amp.fp_lt (h : Amp w B g l f) (k : Nat) (hk : amF g f k) : k < w.heap.size := by
  rcases hk with rfl | ⟨t, hk⟩
  · exact h.mp.lt
  · exact (World.ownsRow.lt (h.own t) k hk).2
theorem Amp.below (h : Amp w B g l f) (hb : Below w.heap.size w w') : Amp w' B g l f := h.move fun k hk => hb.block k (h.fp_lt k hk)
theorem Amp.apart (h : Amp w B g l f) (hm : Moves F F' w w') (hF : ∀ k, amF g f k → ¬ F k) : Amp w' B g l f ∧ ∀ k, amF g f k → ¬ F' k := by
  refine ⟨h.move fun k hk => hm.block k (h.fp_lt k hk) (hF k hk), fun k hk hf => ?_⟩
  rcases hm.new k hf with h1 | h1
  · exact hF k hk h1
  · have := h.fp_lt k hk; omega
theorem Amp.nbus {p : BP} {b : Bs} {B' : Nat} (h : Amp w B g l f) (hl : BLay w B' p b) : ∀ k, amF g f k → ¬ p.fp k := by
  rintro k (rfl | ⟨t, hk⟩)
  · obtain ⟨es, c, ho⟩ := h.mp.obj
    rintro (e | hf | ⟨q, hq, hf⟩)
    · rw [e, hl.blk] at ho; cases ho
    · rcases hl.row.2 with ⟨e0, _⟩ | ⟨b, cap, cur, e0, _, hh, _⟩
      · rw [e0] at hf; cases hf
      · rw [e0] at hf; injection hf with hf; have hf : b = k := hf; subst hf; rw [hh] at ho; cases ho
    · obtain ⟨i, hi, rfl⟩ := List.getElem_of_mem hq
      obtain ⟨q, g1, _, g3⟩ := hl.get (i := i) (by rw [← hl.len]; exact hi)
      rw [List.getElem?_eq_getElem hi] at g1
      injection g1 with g1
      subst g1
      have row : ∀ {n size : Nat} {e : TypeId} {v : Value} {xs : List Value}, w.ownsRow B' e size v n xs → v.ownBlock ≠ some k := fun hw hv => by
        rcases hw.2 with ⟨e0, _⟩ | ⟨b, cap, cur, e0, _, hh, _⟩
        · rw [e0] at hv; cases hv
        · rw [e0] at hv; injection hv with hv; have hv : b = k := hv; subst hv; rw [hh] at ho; cases ho
      rcases hf with e | e | e | e | e
      · rw [e, g3.blk] at ho; cases ho
      · have hq := g3.que.q
        unfold Qb at hq
        rw [e, hq] at ho; cases ho
      · exact row g3.own e
      · exact row g3.lev e
      · exact row g3.que.own e
  · exact hl.typed (h.own t) (by decide) (by decide) (by decide) (by decide) (by decide) (by decide) k hk
/-- Behind an act more. -/
theorem Amp.next {w2 w3 : World} {a : Ac} {u : Value} (h : Amp w B g l f) (hl : l.length < 1000000) (ht : (Lit.int .i64 a.t).wf = true) (hb : Below w.heap.size w w2) (hg : w2.grownBy w3 (f a.t).ownBlock) (hL : Lies w2 (f a.t) u) (hu : Gown acT w3 B u (atI l a.t ++ [a])) :
    ∃ w4, (Instr.mapUpdate 77 (.map (some g)) (.int .i64 a.t) u).run Tryz.prog w3 = .ok () w4 ∧ Amp w4 B g (l ++ [a]) (fun s => if s = a.t then u else f s) ∧ w3.grownBy w4 (some g) := by
  have hgm : ∀ t, (f t).ownBlock ≠ some g := fun t e => by
    obtain ⟨es, c, ho⟩ := h.mp.obj
    rcases (h.own t).2 with ⟨e0, _⟩ | ⟨b, cap, cur, e0, _, hh, _⟩
    · rw [e0] at e; cases e
    · rw [e0] at e; injection e with e; have e : b = g := e; subst e; rw [hh] at ho; cases ho
  have h2 := h.below hb
  have hm3 : Mp w3 g l.length f := h2.mp.move (hg.block g h2.mp.lt fun e => hgm _ e.symm)
  obtain ⟨w4, hr, h4, h5⟩ := hm3.put hl ht u
  have hug : u.ownBlock ≠ some g := fun e => by
    obtain ⟨es, c, ho⟩ := hm3.obj
    rcases hu.2 with ⟨e0, _⟩ | ⟨b, cap, cur, e0, _, hh, _⟩
    · rw [e0] at e; cases e
    · rw [e0] at e; injection e with e; have e : b = g := e; subst e; rw [hh] at ho; cases ho
  have hun : ∀ s k, s ≠ a.t → (f s).ownBlock = some k → u.ownBlock ≠ some k := fun s k hs hk e => by
    rcases hL with e1 | e1
    · exact h.sep s a.t k hs hk (e1 ▸ e)
    · rw [e1] at e
      injection e with e
      have := (World.ownsRow.lt (h2.own s) k hk).2
      omega
  refine ⟨w4, hr, ⟨by rw [List.length_append]; exact h4, fun t => ?_, fun s t k hst hs ht' => ?_, h.at_⟩, h5⟩
  · by_cases e : t = a.t
    · subst e
      rw [if_pos rfl, show atI (l ++ [a]) a.t = atI l a.t ++ [a] by unfold atI; simp]
      exact owns_move hu fun k hk => h5.block k (World.ownsRow.lt hu k hk).2 (fun e => hug (hk.trans e))
    · rw [if_neg e, show atI (l ++ [a]) t = atI l t by unfold atI; simp [Ne.symm e]]
      refine owns_move (h2.own t) fun k hk => ?_
      have hlt := (World.ownsRow.lt (h2.own t) k hk).2
      refine (h5.block k (Nat.lt_of_lt_of_le hlt hg.size) fun e' => hgm t (hk.trans e')).trans (hg.block k hlt fun e' => ?_)
      exact h.sep t a.t k e hk e'.symm
  · by_cases e : s = a.t
    · rw [if_pos e] at hs
      by_cases e' : t = a.t
      · exact hst (e.trans e'.symm)
      · rw [if_neg e'] at ht'
        exact hun t k e' ht' hs
    · rw [if_neg e] at hs
      by_cases e' : t = a.t
      · rw [if_pos e'] at ht'
        exact hun s k e hs ht'
      · rw [if_neg e'] at ht'
        exact h.sep s t k hst hs ht'
end
end Go.Proofs.YtalpbnfebcafgaaGreat

/- Looks and events that are the same. -/
namespace Go.Proofs.YtalpbnfebcafgaaGreat
set_option maxRecDepth 20000
open Go.RowKit
set_option linter.unusedSimpArgs false

theorem lkeqA (m t r l : Int) (x o : Bool) (w : World) : (Op.equalIn 10000 56 (.agg #[.int .i64 m, .bool x, .int .i64 t, .int .i64 r, .bool o, .int .i64 l]) (.agg #[.int .i64 m, .bool x, .int .i64 t, .int .i64 r, .bool o, .int .i64 l])).run Tryz.prog w = .ok true w := by
  go_simp
theorem lkneqA (m t r l : Int) (x o : Bool) (w : World) : (binOp .neq 56 (.agg #[.int .i64 m, .bool x, .int .i64 t, .int .i64 r, .bool o, .int .i64 l]) (.agg #[.int .i64 m, .bool x, .int .i64 t, .int .i64 r, .bool o, .int .i64 l])).run Tryz.prog w = .ok (.bool false) w := by
  rw [run_neq_struct, lkeqA]; rfl
theorem eq33 (a0 a1 a2 a3 a4 a5 a6 a7 : Int) (w : World) : (Op.equalIn 9998 29 (.agg #[.int .u8 a0, .int .u8 a1, .int .u8 a2, .int .u8 a3, .int .u8 a4, .int .u8 a5, .int .u8 a6, .int .u8 a7]) (.agg #[.int .u8 a0, .int .u8 a1, .int .u8 a2, .int .u8 a3, .int .u8 a4, .int .u8 a5, .int .u8 a6, .int .u8 a7])).run Tryz.prog w = .ok true w := by
  have := eq_array w 9996 [a0, a1, a2, a3, a4, a5, a6, a7] [a0, a1, a2, a3, a4, a5, a6, a7] rfl rfl
  simpa using this
theorem eveqIn (e : Ev) (w : World) : (Op.equalIn 10000 41 (evV e) (evV e)).run Tryz.prog w = .ok true w := by
  have h33 := eq33
  go_simp
theorem evneq (e : Ev) (w : World) : (binOp .neq 41 (evV e) (evV e)).run Tryz.prog w = .ok (.bool false) w := by
  rw [run_neq_struct, eveqIn]; rfl
end Go.Proofs.YtalpbnfebcafgaaGreat

