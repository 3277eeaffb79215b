/- The contract of field's Frame, whole; and of the closure that puts levels. -/
import Derived.Test.YtalpbnfebcafgaaGreatFg
namespace Go.Proofs.YtalpbnfebcafgaaGreat
set_option maxRecDepth 20000
open Go.RowKit

set_option maxHeartbeats 800000 in
theorem frame_form (ad : Addr) (n cap : Nat) (zs : List Int) (w : World) (hr : Il w (some ad) n zs) (hn : n ≤ 100000) (hcap : n ≤ cap) (hl : ∀ z ∈ zs, lvl z = true)
    (h1 : hEnd (hEx zs) ≤ n) (h2 : ahead zs ≤ n) (h0 : one zs 0 = true) :
    Calls Tryz.prog 135 #[.slice (some ad) n cap] w fun e w' => e = .returned (.tuple #[Fr.zero.val, .int .i64 11]) ∧ Below w.heap.size w w' := by
  have HR := Lib.hid hr; have HL := Lib.hid hl; have HZ := Lib.hid hr.1
  have hpos : 0 < hEnd (hEx zs) := by cases hEx zs <;> decide
  obtain ⟨ad', z, e, hz, hc0⟩ := hr.at_ (show 0 < n by omega)
  injection e with e
  subst e
  have hz01 : z = 1 := by rw [one_at hz] at h0; simpa using h0
  subst hz01
  rw [at_zero] at hc0
  have HC0 := Lib.hid hc0
  have HAO := Lib.hid (show aout zs = .tuple #[.int .i64 (ahead zs : Nat), .int .i64 0] by unfold aout; rw [if_neg (by rw [HZ.out]; omega)])
  have hle := ahead_le zs
  obtain ⟨q, hq⟩ : ∃ q, ahead zs = q := ⟨_, rfl⟩
  rw [hq] at h2 HAO hle
  have hn0 : 0 < n := by omega
  clear hr hl h0 hz hc0 hq hpos
  have A0 := Lib.hid (fb_new w Fr.zero)
  go_enter Tryz.func135, Tryz.ntmps135
  go_wp2_with fail
  refine (ahead_any _ _ _ _ _ (HR.out.below ((Below.refl _ _).alloc (Nat.le_refl _) _)) hn hcap HL.out).mono ?_
  rintro e w1 ⟨rfl, hb1⟩
  rw [HAO.out]
  have hbw1 := nxt ((Below.refl w.heap.size w).alloc (Nat.le_refl _) (.cells Fr.zero.cells 31)) hb1
  have B0 := A0.out.below hb1 (by simp)
  have hc1 : w1.cell? ad = some (.int .i64 1) := (hbw1.cell (by obtain ⟨a, e, hl, _⟩ := HR.out.2 (by omega); injection e with e; subst e; exact hl)).trans HC0.out
  have HB1 := Lib.hid hbw1
  have fz := fun i => B0.frozen i
  obtain ⟨c0, c1, c2, c3, c4, c5, c6, c7, c8, c9, c10, c11⟩ := B0.bx
  clear hb1 A0 B0 hbw1
  go_wp2
  refine bodyPost_ret (v := .tuple #[Fr.zero.val, .int .i64 11]) (by rw [results_cell_tmp rfl]; go_simp; decide) rfl ⟨rfl, ?_⟩
  exact set12 HB1.out (Nat.le_refl _) _ _ _ _ _ _ _ _ _ _ _ _

theorem frame_any (A : Option Addr) (n cap : Nat) (zs : List Int) (w : World) (hr : Il w A n zs) (hn : n ≤ 100000) (hcap : n ≤ cap) (hl : ∀ z ∈ zs, lvl z = true) :
    Calls Tryz.prog 135 #[.slice A n cap] w fun e w' => e = .returned (fout zs) ∧ Below w.heap.size w w' := by
  unfold fout
  by_cases hs : zs.length < hEnd (hEx zs) ∨ zs.length < ahead zs
  · rw [if_pos hs]; exact frame_short A n cap zs w hr hn hcap hl hs
  · rw [if_neg hs]
    have hz := hr.1
    have h1 : hEnd (hEx zs) ≤ n := by omega
    have h2 : ahead zs ≤ n := by omega
    have hpos : 0 < hEnd (hEx zs) := by cases hEx zs <;> decide
    obtain ⟨ad, rfl, _⟩ := hr.2 (by omega)
    cases h0 : one zs 0
    · simp only [Bool.false_eq_true, if_false]
      cases hx : one zs 13
      · have e : hEx zs = false := hx
        rw [e] at h1
        exact frame_false ad n cap zs w hr hn hcap hl hx h1 h2 h0
      · have e : hEx zs = true := hx
        rw [e] at h1
        exact frame_true ad n cap zs w hr hn hcap hl hx h1 h2 h0
    · simp only [if_true]
      exact frame_form ad n cap zs w hr hn hcap hl h1 h2 h0

/-- The variable of levels in block gl, behind the closure's own in block g1: it holds the row zs. -/
structure PutSt (w : World) (base gl g1 : Nat) (v : Value) (zs : List Int) : Prop where
  cl : w.cell? ⟨gl, 0, none⟩ = some v
  fl : w.frozen? ⟨gl, 0, none⟩ = false
  c1 : w.cell? ⟨g1, 0, none⟩ = some (.pointer (some ⟨gl, 0, none⟩))
  own : Own w base v zs
  nl : v.ownBlock ≠ some gl
  n1 : v.ownBlock ≠ some g1
  ne : gl ≠ g1
  hb : base ≤ gl
  lt : gl < w.heap.size
  lt1 : g1 < w.heap.size
/-- A block that a put leaves alone. -/
structure Safe (w : World) (gl : Nat) (v : Value) (b : Nat) : Prop where
  lt : b < w.heap.size
  ne : b ≠ gl
  no : v.ownBlock ≠ some b
theorem PutSt.below {w w' : World} {base gl g1 : Nat} {v : Value} {zs : List Int} (h : PutSt w base gl g1 v zs) (hb : Below w.heap.size w w') : PutSt w' base gl g1 v zs where
  cl := (hb.cell (p := ⟨gl, 0, none⟩) h.lt).trans h.cl
  fl := by
    have := h.fl
    have e := hb.block gl h.lt
    unfold World.frozen? at this ⊢
    simp only [e]; exact this
  c1 := (hb.cell (p := ⟨g1, 0, none⟩) h.lt1).trans h.c1
  own := h.own.below hb
  nl := h.nl
  n1 := h.n1
  ne := h.ne
  hb := h.hb
  lt := Nat.lt_of_lt_of_le h.lt hb.size
  lt1 := Nat.lt_of_lt_of_le h.lt1 hb.size
theorem Safe.below {w w' : World} {gl b : Nat} {v : Value} (h : Safe w gl v b) (hb : Below w.heap.size w w') : Safe w' gl v b := ⟨Nat.lt_of_lt_of_le h.lt hb.size, h.ne, h.no⟩

set_option maxHeartbeats 800000 in
theorem putter_any (gl : Nat) (w : World) :
    Calls Tryz.prog 56 #[.pointer (some ⟨gl, 0, none⟩)] w fun e w' => e = .returned (.func (.func 72) #[] #[.pointer (some ⟨w.heap.size, 0, none⟩)]) ∧ w.alloc (.cells #[.pointer (some ⟨gl, 0, none⟩)] 117) = w' := by
  have hmf : ∀ (fn : Fn) (first cap : Array Value) (w : World), (Instr.makeFunc fn first cap).run Tryz.prog w = .ok (.func fn first cap) w := fun _ _ _ _ => rfl
  go_enter Tryz.func56, Tryz.ntmps56
  go_wp2
  go_ret
  exact ⟨rfl, rfl⟩
end Go.Proofs.YtalpbnfebcafgaaGreat
