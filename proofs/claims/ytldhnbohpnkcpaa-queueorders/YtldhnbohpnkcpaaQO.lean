/- Acts; the contracts of does, Same, awake. -/
import Derived.Test.YtldhnbohpnkcpaaQN
namespace Go.Proofs.Ytldhnbohpnkcpaa
open Go.RowKit
set_option linter.unusedSimpArgs false

/-- What an act answers, and leaves. -/
def aE (m : Int) (a : Bool × Fr) (gs : List Fr) : Int := if a.1 then dE a.2 gs else pE m a.2 gs
def aL (m : Int) (a : Bool × Fr) (gs : List Fr) : List Fr := if a.1 then drp a.2 gs else pL m a.2 gs
theorem aL_ok {m : Int} {a : Bool × Fr} {gs : List Fr} (h : Okq gs) : Okq (aL m a gs) := by
  unfold aL
  split
  · exact drp_ok h
  · exact pL_ok h
theorem aL_le {m : Int} {a : Bool × Fr} {gs : List Fr} (h : (gs.length : Int) ≤ m) : ((aL m a gs).length : Int) ≤ m := by
  unfold aL
  split
  · have := drp_le a.2 gs; omega
  · exact pL_le h
/-- An act's value. -/
abbrev actV (d : Bool) (f : Fr) : Value := .agg #[.bool d, .int .i64 f.id, .bool f.ext, .bool f.rtr, .int .i64 f.len, .int .u8 (f.d 0), .int .u8 (f.d 1), .int .u8 (f.d 2), .int .u8 (f.d 3), .int .u8 (f.d 4), .int .u8 (f.d 5), .int .u8 (f.d 6), .int .u8 (f.d 7)]

set_option maxHeartbeats 800000 in
theorem does_q {w : World} {B g : Nat} {v : Value} {m : Int} {gs : List Fr} (d : Bool) (f : Fr) (hq : Que w B g v m gs) (hok : Okq gs) (hn : gs.length ≤ 1000) (hB : B ≤ w.heap.size) :
    Calls Try.prog 12 #[.pointer (some ⟨g, 0, none⟩), actV d f] w fun e w' => ∃ u, e = .returned (.int .i64 (aE m (d, f) gs)) ∧ Que w' B g u m (aL m (d, f) gs) ∧ Turn g v u w w' := by
  have hb : Below w.heap.size w (w.alloc (.cells #[.bool d, .int .i64 f.id, .bool f.ext, .bool f.rtr, .int .i64 f.len, .int .u8 (f.d 0), .int .u8 (f.d 1), .int .u8 (f.d 2), .int .u8 (f.d 3), .int .u8 (f.d 4), .int .u8 (f.d 5), .int .u8 (f.d 6), .int .u8 (f.d 7)] 36)) := (Below.refl _ _).alloc (Nat.le_refl _) _
  have HB := Lib.hid hb
  have HQ := Lib.hid (hq.next hb)
  have HOK := Lib.hid hok; have HN := Lib.hid hn; have HBB := Lib.hid (show B ≤ _ from Nat.le_trans hB hb.size)
  clear hq hok hn hB hb
  cases d
  · go_enter Try.func12, Try.ntmps12
    go_wp2_with fail
    refine (put_q HQ.out HOK.out HN.out HBB.out).mono ?_
    rintro e w1 ⟨u, rfl, h1, h2⟩
    have HF := Lib.hid (And.intro h1 ((Turn.of_below HB.out).trans h2))
    clear h1 h2
    go_wp2
    go_ret
    exact ⟨u, rfl, HF.out.1, HF.out.2⟩
  · go_enter Try.func12, Try.ntmps12
    go_wp2_with fail
    refine (drop_q HQ.out HN.out).mono ?_
    rintro e w1 ⟨u, rfl, h1, h2⟩
    have HF := Lib.hid (And.intro h1 ((Turn.of_below HB.out).trans h2))
    clear h1 h2
    go_wp2
    go_ret
    exact ⟨u, rfl, HF.out.1, HF.out.2⟩

set_option maxHeartbeats 1600000 in
set_option maxRecDepth 100000 in
/-- Two rows that are one. -/
theorem same_yes (A A' : Option Addr) (n c c' : Nat) (fs gs : Nat → Fr) (w : World) (h : Fl w A n fs) (h' : Fl w A' n gs) (hn : n ≤ 1000000) (hs : ∀ j, j < n → (fs j).same (gs j) = true) :
    Calls Try.prog 13 #[.slice A n c, .slice A' n c'] w fun e w' => e = .returned (.bool true) ∧ Below w.heap.size w w' := by
  have HL := Lib.hid h; have HL' := Lib.hid h'; have HS := Lib.hid hs
  clear h h' hs
  go_enter Try.func13, Try.ntmps13
  go_wp2
  go_loopw [5] (fun i wr => ∃ k : Nat, k ≤ n ∧ i = .int .i64 k ∧ Below w.heap.size w wr) (fun i _ => n - (intOf i).toNat)
  case atStart => exact ⟨0, Nat.zero_le _, rfl, Below.refl _ _⟩
  case round =>
    obtain ⟨k, hk, rfl, hb⟩ := hrel
    have HB := Lib.hid hb
    by_cases hlt : k < n
    · have hlt' : (k : Int) < (n : Int) := by omega
      obtain ⟨ad, rfl, hl, c0, c1, c2, c3, c4, c5, c6, c7, c8, c9, c10, c11⟩ := (HL.out.below hb).at_ hlt
      obtain ⟨bd, rfl, hl', d0, d1, d2, d3, d4, d5, d6, d7, d8, d9, d10, d11⟩ := (HL'.out.below hb).at_ hlt
      have hfe := fun W => fneq (fs k) (gs k) W
      rw [HS.out k hlt] at hfe
      clear hb
      go_wp2
      go_quiet (fail)
      go_wp2
      go_roundw
      case rel => exact ⟨k + 1, by omega, by go_num, belowN HB.out _⟩
      case measure => simp [intOf]; omega
    · clear hb
      go_wp2
      go_ret
      exact ⟨rfl, HB.out⟩
/-- .. of the call's own. -/
theorem same_own {w : World} {B B' : Nat} {u u' : Value} {xs ys : List Fr} (h : Fown w B u xs) (h' : Fown w B' u' ys) (hn : xs.length ≤ 1000000) (he : ys.length = xs.length) (hs : ∀ j, j < xs.length → (xs.getD j Fr.zero).same (ys.getD j Fr.zero) = true) :
    Calls Try.prog 13 #[u, u'] w fun e w' => e = .returned (.bool true) ∧ Below w.heap.size w w' := by
  obtain ⟨A, c, rfl, hf, _⟩ := h.fl
  obtain ⟨A', c', rfl, hf', _⟩ := h'.fl
  rw [he] at hf' ⊢
  exact same_yes A A' _ c c' _ _ w hf hf' hn hs
theorem same_self {w : World} {B B' : Nat} {u u' : Value} {xs : List Fr} (h : Fown w B u xs) (h' : Fown w B' u' xs) (hn : xs.length ≤ 1000000) :
    Calls Try.prog 13 #[u, u'] w fun e w' => e = .returned (.bool true) ∧ Below w.heap.size w w' :=
  same_own h h' hn rfl fun _ _ => same_refl _

/-- A short frame without bytes. -/
def smp (k : Int) : Fr := ⟨k, false, false, 0, fun _ => 0⟩
abbrev smpV (k : Int) : Value := .agg #[.int .i64 k, .bool false, .bool false, .int .i64 0, .int .u8 0, .int .u8 0, .int .u8 0, .int .u8 0, .int .u8 0, .int .u8 0, .int .u8 0, .int .u8 0]
theorem smp_val (k : Int) : (smp k).val = smpV k := rfl
theorem put_s {w : World} {B g : Nat} {v : Value} {m : Int} {gs : List Fr} (k : Int) (hq : Que w B g v m gs) (hok : Okq gs) (hn : gs.length ≤ 1000) (hB : B ≤ w.heap.size) :
    Calls Try.prog 18 #[.pointer (some ⟨g, 0, none⟩), smpV k] w fun e w' => ∃ u, e = .returned (.int .i64 (pE m (smp k) gs)) ∧ Que w' B g u m (pL m (smp k) gs) ∧ Turn g v u w w' := put_q (f := smp k) hq hok hn hB
theorem drop_s {w : World} {B g : Nat} {v : Value} {m : Int} {gs : List Fr} (k : Int) (hq : Que w B g v m gs) (hn : gs.length ≤ 1000) :
    Calls Try.prog 23 #[.pointer (some ⟨g, 0, none⟩), smpV k] w fun e w' => ∃ u, e = .returned (.int .i64 (dE (smp k) gs)) ∧ Que w' B g u m (drp (smp k) gs) ∧ Turn g v u w w' := drop_q (f := smp k) hq hn
end Go.Proofs.Ytldhnbohpnkcpaa
