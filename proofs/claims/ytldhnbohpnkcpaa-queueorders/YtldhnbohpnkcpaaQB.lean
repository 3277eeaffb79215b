/- Queues in memory, and the contracts of New, Len, First, copied, All. -/
import Derived.Test.YtldhnbohpnkcpaaLs
import Derived.Test.YtldhnbohpnkcpaaAF
import Derived.Test.YtldhnbohpnkcpaaOp3
import Derived.Laws.ResultCell
import Derived.StillTailTactics
import Derived.Deep.DeepCutAuto
namespace Go.Proofs.Ytldhnbohpnkcpaa
open Go.RowKit

/-- Block g is just a queue: its row v, and its most. -/
def Qb (w : World) (g : Nat) (v : Value) (m : Int) : Prop := w.heap[g]? = some (.cells #[v, .int .i64 m] 53)
section
variable {w w' : World} {g : Nat} {v : Value} {m : Int}
theorem Qb.row (h : Qb w g v m) : w.cell? ⟨g, 0, none⟩ = some v := cell_of_row w g 0 _ _ (0, 0) h
theorem Qb.most (h : Qb w g v m) : w.cell? ⟨g, 1, none⟩ = some (.int .i64 m) := cell_of_row w g 1 _ _ (0, 0) h
theorem Qb.frozen (h : Qb w g v m) (i : Nat) : w.frozen? ⟨g, i, none⟩ = false := by
  unfold Qb at h
  simp [World.frozen?, h]
theorem Qb.lt (h : Qb w g v m) : g < w.heap.size := (Array.getElem?_eq_some_iff.1 h).1
theorem Qb.next (h : Qb w g v m) (hb : Below w.heap.size w w') : Qb w' g v m := (hb.block g h.lt).trans h
theorem Qb.put (h : Qb w g v m) (u : Value) : Qb (w.setCell ⟨g, 0, none⟩ u) g u m := by
  unfold Qb at h ⊢
  simp [World.setCell, Array.getElem?_modify, h]
theorem qb_new (w : World) (v : Value) (m : Int) : Qb (w.alloc (.cells #[v, .int .i64 m] 53)) w.heap.size v m := heap_alloc_new w _
end
/-- A row of frames is in no queue's block. -/
theorem Fown.notq {w : World} {B g : Nat} {v u : Value} {m : Int} {gs : List Fr} (h : Fown w B v gs) (hq : Qb w g u m) : v.ownBlock ≠ some g := by
  intro e
  rcases h.2 with ⟨rfl, _⟩ | ⟨k, cap, cur, rfl, _, hh, _⟩
  · cases e
  · injection e with e
    have e : k = g := e
    subst e
    unfold Qb at hq
    rw [hh] at hq
    injection hq with hq
    injection hq with _ ht
    exact absurd ht (by decide)
theorem Fown.base {w : World} {B B' : Nat} {v : Value} {gs : List Fr} (h : Fown w B v gs) (hB : B' ≤ B) : Fown w B' v gs := by
  refine ⟨h.1, ?_⟩
  rcases h.2 with hn | ⟨g, cap, cur, rfl, hbg, rest⟩
  · exact .inl hn
  · exact .inr ⟨g, cap, cur, rfl, Nat.le_trans hB hbg, rest⟩
theorem Fown.drew {w : World} {B : Nat} {v : Value} {gs : List Fr} (h : Fown w B v gs) : Fown w.drew B v gs := h

/-- At g lies a queue of most m with the frames gs, its row v. -/
structure Que (w : World) (B g : Nat) (v : Value) (m : Int) (gs : List Fr) : Prop where
  q : Qb w g v m
  own : Fown w B v gs
  at_ : B ≤ g
section
variable {w w' : World} {B g : Nat} {v : Value} {m : Int} {gs : List Fr}
theorem Que.next (h : Que w B g v m gs) (hb : Below w.heap.size w w') : Que w' B g v m gs := ⟨h.q.next hb, h.own.below hb, h.at_⟩
theorem Que.base {B' : Nat} (h : Que w B g v m gs) (hB : B' ≤ B) : Que w B' g v m gs := ⟨h.q, h.own.base hB, Nat.le_trans hB h.at_⟩
theorem Que.drew (h : Que w B g v m gs) : Que w.drew B g v m gs := ⟨h.q, h.own, h.at_⟩
theorem Que.lt (h : Que w B g v m gs) : g < w.heap.size := h.q.lt
theorem Que.fl (h : Que w B g v m gs) : ∃ A cap, v = .slice A gs.length cap ∧ Fl w A gs.length (fun j => gs.getD j Fr.zero) ∧ gs.length ≤ cap := h.own.fl
end

/-- What a call turns that turns the queue at g, whose row is v, then v'. -/
structure Turn (g : Nat) (v v' : Value) (w w' : World) : Prop where
  os : w'.os = w.os
  tape : w'.tape = w.tape
  output : w'.output = w.output
  size : w.heap.size ≤ w'.heap.size
  block : ∀ k, k < w.heap.size → k ≠ g → some k ≠ v.ownBlock → w'.heap[k]? = w.heap[k]?
  lies : v'.ownBlock = v.ownBlock ∨ ∀ k, v'.ownBlock = some k → w.heap.size ≤ k
section
variable {w w' w2 : World} {B C g k : Nat} {v v' v2 u : Value} {m n : Int} {gs us : List Fr}
theorem Turn.refl (g : Nat) (v : Value) (w : World) : Turn g v v w w := ⟨rfl, rfl, rfl, Nat.le_refl _, fun _ _ _ _ => rfl, .inl rfl⟩
theorem Turn.of_below (h : Below w.heap.size w w') : Turn g v v w w' := ⟨h.os, h.tape, h.output, h.size, fun k hk _ _ => h.block k hk, .inl rfl⟩
theorem Turn.trans (h : Turn g v v' w w') (h2 : Turn g v' v2 w' w2) : Turn g v v2 w w2 := by
  refine ⟨h2.os.trans h.os, h2.tape.trans h.tape, h2.output.trans h.output, Nat.le_trans h.size h2.size, fun k hk hne hv => ?_, ?_⟩
  · refine (h2.block k (Nat.lt_of_lt_of_le hk h.size) hne ?_).trans (h.block k hk hne hv)
    rcases h.lies with e | e
    · rw [e]; exact hv
    · intro he
      have := e k he.symm
      omega
  · rcases h2.lies with e | e
    · rw [e]; exact h.lies
    · exact .inr fun k hk => Nat.le_trans h.size (e k hk)
theorem Turn.below (h : Turn g v v' w w') (hg : B ≤ g) (hv : ∀ k, v.ownBlock = some k → B ≤ k) (hB : B ≤ w.heap.size) : Below B w w' :=
  ⟨h.os, h.tape, h.output, h.size, fun k hk => h.block k (by omega) (by omega) (fun e => by have := hv k e.symm; omega)⟩
theorem Turn.que (h : Turn g v v' w w') (hq : Que w B g v m gs) (hB : B ≤ w.heap.size) : Below B w w' := h.below hq.at_ hq.own.row hB
/-- Another row stays. -/
theorem Turn.row (h : Turn g v v' w w') (hq : Qb w g v m) (hu : Fown w C u us) (hs : Sep u v) : Fown w' C u us ∧ Sep u v' := by
  have hn := hu.notq hq
  constructor
  · refine ⟨hu.1, ?_⟩
    rcases hu.2 with h0 | ⟨k, cap, cur, rfl, hbk, hh, rest⟩
    · exact .inl h0
    · refine .inr ⟨k, cap, cur, rfl, hbk, (h.block k (Array.getElem?_eq_some_iff.1 hh).1 ?_ ?_).trans hh, rest⟩
      · rintro rfl; exact hn rfl
      · rcases hs with e | e
        · cases e
        · exact e
  · rcases hk : u.ownBlock with _ | k
    · exact .inl hk
    · refine .inr fun he => ?_
      rcases h.lies with e2 | e2
      · rcases hs with e | e
        · rw [hk] at e; cases e
        · exact e (he.trans e2)
      · have h1 := e2 k (he.symm.trans hk)
        have h2 := (World.ownsRow.lt hu k hk).2
        omega
/-- Another queue stays. -/
theorem Turn.other (h : Turn g v v' w w') (hq : Que w B g v m gs) (hu : Que w C k u n us) (hne : k ≠ g) (hs : Sep u v) : Que w' C k u n us ∧ Sep u v' := by
  obtain ⟨h1, h2⟩ := h.row hq.q hu.own hs
  refine ⟨⟨(h.block k hu.lt hne fun e => ?_).trans hu.q, h1, hu.at_⟩, h2⟩
  exact hq.own.notq hu.q e.symm
end

set_option maxHeartbeats 400000 in
theorem new_bad (m : Int) (w : World) (h : ¬ (1 ≤ m ∧ m ≤ 16)) : Calls Try.prog 9 #[.int .i64 m] w fun e w' => e = .returned (.tuple #[.pointer none, .int .i64 10]) ∧ w = w' := by
  by_cases h1 : m < 1
  · clear h
    go_enter Try.func9, Try.ntmps9
    go_wp2
    go_ret2
    exact ⟨rfl, rfl⟩
  · have h2 : 16 < m := by omega
    clear h
    go_enter Try.func9, Try.ntmps9
    go_wp2
    go_ret2
    exact ⟨rfl, rfl⟩
theorem que_new (w : World) (m : Int) : Que (w.alloc (.cells #[.slice none 0 0, .int .i64 m] 53)) w.heap.size w.heap.size (.slice none 0 0) m [] :=
  ⟨qb_new w _ m, World.ownsRow_nil _ _ _ _, Nat.le_refl _⟩
set_option maxHeartbeats 400000 in
theorem new_ok (m : Int) (w : World) (h1 : 1 ≤ m) (h2 : m ≤ 16) : Calls Try.prog 9 #[.int .i64 m] w fun e w' => e = .returned (.tuple #[.pointer (some ⟨w.heap.size, 0, none⟩), .int .i64 0]) ∧ Que w' w.heap.size w.heap.size (.slice none 0 0) m [] ∧ Below w.heap.size w w' := by
  have HQ := Lib.hid (que_new w m)
  have d1 : ¬ m < 1 := by omega
  have d2 : ¬ 16 < m := by omega
  clear h1 h2
  go_enter Try.func9, Try.ntmps9
  go_wp2
  go_ret2
  exact ⟨rfl, HQ.out, (Below.refl _ _).alloc (Nat.le_refl _) _⟩

theorem len_nil (w : World) : Calls Try.prog 16 #[.pointer none] w fun e w' => e = .returned (.int .i64 0) ∧ w' = w := by
  go_enter Try.func16, Try.ntmps16
  go_wp2
  go_ret
  exact ⟨rfl, rfl⟩
set_option maxHeartbeats 400000 in
theorem len_b (g : Nat) (A : Option Addr) (n c : Nat) (m : Int) (w : World) (hq : Qb w g (.slice A n c) m) : Calls Try.prog 16 #[.pointer (some ⟨g, 0, none⟩)] w fun e w' => e = .returned (.int .i64 n) ∧ w' = w := by
  have c0 := hq.row
  clear hq
  go_enter Try.func16, Try.ntmps16
  go_wp2
  go_ret
  exact ⟨rfl, rfl⟩
theorem len_q {w : World} {B g : Nat} {v : Value} {m : Int} {gs : List Fr} (hq : Que w B g v m gs) : Calls Try.prog 16 #[.pointer (some ⟨g, 0, none⟩)] w fun e w' => e = .returned (.int .i64 gs.length) ∧ w' = w := by
  obtain ⟨A, c, rfl, _⟩ := hq.fl
  exact len_b g A _ c m w hq.q
end Go.Proofs.Ytldhnbohpnkcpaa
