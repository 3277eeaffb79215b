/- The contracts of stuff's helpers: the closure that levels are told to, what makes it, other, Most. -/
import Derived.Test.YtaamklfedcbccaaW2
import Derived.Test.YtaamklfedcbccaaSM
namespace Go.Proofs.Ytaamklfedcbccaa
open Go.RowKit

theorem Arr.off {k : IntKind} {t : TypeId} {w : World} {g : Nat} {zs : List Int} (h : Arr k t w g zs) {g' i : Nat} (hne : g' ≠ g) (v : Value) : Arr k t (w.setCell ⟨g', i, none⟩ v) g zs := by
  unfold Arr at h ⊢
  simp [World.setCell, Array.getElem?_modify, hne, h]
/-- The two variables that the closure keeps: the last level, and how many alike. -/
def Two (w : World) (g : Nat) (s : Int × Nat) : Prop := Arr .i64 3 w g [s.1] ∧ Arr .i64 3 w (g + 1) [(s.2 : Int)]
theorem below_at (g g' : Nat) (w : World) (v : Value) (h : g ≤ g') : Below g w (w.setCell ⟨g', 0, none⟩ v) := (Below.refl g w).setCell (p := ⟨g', 0, none⟩) h v

/-- All but the two blocks from g on are as they were. -/
structure Still2 (g : Nat) (w w' : World) : Prop where
  bel : Below g w w'
  size : w'.heap.size = w.heap.size
  block : ∀ b, b ≠ g → b ≠ g + 1 → w'.heap[b]? = w.heap[b]?
theorem Still2.put (g g' : Nat) (w : World) (v : Value) (h : g' = g ∨ g' = g + 1) : Still2 g w (w.setCell ⟨g', 0, none⟩ v) :=
  ⟨below_at g g' w v (by omega), by simp [World.setCell], fun b h1 h2 => by simp [World.setCell, Array.getElem?_modify]; intro e; omega⟩
theorem Still2.trans {g : Nat} {a b c : World} (h : Still2 g a b) (k : Still2 g b c) : Still2 g a c :=
  ⟨h.bel.trans k.bel, k.size.trans h.size, fun i h1 h2 => (k.block i h1 h2).trans (h.block i h1 h2)⟩
/-- The row v lies apart from the two blocks from g on. -/
def Apart (v : Value) (g : Nat) : Prop := v.ownBlock ≠ some g ∧ v.ownBlock ≠ some (g + 1)
theorem Own.still {w w' : World} {base g : Nat} {v : Value} {zs : List Int} (h : Own w base v zs) (hs : Still2 g w w') (ha : Apart v g) : Own w' base v zs := by
  refine ⟨h.1, ?_⟩
  rcases h.2 with hn | ⟨g', cap, cur, rfl, hbg, hgg, rest⟩
  · exact .inl hn
  · refine .inr ⟨g', cap, cur, rfl, hbg, (hs.block g' ?_ ?_).trans hgg, rest⟩
    · intro e; exact ha.1 (by rw [e]; rfl)
    · intro e; exact ha.2 (by rw [e]; rfl)
theorem Two.lt {w : World} {g : Nat} {s : Int × Nat} (h : Two w g s) : g + 1 < w.heap.size := h.2.lt
theorem Two.pushed {w w' : World} {g : Nat} {s : Int × Nat} {v : Value} {o : Obj} (h : Two w g s) (hg : (w.alloc o).grownBy w' v.ownBlock) (ha : Apart v g) : Two w' g s := by
  have hlt := h.lt
  have hs : (w.alloc o).heap.size = w.heap.size + 1 := by simp
  refine ⟨?_, ?_⟩
  · exact ((hg.block g (by omega) (fun e => ha.1 e.symm)).trans (heap_alloc_old w o (r := g) (by omega))).trans h.1
  · exact ((hg.block (g + 1) (by omega) (fun e => ha.2 e.symm)).trans (heap_alloc_old w o (r := g + 1) (by omega))).trans h.2
theorem Apart.lies {w : World} {g : Nat} {s : Int × Nat} {v v' : Value} {o : Obj} (h : Apart v g) (hl : Lies (w.alloc o) v v') (ht : Two w g s) : Apart v' g := by
  have hlt := ht.lt
  have hs : (w.alloc o).heap.size = w.heap.size + 1 := by simp
  rcases hl with e | e
  · unfold Apart; rw [e]; exact h
  · unfold Apart; rw [e, hs]
    exact ⟨by intro e; injection e with e; omega, by intro e; injection e with e; omega⟩

set_option maxHeartbeats 400000 in
theorem tell_any (s : Int × Nat) (z : Int) (g : Nat) (w : World) (hs : s.2 ≤ 100000) (ht : Two w g s) :
    Calls Try.prog 25 #[.int .i64 z, .pointer (some ⟨g, 0, none⟩), .pointer (some ⟨g + 1, 0, none⟩)] w fun e w' => e = .returned (.int .i64 (((tel s z).2 : Nat) : Int)) ∧ Two w' g (tel s z) ∧ Still2 g w w' := by
  obtain ⟨l, a⟩ := s
  obtain ⟨h1, h2⟩ := ht
  dsimp only at hs h1 h2
  have c1 := h1.cell (i := 0) (by simp)
  have c2 := h2.cell (i := 0) (by simp)
  have f1 := h1.frozen 0
  have f2 := h2.frozen 0
  have H1 := Lib.hid h1
  have H2 := Lib.hid h2
  have hne : g ≠ g + 1 := by omega
  have hne2 : g + 1 ≠ g := by omega
  clear h1 h2
  by_cases h : z = l
  · have ez : tel (l, a) z = (l, a + 1) := by unfold tel; rw [if_pos h]
    have hb : (z != l) = false := by simp [h]
    have HE := Lib.hid ez
    rw [ez]
    clear ez h
    go_enter Try.func25, Try.ntmps25
    go_wp2
    go_ret
    refine ⟨ret_int (by push_cast; rfl), ⟨H1.out.off hne2 _, ?_⟩, Still2.put _ _ _ _ (by omega)⟩
    have := H2.out.put 0 ((a : Int) + 1)
    exact this
  · have ez : tel (l, a) z = (z, 1) := by unfold tel; rw [if_neg h]
    have hb : (z != l) = true := by simpa using h
    have HE := Lib.hid ez
    rw [ez]
    clear ez h
    have c3 := (((H2.out.off (i := 0) hne (.int .i64 z)).put 0 0).put 0 1).cell (i := 0) (by simp)
    go_enter Try.func25, Try.ntmps25
    go_wp2
    go_ret
    refine ⟨rfl, ⟨?_, ?_⟩, ?_⟩
    · exact ((H1.out.put 0 z).off hne2 _).off hne2 _
    · exact ((H2.out.off hne _).put 0 0).put 0 1
    · exact ((Still2.put g g w _ (.inl rfl)).trans (Still2.put g (g + 1) _ _ (.inr rfl))).trans (Still2.put g (g + 1) _ _ (.inr rfl))

theorem two_new (w : World) : Two ((w.alloc (.cells #[.int .i64 0] 3)).alloc (.cells #[.int .i64 0] 3)) w.heap.size (0, 0) := by
  refine ⟨?_, ?_⟩
  · have h := Arr.new w .i64 3 [0]
    exact h.below ((Below.refl (w.heap.size + 1) _).alloc (by simp) _) (Nat.lt_succ_self _)
  · have h := Arr.new (w.alloc (.cells #[.int .i64 0] 3)) .i64 3 [0]
    rwa [show (w.alloc (.cells #[.int .i64 0] 3)).heap.size = w.heap.size + 1 by simp] at h

theorem teller_any (w : World) :
    Calls Try.prog 22 #[] w fun e w' => e = .returned (.func (.func 25) #[] #[.pointer (some ⟨w.heap.size, 0, none⟩), .pointer (some ⟨w.heap.size + 1, 0, none⟩)]) ∧ Two w' w.heap.size (0, 0) ∧ Below w.heap.size w w' := by
  have hmf : ∀ (fn : Fn) (first cap : Array Value) (w : World), (Instr.makeFunc fn first cap).run Try.prog w = .ok (.func fn first cap) w := fun _ _ _ _ => rfl
  go_enter Try.func22, Try.ntmps22
  go_wp2
  go_ret
  exact ⟨rfl, two_new w, ((Below.refl _ _).alloc (Nat.le_refl _) _).alloc (by simp) _⟩

theorem other_any (z : Int) (w : World) (hz : z = 0 ∨ z = 1) :
    Calls Try.prog 23 #[.int .i64 z] w fun e w' => e = .returned (.int .i64 (1 - z)) ∧ w = w' := by
  rcases hz with rfl | rfl
  · go_enter Try.func23, Try.ntmps23
    go_wp2
    go_ret
    exact ⟨rfl, rfl⟩
  · go_enter Try.func23, Try.ntmps23
    go_wp2
    go_ret
    exact ⟨rfl, rfl⟩

theorem most_ok (n : Nat) (w : World) (hn : n ≤ 9223372036854775807) :
    Calls Try.prog 15 #[.int .i64 n] w fun e w' => e = .returned (.tuple #[.int .i64 (((n - 1) / 4 : Nat) : Int), .int .i64 0]) ∧ w = w' := by
  rcases n with _ | m
  · go_enter Try.func15, Try.ntmps15
    go_wp2
    go_ret2
    exact ⟨rfl, rfl⟩
  · rw [show ((m + 1 : Nat) : Int) = (m : Int) + 1 from by omega]
    go_enter Try.func15, Try.ntmps15
    go_wp2
    go_ret2
    exact ⟨rfl, rfl⟩
theorem most_bad (n : Int) (w : World) (hn : n < 0) :
    Calls Try.prog 15 #[.int .i64 n] w fun e w' => e = .returned (.tuple #[.int .i64 0, .int .i64 10]) ∧ w = w' := by
  go_enter Try.func15, Try.ntmps15
  go_wp2
  go_ret2
  exact ⟨rfl, rfl⟩

/-- make with room, and nothing in it. -/
theorem make0 (n m : Nat) (hn : n + m ≤ 100000) (w : World) : (Instr.makeSlice 22 (.int .i64 0) (.int .i64 ((n : Int) + (m : Int)))).run Try.prog w =
    .ok (.slice (some ⟨w.heap.size, 0, none⟩) 0 (n + m)) (w.alloc (.cells (Array.replicate (n + m) (Value.int .i64 0)) 3)) := by
  obtain ⟨i, hi, hz, hs, hb⟩ := info3
  have hr := run_make (P := Try.prog) w 22 3 i _ Try.underlying22 hi hz .i64 .i64 0 ((n : Int) + (m : Int)) (by omega) (by omega) (by rw [hb]; omega) (by omega)
  have et : ((n : Int) + (m : Int)).toNat = n + m := by omega
  have e : madeCells (Value.int .i64 0).cells ((n + m) * i.size) = (Array.replicate (n + m) (Value.int .i64 0)) := by
    rw [hs, Nat.mul_one]
    apply Array.toList_inj.1
    show (madeCells #[Value.int .i64 0] (n + m)).toList = _
    rw [toList_madeCells_one]; simp
  rw [hr, et, e]; rfl
theorem make1 (n : Nat) (hn : n ≤ 100000) (w : World) : (Instr.makeSlice 22 (.int .i64 0) (.int .i64 (n : Int))).run Try.prog w =
    .ok (.slice (some ⟨w.heap.size, 0, none⟩) 0 n) (w.alloc (.cells (Array.replicate n (Value.int .i64 0)) 3)) := make0 n 0 (by omega) w
theorem Own.room (w : World) (base m : Nat) (hb : base ≤ w.heap.size) (hl : m ≤ 100000) :
    Own (w.alloc (.cells (Array.replicate m (Value.int .i64 0)) 3)) base (.slice (some ⟨w.heap.size, 0, none⟩) 0 m) [] := by
  refine ⟨by simp, .inr ⟨w.heap.size, m, _, rfl, hb, heap_alloc_new w _, Nat.zero_le _, by unfold maxLen; omega, by simp, by simp⟩⟩
/-- An answer that is a row of its own, as long as its room at most. -/
def SlIn (zs : List Int) (w : World) (e : Ending) (w' : World) : Prop := ∃ A cap, e = .returned (.slice A zs.length cap) ∧ Il w' A zs.length zs ∧ zs.length ≤ cap ∧ Below w.heap.size w w'
end Go.Proofs.Ytaamklfedcbccaa
