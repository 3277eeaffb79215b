/- append onto a row of the call's own, and where the answer lies: in its own block, or in a new one. -/
import Derived.Test.YtalpbnfebcafgaaGreatM
namespace Go.Proofs.YtalpbnfebcafgaaGreat
set_option maxRecDepth 20000
open Go.RowKit

/-- Where an append's answer lies. -/
def Lies (w : World) (v v' : Value) : Prop := v'.ownBlock = v.ownBlock ∨ v'.ownBlock = some w.heap.size

theorem append_run (w : World) (ty : TypeId) (base : Nat) (v : Value) (zs : List Int) (hown : Own w base v zs) (A : Option Addr) (m c : Nat) (ys : List Int) (hr : Il w A m ys)
    (hlen : zs.length + m ≤ 1000000) (hbase : base ≤ w.heap.size) :
    ∃ v' w', (Builtin.append_ #[23, 23] ty #[v, .slice A m c]).run Tryz.prog w = .ok v' w' ∧ Own w' base v' (zs ++ ys) ∧ w.grownBy w' v.ownBlock ∧ Lies w v v' := by
  obtain ⟨i, hi, hz, hsz, hb⟩ := info3
  have hm := hr.1
  rcases A with _ | ad
  · have h0 : m = 0 := by
      rcases Nat.eq_zero_or_pos m with h | h
      · exact h
      · obtain ⟨ad, e, _⟩ := hr.2 h; cases e
    subst h0
    have hy : ys = [] := List.eq_nil_of_length_eq_zero hm
    subst hy
    exact ⟨v, w, run_append_of_none w base ty v zs hown c, by simpa using hown, World.grownBy.refl w _, .inl rfl⟩
  · have hnl : (ys.map (Value.int .i64)).length = m * 1 := by simp [hm]
    have hnews : ∀ j u, (ys.map (Value.int .i64))[j]? = some u → w.cell? (ad.add j) = some u := by
      intro j u hu
      have hj : j < m := by
        rcases Nat.lt_or_ge j m with h | h
        · exact h
        · rw [List.getElem?_eq_none (by simp [hm]; exact h)] at hu; cases hu
      obtain ⟨ad', e, _, hc⟩ := hr.2 (by omega)
      injection e with e
      subst e
      rw [hc j hj]
      simp [hm ▸ hj] at hu
      simp [hm ▸ hj, hu]
    obtain ⟨v', w', hrun, h1, h2, _⟩ := run_append_own (P := Tryz.prog) w base 23 ty 3 i _ 1 8 Tryz.underlying23 hi hz hsz hb rfl (by omega) v zs.length _ hown ad m c (ys.map (Value.int .i64)) hnl hnews (ints_oneCell _ _) (by unfold maxLen; omega) (by omega) hbase
    refine ⟨v', w', hrun, ?_, h2, ?_⟩
    · unfold Own
      rw [List.length_append, List.map_append, hm]
      exact h1
    · rw [← hsz] at hnl
      rcases hown.2 with ⟨rfl, h0⟩ | ⟨g, cap, cur, rfl, hbg, hg, hnc, hcm, hcs, htake⟩
      · rcases Nat.eq_zero_or_pos m with hm0 | hm0
        · subst hm0
          have hy : ys = [] := List.eq_nil_of_length_eq_zero hm
          subst hy
          have e : (Builtin.append_ #[23, 23] ty #[.slice none 0 0, .slice (some ad) 0 c]).run Tryz.prog w = .ok (.slice none 0 0) w := by
            simp [Builtin.append_, run_underlying Tryz.underlying23, sizeOf, typeInfo, hi, Builtin.lenOf, Builtin.firstCells, loadCells, loadCellsFrom]
          rw [e] at hrun
          injection hrun with e1 e2
          exact .inl (by rw [← e1])
        · have e := run_append_nil (P := Tryz.prog) w 23 ty 3 i _ Tryz.underlying23 hi hz ad m c _ hnl hnews hm0 (by omega) (by rw [hb]; omega)
          rw [e] at hrun
          injection hrun with e1 e2
          exact .inr (by rw [← e1]; rfl)
      · by_cases hroom : zs.length + m ≤ cap
        · have e := run_append_room (P := Tryz.prog) w 23 ty 3 i Tryz.underlying23 hi g zs.length cap cur hg ad m c _ hnl hnews (ints_oneCell _ _) hroom (by rw [hnl, hcs, hsz]; omega)
          rw [e] at hrun
          injection hrun with e1 e2
          exact .inl (by rw [← e1]; rfl)
        · have e := run_append_grow (P := Tryz.prog) w 23 ty 3 i _ Tryz.underlying23 hi hz ⟨g, 0, none⟩ zs.length cap _ (by rw [hsz]; exact hown.1) (World.ownsRow.cells hown (g := g) rfl) ad m c _ hnl hnews (by omega) (by omega) (by rw [hb]; exact growslice_fits (by omega) (by omega))
          rw [e] at hrun
          injection hrun with e1 e2
          exact .inr (by rw [← e1]; rfl)

theorem wp_append_ints2 (w : World) {o : Oper} {a : Act} {K : Act → World → Prop} {Q : Exit → Act → World → Prop} (s x : Operand)
    (ho : o.op = .call { callee := .builtin .append, args := #[s, x], argTypes := #[23, 23] })
    (base : Nat) (v : Value) (zs : List Int) (hs : a.eval s = v) (hown : Own w base v zs) (A : Option Addr) (m c : Nat) (ys : List Int) (hx : a.eval x = .slice A m c) (hr : Il w A m ys)
    (hlen : zs.length + m ≤ 1000000) (hbase : base ≤ w.heap.size)
    (h : ∀ v' w', Own w' base v' (zs ++ ys) → w.grownBy w' v.ownBlock → Lies w v v' → K (a.put o.dst v') w') : o.wp Tryz.prog a w K Q := by
  obtain ⟨v', w', hrun, h1, h2, h3⟩ := append_run w o.type base v zs hown A m c ys hr hlen hbase
  unfold Oper.wp execOp
  simp only [ho, resolve, invoke, builtin, Sem.run_bind, Sem.run_pure, Result.andThen_ok, List.map_toArray, List.map_cons, List.map_nil, hs, hx, hrun]
  exact h v' w' h1 h2 h3
theorem append_ints2 (w : World) {ops : Array Oper} {rest : List Oper} {o : Oper} {a : Act} {Q : Exit → Act → World → Prop} (hgd : Region.wanted o (yielded ops a.tmps) = true) (s x : Operand)
    (ho : o.op = .call { callee := .builtin .append, args := #[s, x], argTypes := #[23, 23] })
    (base : Nat) (v : Value) (zs : List Int) (hs : a.eval s = v) (hown : Own w base v zs) (A : Option Addr) (m c : Nat) (ys : List Int) (hx : a.eval x = .slice A m c) (hr : Il w A m ys)
    (hlen : zs.length + m ≤ 1000000) (hbase : base ≤ w.heap.size)
    (h : ∀ v' w', Own w' base v' (zs ++ ys) → w.grownBy w' v.ownBlock → Lies w v v' → wpList Tryz.prog ops Q rest (a.put o.dst v') w') : wpList Tryz.prog ops Q (o :: rest) a w :=
  BigFrame.wpList_want hgd fun _ hK => wp_append_ints2 w s x ho base v zs hs hown A m c ys hx hr hlen hbase fun v' w' h1 h2 h3 => hK _ _ (h v' w' h1 h2 h3)
theorem step_append_ints2 (w : World) {ops : Array Oper} {o : Oper} {a : Act} {K : Act → World → Prop} {Q : Exit → Act → World → Prop} {E : Prop} (hgd : o.guard = none) (s x : Operand)
    (ho : o.op = .call { callee := .builtin .append, args := #[s, x], argTypes := #[23, 23] })
    (base : Nat) (v : Value) (zs : List Int) (hs : a.eval s = v) (hown : Own w base v zs) (A : Option Addr) (m c : Nat) (ys : List Int) (hx : a.eval x = .slice A m c) (hr : Il w A m ys)
    (hlen : zs.length + m ≤ 1000000) (hbase : base ≤ w.heap.size)
    (h : ∀ v' w', Own w' base v' (zs ++ ys) → w.grownBy w' v.ownBlock → Lies w v v' → K (a.put o.dst v') w') :
    if Region.wanted o (yielded ops a.tmps) = true then Oper.wp Tryz.prog o a w K Q else E := by
  have hw : Region.wanted o (yielded ops a.tmps) = true := by simp [Region.wanted, hgd]
  rw [if_pos hw]
  exact wp_append_ints2 w s x ho base v zs hs hown A m c ys hx hr hlen hbase h

theorem Own.below {w w' : World} {base : Nat} {v : Value} {zs : List Int} (h : Own w base v zs) (hb : Below w.heap.size w w') : Own w' base v zs := by
  refine ⟨h.1, ?_⟩
  rcases h.2 with hn | ⟨g, cap, cur, rfl, hbg, hgg, rest⟩
  · exact .inl hn
  · exact .inr ⟨g, cap, cur, rfl, hbg, (hb.block g (Array.getElem?_eq_some_iff.1 hgg).1).trans hgg, rest⟩
theorem Own.mono {w : World} {base base' : Nat} {v : Value} {zs : List Int} (h : Own w base v zs) (hb : base' ≤ base) : Own w base' v zs := by
  refine ⟨h.1, ?_⟩
  rcases h.2 with hn | ⟨g, cap, cur, rfl, hbg, rest⟩
  · exact .inl hn
  · exact .inr ⟨g, cap, cur, rfl, by omega, rest⟩
/-- A slice that is nobody's append's: it reads as it did. -/
theorem Il.grown {w w' : World} {row : Option Nat} {A : Option Addr} {n : Nat} {zs : List Int} (h : Il w A n zs) (hg : w.grownBy w' row) (hne : ∀ ad, A = some ad → some ad.block ≠ row) : Il w' A n zs :=
  ⟨h.1, fun hn => by
    obtain ⟨ad, e, hl, hc⟩ := h.2 hn
    refine ⟨ad, e, Nat.lt_of_lt_of_le hl hg.size, fun j hj => hg.cell (hc j hj) ?_⟩
    rw [block_of_add]; exact hne ad e⟩
/-- A literal was laid, and appended to a row of the call's own: what lies elsewhere is as it was. -/
theorem push_lit {w wr w2 : World} {o : Obj} {B : Nat} {v : Value} {l : List Int} (hB : Below B w wr) (hle : B ≤ wr.heap.size) (hx : Own wr B v l) (hg : (wr.alloc o).grownBy w2 v.ownBlock) : Below B w w2 :=
  (hB.alloc hle o).grown hg (by simp; omega) (fun _ hk => hx.row _ hk)
theorem push_away {wr w2 : World} {o : Obj} {v v1 : Value} {p n : Nat} {zs : List Int} (hl : Lies (wr.alloc o) v v1) (hg : (wr.alloc o).grownBy w2 v.ownBlock) (hne : v.ownBlock ≠ some p) (hp : Il wr (some ⟨p, 0, none⟩) n zs) (h0 : 0 < n) :
    v1.ownBlock ≠ some p ∧ Il w2 (some ⟨p, 0, none⟩) n zs := by
  obtain ⟨ad, e, hlt, _⟩ := hp.2 h0
  injection e with e
  subst e
  constructor
  · rcases hl with h | h
    · rw [h]; exact hne
    · rw [h]; simp; exact fun e => by simp at hlt; omega
  · refine (hp.alloc o).grown hg fun ad e => ?_
    injection e with e
    subst e
    exact fun e => hne e.symm
/-- As much as its length is room. -/
theorem Own.il2 {w : World} {base : Nat} {v : Value} {zs : List Int} (h : Own w base v zs) : ∃ A cap, v = .slice A zs.length cap ∧ Il w A zs.length zs ∧ zs.length ≤ cap := by
  obtain ⟨A, cap, e, hi⟩ := h.il
  refine ⟨A, cap, e, hi, ?_⟩
  rcases h.2 with ⟨h1, h0⟩ | ⟨g, cap', cur, h1, _, _, hnc, _⟩
  · omega
  · rw [e] at h1
    injection h1 with _ _ h3
    omega
theorem Own.shape {w : World} {base : Nat} {v : Value} {zs : List Int} (h : Own w base v zs) (h0 : 0 < zs.length) : ∃ g cap, v = .slice (some ⟨g, 0, none⟩) zs.length cap ∧ base ≤ g ∧ zs.length ≤ cap := by
  rcases h.2 with ⟨_, h1⟩ | ⟨g, cap, cur, e, hb, _, hnc, _⟩
  · omega
  · exact ⟨g, cap, e, hb, hnc⟩
section
variable {w : World} {base g n cap : Nat} {zs : List Int}
theorem Own.cell (h : Own w base (.slice (some ⟨g, 0, none⟩) n cap) zs) {j : Nat} (hj : j < zs.length) : w.cell? ⟨g, j, none⟩ = some (.int .i64 (zs.getD j 0)) := by
  have := World.ownsRow.cells h (g := g) rfl j (.int .i64 (zs.getD j 0)) (by simp [hj])
  rwa [add_zero_off] at this
theorem Own.il_at (h : Own w base (.slice (some ⟨g, 0, none⟩) n cap) zs) : Il w (some ⟨g, 0, none⟩) n zs := by
  obtain ⟨A, cap', e, hi⟩ := h.il
  injection e with e1 e2 _
  rw [e1, e2]; exact hi
theorem Own.frozen (h : Own w base (.slice (some ⟨g, 0, none⟩) n cap) zs) (j : Nat) : w.frozen? ⟨g, j, none⟩ = false := by
  rcases h.2 with ⟨h1, _⟩ | ⟨g', cap', cur, e, hb, hh, _⟩
  · cases h1
  · injection e with e _ _
    injection e with e
    injection e with e
    subst e
    simp [World.frozen?, hh]
theorem Own.put (h : Own w base (.slice (some ⟨g, 0, none⟩) n cap) zs) (j : Nat) (z : Int) : Own (w.setCell ⟨g, j, none⟩ (.int .i64 z)) base (.slice (some ⟨g, 0, none⟩) n cap) (zs.set j z) := by
  unfold Own
  rw [List.length_set]
  refine ⟨by simp, ?_⟩
  rcases h.2 with ⟨h1, _⟩ | ⟨g', cap', cur, e, hb, hh, hnc, hm, hs, ht⟩
  · cases h1
  · injection e with e e2 e3
    injection e with e
    injection e with e
    subst e
    refine .inr ⟨g, cap', cur.setIfInBounds j (.int .i64 z), by rw [e2, e3], hb, ?_, hnc, hm, by simpa using hs, ?_⟩
    · simp [World.setCell, Array.getElem?_modify, hh]
    · rw [List.map_set, ← ht]
      simp [List.take_set]
end
/-- Two rows of the call's own lie apart. -/
def Sep (u v : Value) : Prop := u.ownBlock = none ∨ u.ownBlock ≠ v.ownBlock
theorem Sep.symm {u v : Value} (h : Sep u v) : Sep v u := by
  rcases h with h | h
  · cases hv : v.ownBlock with
    | none => exact .inl hv
    | some k => exact .inr (by rw [h, hv]; simp)
  · exact .inr (Ne.symm h)
theorem Sep.lies {w : World} {base : Nat} {u v v' : Value} {l : List Int} (h : Sep u v) (hu : Own w base u l) (hl : Lies w v v') : Sep u v' := by
  rcases hl with e | e
  · unfold Sep; rw [e]; exact h
  · cases hk : u.ownBlock with
    | none => exact .inl hk
    | some k =>
      have := (World.ownsRow.lt hu k hk).2
      exact .inr (by rw [hk, e]; simp; omega)
theorem Own.kept {w w' : World} {base : Nat} {u v : Value} {l : List Int} (h : Own w base u l) (hg : w.grownBy w' v.ownBlock) (hs : Sep u v) : Own w' base u l := World.ownsRow.kept h hg hs
end Go.Proofs.YtalpbnfebcafgaaGreat
