/- Words for memory: a block that is just a row of numbers; a slice value that owns a row of ints; append onto such a one; make. -/
import Derived.Test.YtalpbnfebcafgaaGreatB
import Derived.Laws.MakeOwn
import Derived.Laws.OwnMore
import Derived.Laws.Rows
import Derived.Deep.Draws
import Derived.OwnWalk
import Derived.Laws.AppendOwn
namespace Go.Proofs.YtalpbnfebcafgaaGreat
set_option maxRecDepth 20000
open Go.RowKit

/-- Block g is just the numbers zs, of kind k, none frozen. -/
def Arr (k : IntKind) (t : TypeId) (w : World) (g : Nat) (zs : List Int) : Prop := w.heap[g]? = some (.cells (zs.map (Value.int k)).toArray t (0, 0))
section
variable {k : IntKind} {t : TypeId} {w w' : World} {g : Nat} {zs : List Int}
theorem Arr.lt (h : Arr k t w g zs) : g < w.heap.size := by
  rcases Nat.lt_or_ge g w.heap.size with hlt | hge
  · exact hlt
  · unfold Arr at h; rw [Array.getElem?_eq_none hge] at h; cases h
theorem Arr.cell (h : Arr k t w g zs) {i : Nat} (hi : i < zs.length) : w.cell? ⟨g, i, none⟩ = some (.int k (zs.getD i 0)) := by
  rw [cell_of_row w g i _ t (0, 0) h]
  simp [hi]
theorem Arr.frozen (h : Arr k t w g zs) (i : Nat) : w.frozen? ⟨g, i, none⟩ = false := by
  unfold Arr at h
  simp [World.frozen?, h]
theorem Arr.new (w : World) (k : IntKind) (t : TypeId) (zs : List Int) : Arr k t (w.alloc (.cells (zs.map (Value.int k)).toArray t)) w.heap.size zs := heap_alloc_new w _
theorem Arr.put (h : Arr k t w g zs) (i : Nat) (z : Int) : Arr k t (w.setCell ⟨g, i, none⟩ (.int k z)) g (zs.set i z) := by
  unfold Arr at h ⊢
  simp [World.setCell, Array.getElem?_modify, h, List.map_set]
theorem Arr.drewN (h : Arr k t w g zs) (n : Nat) : Arr k t (w.drewN n) g zs := h
theorem Arr.below {B : Nat} (h : Arr k t w g zs) (hb : Below B w w') (hg : g < B) : Arr k t w' g zs := (hb.block g hg).trans h
theorem add_zero_off (g j : Nat) : (⟨g, 0, none⟩ : Addr).add j = ⟨g, j, none⟩ := by
  unfold Addr.add; split
  · subst_vars; rfl
  · simp
theorem Arr.il (h : Arr .i64 3 w g zs) : Il w (some ⟨g, 0, none⟩) zs.length zs :=
  ⟨rfl, fun _ => ⟨_, rfl, h.lt, fun j hj => by
    have := h.cell hj
    rw [← this, add_zero_off]⟩⟩
end

theorem info3 : ∃ i, Tryz.prog.info? 3 = some i ∧ i.zero = some (.int .i64 0) ∧ i.size = 1 ∧ i.bytes = 8 := info_parts (by kernel_rfl)
theorem make22 (n : Nat) (hn : n ≤ 100000) (w : World) : (Instr.makeSlice 23 (.int .i64 (n : Int)) (.int .i64 (n : Int))).run Tryz.prog w =
    .ok (.slice (some ⟨w.heap.size, 0, none⟩) n n) (w.alloc (.cells ((List.replicate n 0).map (Value.int .i64)).toArray 3)) := by
  obtain ⟨i, hi, hz, hs, hb⟩ := info3
  have hr := run_make (P := Tryz.prog) w 23 3 i _ Tryz.underlying23 hi hz .i64 .i64 n n (by omega) (by omega) (by rw [hb]; omega) (by omega)
  have e : madeCells (Value.int .i64 0).cells (n * i.size) = ((List.replicate n 0).map (Value.int .i64)).toArray := by
    rw [hs, Nat.mul_one]
    apply Array.toList_inj.1
    show (madeCells #[Value.int .i64 0] n).toList = _
    rw [toList_madeCells_one]; simp
  simp only [Int.toNat_natCast] at hr
  rw [hr, e]

/-- The slice value v is the call's own row (among the blocks from base on), and holds zs. -/
def Own (w : World) (base : Nat) (v : Value) (zs : List Int) : Prop := w.ownsRow base 3 1 v zs.length (zs.map (Value.int .i64))
theorem Own.il {w : World} {base : Nat} {v : Value} {zs : List Int} (h : Own w base v zs) : ∃ A cap, v = .slice A zs.length cap ∧ Il w A zs.length zs := by
  rcases h.2 with ⟨rfl, h0⟩ | ⟨g, cap, cur, rfl, _, hh, hnc, _, hcs, hx⟩
  · exact ⟨none, 0, by rw [h0], rfl, fun hn => by omega⟩
  · refine ⟨_, cap, rfl, rfl, fun _ => ⟨_, rfl, ?_, fun j hj => ?_⟩⟩
    · rcases Nat.lt_or_ge g w.heap.size with hlt | hge
      · exact hlt
      · rw [Array.getElem?_eq_none hge] at hh; cases hh
    · refine h.cells (g := g) rfl j _ ?_
      simp [hj]
theorem Own.nil (w : World) (base : Nat) : Own w base (.slice none 0 0) [] := World.ownsRow_nil _ _ _ _
theorem Own.lit (w : World) (base : Nat) (zs : List Int) (hb : base ≤ w.heap.size) (hl : zs.length ≤ 1000) :
    Own (w.alloc (.cells (zs.map (Value.int .i64)).toArray 3)) base (.slice (some ⟨w.heap.size, 0, none⟩) zs.length zs.length) zs := by
  refine ⟨by simp, .inr ⟨w.heap.size, zs.length, _, rfl, hb, heap_alloc_new w _, Nat.le_refl _, by unfold maxLen; omega, by simp, by simp [List.take_of_length_le]⟩⟩
theorem Own.alloc {w : World} {base : Nat} {v : Value} {zs : List Int} (h : Own w base v zs) (o : Obj) : Own (w.alloc o) base v zs := World.ownsRow.alloc h o
theorem Own.row {w : World} {base : Nat} {v : Value} {zs : List Int} (h : Own w base v zs) : ∀ k, v.ownBlock = some k → base ≤ k := fun k hk => (World.ownsRow.lt h k hk).1

theorem run_append_of_none (w : World) (base : Nat) (ty : TypeId) (v : Value) (zs : List Int) (h : Own w base v zs) (c : Nat) : (Builtin.append_ #[23, 23] ty #[v, .slice none 0 c]).run Tryz.prog w = .ok v w := by
  obtain ⟨i, hi, -, -, -⟩ := info3
  rcases h.2 with ⟨rfl, h0⟩ | ⟨g, cap, cur, rfl, _, _, hnc, _⟩
  · simp [Builtin.append_, run_underlying Tryz.underlying23, sizeOf, typeInfo, hi, Builtin.lenOf, Builtin.firstCells]
  · simp [Builtin.append_, run_underlying Tryz.underlying23, sizeOf, typeInfo, hi, Builtin.lenOf, Builtin.firstCells, hnc, storeCells]

/-- append onto a row of the call's own, whatever the source. -/
theorem wp_append_ints (w : World) {o : Oper} {a : Act} {K : Act → World → Prop} {Q : Exit → Act → World → Prop} (s x : Operand)
    (ho : o.op = .call { callee := .builtin .append, args := #[s, x], argTypes := #[23, 23] })
    (base : Nat) (v : Value) (zs : List Int) (hs : a.eval s = v) (hown : Own w base v zs) (A : Option Addr) (m c : Nat) (ys : List Int) (hx : a.eval x = .slice A m c) (hr : Il w A m ys)
    (hlen : zs.length + m ≤ 1000000) (hbase : base ≤ w.heap.size)
    (h : ∀ v' w', Own w' base v' (zs ++ ys) → w.grownBy w' v.ownBlock → K (a.put o.dst v') w') : o.wp Tryz.prog a w K Q := by
  obtain ⟨i, hi, hz, hsz, hb⟩ := info3
  have hm := hr.1
  rcases A with _ | ad
  · have h0 : m = 0 := by
      rcases Nat.eq_zero_or_pos m with h | h
      · exact h
      · obtain ⟨ad, e, _⟩ := hr.2 h; cases e
    subst h0
    have hy : ys = [] := List.eq_nil_of_length_eq_zero hm
    subst hy
    have hrun := run_append_of_none w base o.type v zs hown c
    unfold Oper.wp
    simp [execOp, ho, resolve, invoke, builtin, hs, hx, hrun, Result.andThen]
    exact h v w (by simpa using hown) (World.grownBy.refl w _)
  · refine wp_append_own w s x 23 ho base 3 i _ 1 8 Tryz.underlying23 hi hz hsz hb rfl (by omega) v zs.length _ hs hown ad m c (ys.map (Value.int .i64)) hx (by simp [hm]) ?_ (ints_oneCell _ _) (by unfold maxLen; omega) (by omega) hbase ?_
    · intro j u hu
      have hj : j < m := by
        rcases Nat.lt_or_ge j m with h | h
        · exact h
        · rw [List.getElem?_eq_none (by simp [hm]; exact h)] at hu; cases hu
      obtain ⟨ad', e, _, hc⟩ := hr.2 (by omega)
      injection e with e
      subst e
      rw [hc j hj]
      simp [hm ▸ hj] at hu
      simp [hm ▸ hj, hu]
    · intro v' w' h1 h2 _
      refine h v' w' ?_ h2
      unfold Own
      rw [List.length_append, List.map_append, hm]
      exact h1

/-- The same, at a plain region's list. -/
theorem append_ints (w : World) {ops : Array Oper} {rest : List Oper} {o : Oper} {a : Act} {Q : Exit → Act → World → Prop} (hgd : Region.wanted o (yielded ops a.tmps) = true) (s x : Operand)
    (ho : o.op = .call { callee := .builtin .append, args := #[s, x], argTypes := #[23, 23] })
    (base : Nat) (v : Value) (zs : List Int) (hs : a.eval s = v) (hown : Own w base v zs) (A : Option Addr) (m c : Nat) (ys : List Int) (hx : a.eval x = .slice A m c) (hr : Il w A m ys)
    (hlen : zs.length + m ≤ 1000000) (hbase : base ≤ w.heap.size)
    (h : ∀ v' w', Own w' base v' (zs ++ ys) → w.grownBy w' v.ownBlock → wpList Tryz.prog ops Q rest (a.put o.dst v') w') : wpList Tryz.prog ops Q (o :: rest) a w :=
  BigFrame.wpList_want hgd fun _ hK => wp_append_ints w s x ho base v zs hs hown A m c ys hx hr hlen hbase fun v' w' h1 h2 => hK _ _ (h v' w' h1 h2)

/-- The same, at a step of a region that draws its order. -/
theorem step_append_ints (w : World) {ops : Array Oper} {o : Oper} {a : Act} {K : Act → World → Prop} {Q : Exit → Act → World → Prop} {E : Prop} (hgd : o.guard = none) (s x : Operand)
    (ho : o.op = .call { callee := .builtin .append, args := #[s, x], argTypes := #[23, 23] })
    (base : Nat) (v : Value) (zs : List Int) (hs : a.eval s = v) (hown : Own w base v zs) (A : Option Addr) (m c : Nat) (ys : List Int) (hx : a.eval x = .slice A m c) (hr : Il w A m ys)
    (hlen : zs.length + m ≤ 1000000) (hbase : base ≤ w.heap.size)
    (h : ∀ v' w', Own w' base v' (zs ++ ys) → w.grownBy w' v.ownBlock → K (a.put o.dst v') w') :
    if Region.wanted o (yielded ops a.tmps) = true then Oper.wp Tryz.prog o a w K Q else E := by
  have hw : Region.wanted o (yielded ops a.tmps) = true := by simp [Region.wanted, hgd]
  rw [if_pos hw]
  exact wp_append_ints w s x ho base v zs hs hown A m c ys hx hr hlen hbase h

end Go.Proofs.YtalpbnfebcafgaaGreat
