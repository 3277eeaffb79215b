/- append onto a row of the call's own, and where the answer lies: in its own block, or in a new one. -/
import Derived.Test.YtffhhegpkejdgaaX60
import Derived.Deep.QuietTactic
import Derived.BigQuiet
import Derived.Deep.RegionHeld3
namespace Go.Proofs.Ytffhhegpkejdgaa
open Go.RowKit

/-- Where an append's answer lies. -/
def Lies (w : World) (v v' : Value) : Prop := v'.ownBlock = v.ownBlock ∨ v'.ownBlock = some w.heap.size

theorem append_run (w : World) (ty : TypeId) (base : Nat) (v : Value) (zs : List Int) (hown : Own w base v zs) (A : Option Addr) (m c : Nat) (ys : List Int) (hr : Il w A m ys)
    (hlen : zs.length + m ≤ 1000000) (hbase : base ≤ w.heap.size) :
    ∃ v' w', (Builtin.append_ #[25, 25] ty #[v, .slice A m c]).run Try.prog w = .ok v' w' ∧ Own w' base v' (zs ++ ys) ∧ w.grownBy w' v.ownBlock ∧ Lies w v v' := by
  obtain ⟨i, hi, hz, hsz, hb⟩ := info3
  have hm := hr.1
  rcases A with _ | ad
  · have h0 : m = 0 := by
      rcases Nat.eq_zero_or_pos m with h | h
      · exact h
      · obtain ⟨ad, e, _⟩ := hr.2 h; cases e
    subst h0
    have hy : ys = [] := List.eq_nil_of_length_eq_zero hm
    subst hy
    exact ⟨v, w, run_append_of_none w base ty v zs hown c, by simpa using hown, World.grownBy.refl w _, .inl rfl⟩
  · have hnl : (ys.map (Value.int .i64)).length = m * 1 := by simp [hm]
    have hnews : ∀ j u, (ys.map (Value.int .i64))[j]? = some u → w.cell? (ad.add j) = some u := by
      intro j u hu
      have hj : j < m := by
        rcases Nat.lt_or_ge j m with h | h
        · exact h
        · rw [List.getElem?_eq_none (by simp [hm]; exact h)] at hu; cases hu
      obtain ⟨ad', e, _, hc⟩ := hr.2 (by omega)
      injection e with e
      subst e
      rw [hc j hj]
      simp [hm ▸ hj] at hu
      simp [hm ▸ hj, hu]
    obtain ⟨v', w', hrun, h1, h2, _⟩ := run_append_own (P := Try.prog) w base 25 ty 3 i _ 1 8 Try.underlying25 hi hz hsz hb rfl (by omega) v zs.length _ hown ad m c (ys.map (Value.int .i64)) hnl hnews (ints_oneCell _ _) (by unfold maxLen; omega) (by omega) hbase
    refine ⟨v', w', hrun, ?_, h2, ?_⟩
    · unfold Own
      rw [List.length_append, List.map_append, hm]
      exact h1
    · rw [← hsz] at hnl
      rcases hown.2 with ⟨rfl, h0⟩ | ⟨g, cap, cur, rfl, hbg, hg, hnc, hcm, hcs, htake⟩
      · rcases Nat.eq_zero_or_pos m with hm0 | hm0
        · subst hm0
          have hy : ys = [] := List.eq_nil_of_length_eq_zero hm
          subst hy
          have e : (Builtin.append_ #[25, 25] ty #[.slice none 0 0, .slice (some ad) 0 c]).run Try.prog w = .ok (.slice none 0 0) w := by
            simp [Builtin.append_, run_underlying Try.underlying25, sizeOf, typeInfo, hi, Builtin.lenOf, Builtin.firstCells, loadCells, loadCellsFrom]
          rw [e] at hrun
          injection hrun with e1 e2
          exact .inl (by rw [← e1])
        · have e := run_append_nil (P := Try.prog) w 25 ty 3 i _ Try.underlying25 hi hz ad m c _ hnl hnews hm0 (by omega) (by rw [hb]; omega)
          rw [e] at hrun
          injection hrun with e1 e2
          exact .inr (by rw [← e1]; rfl)
      · by_cases hroom : zs.length + m ≤ cap
        · have e := run_append_room (P := Try.prog) w 25 ty 3 i Try.underlying25 hi g zs.length cap cur hg ad m c _ hnl hnews (ints_oneCell _ _) hroom (by rw [hnl, hcs, hsz]; omega)
          rw [e] at hrun
          injection hrun with e1 e2
          exact .inl (by rw [← e1]; rfl)
        · have e := run_append_grow (P := Try.prog) w 25 ty 3 i _ Try.underlying25 hi hz ⟨g, 0, none⟩ zs.length cap _ (by rw [hsz]; exact hown.1) (World.ownsRow.cells hown (g := g) rfl) ad m c _ hnl hnews (by omega) (by omega) (by rw [hb]; exact growslice_fits (by omega) (by omega))
          rw [e] at hrun
          injection hrun with e1 e2
          exact .inr (by rw [← e1]; rfl)

theorem wp_append_ints2 (w : World) {o : Oper} {a : Act} {K : Act → World → Prop} {Q : Exit → Act → World → Prop} (s x : Operand)
    (ho : o.op = .call { callee := .builtin .append, args := #[s, x], argTypes := #[25, 25] })
    (base : Nat) (v : Value) (zs : List Int) (hs : a.eval s = v) (hown : Own w base v zs) (A : Option Addr) (m c : Nat) (ys : List Int) (hx : a.eval x = .slice A m c) (hr : Il w A m ys)
    (hlen : zs.length + m ≤ 1000000) (hbase : base ≤ w.heap.size)
    (h : ∀ v' w', Own w' base v' (zs ++ ys) → w.grownBy w' v.ownBlock → Lies w v v' → K (a.put o.dst v') w') : o.wp Try.prog a w K Q := by
  obtain ⟨v', w', hrun, h1, h2, h3⟩ := append_run w o.type base v zs hown A m c ys hr hlen hbase
  unfold Oper.wp execOp
  simp only [ho, resolve, invoke, builtin, Sem.run_bind, Sem.run_pure, Result.andThen_ok, List.map_toArray, List.map_cons, List.map_nil, hs, hx, hrun]
  exact h v' w' h1 h2 h3
theorem append_ints2 (w : World) {ops : Array Oper} {rest : List Oper} {o : Oper} {a : Act} {Q : Exit → Act → World → Prop} (hgd : Region.wanted o (yielded ops a.tmps) = true) (s x : Operand)
    (ho : o.op = .call { callee := .builtin .append, args := #[s, x], argTypes := #[25, 25] })
    (base : Nat) (v : Value) (zs : List Int) (hs : a.eval s = v) (hown : Own w base v zs) (A : Option Addr) (m c : Nat) (ys : List Int) (hx : a.eval x = .slice A m c) (hr : Il w A m ys)
    (hlen : zs.length + m ≤ 1000000) (hbase : base ≤ w.heap.size)
    (h : ∀ v' w', Own w' base v' (zs ++ ys) → w.grownBy w' v.ownBlock → Lies w v v' → wpList Try.prog ops Q rest (a.put o.dst v') w') : wpList Try.prog ops Q (o :: rest) a w :=
  BigFrame.wpList_want hgd fun _ hK => wp_append_ints2 w s x ho base v zs hs hown A m c ys hx hr hlen hbase fun v' w' h1 h2 h3 => hK _ _ (h v' w' h1 h2 h3)
theorem step_append_ints2 (w : World) {ops : Array Oper} {o : Oper} {a : Act} {K : Act → World → Prop} {Q : Exit → Act → World → Prop} {E : Prop} (hgd : o.guard = none) (s x : Operand)
    (ho : o.op = .call { callee := .builtin .append, args := #[s, x], argTypes := #[25, 25] })
    (base : Nat) (v : Value) (zs : List Int) (hs : a.eval s = v) (hown : Own w base v zs) (A : Option Addr) (m c : Nat) (ys : List Int) (hx : a.eval x = .slice A m c) (hr : Il w A m ys)
    (hlen : zs.length + m ≤ 1000000) (hbase : base ≤ w.heap.size)
    (h : ∀ v' w', Own w' base v' (zs ++ ys) → w.grownBy w' v.ownBlock → Lies w v v' → K (a.put o.dst v') w') :
    if Region.wanted o (yielded ops a.tmps) = true then Oper.wp Try.prog o a w K Q else E := by
  have hw : Region.wanted o (yielded ops a.tmps) = true := by simp [Region.wanted, hgd]
  rw [if_pos hw]
  exact wp_append_ints2 w s x ho base v zs hs hown A m c ys hx hr hlen hbase h

theorem Own.below {w w' : World} {base : Nat} {v : Value} {zs : List Int} (h : Own w base v zs) (hb : Below w.heap.size w w') : Own w' base v zs := by
  refine ⟨h.1, ?_⟩
  rcases h.2 with hn | ⟨g, cap, cur, rfl, hbg, hgg, rest⟩
  · exact .inl hn
  · exact .inr ⟨g, cap, cur, rfl, hbg, (hb.block g (Array.getElem?_eq_some_iff.1 hgg).1).trans hgg, rest⟩
theorem Own.mono {w : World} {base base' : Nat} {v : Value} {zs : List Int} (h : Own w base v zs) (hb : base' ≤ base) : Own w base' v zs := by
  refine ⟨h.1, ?_⟩
  rcases h.2 with hn | ⟨g, cap, cur, rfl, hbg, rest⟩
  · exact .inl hn
  · exact .inr ⟨g, cap, cur, rfl, by omega, rest⟩
/-- A slice that is nobody's append's: it reads as it did. -/
theorem Il.grown {w w' : World} {row : Option Nat} {A : Option Addr} {n : Nat} {zs : List Int} (h : Il w A n zs) (hg : w.grownBy w' row) (hne : ∀ ad, A = some ad → some ad.block ≠ row) : Il w' A n zs :=
  ⟨h.1, fun hn => by
    obtain ⟨ad, e, hl, hc⟩ := h.2 hn
    refine ⟨ad, e, Nat.lt_of_lt_of_le hl hg.size, fun j hj => hg.cell (hc j hj) ?_⟩
    rw [block_of_add]; exact hne ad e⟩
/-- A literal was laid, and appended to a row of the call's own: what lies elsewhere is as it was. -/
theorem push_lit {w wr w2 : World} {o : Obj} {B : Nat} {v : Value} {l : List Int} (hB : Below B w wr) (hle : B ≤ wr.heap.size) (hx : Own wr B v l) (hg : (wr.alloc o).grownBy w2 v.ownBlock) : Below B w w2 :=
  (hB.alloc hle o).grown hg (by simp; omega) (fun _ hk => hx.row _ hk)
theorem push_away {wr w2 : World} {o : Obj} {v v1 : Value} {p n : Nat} {zs : List Int} (hl : Lies (wr.alloc o) v v1) (hg : (wr.alloc o).grownBy w2 v.ownBlock) (hne : v.ownBlock ≠ some p) (hp : Il wr (some ⟨p, 0, none⟩) n zs) (h0 : 0 < n) :
    v1.ownBlock ≠ some p ∧ Il w2 (some ⟨p, 0, none⟩) n zs := by
  obtain ⟨ad, e, hlt, _⟩ := hp.2 h0
  injection e with e
  subst e
  constructor
  · rcases hl with h | h
    · rw [h]; exact hne
    · rw [h]; simp; exact fun e => by simp at hlt; omega
  · refine (hp.alloc o).grown hg fun ad e => ?_
    injection e with e
    subst e
    exact fun e => hne e.symm
/-- As much as its length is room. -/
theorem Own.il2 {w : World} {base : Nat} {v : Value} {zs : List Int} (h : Own w base v zs) : ∃ A cap, v = .slice A zs.length cap ∧ Il w A zs.length zs ∧ zs.length ≤ cap := by
  obtain ⟨A, cap, e, hi⟩ := h.il
  refine ⟨A, cap, e, hi, ?_⟩
  rcases h.2 with ⟨h1, h0⟩ | ⟨g, cap', cur, h1, _, _, hnc, _⟩
  · omega
  · rw [e] at h1
    injection h1 with _ _ h3
    omega
theorem Own.shape {w : World} {base : Nat} {v : Value} {zs : List Int} (h : Own w base v zs) (h0 : 0 < zs.length) : ∃ g cap, v = .slice (some ⟨g, 0, none⟩) zs.length cap ∧ base ≤ g ∧ zs.length ≤ cap := by
  rcases h.2 with ⟨_, h1⟩ | ⟨g, cap, cur, e, hb, _, hnc, _⟩
  · omega
  · exact ⟨g, cap, e, hb, hnc⟩
section
variable {w : World} {base g n cap : Nat} {zs : List Int}
theorem Own.cell (h : Own w base (.slice (some ⟨g, 0, none⟩) n cap) zs) {j : Nat} (hj : j < zs.length) : w.cell? ⟨g, j, none⟩ = some (.int .i64 (zs.getD j 0)) := by
  have := World.ownsRow.cells h (g := g) rfl j (.int .i64 (zs.getD j 0)) (by simp [hj])
  rwa [add_zero_off] at this
theorem Own.il_at (h : Own w base (.slice (some ⟨g, 0, none⟩) n cap) zs) : Il w (some ⟨g, 0, none⟩) n zs := by
  obtain ⟨A, cap', e, hi⟩ := h.il
  injection e with e1 e2 _
  rw [e1, e2]; exact hi
theorem Own.frozen (h : Own w base (.slice (some ⟨g, 0, none⟩) n cap) zs) (j : Nat) : w.frozen? ⟨g, j, none⟩ = false := by
  rcases h.2 with ⟨h1, _⟩ | ⟨g', cap', cur, e, hb, hh, _⟩
  · cases h1
  · injection e with e _ _
    injection e with e
    injection e with e
    subst e
    simp [World.frozen?, hh]
theorem Own.put (h : Own w base (.slice (some ⟨g, 0, none⟩) n cap) zs) (j : Nat) (z : Int) : Own (w.setCell ⟨g, j, none⟩ (.int .i64 z)) base (.slice (some ⟨g, 0, none⟩) n cap) (zs.set j z) := by
  unfold Own
  rw [List.length_set]
  refine ⟨by simp, ?_⟩
  rcases h.2 with ⟨h1, _⟩ | ⟨g', cap', cur, e, hb, hh, hnc, hm, hs, ht⟩
  · cases h1
  · injection e with e e2 e3
    injection e with e
    injection e with e
    subst e
    refine .inr ⟨g, cap', cur.setIfInBounds j (.int .i64 z), by rw [e2, e3], hb, ?_, hnc, hm, by simpa using hs, ?_⟩
    · simp [World.setCell, Array.getElem?_modify, hh]
    · rw [List.map_set, ← ht]
      simp [List.take_set]
end
/-- Two rows of the call's own lie apart. -/
def Sep (u v : Value) : Prop := u.ownBlock = none ∨ u.ownBlock ≠ v.ownBlock
theorem Sep.symm {u v : Value} (h : Sep u v) : Sep v u := by
  rcases h with h | h
  · cases hv : v.ownBlock with
    | none => exact .inl hv
    | some k => exact .inr (by rw [h, hv]; simp)
  · exact .inr (Ne.symm h)
theorem Sep.lies {w : World} {base : Nat} {u v v' : Value} {l : List Int} (h : Sep u v) (hu : Own w base u l) (hl : Lies w v v') : Sep u v' := by
  rcases hl with e | e
  · unfold Sep; rw [e]; exact h
  · cases hk : u.ownBlock with
    | none => exact .inl hk
    | some k =>
      have := (World.ownsRow.lt hu k hk).2
      exact .inr (by rw [hk, e]; simp; omega)
theorem Own.kept {w w' : World} {base : Nat} {u v : Value} {l : List Int} (h : Own w base u l) (hg : w.grownBy w' v.ownBlock) (hs : Sep u v) : Own w' base u l := World.ownsRow.kept h hg hs
end Go.Proofs.Ytffhhegpkejdgaa

/- Frames as values, and what of them the program reads. -/
namespace Go.Proofs.Ytffhhegpkejdgaa
open Go.RowKit

/-- A frame. -/
structure Fr where
  id : Int
  ext : Bool
  rtr : Bool
  len : Int
  d : Nat → Int

abbrev Fr.cells (f : Fr) : Array Value := #[.int .i64 f.id, .bool f.ext, .bool f.rtr, .int .i64 f.len, .int .u8 (f.d 0), .int .u8 (f.d 1), .int .u8 (f.d 2), .int .u8 (f.d 3), .int .u8 (f.d 4), .int .u8 (f.d 5), .int .u8 (f.d 6), .int .u8 (f.d 7)]
abbrev Fr.val (f : Fr) : Value := .agg f.cells

def Fr.most (f : Fr) : Int := if f.ext then 536870911 else 2047
/-- A frame may be. -/
def Fr.may (f : Fr) : Bool := decide (0 ≤ f.id) && decide (f.id ≤ f.most) && decide (0 ≤ f.len) && decide (f.len ≤ 8) && (List.range 8).all fun k => f.d k == 0 || (!f.rtr && decide ((k : Int) < f.len))
def Fr.num (f : Fr) : Nat := if f.ext then (f.id.toNat / 262144 * 4 + 3) * 524288 + f.id.toNat % 262144 * 2 + f.rtr.toNat else f.id.toNat * 4 + f.rtr.toNat * 2
def Fr.wid (f : Fr) : Nat := if f.ext then 32 else 13

theorem great_any (b : Bool) (w : World) : Calls Try.prog 34 #[.bool b] w fun e w' => e = .returned (.int .i64 (if b then 536870911 else 2047)) ∧ w = w' := by
  cases b <;> (go_enter Try.func34, Try.ntmps34; go_wp2; go_ret; exact ⟨rfl, rfl⟩)


theorem may_parts {f : Fr} (h : f.may = true) : 0 ≤ f.id ∧ f.id ≤ f.most ∧ 0 ≤ f.len ∧ f.len ≤ 8 ∧ ∀ k, k < 8 → f.d k = 0 ∨ (f.rtr = false ∧ (k : Int) < f.len) := by
  simp only [Fr.may, Bool.and_eq_true, decide_eq_true_eq, List.all_eq_true, List.mem_range, Bool.or_eq_true, beq_iff_eq, Bool.not_eq_true'] at h
  exact ⟨h.1.1.1.1, h.1.1.1.2, h.1.1.2, h.1.2, h.2⟩

theorem or_low (a b k : Nat) (hb : b < 2 ^ k) (ha : a * 2 ^ k < 18446744073709551616) (hk : b < 18446744073709551616 := by omega) : bits .or .u64 ((a * 2 ^ k : Nat) : Int) (b : Int) = ((a * 2 ^ k + b : Nat) : Int) := by
  rw [u64_or_nat _ _ ha hk, Nat.mul_comm a, Nat.two_pow_add_eq_or_of_lt hb]
theorem num_short (i n : Int) (r : Bool) (d : Nat → Int) : Fr.num ⟨i, false, r, n, d⟩ = i.toNat * 4 + r.toNat * 2 := rfl
theorem num_long (i n : Int) (r : Bool) (d : Nat → Int) : Fr.num ⟨i, true, r, n, d⟩ = (i.toNat / 262144 * 4 + 3) * 524288 + i.toNat % 262144 * 2 + r.toNat := rfl

theorem long_facts (i : Nat) (r : Bool) (hi : i ≤ 536870911) : ∃ A B C D : Nat, (A : Int) ≤ 8191 ∧ (B : Int) < 262144 ∧ (C : Int) ≤ 4294967295 ∧
    bits .or .u64 ((i : Int) / 262144 * 4) 3 = (A : Int) ∧ bits .and .u64 (i : Int) 262143 = (B : Int) ∧ bits .or .u64 ((A : Int) * 524288) ((B : Int) * 2) = (C : Int) ∧ bits .or .u64 (C : Int) (r.toNat : Int) = (D : Int) ∧
    (i / 262144 * 4 + 3) * 524288 + i % 262144 * 2 + r.toNat = D := by
  obtain ⟨A, hA⟩ : ∃ A, A = i / 262144 * 4 + 3 := ⟨_, rfl⟩
  obtain ⟨B, hB⟩ : ∃ B, B = i % 262144 := ⟨_, rfl⟩
  obtain ⟨C, hC⟩ : ∃ C, C = A * 524288 + B * 2 := ⟨_, rfl⟩
  have hrb : r.toNat < 2 ^ 1 := by cases r <;> decide
  have ho1 : bits .or .u64 ((i : Int) / 262144 * 4) 3 = (A : Int) := by
    have := or_low (i / 262144) 3 2 (by omega) (by omega)
    rw [hA]; simpa using this
  have ho2 : bits .and .u64 (i : Int) 262143 = (B : Int) := by
    rw [hB, ← nat_mask18]; exact u64_and_nat i 262143 (by omega) (by omega)
  have ho3 : bits .or .u64 ((A : Int) * 524288) ((B : Int) * 2) = (C : Int) := by
    have := or_low A (B * 2) 19 (by omega) (by omega)
    rw [hC]; simpa using this
  have ho4 : bits .or .u64 (C : Int) (r.toNat : Int) = ((C + r.toNat : Nat) : Int) := by
    have := or_low (A * 262144 + B) r.toNat 1 hrb (by omega)
    rw [show (A * 262144 + B) * 2 ^ 1 = C by omega] at this
    exact this
  exact ⟨A, B, C, C + r.toNat, by omega, by omega, by omega, ho1, ho2, ho3, ho4, by rw [← hA, ← hB, ← hC]⟩

set_option maxHeartbeats 400000 in
theorem levels_ok (f : Fr) (w : World) (hm : f.may = true) :
    Calls Try.prog 73 #[f.val] w fun e w' => e = .returned (.tuple #[.int .u64 f.num, .int .i64 f.wid]) ∧ Below w.heap.size w w' := by
  obtain ⟨h0, h1, _⟩ := may_parts hm
  obtain ⟨i, x, r, n, d⟩ := f
  obtain ⟨i, rfl⟩ := Int.eq_ofNat_of_zero_le h0
  have hi : (i : Int) ≤ 536870911 := by
    revert h1; simp only [Fr.most]; split <;> omega
  have hb : Below w.heap.size w (w.alloc (.cells (Fr.cells ⟨i, x, r, n, d⟩) 24)) := (Below.refl _ _).alloc (Nat.le_refl _) _
  have HB := Lib.hid hb
  have HN := Lib.hid (num_short (i : Int) n r d)
  have HL := Lib.hid (num_long (i : Int) n r d)
  rw [Int.toNat_natCast] at HN HL
  clear h0 hm hb
  cases x
  · simp [Fr.most] at h1
    have hrb : (r.toNat * 2) < 2 ^ 2 := by cases r <;> decide
    have ho : bits .or .u64 ((i : Int) * 4) (r.toNat * 2 : Nat) = ((i * 4 + r.toNat * 2 : Nat) : Int) := by
      have := or_low i (r.toNat * 2) 2 hrb (by omega)
      simpa using this
    rw [HN.out]
    generalize hc : i * 4 + r.toNat * 2 = c at *
    cases r
    · have ho2 : bits .or .u64 ((i : Int) * 4) 0 = (c : Int) := ho
      go_enter Try.func73, Try.ntmps73
      go_wp2
      go_ret2
      exact ⟨rfl, HB.out⟩
    · have ho2 : bits .or .u64 ((i : Int) * 4) 2 = (c : Int) := ho
      go_enter Try.func73, Try.ntmps73
      go_wp2
      go_ret2
      exact ⟨rfl, HB.out⟩
  · rw [HL.out]
    obtain ⟨A, B, C, D, hA', hB', hC', ho1, ho2, ho3, ho4, hD⟩ := long_facts i r (by omega)
    rw [hD]
    clear hD
    cases r
    · have ho5 : bits .or .u64 (C : Int) 0 = (D : Int) := ho4
      clear ho4
      go_enter Try.func73, Try.ntmps73
      go_wp2
      go_ret2
      exact ⟨rfl, HB.out⟩
    · have ho5 : bits .or .u64 (C : Int) 1 = (D : Int) := ho4
      clear ho4
      go_enter Try.func73, Try.ntmps73
      go_wp2
      go_ret2
      exact ⟨rfl, HB.out⟩
end Go.Proofs.Ytffhhegpkejdgaa

/- The contracts of frame.Check and of the reference's Check. -/
namespace Go.Proofs.Ytffhhegpkejdgaa
open Go.RowKit

def Fr.err (f : Fr) : Int := if f.may then 0 else 14
theorem may_of {f : Fr} (h0 : 0 ≤ f.id) (h1 : f.id ≤ f.most) (h2 : 0 ≤ f.len) (h3 : f.len ≤ 8) (h : ∀ k, k < 8 → f.d k = 0 ∨ (f.rtr = false ∧ (k : Int) < f.len)) : f.may = true := by
  simp only [Fr.may, Bool.and_eq_true, decide_eq_true_eq, List.all_eq_true, List.mem_range, Bool.or_eq_true, beq_iff_eq, Bool.not_eq_true']
  exact ⟨⟨⟨⟨h0, h1⟩, h2⟩, h3⟩, h⟩
theorem err_bad {f : Fr} (h : ¬ (0 ≤ f.id ∧ f.id ≤ f.most ∧ 0 ≤ f.len ∧ f.len ≤ 8)) : f.err = 14 := by
  unfold Fr.err
  rw [if_neg]
  intro hm
  obtain ⟨h0, h1, h2, h3, _⟩ := may_parts hm
  exact h ⟨h0, h1, h2, h3⟩
theorem data_cell (f : Fr) (w : World) (k : Nat) (hk : k < 8) : (w.alloc (.cells f.cells 24)).cell? ⟨w.heap.size, 4 + k, none⟩ = some (.int .u8 (f.d k)) := by
  have h : f.cells[4 + k]? = some (.int .u8 (f.d k)) := by
    match k, hk with
    | 0, _ | 1, _ | 2, _ | 3, _ | 4, _ | 5, _ | 6, _ | 7, _ => rfl
  rw [← h]
  generalize f.cells = cs
  simp only [World.cell?, heap_alloc_new]
  rfl

set_option maxHeartbeats 800000 in
theorem check_bad (f : Fr) (w : World) (hm : ¬ (0 ≤ f.id ∧ f.id ≤ f.most ∧ 0 ≤ f.len ∧ f.len ≤ 8)) :
    Calls Try.prog 19 #[f.val] w fun e w' => e = .returned (.int .i64 14) ∧ Below w.heap.size w w' := by
  have hb : Below w.heap.size w (w.alloc (.cells f.cells 24)) := (Below.refl _ _).alloc (Nat.le_refl _) _
  have HB := Lib.hid hb
  obtain ⟨i, x, r, n, d⟩ := f
  unfold Fr.most at hm
  simp only at hm
  clear hb
  generalize hmo : (if x = true then (536870911 : Int) else 2047) = mo at hm
  have hg : ∀ w0 : World, Calls Try.prog 34 #[.bool x] w0 fun e w' => e = .returned (.int .i64 mo) ∧ w' = w0 := fun w0 => by
    rw [← hmo]; exact (great_any x w0).mono fun _ _ ⟨h1, h2⟩ => ⟨h1, h2.symm⟩
  clear hmo
  by_cases c0 : i < 0
  · clear hm
    go_enter Try.func19, Try.ntmps19
    go_wp2
    go_quiet (fail)
    go_wp2
    go_ret
    exact ⟨rfl, belowN HB.out _⟩
  have d0 : decide (i < 0) = false := by simpa using c0
  by_cases c1 : mo < i
  · clear hm
    go_enter Try.func19, Try.ntmps19
    go_wp2
    go_quiet (first | (go_at_call 34; refine Calls.quiet_of_same (hg _)))
    go_wp2
    go_ret
    exact ⟨rfl, belowN HB.out _⟩
  have d1 : decide (mo < i) = false := by simpa using c1
  by_cases c2 : n < 0
  · clear hm
    go_enter Try.func19, Try.ntmps19
    go_wp2
    go_quiet (first | (go_at_call 34; refine Calls.quiet_of_same (hg _)))
    go_wp2
    go_ret
    exact ⟨rfl, belowN HB.out _⟩
  have d2 : decide (n < 0) = false := by simpa using c2
  by_cases c3 : 8 < n
  · clear hm
    go_enter Try.func19, Try.ntmps19
    go_wp2
    go_quiet (first | (go_at_call 34; refine Calls.quiet_of_same (hg _)))
    go_wp2
    go_ret
    exact ⟨rfl, belowN HB.out _⟩
  exact absurd ⟨by omega, by omega, by omega, by omega⟩ hm

theorem err_stop {f : Fr} {c k : Nat} (hc : ∀ j : Nat, c ≤ j → ¬ (f.rtr = false ∧ (j : Int) < f.len)) (hk : c + k < 8) (hd : f.d (c + k) ≠ 0) : f.err = 14 := by
  unfold Fr.err
  rw [if_neg]
  intro hm
  obtain ⟨_, _, _, _, h⟩ := may_parts hm
  rcases h (c + k) hk with h | h
  · exact hd h
  · exact hc (c + k) (by omega) h
theorem err_end {f : Fr} {c : Nat} (h0 : 0 ≤ f.id) (h1 : f.id ≤ f.most) (h2 : 0 ≤ f.len) (h3 : f.len ≤ 8) (hc : ∀ j : Nat, j < c → f.rtr = false ∧ (j : Int) < f.len) (hd : ∀ j, c ≤ j → j < 8 → f.d j = 0) : f.err = 0 := by
  unfold Fr.err
  rw [if_pos]
  refine may_of h0 h1 h2 h3 fun k hk => ?_
  rcases Nat.lt_or_ge k c with h | h
  · exact .inr (hc k h)
  · exact .inl (hd k h hk)

set_option maxHeartbeats 800000 in
theorem check_in (f : Fr) (w : World) (h0 : 0 ≤ f.id) (h1 : f.id ≤ f.most) (h2 : 0 ≤ f.len) (h3 : f.len ≤ 8) :
    Calls Try.prog 19 #[f.val] w fun e w' => e = .returned (.int .i64 f.err) ∧ Below w.heap.size w w' := by
  have hb : Below w.heap.size w (w.alloc (.cells f.cells 24)) := (Below.refl _ _).alloc (Nat.le_refl _) _
  have HB := Lib.hid hb
  have HC := Lib.hid (data_cell f w)
  have HS := fun c k => Lib.hid (@err_stop f c k)
  have HE := fun c => Lib.hid (@err_end f c h0 h1 h2 h3)
  generalize f.err = e at *
  obtain ⟨i, x, r, n, d⟩ := f
  obtain ⟨c, rfl⟩ := Int.eq_ofNat_of_zero_le h2
  unfold Fr.most at h1
  simp only at h0 h1 h2 h3
  clear hb
  generalize hmo : (if x = true then (536870911 : Int) else 2047) = mo at *
  have hg : ∀ w0 : World, Calls Try.prog 34 #[.bool x] w0 fun e w' => e = .returned (.int .i64 mo) ∧ w' = w0 := fun w0 => by
    rw [← hmo]; exact (great_any x w0).mono fun _ _ ⟨h1, h2⟩ => ⟨h1, h2.symm⟩
  clear hmo
  have d0 : decide (i < 0) = false := by simpa using h0
  have d1 : decide (mo < i) = false := by simpa using h1
  have d2 : decide ((c : Int) < 0) = false := by simp
  have d3 : decide (8 < (c : Int)) = false := by simpa using h3
  cases r
  · by_cases hc8 : c = 8
    · subst hc8
      go_enter Try.func19, Try.ntmps19
      go_wp2
      go_quiet (first | (go_at_call 34; refine Calls.quiet_of_same (hg _)))
      go_wp2
      go_loop [35] (fun i => i = .int .i64 0) (fun _ => 0)
      case atStart => rfl
      case round =>
        subst hrel
        go_wp2
        go_ret
        exact ⟨ret_int ((HE 8).out (fun j h => ⟨trivial, by omega⟩) (fun j h1 h2 => by omega)).symm, belowN HB.out _⟩
    have hc8' : ¬ (8 = c) := fun h => hc8 h.symm
    go_enter Try.func19, Try.ntmps19
    go_wp2
    go_quiet (first | (go_at_call 34; refine Calls.quiet_of_same (hg _)))
    go_wp2
    go_loop [35] (fun i => ∃ k : Nat, k ≤ 8 - c ∧ i = .int .i64 k ∧ ∀ j, c ≤ j → j < c + k → d j = 0) (fun i => 8 - c - (intOf i).toNat)
    case atStart => exact ⟨0, Nat.zero_le _, rfl, fun j h1 h2 => by omega⟩
    case round =>
      obtain ⟨k, hk, rfl, hz⟩ := hrel
      have HZ := Lib.hid hz
      clear hz
      by_cases hlt : k < 8 - c
      · have hcell := HC.out (c + k) (by omega)
        rw [← Nat.add_assoc] at hcell
        have hlt' : (k : Int) < ((8 - c : Nat) : Int) := by omega
        cases hd : (d (c + k) == 0)
        · have n0 : (d (c + k) != 0) = true := by simp [bne, hd]
          go_wp2
          go_ret
          exact ⟨ret_int ((HS c k).out (fun j h1 h2 => by omega) (by omega) (by simpa using hd)).symm, belowN HB.out _⟩
        · have n0 : (d (c + k) != 0) = false := by simp [bne, hd]
          go_wp2
          go_round
          case rel => exact ⟨k + 1, by omega, by go_num, fun j h1 h2 => by
            rcases Nat.lt_or_ge j (c + k) with h | h
            · exact HZ.out j h1 h
            · rw [show j = c + k by omega]; simpa using hd⟩
          case measure => simp [intOf]; omega
      · go_wp2
        go_ret
        exact ⟨ret_int ((HE c).out (fun j h => ⟨trivial, by omega⟩) (fun j h1 h2 => HZ.out j h1 (by omega))).symm, belowN HB.out _⟩
  · clear d2 d3
    go_enter Try.func19, Try.ntmps19
    go_wp2
    go_quiet (first | (go_at_call 34; refine Calls.quiet_of_same (hg _)))
    go_wp2
    go_loop [35] (fun i => ∃ k : Nat, k ≤ 8 ∧ i = .int .i64 k ∧ ∀ j, 0 ≤ j → j < k → d j = 0) (fun i => 8 - (intOf i).toNat)
    case atStart => exact ⟨0, Nat.zero_le _, rfl, fun j h1 h2 => by omega⟩
    case round =>
      obtain ⟨k, hk, rfl, hz⟩ := hrel
      have HZ := Lib.hid hz
      clear hz
      by_cases hlt : k < 8
      · have hcell := HC.out (k) (by omega)
        have hlt' : (k : Int) < (8 : Int) := by omega
        cases hd : (d (k) == 0)
        · have n0 : (d (k) != 0) = true := by simp [bne, hd]
          go_wp2
          go_ret
          exact ⟨ret_int ((HS 0 k).out (fun j _ h2 => by cases h2.1) (by omega) (by rw [Nat.zero_add]; simpa using hd)).symm, belowN HB.out _⟩
        · have n0 : (d (k) != 0) = false := by simp [bne, hd]
          go_wp2
          go_round
          case rel => exact ⟨k + 1, by omega, by go_num, fun j h1 h2 => by
            rcases Nat.lt_or_ge j (k) with h | h
            · exact HZ.out j h1 h
            · rw [show j = k by omega]; simpa using hd⟩
          case measure => simp [intOf]; omega
      · go_wp2
        go_ret
        exact ⟨ret_int ((HE 0).out (fun j h => by omega) (fun j h1 h2 => HZ.out j h1 (by omega))).symm, belowN HB.out _⟩
theorem fcheck_any (f : Fr) (w : World) :
    Calls Try.prog 19 #[f.val] w fun e w' => e = .returned (.int .i64 f.err) ∧ Below w.heap.size w w' := by
  rcases Classical.em (0 ≤ f.id ∧ f.id ≤ f.most ∧ 0 ≤ f.len ∧ f.len ≤ 8) with h | h
  · exact check_in f w h.1 h.2.1 h.2.2.1 h.2.2.2
  · rw [err_bad h]; exact check_bad f w h
end Go.Proofs.Ytffhhegpkejdgaa

/- The contracts of frame.Arb, bothMayBe, place, Less and Rival. -/
namespace Go.Proofs.Ytffhhegpkejdgaa
open Go.RowKit

theorem err_ok {f : Fr} (h : f.may = true) : f.err = 0 := by simp [Fr.err, h]
theorem err_no {f : Fr} (h : f.may = false) : f.err = 14 := by simp [Fr.err, h]
theorem boxed (f : Fr) (w : World) : Below w.heap.size w (w.alloc (.cells f.cells 24)) := (Below.refl _ _).alloc (Nat.le_refl _) _
theorem wid_le (f : Fr) : f.wid ≤ 64 := by unfold Fr.wid; split <;> omega
theorem num_lt {f : Fr} (h : f.may = true) : f.num < 4294967296 := by
  obtain ⟨h0, h1, _⟩ := may_parts h
  unfold Fr.most at h1
  unfold Fr.num
  have hr : f.rtr.toNat ≤ 1 := by cases f.rtr <;> decide
  split at h1 <;> simp_all <;> omega
theorem num_short_lt {f : Fr} (h : f.may = true) (hx : f.ext = false) : f.num < 8192 := by
  obtain ⟨h0, h1, _⟩ := may_parts h
  simp only [Fr.most, hx] at h1
  simp only [Fr.num, hx]
  have hr : f.rtr.toNat ≤ 1 := by cases f.rtr <;> decide
  simp at h1 ⊢
  omega

/-- The number by which frames stand in their order. -/
def Fr.plc (f : Fr) : Nat := if f.ext then f.num else f.num * 524288

/-- Block g holds the frame f. -/
def Bx (w : World) (g : Nat) (f : Fr) : Prop := w.cell? ⟨g, 0, none⟩ = some (.int .i64 f.id) ∧ w.cell? ⟨g, 1, none⟩ = some (.bool f.ext) ∧ w.cell? ⟨g, 2, none⟩ = some (.bool f.rtr) ∧ w.cell? ⟨g, 3, none⟩ = some (.int .i64 f.len) ∧ w.cell? ⟨g, 4, none⟩ = some (.int .u8 (f.d 0)) ∧ w.cell? ⟨g, 5, none⟩ = some (.int .u8 (f.d 1)) ∧ w.cell? ⟨g, 6, none⟩ = some (.int .u8 (f.d 2)) ∧ w.cell? ⟨g, 7, none⟩ = some (.int .u8 (f.d 3)) ∧ w.cell? ⟨g, 8, none⟩ = some (.int .u8 (f.d 4)) ∧ w.cell? ⟨g, 9, none⟩ = some (.int .u8 (f.d 5)) ∧ w.cell? ⟨g, 10, none⟩ = some (.int .u8 (f.d 6)) ∧ w.cell? ⟨g, 11, none⟩ = some (.int .u8 (f.d 7))
theorem bx_of {w : World} {g : Nat} {f : Fr} (h : w.heap[g]? = some (.cells f.cells 24)) : Bx w g f := by
  unfold Bx
  simp only [World.cell?, h]
  refine ⟨rfl, rfl, rfl, rfl, rfl, rfl, rfl, rfl, rfl, rfl, rfl, rfl⟩
theorem bx_new (w : World) (f : Fr) : Bx (w.alloc (.cells f.cells 24)) w.heap.size f := bx_of (heap_alloc_new w _)
theorem Bx.below {w w' : World} {g : Nat} {f : Fr} (h : Bx w g f) (hb : Below w.heap.size w w') (hg : g < w.heap.size) : Bx w' g f := by
  unfold Bx at h ⊢
  have e : ∀ k, w'.cell? ⟨g, k, none⟩ = w.cell? ⟨g, k, none⟩ := fun k => hb.cell hg
  simp only [e]
  exact h
theorem bx_past {w w' : World} {f : Fr} (hb : Below (w.alloc (.cells f.cells 24)).heap.size (w.alloc (.cells f.cells 24)) w') : Bx w' w.heap.size f :=
  (bx_new w f).below hb (by simp)

set_option maxHeartbeats 400000 in
theorem arb_bad (f : Fr) (w : World) (h : f.may = false) :
    Calls Try.prog 59 #[f.val] w fun e w' => e = .returned (.tuple #[.slice none 0 0, .int .i64 14]) ∧ Below w.heap.size w w' := by
  go_enter Try.func59, Try.ntmps59
  go_wp2_with fail
  refine (fcheck_any f _).mono ?_
  rintro e w1 ⟨rfl, hb1⟩
  rw [err_no h]
  go_wp2
  go_ret2
  exact ⟨rfl, nxt (boxed f w) hb1⟩

set_option maxHeartbeats 400000 in
theorem arb_ok (f : Fr) (w : World) (h : f.may = true) :
    Calls Try.prog 59 #[f.val] w (SlOk (ofB f.num f.wid) w) := by
  have HW := Lib.hid (wid_le f)
  have HN := Lib.hid (num_lt h)
  have HM := Lib.hid h
  have HB := Lib.hid (boxed f w)
  clear h
  go_enter Try.func59, Try.ntmps59
  go_wp2_with fail
  refine (fcheck_any f _).mono ?_
  rintro e w1 ⟨rfl, hb1⟩
  rw [err_ok HM.out]
  have HB1 := Lib.hid (nxt HB.out hb1)
  obtain ⟨c0, c1, c2, c3, c4, c5, c6, c7, c8, c9, c10, c11⟩ := bx_past hb1
  go_wp2_with fail
  refine (levels_ok f _ HM.out).mono ?_
  rintro e w2 ⟨rfl, hb2⟩
  go_wp2_with fail
  refine (of_ok _ _ _ (by have := HN.out; omega) HW.out).mono ?_
  rintro e w3 ⟨A, cap, rfl, hi, hb3⟩
  go_wp2
  go_ret2
  exact ⟨A, cap, rfl, hi, nxt (nxt HB1.out hb2) hb3⟩
end Go.Proofs.Ytffhhegpkejdgaa

/- The contract of the reference's Check. -/
namespace Go.Proofs.Ytffhhegpkejdgaa
open Go.RowKit

set_option maxHeartbeats 800000 in
theorem rcheck_bad (f : Fr) (w : World) (hm : ¬ (0 ≤ f.id ∧ f.id ≤ f.most ∧ 0 ≤ f.len ∧ f.len ≤ 8)) :
    Calls Try.prog 13 #[f.val] w fun e w' => e = .returned (.int .i64 14) ∧ Below w.heap.size w w' := by
  have HB := Lib.hid (boxed f w)
  obtain ⟨i, x, r, n, d⟩ := f
  unfold Fr.most at hm
  simp only at hm
  cases x <;> simp only [if_true, Bool.false_eq_true, if_false] at hm
  · by_cases c0 : i < 0
    · clear hm
      go_enter Try.func13, Try.ntmps13
      go_wp2
      go_ret
      exact ⟨rfl, HB.out⟩
    have d0 : decide (i < 0) = false := by simpa using c0
    by_cases c1 : 2047 < i
    · clear hm
      go_enter Try.func13, Try.ntmps13
      go_wp2
      go_ret
      exact ⟨rfl, HB.out⟩
    have d1 : decide (2047 < i) = false := by simpa using c1
    by_cases c2 : n < 0
    · clear hm
      go_enter Try.func13, Try.ntmps13
      go_wp2
      go_ret
      exact ⟨rfl, HB.out⟩
    have d2 : decide (n < 0) = false := by simpa using c2
    by_cases c3 : 8 < n
    · clear hm
      go_enter Try.func13, Try.ntmps13
      go_wp2
      go_ret
      exact ⟨rfl, HB.out⟩
    exact absurd ⟨by omega, by omega, by omega, by omega⟩ hm
  · by_cases c0 : i < 0
    · clear hm
      go_enter Try.func13, Try.ntmps13
      go_wp2
      go_ret
      exact ⟨rfl, HB.out⟩
    have d0 : decide (i < 0) = false := by simpa using c0
    by_cases c1 : 536870911 < i
    · clear hm
      go_enter Try.func13, Try.ntmps13
      go_wp2
      go_ret
      exact ⟨rfl, HB.out⟩
    have d1 : decide (536870911 < i) = false := by simpa using c1
    by_cases c2 : n < 0
    · clear hm
      go_enter Try.func13, Try.ntmps13
      go_wp2
      go_ret
      exact ⟨rfl, HB.out⟩
    have d2 : decide (n < 0) = false := by simpa using c2
    by_cases c3 : 8 < n
    · clear hm
      go_enter Try.func13, Try.ntmps13
      go_wp2
      go_ret
      exact ⟨rfl, HB.out⟩
    exact absurd ⟨by omega, by omega, by omega, by omega⟩ hm

def DataOk (d : Nat → Int) (r : Bool) (n : Int) (j : Nat) : Prop := d j = 0 ∨ (r = false ∧ (j : Int) < n)
theorem rerr_stop {f : Fr} {k : Nat} (hk : k < 8) (hd : f.d k ≠ 0) (h : f.rtr = true ∨ f.len ≤ k) : f.err = 14 := by
  unfold Fr.err
  rw [if_neg]
  intro hm
  obtain ⟨_, _, _, _, h'⟩ := may_parts hm
  rcases h' k hk with h1 | ⟨h1, h2⟩
  · exact hd h1
  · rcases h with h | h
    · rw [h] at h1; cases h1
    · omega
theorem rerr_end {f : Fr} (h0 : 0 ≤ f.id) (h1 : f.id ≤ f.most) (h2 : 0 ≤ f.len) (h3 : f.len ≤ 8) (hd : ∀ j, j < 8 → DataOk f.d f.rtr f.len j) : f.err = 0 := by
  unfold Fr.err
  rw [if_pos (may_of h0 h1 h2 h3 hd)]

set_option maxHeartbeats 1600000 in
theorem rcheck_in (f : Fr) (w : World) (h0 : 0 ≤ f.id) (h1 : f.id ≤ f.most) (h2 : 0 ≤ f.len) (h3 : f.len ≤ 8) :
    Calls Try.prog 13 #[f.val] w fun e w' => e = .returned (.int .i64 f.err) ∧ Below w.heap.size w w' := by
  have HB := Lib.hid (boxed f w)
  have HC := Lib.hid (data_cell f w)
  have HS := fun k => Lib.hid (@rerr_stop f k)
  have HE := Lib.hid (rerr_end h0 h1 h2 h3)
  generalize f.err = e at *
  obtain ⟨i, x, r, n, d⟩ := f
  unfold Fr.most at h1
  simp only at h0 h1 h2 h3 HS HE
  have d0 : decide (i < 0) = false := by simpa using h0
  have d2 : decide (n < 0) = false := by simpa using h2
  have d3 : decide (8 < n) = false := by simpa using h3
  cases x <;> simp only [if_true, Bool.false_eq_true, if_false] at h1
  · have d1 : decide (2047 < i) = false := by simpa using h1
    go_enter Try.func13, Try.ntmps13
    go_wp2
    go_loop [4] (fun i => ∃ k : Nat, k ≤ 8 ∧ i = .int .i64 k ∧ ∀ j, j < k → DataOk d r n j) (fun i => 8 - (intOf i).toNat)
    case atStart => exact ⟨0, Nat.zero_le _, rfl, fun j hj => by omega⟩
    case round =>
      obtain ⟨k, hk, rfl, hz⟩ := hrel
      have HZ := Lib.hid hz
      clear hz
      by_cases hlt : k < 8
      · have hcell := HC.out k hlt
        have hlt' : (k : Int) < 8 := by omega
        cases hd : (d k == 0)
        · have n0 : (d k != 0) = true := by simp [bne, hd]
          have hd' : d k ≠ 0 := by simpa using hd
          have HD := Lib.hid hd'
          clear hd'
          cases r
          · by_cases hkn : n ≤ (k : Int)
            · go_wp2
              go_ret
              exact ⟨ret_int ((HS k).out hlt HD.out (.inr hkn)).symm, HB.out⟩
            · have hkd : decide (n ≤ (k : Int)) = false := by simpa using hkn
              go_wp2
              go_round
              case rel => exact ⟨k + 1, by omega, by go_num, fun j hj => by
                rcases Nat.lt_or_ge j k with h | h
                · exact HZ.out j h
                · rw [show j = k by omega]; exact .inr ⟨rfl, by omega⟩⟩
              case measure => simp [intOf]; omega
          · go_wp2
            go_ret
            exact ⟨ret_int ((HS k).out hlt HD.out (.inl trivial)).symm, HB.out⟩
        · have n0 : (d k != 0) = false := by simp [bne, hd]
          go_wp2
          go_round
          case rel => exact ⟨k + 1, by omega, by go_num, fun j hj => by
            rcases Nat.lt_or_ge j k with h | h
            · exact HZ.out j h
            · rw [show j = k by omega]; exact .inl (by simpa using hd)⟩
          case measure => simp [intOf]; omega
      · go_wp2
        go_ret
        exact ⟨ret_int (HE.out (fun j hj => HZ.out j (by omega))).symm, HB.out⟩
  · have d1 : decide (536870911 < i) = false := by simpa using h1
    go_enter Try.func13, Try.ntmps13
    go_wp2
    go_loop [4] (fun i => ∃ k : Nat, k ≤ 8 ∧ i = .int .i64 k ∧ ∀ j, j < k → DataOk d r n j) (fun i => 8 - (intOf i).toNat)
    case atStart => exact ⟨0, Nat.zero_le _, rfl, fun j hj => by omega⟩
    case round =>
      obtain ⟨k, hk, rfl, hz⟩ := hrel
      have HZ := Lib.hid hz
      clear hz
      by_cases hlt : k < 8
      · have hcell := HC.out k hlt
        have hlt' : (k : Int) < 8 := by omega
        cases hd : (d k == 0)
        · have n0 : (d k != 0) = true := by simp [bne, hd]
          have hd' : d k ≠ 0 := by simpa using hd
          have HD := Lib.hid hd'
          clear hd'
          cases r
          · by_cases hkn : n ≤ (k : Int)
            · go_wp2
              go_ret
              exact ⟨ret_int ((HS k).out hlt HD.out (.inr hkn)).symm, HB.out⟩
            · have hkd : decide (n ≤ (k : Int)) = false := by simpa using hkn
              go_wp2
              go_round
              case rel => exact ⟨k + 1, by omega, by go_num, fun j hj => by
                rcases Nat.lt_or_ge j k with h | h
                · exact HZ.out j h
                · rw [show j = k by omega]; exact .inr ⟨rfl, by omega⟩⟩
              case measure => simp [intOf]; omega
          · go_wp2
            go_ret
            exact ⟨ret_int ((HS k).out hlt HD.out (.inl trivial)).symm, HB.out⟩
        · have n0 : (d k != 0) = false := by simp [bne, hd]
          go_wp2
          go_round
          case rel => exact ⟨k + 1, by omega, by go_num, fun j hj => by
            rcases Nat.lt_or_ge j k with h | h
            · exact HZ.out j h
            · rw [show j = k by omega]; exact .inl (by simpa using hd)⟩
          case measure => simp [intOf]; omega
      · go_wp2
        go_ret
        exact ⟨ret_int (HE.out (fun j hj => HZ.out j (by omega))).symm, HB.out⟩
theorem rfcheck_any (f : Fr) (w : World) :
    Calls Try.prog 13 #[f.val] w fun e w' => e = .returned (.int .i64 f.err) ∧ Below w.heap.size w w' := by
  rcases Classical.em (0 ≤ f.id ∧ f.id ≤ f.most ∧ 0 ≤ f.len ∧ f.len ≤ 8) with h | h
  · exact rcheck_in f w h.1 h.2.1 h.2.2.1 h.2.2.2
  · rw [err_bad h]; exact rcheck_bad f w h
end Go.Proofs.Ytffhhegpkejdgaa

/- The contracts of the reference's digits, flag, Arb and Ahead. -/
namespace Go.Proofs.Ytffhhegpkejdgaa
open Go.RowKit

def OwnOk (zs : List Int) (w : World) (e : Ending) (w' : World) : Prop :=
  ∃ v, e = .returned v ∧ Own w' w.heap.size v zs ∧ Below w.heap.size w w'
theorem ofB_zero (n : Nat) : ofB n 0 = [] := rfl

set_option maxHeartbeats 800000 in
theorem digits_ok : ∀ (k n : Nat) (w : World), k ≤ 32 → n ≤ 536870911 → Calls Try.prog 65 #[.int .i64 n, .int .i64 k] w (OwnOk (ofB n k) w) := by
  intro k
  induction k with
  | zero =>
    intro n w _ _
    go_enter Try.func65, Try.ntmps65
    go_wp2
    go_ret
    exact ⟨_, rfl, Own.nil _ _, Below.refl _ _⟩
  | succ k ih =>
    intro n w hk hn
    have HI := Lib.hid (ih (n / 2) · (by omega) (by omega))
    have HS := Lib.hid (ofB_snoc n k)
    have hk1 : ((k : Int) + 1 == 0) = false := by simp; omega
    have e1 : ((k : Int) + 1) - 1 = (k : Int) := by omega
    have e2 : (n : Int) / 2 = ((n / 2 : Nat) : Int) := by omega
    have e3 : (n : Int) % 2 = ((n % 2 : Nat) : Int) := by omega
    have hkk : (k : Int) ≤ 32 := by omega
    have hnn : (n : Int) ≤ 536870911 := by omega
    have hl : (ofB (n / 2) k).length ≤ 32 := by rw [ofB_len]; omega
    clear ih
    generalize ofB (n / 2) k = l at *
    generalize n % 2 = b at *
    generalize n / 2 = m at *
    go_enter Try.func65, Try.ntmps65
    go_wp2_with fail
    refine (HI.out _).mono ?_
    rintro e w1 ⟨v1, rfl, ho1, hb1⟩
    have HO := Lib.hid ho1
    have HN := Lib.hid (Arr.new w1 .i64 3 [(b : Int)]).il
    have hsz := hb1.size
    clear ho1
    go_wp2_with (at_builtin; (refine append_ints2 _ rfl (.tmp 11) (.tmp 14) rfl w.heap.size v1 l rfl (HO.out.alloc _) _ 1 1 [(b : Int)] rfl HN.out (by omega) (by simp; omega) ?_); intro v2 w2 ho2 hg2 _; have hb2 := push_lit hb1 hsz HO.out hg2; have HO2 := Lib.hid ho2; clear ho2 hg2)
    go_ret
    exact ⟨_, rfl, by rw [HS.out]; exact HO2.out, hb2⟩

theorem flag_any (b : Bool) (w : World) : Calls Try.prog 66 #[.bool b] w fun e w' => e = .returned (.int .i64 (b.toNat : Int)) ∧ w = w' := by
  cases b <;> (go_enter Try.func66, Try.ntmps66; go_wp2; go_ret; exact ⟨rfl, rfl⟩)
end Go.Proofs.Ytffhhegpkejdgaa

