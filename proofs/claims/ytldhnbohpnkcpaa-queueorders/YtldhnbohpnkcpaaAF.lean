/- Rows of frames, and rows of rows, of the call's own: append onto them. -/
import Derived.Test.YtldhnbohpnkcpaaFw
namespace Go.Proofs.Ytldhnbohpnkcpaa
open Go.RowKit

section
variable {ty t e : TypeId} {i : TypeInfo} {z : Value} {size bytes : Nat}
/-- append onto a row of the call's own, whatever its elements; and where the answer lies. -/
theorem append_runG (w : World) (ht : Try.prog.underlying t = some (.slice e)) (hi : Try.prog.info? e = some i) (hz : i.zero = some z) (hsz : i.size = size) (hb : i.bytes = bytes) (hzs : z.cells.size = size) (h0 : 0 < size)
    (base : Nat) (v : Value) (n : Nat) (xs : List Value) (hown : w.ownsRow base e size v n xs) (ad : Addr) (m c : Nat) (news : List Value) (hl : news.length = m * size)
    (hnews : ∀ j u, news[j]? = some u → w.cell? (ad.add j) = some u) (h1 : ∀ u ∈ news, u.oneCell' = true) (hlen : n + m ≤ 1000000) (hby : bytes ≤ 1000) (hbase : base ≤ w.heap.size) :
    ∃ v' w', (Builtin.append_ #[t, t] ty #[v, .slice (some ad) m c]).run Try.prog w = .ok v' w' ∧ w'.ownsRow base e size v' (n + m) (xs ++ news) ∧ w.grownBy w' v.ownBlock ∧ Lies w v v' := by
  have hbb : (n + m) * bytes ≤ 140737488355328 := Nat.le_trans (Nat.mul_le_mul hlen hby) (by omega)
  obtain ⟨v', w', hrun, h2, h3, _⟩ := run_append_own (P := Try.prog) w base t ty e i z size bytes ht hi hz hsz hb hzs h0 v n xs hown ad m c news hl hnews h1 (by unfold maxLen; omega) hbb hbase
  refine ⟨v', w', hrun, h2, h3, ?_⟩
  rw [← hsz] at hl
  rcases hown.2 with ⟨rfl, rfl⟩ | ⟨g, cap, cur, rfl, hbg, hg, hnc, hcm, hcs, htake⟩
  · rcases Nat.eq_zero_or_pos m with hm0 | hm0
    · subst hm0
      rw [Nat.zero_mul] at hl
      have hy : news = [] := List.eq_nil_of_length_eq_zero hl
      subst hy
      have e : (Builtin.append_ #[t, t] ty #[.slice none 0 0, .slice (some ad) 0 c]).run Try.prog w = .ok (.slice none 0 0) w := by
        simp [Builtin.append_, run_underlying ht, sizeOf, typeInfo, hi, Builtin.lenOf, Builtin.firstCells, loadCells, loadCellsFrom]
      rw [e] at hrun
      injection hrun with e1 e2
      exact .inl (by rw [← e1])
    · have e := run_append_nil (P := Try.prog) w t ty e i _ ht hi hz ad m c _ hl hnews hm0 (by omega) (by rw [hb]; rw [Nat.zero_add] at hbb; exact Nat.le_trans hbb (by omega))
      rw [e] at hrun
      injection hrun with e1 e2
      exact .inr (by rw [← e1]; rfl)
  · by_cases hroom : n + m ≤ cap
    · have e := run_append_room (P := Try.prog) w t ty e i ht hi g n cap cur hg ad m c _ hl hnews h1 hroom (by rw [hl, hcs, hsz, ← Nat.add_mul]; exact Nat.mul_le_mul_right _ hroom)
      rw [e] at hrun
      injection hrun with e1 e2
      exact .inl (by rw [← e1]; rfl)
    · have e := run_append_grow (P := Try.prog) w t ty e i _ ht hi hz ⟨g, 0, none⟩ n cap _ (by rw [hsz]; exact hown.1) (World.ownsRow.cells hown (g := g) rfl) ad m c _ hl hnews (by omega) (by omega) (by rw [hb]; exact growslice_fits (by omega) hbb)
      rw [e] at hrun
      injection hrun with e1 e2
      exact .inr (by rw [← e1]; rfl)
theorem append_runG0 (w : World) (ht : Try.prog.underlying t = some (.slice e)) (hi : Try.prog.info? e = some i) (base : Nat) (v : Value) (n : Nat) (xs : List Value) (hown : w.ownsRow base e size v n xs) (c : Nat) :
    (Builtin.append_ #[t, t] ty #[v, .slice none 0 c]).run Try.prog w = .ok v w := by
  rcases hown.2 with ⟨rfl, rfl⟩ | ⟨g, cap, cur, rfl, _, _, hnc, _⟩
  · simp [Builtin.append_, run_underlying ht, sizeOf, typeInfo, hi, Builtin.lenOf, Builtin.firstCells]
  · simp [Builtin.append_, run_underlying ht, sizeOf, typeInfo, hi, Builtin.lenOf, Builtin.firstCells, hnc, storeCells]
end

/-- The cells of frames, one behind the other. -/
def fcs (gs : List Fr) : List Value := gs.flatMap fun f => f.cells.toList
theorem fcs_len : ∀ gs : List Fr, (fcs gs).length = gs.length * 12 := by
  intro gs
  induction gs with
  | nil => rfl
  | cons f gs ih => rw [fcs, List.flatMap_cons, List.length_append, List.length_cons]; unfold fcs at ih; rw [ih]; simp; omega
theorem fcs_app (gs hs : List Fr) : fcs (gs ++ hs) = fcs gs ++ fcs hs := by simp [fcs]
theorem fcs_get : ∀ (gs : List Fr) (j c : Nat) (f : Fr) (v : Value), gs[j]? = some f → f.cells[c]? = some v → (fcs gs)[j * 12 + c]? = some v := by
  intro gs
  induction gs with
  | nil => intro j c f v h; simp at h
  | cons g gs ih =>
    intro j c f v h hv
    have hc : c < 12 := (Array.getElem?_eq_some_iff.1 hv).1
    rw [fcs, List.flatMap_cons]
    cases j with
    | zero =>
      simp at h
      subst h
      rw [List.getElem?_append_left (by simp; omega)]
      simpa using hv
    | succ j =>
      rw [List.getElem?_append_right (by simp; omega)]
      have := ih j c f v (by simpa using h) hv
      unfold fcs at this
      rw [← this]
      congr 1
      simp; omega
theorem fcs_one (gs : List Fr) : ∀ u ∈ fcs gs, u.oneCell' = true := by
  intro u hu
  obtain ⟨f, _, hf⟩ := List.mem_flatMap.1 hu
  simp only [List.mem_cons, List.not_mem_nil, or_false] at hf
  rcases hf with rfl | rfl | rfl | rfl | rfl | rfl | rfl | rfl | rfl | rfl | rfl | rfl <;> rfl

/-- The slice value v is the call's own row of frames. -/
def Fown (w : World) (base : Nat) (v : Value) (gs : List Fr) : Prop := w.ownsRow base 34 12 v gs.length (fcs gs)
section
variable {w w' : World} {base : Nat} {v : Value} {gs : List Fr}
theorem Fown.alloc (h : Fown w base v gs) (o : Obj) : Fown (w.alloc o) base v gs := World.ownsRow.alloc h o
theorem Fown.row (h : Fown w base v gs) : ∀ k, v.ownBlock = some k → base ≤ k := fun k hk => (World.ownsRow.lt h k hk).1
theorem Fown.below (h : Fown w base v gs) (hb : Below w.heap.size w w') : Fown w' base v gs := by
  refine ⟨h.1, ?_⟩
  rcases h.2 with hn | ⟨g, cap, cur, rfl, hbg, hgg, rest⟩
  · exact .inl hn
  · exact .inr ⟨g, cap, cur, rfl, hbg, (hb.block g (Array.getElem?_eq_some_iff.1 hgg).1).trans hgg, rest⟩
theorem Fown.kept {u : Value} (h : Fown w base v gs) (hg : w.grownBy w' u.ownBlock) (hs : Sep v u) : Fown w' base v gs := World.ownsRow.kept h hg hs
theorem Fown.fl (h : Fown w base v gs) : ∃ A cap, v = .slice A gs.length cap ∧ Fl w A gs.length (fun j => gs.getD j Fr.zero) ∧ gs.length ≤ cap := by
  rcases h.2 with ⟨rfl, h0⟩ | ⟨g, cap, cur, rfl, hb, hh, hnc, _, hcs, hx⟩
  · exact ⟨none, 0, by rw [h0], fun hn => by omega, by omega⟩
  · refine ⟨_, cap, rfl, fun _ => ⟨_, rfl, (Array.getElem?_eq_some_iff.1 hh).1, fun j hj c u hu => ?_⟩, hnc⟩
    refine World.ownsRow.cells h (g := g) rfl _ _ (fcs_get gs j c (gs.getD j Fr.zero) u ?_ hu)
    simp [hj]
theorem Fown.nil (w : World) (base : Nat) (hb : base ≤ w.heap.size) : Fown (w.alloc (.cells #[] 34)) base (.slice (some ⟨w.heap.size, 0, none⟩) 0 0) [] :=
  World.ownsRow_lit w #[] 0 hb (by unfold maxLen; omega) rfl
end
/-- A literal of frames. -/
theorem fl_lit (w : World) (gs : List Fr) : Fl (w.alloc (.cells (fcs gs).toArray 34)) (some ⟨w.heap.size, 0, none⟩) gs.length (fun j => gs.getD j Fr.zero) := by
  intro _
  refine ⟨_, rfl, by simp, fun j hj c u hu => ?_⟩
  have := fcs_get gs j c (gs.getD j Fr.zero) u (by simp [hj]) hu
  rw [add_zero_off, cell_of_row _ _ _ _ 34 (0, 0) (heap_alloc_new w _)]
  simpa using this

theorem info28 : ∃ i, Try.prog.info? 34 = some i ∧ i.zero = some Fr.zero.val ∧ i.size = 12 ∧ i.bytes = 32 := info_parts (by kernel_rfl)
theorem info22 : ∃ i, Try.prog.info? 64 = some i ∧ i.zero = some (.slice none 0 0) ∧ i.size = 1 ∧ i.bytes = 24 := info_parts (by kernel_rfl)
/-- A slice value holds frames, as cells one behind the other. -/
def Fs (w : World) (A : Option Addr) (m : Nat) (hs : List Fr) : Prop := hs.length = m ∧ (0 < m → ∃ ad, A = some ad ∧ ∀ j u, (fcs hs)[j]? = some u → w.cell? (ad.add j) = some u)
theorem fs_lit (w : World) (gs : List Fr) : Fs (w.alloc (.cells (fcs gs).toArray 34)) (some ⟨w.heap.size, 0, none⟩) gs.length gs := by
  refine ⟨rfl, fun _ => ⟨_, rfl, fun j u hu => ?_⟩⟩
  rw [add_zero_off, cell_of_row _ _ _ _ 34 (0, 0) (heap_alloc_new w _)]
  simpa using hu
theorem append_runF (w : World) (ty : TypeId) (base : Nat) (v : Value) (gs : List Fr) (hown : Fown w base v gs) (A : Option Addr) (m c : Nat) (hs : List Fr) (hr : Fs w A m hs) (hlen : gs.length + m ≤ 1000000) (hbase : base ≤ w.heap.size) :
    ∃ v' w', (Builtin.append_ #[29, 29] ty #[v, .slice A m c]).run Try.prog w = .ok v' w' ∧ Fown w' base v' (gs ++ hs) ∧ w.grownBy w' v.ownBlock ∧ Lies w v v' := by
  obtain ⟨i, hi, hz, hsz, hb⟩ := info28
  unfold Fown
  rw [List.length_append, fcs_app, hr.1]
  rcases A with _ | ad
  · have h0 : m = 0 := by
      rcases Nat.eq_zero_or_pos m with h | h
      · exact h
      · obtain ⟨ad, e, _⟩ := hr.2 h; cases e
    subst h0
    have hy : hs = [] := List.eq_nil_of_length_eq_zero hr.1
    subst hy
    exact ⟨v, w, append_runG0 w Try.underlying29 hi base v _ _ hown c, by rw [show fcs [] = [] from rfl, List.append_nil, Nat.add_zero]; exact hown, World.grownBy.refl w _, .inl rfl⟩
  · refine append_runG w Try.underlying29 hi hz hsz hb rfl (by omega) base v _ _ hown ad m c (fcs hs) (by rw [fcs_len, hr.1]) ?_ (fcs_one hs) hlen (by omega) hbase
    intro j u hu
    have hm : 0 < m := by
      rcases Nat.eq_zero_or_pos m with h | h
      · have hy : hs = [] := List.eq_nil_of_length_eq_zero (by rw [hr.1, h])
        subst hy
        simp [fcs] at hu
      · exact h
    obtain ⟨ad', e, hc⟩ := hr.2 hm
    injection e with e
    subst e
    exact hc j u hu
theorem append_F (w : World) {ops : Array Oper} {rest : List Oper} {o : Oper} {a : Act} {Q : Exit → Act → World → Prop} (hgd : Region.wanted o (yielded ops a.tmps) = true) (s x : Operand)
    (ho : o.op = .call { callee := .builtin .append, args := #[s, x], argTypes := #[29, 29] })
    (base : Nat) (v : Value) (gs : List Fr) (hs : a.eval s = v) (hown : Fown w base v gs) (A : Option Addr) (m c : Nat) (ys : List Fr) (hx : a.eval x = .slice A m c) (hr : Fs w A m ys)
    (hlen : gs.length + m ≤ 1000000) (hbase : base ≤ w.heap.size)
    (h : ∀ v' w', Fown w' base v' (gs ++ ys) → w.grownBy w' v.ownBlock → Lies w v v' → wpList Try.prog ops Q rest (a.put o.dst v') w') : wpList Try.prog ops Q (o :: rest) a w :=
  BigFrame.wpList_want hgd fun _ hK => by
    obtain ⟨v', w', hrun, h1, h2, h3⟩ := append_runF w o.type base v gs hown A m c ys hr hlen hbase
    unfold Oper.wp execOp
    simp only [ho, resolve, invoke, builtin, Sem.run_bind, Sem.run_pure, Result.andThen_ok, List.map_toArray, List.map_cons, List.map_nil, hs, hx, hrun]
    exact hK _ _ (h v' w' h1 h2 h3)

/-- The slice value v is the call's own row of rows. -/
def Vown (w : World) (base : Nat) (v : Value) (vs : List Value) : Prop := w.ownsRow base 64 1 v vs.length vs
section
variable {w w' : World} {base : Nat} {v : Value} {vs : List Value}
theorem Vown.alloc (h : Vown w base v vs) (o : Obj) : Vown (w.alloc o) base v vs := World.ownsRow.alloc h o
theorem Vown.row (h : Vown w base v vs) : ∀ k, v.ownBlock = some k → base ≤ k := fun k hk => (World.ownsRow.lt h k hk).1
theorem Vown.below (h : Vown w base v vs) (hb : Below w.heap.size w w') : Vown w' base v vs := by
  refine ⟨h.1, ?_⟩
  rcases h.2 with hn | ⟨g, cap, cur, rfl, hbg, hgg, rest⟩
  · exact .inl hn
  · exact .inr ⟨g, cap, cur, rfl, hbg, (hb.block g (Array.getElem?_eq_some_iff.1 hgg).1).trans hgg, rest⟩
theorem Vown.shape (h : Vown w base v vs) (h0 : 0 < vs.length) : ∃ g cap, v = .slice (some ⟨g, 0, none⟩) vs.length cap ∧ base ≤ g ∧ ∀ j u, vs[j]? = some u → w.cell? ⟨g, j, none⟩ = some u := by
  rcases h.2 with ⟨_, h1⟩ | ⟨g, cap, cur, rfl, hb, hh, hnc, _⟩
  · omega
  · refine ⟨g, cap, rfl, hb, fun j u hu => ?_⟩
    have := World.ownsRow.cells h (g := g) rfl j u hu
    rwa [add_zero_off] at this
theorem Vown.len (h : Vown w base v vs) : ∃ A cap, v = .slice A vs.length cap := by
  rcases h.2 with ⟨rfl, h0⟩ | ⟨g, cap, cur, rfl, _⟩
  · exact ⟨none, 0, by rw [h0]⟩
  · exact ⟨_, cap, rfl⟩
theorem Vown.nil (w : World) (base : Nat) (hb : base ≤ w.heap.size) : Vown (w.alloc (.cells #[] 64)) base (.slice (some ⟨w.heap.size, 0, none⟩) 0 0) [] :=
  World.ownsRow_lit w #[] 0 hb (by unfold maxLen; omega) rfl
end
end Go.Proofs.Ytldhnbohpnkcpaa
