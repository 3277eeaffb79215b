/- Frames turned by some places: slices of frames, and what their order is. -/
import Derived.Test.YtjbbneagikogbaaAY
import Derived.Test.YtjbbneagikogbaaAT
namespace Go.Proofs.Ytjbbneagikogbaa
open Go.RowKit

theorem fcs_inv : ∀ (gs : List Fr) (j : Nat) (u : Value), (fcs gs)[j]? = some u → ∃ q c f, j = q * 12 + c ∧ gs[q]? = some f ∧ f.cells[c]? = some u := by
  intro gs
  induction gs with
  | nil => intro j u h; simp [fcs] at h
  | cons g gs ih =>
    intro j u h
    rw [fcs, List.flatMap_cons] at h
    rcases Nat.lt_or_ge j 12 with hj | hj
    · rw [List.getElem?_append_left (by simp; omega)] at h
      exact ⟨0, j, g, by omega, rfl, by simpa using h⟩
    · rw [List.getElem?_append_right (by simp; omega)] at h
      obtain ⟨q, c, f, e, h1, h2⟩ := ih (j - 12) u (by unfold fcs; simpa using h)
      exact ⟨q + 1, c, f, by omega, by simpa using h1, h2⟩
/-- The frames of a slice, as a list. -/
def fl (fs : Nat → Fr) (n : Nat) : List Fr := (List.range n).map fs
theorem fl_len (fs : Nat → Fr) (n : Nat) : (fl fs n).length = n := by simp [fl]
theorem fl_get {fs : Nat → Fr} {n j : Nat} {f : Fr} (h : (fl fs n)[j]? = some f) : j < n ∧ f = fs j := by
  have hj : j < n := by have := (List.getElem?_eq_some_iff.1 h).1; rwa [fl_len] at this
  refine ⟨hj, ?_⟩
  simp [fl, hj] at h
  exact h.symm
theorem fs_from {w : World} {ad : Addr} {n : Nat} {fs : Nat → Fr} (h : Fl w (some ad) n fs) (p : Nat) (hp : p ≤ n) : Fs w (some (ad.add (p * 12))) (n - p) ((fl fs n).drop p) := by
  refine ⟨by rw [List.length_drop, fl_len], fun h0 => ⟨_, rfl, fun j u hu => ?_⟩⟩
  obtain ⟨q, c, f, rfl, h1, h2⟩ := fcs_inv _ _ _ hu
  rw [List.getElem?_drop] at h1
  obtain ⟨h3, rfl⟩ := fl_get h1
  obtain ⟨ad', e, _, hc⟩ := h (by omega)
  injection e with e
  subst e
  rw [add_add, show p * 12 + (q * 12 + c) = (p + q) * 12 + c by omega]
  exact hc (p + q) h3 c u h2
theorem fs_to {w : World} {ad : Addr} {n : Nat} {fs : Nat → Fr} (h : Fl w (some ad) n fs) (p : Nat) (hp : p ≤ n) : Fs w (some ad) p ((fl fs n).take p) := by
  refine ⟨by rw [List.length_take, fl_len]; omega, fun h0 => ⟨_, rfl, fun j u hu => ?_⟩⟩
  obtain ⟨q, c, f, rfl, h1, h2⟩ := fcs_inv _ _ _ hu
  have hq : q < p := by have := (List.getElem?_eq_some_iff.1 h1).1; rw [List.length_take] at this; omega
  rw [List.getElem?_take_of_lt hq] at h1
  obtain ⟨h3, rfl⟩ := fl_get h1
  obtain ⟨ad', e, _, hc⟩ := h (by omega)
  injection e with e
  subst e
  exact hc q h3 c u h2
theorem Fs.below {w w' : World} {ad : Addr} {m : Nat} {hs : List Fr} (h : Fs w (some ad) m hs) (hb : Below w.heap.size w w') : Fs w' (some ad) m hs := by
  refine ⟨h.1, fun h0 => ?_⟩
  obtain ⟨ad', e, hc⟩ := h.2 h0
  injection e with e
  subst e
  refine ⟨ad, rfl, fun j u hu => ?_⟩
  have := hc j u hu
  exact (hb.cell (World.block_lt_of_cell? w _ this)).trans this

theorem sliceF_to (sd : Addr) (L cap p : Nat) (hp : p ≤ cap) : (∀ w : World, (Instr.sliceAt 33 (.slice (some sd) L cap) none (some (.int .i64 (p : Int))) none).run Try.prog w = .ok (.slice (some sd) p cap) w) ∧
    ∀ w : World, (Instr.slice 33 (.slice (some sd) L cap) none (some (.int .i64 (p : Int))) none).run Try.prog w = .ok (.slice (some sd) p cap) w := by
  obtain ⟨i, hi, -, hsz, -⟩ := info28
  have h : ∀ w : World, (Instr.slice 33 (.slice (some sd) L cap) none (some (.int .i64 (p : Int))) none).run Try.prog w = .ok (.slice (some sd) p cap) w := by
    intro w
    rw [run_slice_h _ _ _ _ _ Try.underlying33 _ _ (by omega) (by omega)]
    simp only [sliced, Int.toNat_natCast, Nat.sub_zero, Nat.zero_mul, Option.map, at_zero, ite_self]
    show ((sizeOf 28).run Try.prog w).andThen _ = _
    simp [sizeOf, typeInfo, hi]
  exact ⟨fun w => by rw [run_sliceAt_slice _ _ _ _ _ _ Try.underlying33]; exact h w, h⟩
theorem sliceF_from (sd : Addr) (L cap p : Nat) (hp : p < L) (hc : L ≤ cap) :
    (∀ w : World, (Instr.sliceAt 33 (.slice (some sd) L cap) (some (.int .i64 (p : Int))) none none).run Try.prog w = .ok (.slice (some (sd.add (p * 12))) (L - p) (cap - p)) w) ∧
    ∀ w : World, (Instr.slice 33 (.slice (some sd) L cap) (some (.int .i64 (p : Int))) none none).run Try.prog w = .ok (.slice (some (sd.add (p * 12))) (L - p) (cap - p)) w := by
  obtain ⟨i, hi, -, hsz, -⟩ := info28
  have h : ∀ w : World, (Instr.slice 33 (.slice (some sd) L cap) (some (.int .i64 (p : Int))) none none).run Try.prog w = .ok (.slice (some (sd.add (p * 12))) (L - p) (cap - p)) w := by
    intro w
    rw [run_slice_l _ _ _ _ _ Try.underlying33 _ _ (by omega) (by omega)]
    show ((sizeOf 28).run Try.prog w).andThen _ = _
    simp [sizeOf, typeInfo, hi, sliced, hsz]
    omega
  exact ⟨fun w => by rw [run_sliceAt_slice _ _ _ _ _ _ Try.underlying33]; exact h w, h⟩
theorem step_append_F (w : World) {ops : Array Oper} {o : Oper} {a : Act} {K : Act → World → Prop} {Q : Exit → Act → World → Prop} {E : Prop} (hgd : o.guard = none) (s x : Operand)
    (ho : o.op = .call { callee := .builtin .append, args := #[s, x], argTypes := #[33, 33] })
    (base : Nat) (v : Value) (gs : List Fr) (hs : a.eval s = v) (hown : Fown w base v gs) (A : Option Addr) (m c : Nat) (ys : List Fr) (hx : a.eval x = .slice A m c) (hr : Fs w A m ys)
    (hlen : gs.length + m ≤ 1000000) (hbase : base ≤ w.heap.size)
    (h : ∀ v' w', Fown w' base v' (gs ++ ys) → w.grownBy w' v.ownBlock → Lies w v v' → K (a.put o.dst v') w') :
    if Region.wanted o (yielded ops a.tmps) = true then Oper.wp Try.prog o a w K Q else E := by
  have hw : Region.wanted o (yielded ops a.tmps) = true := by simp [Region.wanted, hgd]
  rw [if_pos hw]
  obtain ⟨v', w', hrun, h1, h2, h3⟩ := append_runF w o.type base v gs hown A m c ys hr hlen hbase
  unfold Oper.wp execOp
  simp only [ho, resolve, invoke, builtin, Sem.run_bind, Sem.run_pure, Result.andThen_ok, List.map_toArray, List.map_cons, List.map_nil, hs, hx, hrun]
  exact h v' w' h1 h2 h3

theorem turn_get {α : Type} (l : List α) (n p j : Nat) (hl : l.length = n) (hp : p < n) (hj : j < n) : (l.drop p ++ l.take p)[j]? = l[(j + p) % n]? := by
  rcases Nat.lt_or_ge j (n - p) with h | h
  · rw [List.getElem?_append_left (by rw [List.length_drop, hl]; omega), List.getElem?_drop, Nat.mod_eq_of_lt (by omega), Nat.add_comm]
  · rw [List.getElem?_append_right (by rw [List.length_drop, hl]; omega), List.length_drop, hl, List.getElem?_take_of_lt (by omega)]
    have : (j + p) % n = j - (n - p) := by
      rw [show j + p = (j - (n - p)) + n by omega, Nat.add_mod_right, Nat.mod_eq_of_lt (by omega)]
    rw [this]
theorem turn_perm (n p : Nat) (hp : p < n) : ((List.range n).map fun j => (j + p) % n).Perm (List.range n) := by
  have e : ((List.range n).map fun j => (j + p) % n) = (List.range n).drop p ++ (List.range n).take p := by
    apply List.ext_getElem?
    intro j
    rcases Nat.lt_or_ge j n with hj | hj
    · rw [turn_get _ n p j (by simp) hp hj]
      have := Nat.mod_lt (j + p) (show n > 0 by omega)
      simp [hj, this]
    · rw [List.getElem?_eq_none (by simp; omega), List.getElem?_eq_none (by simp; omega)]
  rw [e]
  refine List.perm_append_comm.trans ?_
  rw [List.take_append_drop]
theorem turn_srt {κ : Nat → Nat} {n p : Nat} {qs ps : List Nat} (hp : p < n) (h : Srt (fun j => κ ((j + p) % n)) n qs) (h' : Srt κ n ps) {i : Nat} (hi : i < n) : (qs.getD i 0 + p) % n = ps.getD i 0 := by
  have hm : ∀ j, j < n → (qs.map fun j => (j + p) % n).getD j 0 = (qs.getD j 0 + p) % n := fun j hj => by
    have : j < qs.length := by rw [h.len]; exact hj
    simp [List.getD, this]
  have hs : Srt κ n (qs.map fun j => (j + p) % n) := by
    refine ⟨(h.1.map _).trans (turn_perm n p hp), fun a b hab hb => ?_⟩
    rw [hm a (by omega), hm b hb]
    exact h.2 a b hab hb
  rw [← hm i hi, hs.uniq h']
/-- The frames turned by p places. -/
theorem turn_fl {w : World} {A : Option Addr} {fs : Nat → Fr} {n p : Nat} (hp : p < n) (h : Fl w A ((fl fs n).drop p ++ (fl fs n).take p).length (fun j => ((fl fs n).drop p ++ (fl fs n).take p).getD j Fr.zero)) : Fl w A n (fun j => fs ((j + p) % n)) := by
  have hl : ((fl fs n).drop p ++ (fl fs n).take p).length = n := by rw [List.length_append, List.length_drop, List.length_take, fl_len]; omega
  rw [hl] at h
  intro h0
  obtain ⟨ad, e, hb, hc⟩ := h h0
  refine ⟨ad, e, hb, fun j hj c v hv => hc j hj c v ?_⟩
  have : ((fl fs n).drop p ++ (fl fs n).take p).getD j Fr.zero = fs ((j + p) % n) := by
    have hm := Nat.mod_lt (j + p) (show n > 0 by omega)
    rw [List.getD, turn_get _ n p j (fl_len fs n) hp hj]
    simp [fl, hm]
  show (((fl fs n).drop p ++ (fl fs n).take p).getD j Fr.zero).cells[c]? = some v
  rw [this]; exact hv
theorem turn_may {fs : Nat → Fr} {n p : Nat} (_hp : p < n) (h : ∀ i, i < n → (fs i).may = true) : ∀ i, i < n → (fs ((i + p) % n)).may = true := fun i _ => h _ (Nat.mod_lt _ (by omega))
theorem turn_same {fs : Nat → Fr} {n p : Nat} (hp : p < n) (h : ¬ Same fs n) : ¬ Same (fun j => fs ((j + p) % n)) n := by
  rintro ⟨a, b, h1, h2, h3⟩
  have ha := Nat.mod_lt (a + p) (show n > 0 by omega)
  have hb := Nat.mod_lt (b + p) (show n > 0 by omega)
  have hne : (a + p) % n ≠ (b + p) % n := by
    intro e
    have k1 := Nat.div_add_mod (a + p) n
    have k2 := Nat.div_add_mod (b + p) n
    rcases Nat.lt_or_ge (a + p) n with c1 | c1 <;> rcases Nat.lt_or_ge (b + p) n with c2 | c2
    · rw [Nat.mod_eq_of_lt c1, Nat.mod_eq_of_lt c2] at e; omega
    · rw [Nat.mod_eq_of_lt c1, Nat.mod_eq_sub_mod c2, Nat.mod_eq_of_lt (by omega)] at e; omega
    · omega
    · rw [Nat.mod_eq_sub_mod c1, Nat.mod_eq_sub_mod c2, Nat.mod_eq_of_lt (by omega), Nat.mod_eq_of_lt (by omega)] at e; omega
  rcases Nat.lt_or_gt_of_ne hne with hl | hl
  · exact h ⟨_, _, hl, hb, h3⟩
  · exact h ⟨_, _, hl, ha, h3.symm⟩
end Go.Proofs.Ytjbbneagikogbaa
