/- Rows of frames as blocks: parts of a row, copy, clear and append within it, told by what they run to. -/
import Derived.Test.YtldhnbohpnkcpaaQI
import Derived.Lib.Overlaps
import Derived.Lib.AppendZerosOnto
namespace Go.Proofs.Ytldhnbohpnkcpaa
open Go.RowKit

theorem add0 (b p : Nat) : (⟨b, 0, none⟩ : Addr).add p = ⟨b, p, none⟩ := by rw [Addr.add_lit, Nat.zero_add]
theorem sF_to (b L cap p : Nat) (hp : p ≤ cap) : (∀ w : World, (Instr.sliceAt 29 (.slice (some ⟨b, 0, none⟩) L cap) none (some (.int .i64 (p : Int))) none).run Try.prog w = .ok (.slice (some ⟨b, 0, none⟩) p cap) w) ∧
    ∀ w : World, (Instr.slice 29 (.slice (some ⟨b, 0, none⟩) L cap) none (some (.int .i64 (p : Int))) none).run Try.prog w = .ok (.slice (some ⟨b, 0, none⟩) p cap) w := by
  obtain ⟨i, hi, -, hsz, -⟩ := info28
  have h : ∀ w : World, (Instr.slice 29 (.slice (some ⟨b, 0, none⟩) L cap) none (some (.int .i64 (p : Int))) none).run Try.prog w = .ok (.slice (some ⟨b, 0, none⟩) p cap) w := by
    intro w
    rw [run_slice_h _ _ _ _ _ Try.underlying29 _ _ (by omega) (by omega)]
    simp only [sliced, Int.toNat_natCast, Nat.sub_zero, Nat.zero_mul, Option.map, at_zero, ite_self]
    show ((sizeOf 34).run Try.prog w).andThen _ = _
    simp [sizeOf, typeInfo, hi]
  exact ⟨fun w => by rw [run_sliceAt_slice _ _ _ _ _ _ Try.underlying29]; exact h w, h⟩
theorem sF_from (b L cap p : Nat) (hp : p ≤ L) (q : Int) (hq : q = p) : (∀ w : World, (Instr.sliceAt 29 (.slice (some ⟨b, 0, none⟩) L cap) (some (.int .i64 q)) none none).run Try.prog w = .ok (.slice (some ⟨b, if cap = p then 0 else p * 12, none⟩) (L - p) (cap - p)) w) ∧
    ∀ w : World, (Instr.slice 29 (.slice (some ⟨b, 0, none⟩) L cap) (some (.int .i64 q)) none none).run Try.prog w = .ok (.slice (some ⟨b, if cap = p then 0 else p * 12, none⟩) (L - p) (cap - p)) w := by
  subst hq
  obtain ⟨i, hi, -, hsz, -⟩ := info28
  have h : ∀ w : World, (Instr.slice 29 (.slice (some ⟨b, 0, none⟩) L cap) (some (.int .i64 (p : Int))) none none).run Try.prog w = .ok (.slice (some ⟨b, if cap = p then 0 else p * 12, none⟩) (L - p) (cap - p)) w := by
    intro w
    rw [run_slice_l _ _ _ _ _ Try.underlying29 _ _ (by omega) (by omega)]
    show ((sizeOf 34).run Try.prog w).andThen _ = _
    simp only [sizeOf, typeInfo, sliced, Int.toNat_natCast, Option.map, add0]
    simp [hi, hsz]
    split <;> rfl
  exact ⟨fun w => by rw [run_sliceAt_slice _ _ _ _ _ _ Try.underlying29]; exact h w, h⟩
theorem sF_part (b L cap p q : Nat) (hp : p ≤ q) (hq : q ≤ cap) (hpc : p < cap) (x y : Int) (hx : x = p) (hy : y = q) : (∀ w : World, (Instr.sliceAt 29 (.slice (some ⟨b, 0, none⟩) L cap) (some (.int .i64 x)) (some (.int .i64 y)) none).run Try.prog w = .ok (.slice (some ⟨b, p * 12, none⟩) (q - p) (cap - p)) w) ∧
    ∀ w : World, (Instr.slice 29 (.slice (some ⟨b, 0, none⟩) L cap) (some (.int .i64 x)) (some (.int .i64 y)) none).run Try.prog w = .ok (.slice (some ⟨b, p * 12, none⟩) (q - p) (cap - p)) w := by
  subst hx; subst hy
  obtain ⟨i, hi, -, hsz, -⟩ := info28
  have h : ∀ w : World, (Instr.slice 29 (.slice (some ⟨b, 0, none⟩) L cap) (some (.int .i64 (p : Int))) (some (.int .i64 (q : Int))) none).run Try.prog w = .ok (.slice (some ⟨b, p * 12, none⟩) (q - p) (cap - p)) w := by
    intro w
    rw [run_slice_lh _ _ _ _ _ Try.underlying29 _ _ _ _ (by omega) (by omega) (by omega)]
    show ((sizeOf 34).run Try.prog w).andThen _ = _
    simp only [sizeOf, typeInfo, sliced, Int.toNat_natCast, Option.map, add0]
    simp [hi, hsz, show ¬ (cap = p) by omega]
  exact ⟨fun w => by rw [run_sliceAt_slice _ _ _ _ _ _ Try.underlying29]; exact h w, h⟩
theorem sF_three (b L cap p q : Nat) (hp : p ≤ q) (hq : q ≤ L) (hc : L ≤ cap) (x y : Int) (hx : x = p) (hy : y = q) : ∃ X, (∀ w : World, (Instr.sliceAt 29 (.slice (some ⟨b, 0, none⟩) L cap) (some (.int .i64 x)) (some (.int .i64 y)) (some (.int .i64 (L : Int)))).run Try.prog w = .ok X w) ∧
    ∀ w : World, (Instr.slice 29 (.slice (some ⟨b, 0, none⟩) L cap) (some (.int .i64 x)) (some (.int .i64 y)) (some (.int .i64 (L : Int)))).run Try.prog w = .ok X w := by
  subst hx; subst hy
  obtain ⟨i, hi, -, hsz, -⟩ := info28
  have h : ∀ w : World, (Instr.slice 29 (.slice (some ⟨b, 0, none⟩) L cap) (some (.int .i64 (p : Int))) (some (.int .i64 (q : Int))) (some (.int .i64 (L : Int)))).run Try.prog w = .ok (sliced (some ⟨b, 0, none⟩) p q L 12) w := by
    intro w
    rw [run_slice_lhm _ _ _ _ _ Try.underlying29 _ _ _ _ _ _ (by omega) (by omega) (by omega) (by omega)]
    show ((sizeOf 34).run Try.prog w).andThen _ = _
    simp [sizeOf, typeInfo, hi, hsz]
  exact ⟨_, fun w => by rw [run_sliceAt_slice _ _ _ _ _ _ Try.underlying29]; exact h w, h⟩

/-- A row with some cells laid anew. -/
def laid (cur : Array Value) (o : Nat) (cs : List Value) : Array Value := (cur.toList.take o ++ cs ++ cur.toList.drop (o + cs.length)).toArray
theorem laid_size {cur : Array Value} {o : Nat} {cs : List Value} (h : o + cs.length ≤ cur.size) : (laid cur o cs).size = cur.size := by
  unfold laid
  simp
  omega
theorem run_copyF (w : World) (ty : TypeId) (g o dLen dCap : Nat) (a : Addr) (sLen sCap m : Nat) (cur : Array Value) (t : TypeId) (cs : List Value)
    (hg : w.heap[g]? = some (.cells cur t (0, 0))) (hm : Nat.min sLen dLen = m) (hn : cs.length = m * 12)
    (hsrc : ∀ j v, cs[j]? = some v → w.cell? (a.add j) = some v) (hfit : o + cs.length ≤ cur.size) (h1 : ∀ v ∈ cs, v.oneCell' = true) :
    (Builtin.copy_ #[29, 29] ty #[.slice (some ⟨g, o, none⟩) dLen dCap, .slice (some a) sLen sCap]).run Try.prog w =
      .ok (goInt m) (w.setRow g (laid cur o cs)) := by
  have hl := run_loadCells_list (P := Try.prog) w a cs hsrc
  have hst := run_storeCells_at Try.prog g o t cs 0 cur w hg (by simpa using hfit) h1
  obtain ⟨i, hi, -, hsz, -⟩ := info28
  unfold laid
  simp [Builtin.copy_, run_underlying Try.underlying29, Builtin.lenOf, Builtin.firstCells, sizeOf, typeInfo, hi, hsz, hm, ← hn, hl, hst]
theorem zero_one : (Builtin.zeroCells Fr.zero.val.cells 1).toList = Fr.zero.cells.toList := by
  have h : (Builtin.zeroCells Fr.zero.val.cells 1) = Fr.zero.cells := by
    simp only [Builtin.zeroCells]
    apply Array.ext
    · simp; rfl
    · intro i h1 h2
      have : i < 12 := h2
      simp only [Array.getElem_map, Array.getElem_range]
      match i, this with
      | 0, _ | 1, _ | 2, _ | 3, _ | 4, _ | 5, _ | 6, _ | 7, _ | 8, _ | 9, _ | 10, _ | 11, _ => rfl
  rw [h]
theorem run_clearF (w : World) (ty : TypeId) (g o c : Nat) (cur : Array Value) (t : TypeId) (hg : w.heap[g]? = some (.cells cur t (0, 0))) (hfit : o + 12 ≤ cur.size) :
    (Builtin.clear_ #[29] ty #[.slice (some ⟨g, o, none⟩) 1 c]).run Try.prog w = .ok (.tuple #[]) (w.setRow g (laid cur o Fr.zero.cells.toList)) := by
  obtain ⟨i, hi, hz, hsz, -⟩ := info28
  have hv : (zeroValue 34).run Try.prog w = .ok Fr.zero.val w := by simp [zeroValue, typeInfo, hi, hz]
  obtain ⟨L, hL, hlen, hone⟩ : ∃ L : List Value, Fr.zero.cells.toList = L ∧ L.length = 12 ∧ ∀ v ∈ L, v.oneCell' = true := ⟨_, rfl, rfl, fcs_one [Fr.zero]⟩
  have hzc : (Builtin.zeroCells Fr.zero.val.cells 1).toList = L := zero_one.trans hL
  have hst := run_storeCells_at Try.prog g o t L 0 cur w hg (by rw [hlen]; simpa using hfit) hone
  rw [hL]
  simp only [Nat.add_zero] at hst
  unfold laid
  simp only [Builtin.clear_]
  simp [run_underlying Try.underlying29, hv, hzc, hst]
theorem run_appendF_room (w : World) (ty : TypeId) (g sLen sCap : Nat) (cur : Array Value) (hg : w.heap[g]? = some (.cells cur 34 (0, 0)))
    (a : Addr) (m c : Nat) (news : List Value) (hl : news.length = m * 12) (hnews : ∀ j u, news[j]? = some u → w.cell? (a.add j) = some u) (h1 : ∀ u ∈ news, u.oneCell' = true)
    (hroom : sLen + m ≤ sCap) (hfit : sLen * 12 + news.length ≤ cur.size) :
    (Builtin.append_ #[29, 29] ty #[.slice (some ⟨g, 0, none⟩) sLen sCap, .slice (some a) m c]).run Try.prog w =
      .ok (.slice (some ⟨g, 0, none⟩) (sLen + m) sCap) (w.setRow g (laid cur (sLen * 12) news)) := by
  obtain ⟨i, hi, -, hsz, -⟩ := info28
  have := run_append_room (P := Try.prog) w 29 ty 34 i Try.underlying29 hi g sLen sCap cur hg a m c news (by rw [hsz]; exact hl) hnews h1 hroom (by rw [hsz]; exact hfit)
  rw [this, hsz]
  rfl

/-- The block g is a row of frames' cells. -/
def Rw (w : World) (g : Nat) (cur : Array Value) : Prop := w.heap[g]? = some (.cells cur 34 (0, 0))
section
variable {w : World} {g : Nat} {cur : Array Value}
theorem Rw.lt (h : Rw w g cur) : g < w.heap.size := (Array.getElem?_eq_some_iff.1 h).1
theorem Rw.set (h : Rw w g cur) (cs : Array Value) : Rw (w.setRow g cs) g cs := setRow_heap w g cur cs _ _ h
theorem Rw.cell (h : Rw w g cur) {k : Nat} {u : Value} (hk : cur[k]? = some u) : w.cell? ⟨g, k, none⟩ = some u := by
  unfold Rw at h
  simp only [World.cell?, h]
  exact hk
theorem grown_set (w : World) (g : Nat) (cs : Array Value) : w.grownBy (w.setRow g cs) (some g) :=
  ⟨rfl, rfl, rfl, by simp [World.setRow], fun k hk hne => by
    simp only [World.setRow, Array.getElem?_modify]
    rw [if_neg (fun e => hne (by rw [e]))]⟩
end
end Go.Proofs.Ytldhnbohpnkcpaa
