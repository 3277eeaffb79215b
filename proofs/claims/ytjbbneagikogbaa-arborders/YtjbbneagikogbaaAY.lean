/- Rows of bools; the contract of the reference's Order. -/
import Derived.Test.YtjbbneagikogbaaAX
import Derived.Test.YtjbbneagikogbaaAF
namespace Go.Proofs.Ytjbbneagikogbaa
open Go.RowKit

/-- Block g is just the bools bs. -/
def BArr (w : World) (g : Nat) (bs : List Bool) : Prop := w.heap[g]? = some (.cells (bs.map Value.bool).toArray 4 (0, 0))
section
variable {w w' : World} {g : Nat} {bs : List Bool}
theorem BArr.lt (h : BArr w g bs) : g < w.heap.size := (Array.getElem?_eq_some_iff.1 h).1
theorem BArr.cell (h : BArr w g bs) {i : Nat} {b : Bool} (hi : bs[i]? = some b) : w.cell? ⟨g, i, none⟩ = some (.bool b) := by
  rw [cell_of_row w g i _ 4 (0, 0) h]
  simp [hi]
theorem BArr.frozen (h : BArr w g bs) (i : Nat) : w.frozen? ⟨g, i, none⟩ = false := by
  unfold BArr at h
  simp [World.frozen?, h]
theorem BArr.put (h : BArr w g bs) (i : Nat) (b : Bool) : BArr (w.setCell ⟨g, i, none⟩ (.bool b)) g (bs.set i b) := by
  unfold BArr at h ⊢
  simp [World.setCell, Array.getElem?_modify, h, List.map_set]
theorem BArr.below {B : Nat} (h : BArr w g bs) (hb : Below B w w') (hg : g < B) : BArr w' g bs := (hb.block g hg).trans h
theorem BArr.grown {row : Option Nat} (h : BArr w g bs) (hg : w.grownBy w' row) (hne : row ≠ some g) : BArr w' g bs := (hg.block g h.lt (fun e => hne e.symm)).trans h
end
theorem info4 : ∃ i, Try.prog.info? 4 = some i ∧ i.zero = some (.bool false) ∧ i.size = 1 ∧ i.bytes = 1 := info_parts (by kernel_rfl)
theorem makeB (n : Nat) (hn : n ≤ 100000) (w : World) : (Instr.makeSlice 48 (.int .i64 (n : Int)) (.int .i64 (n : Int))).run Try.prog w =
    .ok (.slice (some ⟨w.heap.size, 0, none⟩) n n) (w.alloc (.cells (Array.replicate n (Value.bool false)) 4)) := by
  obtain ⟨i, hi, hz, hs, hb⟩ := info4
  have hr := run_make (P := Try.prog) w 48 4 i _ Try.underlying48 hi hz .i64 .i64 n n (by omega) (by omega) (by rw [hb]; omega) (by omega)
  have e : madeCells (Value.bool false).cells (n * i.size) = (Array.replicate n (Value.bool false)) := by
    rw [hs, Nat.mul_one]
    apply Array.toList_inj.1
    show (madeCells #[Value.bool false] n).toList = _
    rw [toList_madeCells_one]; simp
  simp only [Int.toNat_natCast] at hr
  rw [hr, e]
theorem barr_new (w : World) (n : Nat) : BArr (w.alloc (.cells (Array.replicate n (Value.bool false)) 4)) w.heap.size (List.replicate n false) := by
  unfold BArr
  rw [heap_alloc_new]
  simp
theorem grown_put (w : World) (g j : Nat) (u : Value) : w.grownBy (w.setCell ⟨g, j, none⟩ u) (some g) :=
  ⟨rfl, rfl, rfl, by simp, fun k _ hk => heap_setCell_other w ⟨g, j, none⟩ k u (fun e => hk (by simp [e]))⟩
theorem Own.away {w : World} {base g j : Nat} {v u : Value} {zs : List Int} (h : Own w base v zs) (hne : v.ownBlock ≠ some g) : Own (w.setCell ⟨g, j, none⟩ u) base v zs := World.ownsRow.kept h (grown_put w g j u) (.inr hne)

/-- Which of n places are among the first k of ps. -/
def gn (n : Nat) (ps : List Nat) (k : Nat) : List Bool := (List.range n).map fun i => decide (i ∈ ps.take k)
theorem gn_zero (n : Nat) (ps : List Nat) : gn n ps 0 = List.replicate n false := by
  apply List.ext_getElem
  · simp [gn]
  · intro i h1 h2; simp [gn]
theorem gn_get {n k i : Nat} {ps : List Nat} (hi : i < n) : (gn n ps k)[i]? = some (decide (i ∈ ps.take k)) := by simp [gn, hi]
theorem gn_put {n k q : Nat} {ps : List Nat} (h : ps[k]? = some q) : (gn n ps k).set q true = gn n ps (k + 1) := by
  apply List.ext_getElem
  · simp [gn]
  · intro i h1 h2
    rw [List.getElem_set]
    simp only [gn, List.getElem_map, List.getElem_range, List.take_add_one, h, Option.toList_some, List.mem_append, List.mem_singleton]
    by_cases e : q = i
    · subst e; simp
    · rw [if_neg e]
      have : ¬ i = q := fun h => e h.symm
      simp [this]
/-- Those of the first t places that are not among the first k of ps. -/
def rm (ps : List Nat) (k t : Nat) : List Nat := (List.range t).filter fun i => !decide (i ∈ ps.take k)
theorem rm_len (ps : List Nat) (k t : Nat) : (rm ps k t).length ≤ t := by
  have := List.length_filter_le (fun i => !decide (i ∈ ps.take k)) (List.range t)
  rw [List.length_range] at this
  exact this
theorem rm_yes {ps : List Nat} {k t : Nat} (h : decide (t ∈ ps.take k) = true) : rm ps k (t + 1) = rm ps k t := by
  unfold rm; rw [List.range_succ, List.filter_append]; simp at h; simp [h]
theorem rm_no {ps : List Nat} {k t : Nat} (h : decide (t ∈ ps.take k) = false) : rm ps k (t + 1) = rm ps k t ++ [t] := by
  unfold rm; rw [List.range_succ, List.filter_append]; simp at h; simp [h]
theorem rm_mem {ps : List Nat} {k t i : Nat} : i ∈ rm ps k t ↔ i < t ∧ i ∉ ps.take k := by simp [rm]
theorem rm_nodup (ps : List Nat) (k t : Nat) : (rm ps k t).Nodup := List.nodup_range.filter _
theorem Srt.tail {κ : Nat → Nat} {n k i : Nat} {ps : List Nat} (h : Srt κ n ps) (hi : i < n) (hni : i ∉ ps.take k) : ∃ j, k ≤ j ∧ j < n ∧ ps.getD j 0 = i := by
  obtain ⟨j, hj, e⟩ := h.has hi
  refine ⟨j, ?_, hj, e⟩
  rcases Nat.lt_or_ge j k with hl | hl
  · exfalso
    apply hni
    rw [← e]
    have : j < ps.length := by rw [h.len]; exact hj
    rw [List.mem_take_iff_getElem]
    exact ⟨j, by omega, by simp [this]⟩
  · exact hl
theorem Srt.not_mem {κ : Nat → Nat} {n k : Nat} {ps : List Nat} (h : Srt κ n ps) (hk : k < n) : ps.getD k 0 ∉ ps.take k := by
  intro hm
  rw [List.mem_take_iff_getElem] at hm
  obtain ⟨j, hj, e⟩ := hm
  have hjk : j < k := by omega
  have h1 := h.2 j k hjk hk
  have : j < ps.length := by rw [h.len]; omega
  rw [← e] at h1
  simp [this] at h1
/-- Among those that are left, the next one of the order wins. -/
theorem Srt.next {fs : Nat → Fr} {n k : Nat} {ps : List Nat} (h : Srt (fun i => (fs i).plc) n ps) (hmay : ∀ i, i < n → (fs i).may = true) (hk : k < n) :
    ∃ j, j < (rm ps k n).length ∧ (rm ps k n)[j]? = some (ps.getD k 0) ∧ (∀ i, i < (rm ps k n).length → (((rm ps k n).map fs).getD i Fr.zero).may = true) ∧ Wns (fun i => (((rm ps k n).map fs).getD i Fr.zero).lv) (rm ps k n).length j := by
  have hm : ps.getD k 0 ∈ rm ps k n := rm_mem.2 ⟨h.lt hk, h.not_mem hk⟩
  obtain ⟨j, hj, e⟩ := List.mem_iff_getElem.1 hm
  have hg : ∀ i (hi : i < (rm ps k n).length), ((rm ps k n).map fs).getD i Fr.zero = fs (rm ps k n)[i] := fun i hi => by simp [List.getD, hi]
  have hb : ∀ i (hi : i < (rm ps k n).length), (rm ps k n)[i] < n := fun i hi => (rm_mem.1 (List.getElem_mem hi)).1
  have hmy : ∀ i, i < (rm ps k n).length → (((rm ps k n).map fs).getD i Fr.zero).may = true := fun i hi => by rw [hg i hi]; exact hmay _ (hb i hi)
  refine ⟨j, hj, by rw [List.getElem?_eq_getElem hj, e], hmy, wns_of hmy hj fun i hi hne => ?_⟩
  rw [hg i hi, hg j hj, e]
  obtain ⟨a, ha1, ha2, ha3⟩ := h.tail (k := k) (hb i hi) (rm_mem.1 (List.getElem_mem hi)).2
  rw [← ha3]
  refine h.2 k a ?_ ha2
  rcases Nat.lt_or_ge k a with hl | hl
  · exact hl
  · exfalso
    have : a = k := by omega
    subst this
    rw [← e] at ha3
    exact hne ((List.getElem_inj (rm_nodup ps a n)).1 ha3).symm
end Go.Proofs.Ytjbbneagikogbaa
