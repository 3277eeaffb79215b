/- frame.Arb's answer is the call's own; rows of rows; what is told of those that drop out. -/
import Derived.Test.YtjbbneagikogbaaAV
import Derived.Test.YtjbbneagikogbaaAF
namespace Go.Proofs.Ytjbbneagikogbaa
open Go.RowKit

set_option maxHeartbeats 400000 in
theorem of_own (n width : Nat) (w : World) (hn : n < 18446744073709551616) (hw : width ≤ 64) :
    Calls Try.prog 31 #[.int .u64 n, .int .i64 width] w fun e w' => e = .returned (.tuple #[.slice (some ⟨w.heap.size, 0, none⟩) width width, .int .i64 0]) ∧ Il w' (some ⟨w.heap.size, 0, none⟩) width (ofB n width) ∧ Below w.heap.size w w' := by
  have hmk := make22 width (by omega)
  have HB := Lib.hid (Arr.new w .i64 3 (List.replicate width 0))
  have HN := Lib.hid hn
  clear hn
  generalize ((List.replicate width 0).map (Value.int .i64)).toArray = cs at hmk HB
  have h0 : decide ((width : Int) < 0) = false := by simp
  have h1 : decide ((64 : Int) < (width : Int)) = false := by simp; omega
  go_enter Try.func31, Try.ntmps31
  go_wp2
  go_loopw [17] (fun i wr => ∃ (k : Nat) (zs : List Int), k ≤ width ∧ i = .int .i64 k ∧ Arr .i64 3 wr w.heap.size zs ∧ Fill n width k zs ∧ Below w.heap.size w wr) (fun i _ => width - (intOf i).toNat)
  case atStart => exact ⟨0, List.replicate width 0, Nat.zero_le _, rfl, HB.out, ⟨by simp, fun j h1 h2 => by omega⟩, (Below.refl _ _).alloc (Nat.le_refl _) _⟩
  case round =>
    obtain ⟨k, zs, hk, rfl, ha, hf, hbel⟩ := hrel
    by_cases hlt : k < width
    · have hc := ha.cell (i := width - 1 - k) (by have := hf.1; omega)
      have hz := ha.frozen (width - 1 - k)
      have HA := Lib.hid ha; have HF := Lib.hid hf
      clear ha hf
      generalize zs.getD (width - 1 - k) 0 = x at hc
      go_wp2
      go_roundw
      case rel =>
        rw [and_bit n k HN.out]
        exact ⟨k + 1, _, by omega, by go_num, HA.out.put _ _, HF.out.step hlt, hbel.setCell (Nat.le_refl _) _⟩
      case measure => simp [intOf]; omega
    · go_wp2
      go_ret2
      have e := hf.all (show width ≤ k by omega)
      subst e
      have hi := ha.il
      rw [ofB_len] at hi
      exact ⟨rfl, hi, hbel⟩
set_option maxHeartbeats 400000 in
theorem arb_own (f : Fr) (w : World) (h : f.may = true) :
    Calls Try.prog 20 #[f.val] w fun e w' => ∃ g c, e = .returned (.tuple #[.slice (some ⟨g, 0, none⟩) f.wid c, .int .i64 0]) ∧ w.heap.size ≤ g ∧ Il w' (some ⟨g, 0, none⟩) f.wid f.lv ∧ Below w.heap.size w w' := by
  have HW := Lib.hid (wid_le f)
  have HN := Lib.hid (num_lt h)
  have HM := Lib.hid h
  have HB := Lib.hid (boxed f w)
  clear h
  go_enter Try.func20, Try.ntmps20
  go_wp2_with fail
  refine (fcheck_any f _).mono ?_
  rintro e w1 ⟨rfl, hb1⟩
  rw [err_ok HM.out]
  have HB1 := Lib.hid (nxt HB.out hb1)
  obtain ⟨c0, c1, c2, c3, c4, c5, c6, c7, c8, c9, c10, c11⟩ := bx_past hb1
  go_wp2_with fail
  refine (levels_ok f _ HM.out).mono ?_
  rintro e w2 ⟨rfl, hb2⟩
  have HB2 := Lib.hid (nxt HB1.out hb2)
  go_wp2_with fail
  refine (of_own _ _ _ (by have := HN.out; omega) HW.out).mono ?_
  rintro e w3 ⟨rfl, hi, hb3⟩
  go_wp2
  go_ret2
  exact ⟨_, _, rfl, HB2.out.size, hi, nxt HB2.out hb3⟩

/-- The rows as they are gathered: each holds its frame's levels, and lies apart from the row of rows. -/
def Rs (w : World) (v : Value) (vs : List Value) (fs : Nat → Fr) (k : Nat) : Prop :=
  ∀ j, j < k → ∃ g c, vs[j]? = some (.slice (some ⟨g, 0, none⟩) (fs j).wid c) ∧ Il w (some ⟨g, 0, none⟩) (fs j).wid (fs j).lv ∧ v.ownBlock ≠ some g
theorem il_lt {w : World} {g n : Nat} {zs : List Int} (h : Il w (some ⟨g, 0, none⟩) n zs) (h0 : 0 < n) : g < w.heap.size := by
  obtain ⟨ad, e, hl, _⟩ := h.2 h0
  injection e with e
  subst e
  exact hl
theorem Rs.below {w w' : World} {v : Value} {vs : List Value} {fs : Nat → Fr} {k : Nat} (h : Rs w v vs fs k) (hb : Below w.heap.size w w') : Rs w' v vs fs k := fun j hj => by
  obtain ⟨g, c, h1, h2, h3⟩ := h j hj
  exact ⟨g, c, h1, h2.below hb, h3⟩
theorem Rs.push {w w2 : World} {o : Obj} {v v2 : Value} {vs : List Value} {fs : Nat → Fr} {k g c : Nat} (h : Rs w v vs fs k) (hl : vs.length = k) (hi : Il w (some ⟨g, 0, none⟩) (fs k).wid (fs k).lv) (hne : v.ownBlock ≠ some g)
    (hg : (w.alloc o).grownBy w2 v.ownBlock) (hls : Lies (w.alloc o) v v2) : Rs w2 v2 (vs ++ [.slice (some ⟨g, 0, none⟩) (fs k).wid c]) fs (k + 1) := by
  have key : ∀ j g', Il w (some ⟨g', 0, none⟩) (fs j).wid (fs j).lv → v.ownBlock ≠ some g' → Il w2 (some ⟨g', 0, none⟩) (fs j).wid (fs j).lv ∧ v2.ownBlock ≠ some g' := fun j g' h1 h2 => by
    refine ⟨(h1.alloc o).grown hg fun ad e => ?_, ?_⟩
    · injection e with e
      subst e
      exact fun e => h2 e.symm
    · have := il_lt h1 (by have := wid_13 (fs j); omega)
      rcases hls with e | e
      · rw [e]; exact h2
      · rw [e]; simp; omega
  intro j hj
  rcases Nat.lt_or_ge j k with hlt | hge
  · obtain ⟨g', c', h1, h2, h3⟩ := h j hlt
    obtain ⟨a, b⟩ := key j g' h2 h3
    exact ⟨g', c', by rw [List.getElem?_append_left (by omega)]; exact h1, a, b⟩
  · obtain rfl : j = k := by omega
    obtain ⟨a, b⟩ := key j g hi hne
    exact ⟨g, c, by rw [List.getElem?_append_right (by omega), hl, Nat.sub_self]; rfl, a, b⟩
/-- The row of rows, as it is read. -/
def Rws (w : World) (g n : Nat) (fs : Nat → Fr) : Prop :=
  g < w.heap.size ∧ ∀ j, j < n → ∃ g' c, w.cell? ⟨g, j, none⟩ = some (.slice (some ⟨g', 0, none⟩) (fs j).wid c) ∧ Il w (some ⟨g', 0, none⟩) (fs j).wid (fs j).lv
theorem Rws.below {w w' : World} {g n : Nat} {fs : Nat → Fr} (h : Rws w g n fs) (hb : Below w.heap.size w w') : Rws w' g n fs :=
  ⟨Nat.lt_of_lt_of_le h.1 hb.size, fun j hj => by
    obtain ⟨g', c, h1, h2⟩ := h.2 j hj
    exact ⟨g', c, (hb.cell (p := ⟨g, j, none⟩) h.1).trans h1, h2.below hb⟩⟩
theorem Rws.lev {w : World} {g n : Nat} {fs : Nat → Fr} (h : Rws w g n fs) {j k : Nat} {z : Int} (hj : j < n) (hz : (fs j).lv[k]? = some z) : ∃ g' c, w.cell? ⟨g, j, none⟩ = some (.slice (some ⟨g', 0, none⟩) (fs j).wid c) ∧ w.cell? ⟨g', k, none⟩ = some (.int .i64 z) := by
  obtain ⟨g', c, h1, h2⟩ := h.2 j hj
  have hk : k < (fs j).wid := by rw [← lv_len]; exact (List.getElem?_eq_some_iff.1 hz).1
  obtain ⟨ad, e, _, hc⟩ := h2.2 (by omega)
  injection e with e
  subst e
  have := hc k hk
  rw [add_zero_off] at this
  refine ⟨g', c, h1, ?_⟩
  rw [this]
  simp [List.getD, hz]

section
variable (L : Nat → List Int) (m : Nat)
/-- Where i has dropped out, behind k levels; -1: it is left. -/
def ov (k i : Nat) : Int := if (L i).take k = (L m).take k then -1 else dif (L i) (L m)
variable {L m} {n k i : Nat}
theorem ov_zero : ov L m 0 i = -1 := by unfold ov; rw [if_pos (by simp)]
theorem ov_m : ov L m k m = -1 := by unfold ov; rw [if_pos rfl]
theorem ov_yes (h : (L i).take k = (L m).take k) : ov L m k i = -1 := by unfold ov; rw [if_pos h]
theorem ov_no (hw : Wns L n m) (hi : i < n) (h : ¬ (L i).take k = (L m).take k) : (∃ d : Nat, ov L m k i = d) ∧ ov L m (k + 1) i = ov L m k i := by
  have hne : i ≠ m := by rintro rfl; exact h rfl
  obtain ⟨d, hd⟩ := hw.2 i hi hne
  unfold ov
  rw [if_neg h, if_neg (fun h' => h (take_succ_iff.1 h').1), hd.dif.2]
  exact ⟨⟨d, rfl⟩, rfl⟩
theorem ov_stay {z : Int} (h : (L i).take k = (L m).take k) (h1 : (L i)[k]? = some z) (h2 : (L m)[k]? = some z) : ov L m (k + 1) i = -1 := ov_yes (take_succ_iff.2 ⟨h, by rw [h1, h2]⟩)
theorem ov_drop {z x : Int} (h : (L i).take k = (L m).take k) (h1 : (L i)[k]? = some z) (h2 : (L m)[k]? = some x) (hne : z ≠ x) : ov L m (k + 1) i = k := by
  unfold ov
  rw [if_neg (fun h' => hne (by have := (take_succ_iff.1 h').2; rw [h1, h2] at this; injection this)), dif_stop _ _ k z x h h1 h2 hne]
theorem ov_end (hw : Wns L n m) (hi : i < n) (hne : i ≠ m) (hk : (L m).length ≤ k) : ∃ d, ov L m k i = (d : Nat) ∧ At (L m) (L i) d := by
  obtain ⟨d, hd⟩ := hw.2 i hi hne
  refine ⟨d, ?_, hd⟩
  unfold ov
  rw [if_neg, hd.dif.2]
  intro h
  have := hd.le h.symm
  have := hd.lt
  omega
theorem lf_lt2 (h : Wns L n m) (hk : k < (L m).length) (hi : i < n) (ht : (L i).take k = (L m).take k) : k < (L i).length := by
  by_cases e : i = m
  · subst e; exact hk
  · obtain ⟨d, hd, ha⟩ := lf_le h (lf_mem.2 ⟨hi, ht⟩) e
    have := ha.lt
    omega
theorem lf_wir2 (h : Wns L n m) (hlv : ∀ i, ∀ z ∈ L i, lvl z = true) (hk : k < (L m).length) {x : Int} (hx : (L m)[k]? = some x) : wir ((lf L n m k).map fun i => (L i).getD k 1) = x := by
  rcases lvl_01 (hlv m x (List.mem_of_getElem? hx)) with rfl | rfl
  · apply wir_zero
    rw [List.mem_map]
    exact ⟨m, lf_m h, by simp [List.getD, hx]⟩
  · apply wir_one
    intro z hz
    obtain ⟨i, hi, rfl⟩ := List.mem_map.1 hz
    intro e
    have hki := lf_lt2 h hk (lf_mem.1 hi).1 (lf_mem.1 hi).2
    have : (L i)[k]? = some 0 := by
      rw [← e]; simp [List.getD, hki]
    rw [lf_wire h hi this] at hx
    cases hx
variable (L m)
/-- The levels of those of the first t that are left. -/
def le4 (k t : Nat) : List Int := ((List.range t).filter fun i => (L i).take k == (L m).take k).map fun i => (L i).getD k 1
variable {L m}
theorem le4_len (t : Nat) : (le4 L m k t).length ≤ t := by
  unfold le4
  rw [List.length_map]
  have := List.length_filter_le (fun i => (L i).take k == (L m).take k) (List.range t)
  rw [List.length_range] at this
  exact this
theorem le4_yes {z : Int} (h : (L i).take k = (L m).take k) (hz : (L i)[k]? = some z) : le4 L m k (i + 1) = le4 L m k i ++ [z] := by
  unfold le4
  rw [List.range_succ, List.filter_append, List.map_append]
  simp [h, List.getD, hz]
theorem le4_no (h : ¬ (L i).take k = (L m).take k) : le4 L m k (i + 1) = le4 L m k i := by
  unfold le4
  rw [List.range_succ, List.filter_append, List.map_append]
  simp [h]
theorem le4_all : le4 L m k n = (lf L n m k).map fun i => (L i).getD k 1 := rfl
end
/-- A row of n numbers, told by a function. -/
def ro (n : Nat) (f : Nat → Int) : List Int := (List.range n).map f
theorem ro_len (n : Nat) (f : Nat → Int) : (ro n f).length = n := by simp [ro]
theorem ro_get {n j : Nat} {f : Nat → Int} (h : j < n) : (ro n f).getD j 0 = f j := by simp [ro, List.getD, h]
theorem ro_ext {n : Nat} {f g : Nat → Int} (h : ∀ i, i < n → f i = g i) : ro n f = ro n g := List.map_congr_left fun i hi => h i (List.mem_range.1 hi)
theorem ro_set (n t : Nat) (f : Nat → Int) (v : Int) : (ro n f).set t v = ro n fun i => if i = t then v else f i := by
  apply List.ext_getElem
  · simp [ro]
  · intro i h1 h2
    rw [List.getElem_set]
    simp only [ro, List.getElem_map, List.getElem_range]
    by_cases e : t = i
    · subst e; simp
    · rw [if_neg e, if_neg (Ne.symm e)]
theorem ro_zero (n : Nat) : List.replicate n (0 : Int) = ro n fun _ => 0 := by
  apply List.ext_getElem
  · simp [ro]
  · intro i h1 h2; simp [ro]
end Go.Proofs.Ytjbbneagikogbaa
