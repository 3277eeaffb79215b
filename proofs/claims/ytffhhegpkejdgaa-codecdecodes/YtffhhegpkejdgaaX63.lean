/- Blocks that are frames. -/
import Derived.Test.YtffhhegpkejdgaaX61
import Derived.Laws.ResultCell
import Derived.Deep.RegionHeld3
import Derived.Test.YtffhhegpkejdgaaX62
import Derived.Laws.StructEq
import Derived.Deep.QuietTactic
import Derived.BigQuiet
import Derived.StillTailTactics
namespace Go.Proofs.Ytffhhegpkejdgaa
open Go.RowKit

/-- The data of a frame are bytes. -/
def Fr.wf (f : Fr) : Prop := ∀ k, k < 8 → 0 ≤ f.d k ∧ f.d k ≤ 255
theorem Bx.lt {w : World} {g : Nat} {f : Fr} (h : Bx w g f) : g < w.heap.size := World.block_lt_of_cell? w ⟨g, 0, none⟩ h.1
theorem Bx.data {w : World} {g : Nat} {f : Fr} (h : Bx w g f) (k : Nat) (hk : k < 8) : w.cell? ⟨g, 4 + k, none⟩ = some (.int .u8 (f.d k)) := by
  obtain ⟨c0, c1, c2, c3, c4, c5, c6, c7, c8, c9, c10, c11⟩ := h
  match k, hk with
  | 0, _ => exact c4
  | 1, _ => exact c5
  | 2, _ => exact c6
  | 3, _ => exact c7
  | 4, _ => exact c8
  | 5, _ => exact c9
  | 6, _ => exact c10
  | 7, _ => exact c11
def Fr.zero : Fr := ⟨0, false, false, 0, fun _ => 0⟩
/-- The frame f with byte k turned. -/
def Fr.put (f : Fr) (k : Nat) (z : Int) : Fr := { f with d := fun j => if j = k then z else f.d j }
/-- Block g is just the frame f, not frozen. -/
def Fb (w : World) (g : Nat) (f : Fr) : Prop := w.heap[g]? = some (.cells f.cells 24)
theorem Fb.bx {w : World} {g : Nat} {f : Fr} (h : Fb w g f) : Bx w g f := bx_of h
theorem Fb.frozen {w : World} {g : Nat} {f : Fr} (h : Fb w g f) (i : Nat) : w.frozen? ⟨g, i, none⟩ = false := by
  unfold Fb at h
  simp [World.frozen?, h]
theorem Fb.lt {w : World} {g : Nat} {f : Fr} (h : Fb w g f) : g < w.heap.size := h.bx.lt
theorem Fb.below {w w' : World} {B g : Nat} {f : Fr} (h : Fb w g f) (hb : Below B w w') (hg : g < B) : Fb w' g f := (hb.block g hg).trans h
theorem Fb.put {w : World} {g : Nat} {f : Fr} (h : Fb w g f) (k : Nat) (hk : k < 8) (z : Int) : Fb (w.setCell ⟨g, 4 + k, none⟩ (.int .u8 z)) g (f.put k z) := by
  have e : f.cells.setIfInBounds (4 + k) (.int .u8 z) = (f.put k z).cells := by
    match k, hk with
    | 0, _ | 1, _ | 2, _ | 3, _ | 4, _ | 5, _ | 6, _ | 7, _ => rfl
  unfold Fb at h ⊢
  rw [← e]
  generalize f.cells = cs at *
  simp [World.setCell, Array.getElem?_modify, h]
theorem Fb.away {w : World} {g g' i : Nat} {v : Value} {f : Fr} (h : Fb w g f) (hne : g' ≠ g) : Fb (w.setCell ⟨g', i, none⟩ v) g f := by
  unfold Fb at h ⊢
  simp [World.setCell, Array.getElem?_modify, h, hne]
theorem fb_new (w : World) (f : Fr) : Fb (w.alloc (.cells f.cells 24)) w.heap.size f := heap_alloc_new w _
theorem fb_two1 (w : World) (f g : Fr) : Fb ((w.alloc (.cells f.cells 24)).alloc (.cells g.cells 24)) w.heap.size f :=
  (fb_new w f).below (B := w.heap.size + 1) (((Below.refl _ _).alloc (by simp) _)) (by omega)
theorem fb_two2 (w : World) (f g : Fr) : Fb ((w.alloc (.cells f.cells 24)).alloc (.cells g.cells 24)) (w.heap.size + 1) g := by
  have h := fb_new (w.alloc (.cells f.cells 24)) g
  simpa using h
theorem alloc2 (w : World) (a b : Obj) : Below w.heap.size w ((w.alloc a).alloc b) := ((Below.refl _ _).alloc (Nat.le_refl _) _).alloc (by simp) _
theorem set12 {w wr : World} {B g : Nat} (h : Below B w wr) (hg : B ≤ g) (v0 v1 v2 v3 v4 v5 v6 v7 v8 v9 v10 v11 : Value) : Below B w ((((((((((((wr.setCell ⟨g, 0, none⟩ v0).setCell ⟨g, 1, none⟩ v1).setCell ⟨g, 2, none⟩ v2).setCell ⟨g, 3, none⟩ v3).setCell ⟨g, 4, none⟩ v4).setCell ⟨g, 5, none⟩ v5).setCell ⟨g, 6, none⟩ v6).setCell ⟨g, 7, none⟩ v7).setCell ⟨g, 8, none⟩ v8).setCell ⟨g, 9, none⟩ v9).setCell ⟨g, 10, none⟩ v10).setCell ⟨g, 11, none⟩ v11) :=
  (Below.setCell (Below.setCell (Below.setCell (Below.setCell (Below.setCell (Below.setCell (Below.setCell (Below.setCell (Below.setCell (Below.setCell (Below.setCell (Below.setCell h (p := ⟨g, 0, none⟩) hg v0) (p := ⟨g, 1, none⟩) hg v1) (p := ⟨g, 2, none⟩) hg v2) (p := ⟨g, 3, none⟩) hg v3) (p := ⟨g, 4, none⟩) hg v4) (p := ⟨g, 5, none⟩) hg v5) (p := ⟨g, 6, none⟩) hg v6) (p := ⟨g, 7, none⟩) hg v7) (p := ⟨g, 8, none⟩) hg v8) (p := ⟨g, 9, none⟩) hg v9) (p := ⟨g, 10, none⟩) hg v10) (p := ⟨g, 11, none⟩) hg v11)
theorem takeH {P : Program} {md : Region.Mode} {l : List Oper} {Q : Exit → Act → World → Prop} {S : World → Prop} {i : Nat} {oi : Oper} {v : Value} {fuel : Nat} {listed : Array Bool} {a : Act} {w : World} (hi : l[i]? = some oi)
    (hs : Region.noSelect l.toArray = true) (hf : Region.free md l.toArray listed i = true) (hr : (Region.ready md l.toArray listed).contains i = true)
    (hQ : ∀ c a w, Q (.panic c) (a.put oi.dst v) w → Q (.panic c) a w) (hy : YieldsIf P l.toArray S oi v a) (hS : S w)
    (h : wpAnyH P md l.toArray Q S fuel (listed.setIfInBounds i true) (a.put oi.dst v) w) : wpAnyH P md l.toArray Q S (fuel + 1) listed a w :=
  wpAnyH_take (by simpa using hi) hs hf hr hQ hy hS h
end Go.Proofs.Ytffhhegpkejdgaa

/- Plain mathematics of layer 4: the fields of levels, and the levels of a frame. -/
namespace Go.Proofs.Ytffhhegpkejdgaa

/-- The level at a place has come, and is 1. -/
def one (zs : List Int) (k : Nat) : Bool := zs[k]? == some 1
def hEx (zs : List Int) : Bool := one zs 13
def hRt (zs : List Int) : Bool := one zs (if hEx zs then 32 else 12)
def aW (x : Bool) : Nat := if x then 32 else 13
def cW (x : Bool) : Nat := if x then 6 else 5
def hEnd (x : Bool) : Nat := if x then 39 else 19
/-- Levels from a place on, so many. -/
def cutL (zs : List Int) (a n : Nat) : List Int := (zs.take (a + n)).drop a
def hLn (zs : List Int) : Nat := if hEnd (hEx zs) ≤ zs.length then min (val (cutL zs (hEnd (hEx zs) - 4) 4)) 8 else 0
def hDat (zs : List Int) : Nat := if hRt zs then 0 else hLn zs * 8
def hd (zs : List Int) : Fr := ⟨0, hEx zs, hRt zs, (hLn zs : Int), fun _ => 0⟩
def ahead (zs : List Int) : Nat := hEnd (hEx zs) + hDat zs
def wds (a c d : Nat) : List Nat := [1, a, c, d, 15, 1, 1, 1, 7]
def hW (zs : List Int) : List Nat := wds (aW (hEx zs)) (cW (hEx zs)) (hDat zs)
theorem hEnd_eq (x : Bool) : 1 + aW x + cW x = hEnd x := by cases x <;> rfl
theorem cutL_len {zs : List Int} {a n : Nat} (h : a + n ≤ zs.length) : (cutL zs a n).length = n := by
  unfold cutL; rw [List.length_drop, List.length_take]; omega
theorem hLn_le (zs : List Int) : hLn zs ≤ 8 := by unfold hLn; split <;> omega
theorem hDat_le (zs : List Int) : hDat zs ≤ 64 := by
  have := hLn_le zs
  unfold hDat; split <;> omega
theorem all_cut {zs : List Int} (h : ∀ z ∈ zs, lvl z = true) (a n : Nat) : ∀ z ∈ cutL zs a n, lvl z = true := all_drop (all_take h _) _

/-- The field, and the place in it, behind n levels. -/
def nx : List Nat → Nat → Nat → Nat × Nat
  | [], _, k => (k, 0)
  | w :: ws, n, k => if n < w then (k, n) else nx ws (n - w) (k + 1)
def sumW : List Nat → Nat
  | [] => 0
  | w :: ws => w + sumW ws
/-- How many of each field there are ahead of n. -/
def cnt : List Nat → Nat → List Nat
  | [], _ => []
  | w :: ws, n => min w n :: cnt ws (n - w)
theorem cnt_len : ∀ (ws : List Nat) (n : Nat), (cnt ws n).length = ws.length := by
  intro ws
  induction ws with
  | nil => intro n; rfl
  | cons w ws ih => intro n; simp [cnt, ih]
theorem cnt_zero : ∀ (ws : List Nat), cnt ws 0 = List.replicate ws.length 0 := by
  intro ws
  induction ws with
  | nil => rfl
  | cons w ws ih => simp [cnt, ih, List.replicate_succ]
theorem cnt_full : ∀ (ws : List Nat) (n : Nat), sumW ws ≤ n → cnt ws n = ws := by
  intro ws
  induction ws with
  | nil => intro n _; rfl
  | cons w ws ih => intro n h; simp only [sumW] at h; simp only [cnt]; rw [ih _ (by omega), Nat.min_eq_left (by omega)]
theorem nx_lt : ∀ (ws : List Nat) (n k : Nat), n < sumW ws → k ≤ (nx ws n k).1 ∧ (nx ws n k).1 < k + ws.length := by
  intro ws
  induction ws with
  | nil => intro n k h; simp [sumW] at h
  | cons w ws ih =>
    intro n k h
    simp only [sumW] at h
    unfold nx
    split
    · simp
    · have := ih (n - w) (k + 1) (by omega)
      simp; omega
theorem nx_end : ∀ (ws : List Nat) (n k : Nat), sumW ws ≤ n → nx ws n k = (k + ws.length, 0) := by
  intro ws
  induction ws with
  | nil => intro n k _; simp [nx]
  | cons w ws ih =>
    intro n k h
    simp only [sumW] at h
    unfold nx
    rw [if_neg (by omega), ih _ _ (by omega)]
    simp; omega
theorem nx_cnt : ∀ (ws : List Nat) (n k : Nat), n < sumW ws → (cnt ws n)[(nx ws n k).1 - k]? = some (nx ws n k).2 ∧ cnt ws (n + 1) = (cnt ws n).set ((nx ws n k).1 - k) ((nx ws n k).2 + 1) := by
  intro ws
  induction ws with
  | nil => intro n k h; simp [sumW] at h
  | cons w ws ih =>
    intro n k h
    simp only [sumW] at h
    unfold nx cnt
    split
    · next hn =>
      simp
      constructor
      · omega
      · constructor
        · omega
        · rw [show n + 1 - w = 0 by omega, show n - w = 0 by omega]
    · next hn =>
      have hl := nx_lt ws (n - w) (k + 1) (by omega)
      have := ih (n - w) (k + 1) (by omega)
      obtain ⟨j, hj⟩ : ∃ j, (nx ws (n - w) (k + 1)).1 = k + 1 + j := ⟨(nx ws (n - w) (k + 1)).1 - (k + 1), by omega⟩
      rw [hj] at this ⊢
      rw [show k + 1 + j - (k + 1) = j by omega] at this
      rw [show k + 1 + j - k = j + 1 by omega, List.getElem?_cons_succ, List.set_cons_succ, show n + 1 - w = n - w + 1 by omega, Nat.min_eq_left (by omega : w ≤ n + 1), Nat.min_eq_left (by omega : w ≤ n)]
      exact ⟨this.1, by rw [this.2]⟩
theorem nx_mono : ∀ (ws : List Nat) (n k : Nat), (nx ws n k).1 ≤ (nx ws (n + 1) k).1 := by
  intro ws
  induction ws with
  | nil => intro n k; simp [nx]
  | cons w ws ih =>
    intro n k
    unfold nx
    split
    · split
      · simp
      · rcases Nat.lt_or_ge (n + 1 - w) (sumW ws) with h | h
        · have := nx_lt ws (n + 1 - w) (k + 1) h
          simp; omega
        · rw [nx_end _ _ _ h]; simp; omega
    · split
      · omega
      · rw [show n + 1 - w = n - w + 1 by omega]
        exact ih _ _
end Go.Proofs.Ytffhhegpkejdgaa

/- Arrays of eight bytes, compared. -/
namespace Go.Proofs.Ytffhhegpkejdgaa
open Go.RowKit

theorem all_range_ints : ∀ (xs ys : List Int), xs.length = ys.length → ((List.range xs.length).all fun i => xs.getD i 0 == ys.getD i 0) = (xs == ys) := by
  intro xs ys h
  rw [Bool.eq_iff_iff, List.all_eq_true, beq_iff_eq]
  constructor
  · intro hh
    apply List.ext_getElem h
    intro i h1 h2
    have := hh i (List.mem_range.2 h1)
    simpa [List.getD, List.getElem?_eq_getElem h1, List.getElem?_eq_getElem h2] using this
  · rintro rfl i _
    simp
theorem size5 (w : World) : (sizeOf 5).run Try.prog w = .ok 1 w := by
  have h : Try.t5.size = 1 := by kernel_rfl
  simp [sizeOf, h]
theorem eq_array (w : World) (d : Nat) (xs ys : List Int) (hx : xs.length = 8) (hy : ys.length = 8) :
    (Op.equalIn (d + 2) 22 (.agg (xs.map (Value.int .u8)).toArray) (.agg (ys.map (Value.int .u8)).toArray)).run Try.prog w = .ok (xs == ys) w := by
  rw [← all_range_ints xs ys (hx.trans hy.symm), hx, List.range_eq_range', Op.equalIn]
  simp only [Sem.run_bind, run_underlying Try.underlying22, Result.andThen_ok, size5, Std.Legacy.Range.forIn_eq_forIn_range', Std.Legacy.Range.size, Nat.sub_zero, Nat.add_sub_cancel, Nat.div_one]
  have hl : ∀ i ∈ List.range' 0 8 1, i < 8 := fun i hi => by simpa using (List.mem_range'_1.1 hi).2
  generalize List.range' 0 8 1 = l at hl ⊢
  induction l with
  | nil => simp
  | cons i l ih =>
    have hi : i < 8 := hl i (by simp)
    have px : (part 5 (xs.map (Value.int .u8)).toArray (i * 1)).run Try.prog w = .ok (.int .u8 (xs.getD i 0)) w := by
      simp [part, isAgg, run_underlying Try.underlying5, List.getD, List.getElem?_eq_getElem (show i < xs.length by omega)]
    have py : (part 5 (ys.map (Value.int .u8)).toArray (i * 1)).run Try.prog w = .ok (.int .u8 (ys.getD i 0)) w := by
      simp [part, isAgg, run_underlying Try.underlying5, List.getD, List.getElem?_eq_getElem (show i < ys.length by omega)]
    have pe : (Op.equalIn (d + 1) 5 (.int .u8 (xs.getD i 0)) (.int .u8 (ys.getD i 0))).run Try.prog w = .ok (xs.getD i 0 == ys.getD i 0) w := run_equalIn_int w d 5 .u8 .u8 _ _ Try.underlying5
    simp only [List.forIn_cons, Sem.run_bind, px, py, pe, Result.andThen_ok, List.all_cons]
    cases hb : (xs.getD i 0 == ys.getD i 0)
    · simp
    · simp only [Bool.not_true, Bool.false_eq_true, if_false, Sem.run_pure, Result.andThen_ok, Bool.true_and]
      exact ih fun j hj => hl j (by simp [hj])
theorem eq22 (a0 a1 a2 a3 a4 a5 a6 a7 b0 b1 b2 b3 b4 b5 b6 b7 : Int) (w : World) :
    (Op.equalIn 9999 22 (.agg #[.int .u8 a0, .int .u8 a1, .int .u8 a2, .int .u8 a3, .int .u8 a4, .int .u8 a5, .int .u8 a6, .int .u8 a7]) (.agg #[.int .u8 b0, .int .u8 b1, .int .u8 b2, .int .u8 b3, .int .u8 b4, .int .u8 b5, .int .u8 b6, .int .u8 b7])).run Try.prog w = .ok ([a0, a1, a2, a3, a4, a5, a6, a7] == [b0, b1, b2, b3, b4, b5, b6, b7]) w :=
  eq_array w 9997 [a0, a1, a2, a3, a4, a5, a6, a7] [b0, b1, b2, b3, b4, b5, b6, b7] rfl rfl
end Go.Proofs.Ytffhhegpkejdgaa

/- The contracts of field's isOne, value, widths, upTo, head. -/
namespace Go.Proofs.Ytffhhegpkejdgaa
open Go.RowKit

theorem results_cell1 {fn : Func} {p : Tmp} {ty : TypeId} (h : fn.results = #[.cell p ty]) (tmps : Array Value) (P : Program) (w : World) :
    (results fn tmps).run P w = ((asAddr (tmps.getD p undef)).run P w).andThen fun a w₁ => (loadVar ty a).run P w₁ := by
  simp only [results, h]
  simp [Sem.run_bind, Result.andThen]

theorem one_at {zs : List Int} {k : Nat} {z : Int} (h : zs[k]? = some z) : one zs k = (z == 1) := by
  unfold one; rw [h]; simp
theorem one_far {zs : List Int} {k : Nat} (h : zs.length ≤ k) : one zs k = false := by
  unfold one; rw [List.getElem?_eq_none h]; rfl

set_option maxHeartbeats 400000 in
theorem isOne_any (A : Option Addr) (n cap : Nat) (zs : List Int) (k : Nat) (w : World) (hr : Il w A n zs) (_hn : n ≤ 100000) (_hk : k ≤ 100) :
    Calls Try.prog 71 #[.slice A n cap, .int .i64 k] w fun e w' => e = .returned (.bool (one zs k)) ∧ w = w' := by
  by_cases hlt : k < n
  · obtain ⟨ad, z, rfl, hz, hc⟩ := hr.at_ hlt
    have HZ := Lib.hid (one_at hz)
    clear hr hz
    go_enter Try.func71, Try.ntmps71
    go_wp2
    go_ret
    exact ⟨ret_bool HZ.out.symm, rfl⟩
  · have HZ := Lib.hid (one_far (show zs.length ≤ k by rw [hr.1]; omega))
    clear hr
    go_enter Try.func71, Try.ntmps71
    go_wp2
    go_ret
    exact ⟨ret_bool HZ.out.symm, rfl⟩

theorem val_32 {zs : List Int} (h : ∀ z ∈ zs, lvl z = true) (hl : zs.length ≤ 32) : val zs < 4294967296 := by
  have h1 := val_lt zs h
  have h2 : 2 ^ zs.length ≤ 2 ^ 32 := Nat.pow_le_pow_right (by omega) hl
  have : (2 : Nat) ^ 32 = 4294967296 := by decide
  omega

set_option maxHeartbeats 400000 in
theorem fvalue_ok (A : Option Addr) (n cap : Nat) (zs : List Int) (w : World) (hr : Il w A n zs) (hn : n ≤ 32) (hl : ∀ z ∈ zs, lvl z = true) :
    Calls Try.prog 54 #[.slice A n cap] w fun e w' => e = .returned (.int .i64 (val zs : Nat)) ∧ w = w' := by
  have hv := val_32 hl (by rw [hr.1]; exact hn)
  have HR := Lib.hid hr; have HL := Lib.hid hl
  clear hr hl
  go_enter Try.func54, Try.ntmps54
  go_wp2_with fail
  refine (value_ok A n cap zs _ HR.out (by omega) HL.out).mono ?_
  rintro e w' ⟨rfl, rfl⟩
  obtain ⟨v, hv0⟩ : ∃ v, val zs = v := ⟨_, rfl⟩
  rw [hv0] at hv
  have HV := Lib.hid hv0
  rw [HV.out]
  clear hv0
  go_wp2
  go_ret
  exact ⟨by rw [HV.out]; rfl, rfl⟩

/-- The array of widths. -/
abbrev W9c (a c d : Nat) : Array Value := #[.int .i64 1, .int .i64 (a : Int), .int .i64 (c : Int), .int .i64 (d : Int), .int .i64 15, .int .i64 1, .int .i64 1, .int .i64 1, .int .i64 7]
abbrev W9 (a c d : Nat) : Value := .agg (W9c a c d)
def dW (r : Bool) (n : Nat) : Nat := if r then 0 else n * 8

theorem arr_twice (w : World) (a b c : Obj) : Below w.heap.size w (((w.alloc a).alloc b).alloc c) := (alloc2 w a b).alloc (by simp; omega) _

set_option maxHeartbeats 800000 in
theorem widths_any (f : Fr) (n : Nat) (hn : n ≤ 100) (hf : f.len = (n : Int)) (w : World) :
    Calls Try.prog 39 #[f.val] w fun e w' => e = .returned (W9 (aW f.ext) (cW f.ext) (dW f.rtr n)) ∧ Below w.heap.size w w' := by
  obtain ⟨i, x, r, l, d⟩ := f
  simp only at hf
  subst hf
  cases x <;> cases r
  · go_enter Try.func39, Try.ntmps39
    go_wp2
    refine bodyPost_ret (v := W9 13 5 (n * 8)) (by rw [results_cell1 rfl]; go_simp) rfl ⟨rfl, arr_twice _ _ _ _⟩
  · go_enter Try.func39, Try.ntmps39
    go_wp2
    refine bodyPost_ret (v := W9 13 5 0) (by rw [results_cell1 rfl]; go_simp) rfl ⟨rfl, arr_twice _ _ _ _⟩
  · go_enter Try.func39, Try.ntmps39
    go_wp2
    refine bodyPost_ret (v := W9 32 6 (n * 8)) (by rw [results_cell1 rfl]; go_simp) rfl ⟨rfl, arr_twice _ _ _ _⟩
  · go_enter Try.func39, Try.ntmps39
    go_wp2
    refine bodyPost_ret (v := W9 32 6 0) (by rw [results_cell1 rfl]; go_simp) rfl ⟨rfl, arr_twice _ _ _ _⟩

theorem Arr.ilt {t : TypeId} {w : World} {g : Nat} {zs : List Int} (h : Arr .i64 t w g zs) : Il w (some ⟨g, 0, none⟩) zs.length zs :=
  ⟨rfl, fun _ => ⟨_, rfl, h.lt, fun j hj => by
    have := h.cell hj
    rw [← this, add_zero_off]⟩⟩
def sumI (l : List Int) : Int := l.foldl (· + ·) 0
theorem sumI_step (l : List Int) (k : Nat) (z : Int) (h : l[k]? = some z) : sumI (l.take (k + 1)) = sumI (l.take k) + z := by
  rw [List.take_add_one, h]; simp [sumI]
theorem sumI_bound {l : List Int} (h : ∀ z ∈ l, 0 ≤ z ∧ z ≤ 100) : ∀ k, k ≤ l.length → 0 ≤ sumI (l.take k) ∧ sumI (l.take k) ≤ 100 * k := by
  intro k
  induction k with
  | zero => intro _; simp [sumI]
  | succ k ih =>
    intro hk
    have := ih (by omega)
    have hz := h _ (List.getElem_mem (show k < l.length by omega))
    rw [sumI_step l k _ (List.getElem?_eq_getElem (by omega))]
    omega

set_option maxHeartbeats 800000 in
theorem upTo_row (a c d m : Nat) (ha : a ≤ 100) (hc : c ≤ 100) (hd : d ≤ 100) (hm : m = 2 ∨ m = 3) (w : World) :
    Calls Try.prog 55 #[W9 a c d, .int .i64 (m : Int)] w fun e w' => e = .returned (.int .i64 (sumI (([1, (a : Int), (c : Int), (d : Int), 15, 1, 1, 1, 7] : List Int).take (m + 1)))) ∧ Below w.heap.size w w' := by
  have HI := Lib.hid ((show Arr .i64 66 (w.alloc (.cells (W9c a c d) 66)) w.heap.size [1, (a : Int), (c : Int), (d : Int), 15, 1, 1, 1, 7] from Arr.new w .i64 66 [1, (a : Int), (c : Int), (d : Int), 15, 1, 1, 1, 7]).ilt)
  have HB := Lib.hid (show ∀ z ∈ [1, (a : Int), (c : Int), (d : Int), 15, 1, 1, 1, 7], 0 ≤ z ∧ z ≤ 100 from by simp; omega)
  have HW := Lib.hid ((Below.refl w.heap.size w).alloc (Nat.le_refl _) (.cells (W9c a c d) 66))
  generalize hq : ([1, (a : Int), (c : Int), (d : Int), 15, 1, 1, 1, 7] : List Int) = qs at HI HB ⊢
  have hlen : qs.length = 9 := by rw [← hq]; rfl
  have HL := Lib.hid hlen
  have HM := Lib.hid hm
  rw [hlen] at HI
  clear hq hlen ha hc hd
  have m1 : (m : Int) ≤ 3 := by omega
  have hsl : ∀ u : World, (Instr.sliceAt 66 (.pointer (some ⟨w.heap.size, 0, none⟩)) none (some (.int .i64 ((m : Int) + 1))) none).run Try.prog u = .ok (.slice (some ⟨w.heap.size, 0, none⟩) (m + 1) 9) u := fun u => by
    rcases hm with rfl | rfl <;> (go_simp; try rfl)
  clear hm
  go_enter Try.func55, Try.ntmps55
  go_wp2
  go_loop [5, 12] (fun v i => ∃ k : Nat, k ≤ m + 1 ∧ i = .int .i64 k ∧ v = .int .i64 (sumI (qs.take k))) (fun _ i => m + 1 - (intOf i).toNat)
  case atStart => exact ⟨0, Nat.zero_le _, rfl, rfl⟩
  case round =>
    obtain ⟨k, hk, rfl, rfl⟩ := hrel
    by_cases hlt : k < m + 1
    · obtain ⟨ad, z, e, hz, hc⟩ := HI.out.at_ (show k < 9 by omega)
      injection e with e
      subst e
      rw [add_zero_off] at hc
      have hb := sumI_bound HB.out k (by have := HL.out; omega)
      have hz2 := HB.out z (List.mem_of_getElem? hz)
      have HS := Lib.hid (sumI_step qs k z hz)
      clear hz
      generalize sumI (qs.take k) = s at *
      obtain ⟨s1, s2⟩ := hb
      obtain ⟨z1, z2⟩ := hz2
      go_wp2
      go_round
      case rel => exact ⟨k + 1, by omega, by go_num, by rw [HS.out]⟩
      case measure => simp [intOf]; omega
    · have e : k = m + 1 := by omega
      subst e
      go_wp2
      go_ret
      exact ⟨rfl, HW.out⟩
theorem upTo2 (a c d : Nat) (ha : a ≤ 100) (hc : c ≤ 100) (hd : d ≤ 100) (w : World) :
    Calls Try.prog 55 #[W9 a c d, .int .i64 2] w fun e w' => e = .returned (.int .i64 ((1 + a + c : Nat) : Int)) ∧ Below w.heap.size w w' := by
  refine (upTo_row a c d 2 ha hc hd (.inl rfl) w).mono ?_
  rintro e w' ⟨rfl, hb⟩
  refine ⟨ret_int ?_, hb⟩
  simp [sumI]
theorem upTo3 (a c d : Nat) (ha : a ≤ 100) (hc : c ≤ 100) (hd : d ≤ 100) (w : World) :
    Calls Try.prog 55 #[W9 a c d, .int .i64 3] w fun e w' => e = .returned (.int .i64 ((1 + a + c + d : Nat) : Int)) ∧ Below w.heap.size w w' := by
  refine (upTo_row a c d 3 ha hc hd (.inr rfl) w).mono ?_
  rintro e w' ⟨rfl, hb⟩
  refine ⟨ret_int ?_, hb⟩
  simp [sumI]
end Go.Proofs.Ytffhhegpkejdgaa

/- The contract of field's head. -/
namespace Go.Proofs.Ytffhhegpkejdgaa
open Go.RowKit

theorem Il.cut {w : World} {ad : Addr} {n : Nat} {zs : List Int} (h : Il w (some ad) n zs) (a m : Nat) (hk : a + m ≤ n) : Il w (some (ad.add a)) m (cutL zs a m) := by
  have := (h.take (a + m) hk).drop a (by omega)
  rwa [show a + m - a = m by omega] at this
theorem hLn_short {zs : List Int} (h : zs.length < hEnd (hEx zs)) : hLn zs = 0 := by unfold hLn; rw [if_neg (by omega)]
theorem hLn_far {zs : List Int} (h : hEnd (hEx zs) ≤ zs.length) : hLn zs = min (val (cutL zs (hEnd (hEx zs) - 4) 4)) 8 := by unfold hLn; rw [if_pos h]
theorem val_4 {zs : List Int} (h : ∀ z ∈ zs, lvl z = true) (hl : zs.length = 4) : val zs < 16 := by
  have h1 := val_lt zs h
  rw [hl] at h1; exact h1

set_option maxHeartbeats 1600000 in
theorem head_false (A : Option Addr) (n cap : Nat) (zs : List Int) (w : World) (hr : Il w A n zs) (hn : n ≤ 100000) (hcap : n ≤ cap) (hl : ∀ z ∈ zs, lvl z = true) (hx : one zs 13 = false) :
    Calls Try.prog 53 #[.slice A n cap] w fun e w' => e = .returned (Fr.val ⟨0, false, one zs 12, (hLn zs : Int), fun _ => 0⟩) ∧ Below w.heap.size w w' := by
  have HR := Lib.hid hr; have HL := Lib.hid hl; have HN := Lib.hid hn; have HZ := Lib.hid hr.1
  have HX := Lib.hid (show hEx zs = false from hx)
  clear hr hl
  obtain ⟨r, hrt⟩ : ∃ r, one zs 12 = r := ⟨_, rfl⟩
  rw [hrt]
  have A0 := Lib.hid (fb_two1 w Fr.zero ⟨0, false, r, 0, fun _ => 0⟩)
  have A1 := Lib.hid (fb_two2 w Fr.zero ⟨0, false, r, 0, fun _ => 0⟩)
  have A2 := Lib.hid (alloc2 w (.cells Fr.zero.cells 24) (.cells (Fr.cells ⟨0, false, r, 0, fun _ => 0⟩) 24))
  go_enter Try.func53, Try.ntmps53
  go_wp2_with fail
  refine (isOne_any A n cap zs 13 _ (HR.out.below ((Below.refl _ _).alloc (Nat.le_refl _) _)) HN.out (by omega)).mono ?_
  rintro e w' ⟨rfl, rfl⟩
  rw [hx]
  go_wp2_with fail
  refine (isOne_any A n cap zs 12 _ (HR.out.below (alloc2 _ _ _)) HN.out (by omega)).mono ?_
  rintro e w' ⟨rfl, rfl⟩
  rw [hrt]
  go_wp2_with fail
  refine (widths_any ⟨0, false, r, 0, fun _ => 0⟩ 0 (by omega) rfl _).mono ?_
  rintro e w1 ⟨rfl, hb1⟩
  have hb1' : Below (w.heap.size + 2) _ w1 := hb1.mono (by simp)
  have B0 := Lib.hid (A0.out.below hb1' (by omega))
  have B1 := Lib.hid (A1.out.below hb1' (by omega))
  have B2 := Lib.hid (A2.out.trans (hb1'.mono (by omega)))
  have hs1 : w.heap.size + 2 ≤ w1.heap.size := by have := hb1.size; simp at this; omega
  clear hb1 hb1' A0 A1 A2
  go_wp2_with fail
  refine (upTo2 _ _ _ (by decide) (by decide) (by unfold dW; split <;> decide) _).mono ?_
  rintro e w2 ⟨rfl, hb2⟩
  rw [show ((1 + aW false + cW false : Nat) : Int) = 19 from rfl]
  have C0 := B0.out.below hb2 (by omega)
  have C1 := B1.out.below hb2 (by omega)
  have C2 := Lib.hid (B2.out.trans (hb2.mono (by omega)))
  clear hb2 B0 B1 B2
  have fz := fun i => C0.frozen i
  have fy := fun i => C1.frozen i
  obtain ⟨c0, c1, c2, c3, c4, c5, c6, c7, c8, c9, c10, c11⟩ := C0.bx
  obtain ⟨b0, b1, b2, b3, b4, b5, b6, b7, b8, b9, b10, b11⟩ := C1.bx
  clear C0 C1 hrt hx
  by_cases hlt : n < 19
  · have HS := Lib.hid (hLn_short (zs := zs) (by rw [HX.out, HZ.out]; exact hlt))
    go_wp2
    refine bodyPost_ret (v := Fr.val ⟨0, false, r, 0, fun _ => 0⟩) (by rw [results_cell1 rfl]; go_simp) rfl ⟨by rw [HS.out]; rfl, ?_⟩
    exact set12 C2.out (Nat.le_refl _) _ _ _ _ _ _ _ _ _ _ _ _
  · obtain ⟨ad, rfl, hblk, -⟩ := HR.out.2 (by omega)
    have HI := Lib.hid ((HR.out.below C2.out).cut 15 4 (by omega))
    have hv := val_4 (all_cut HL.out 15 4) (cutL_len (by rw [HZ.out]; omega))
    have HS := Lib.hid (hLn_far (zs := zs) (by rw [HX.out, HZ.out]; simp [hEnd]; omega))
    rw [HX.out, show hEnd false - 4 = 15 from rfl] at HS
    obtain ⟨v, hv0⟩ : ∃ v, val (cutL zs 15 4) = v := ⟨_, rfl⟩
    rw [hv0] at hv
    have HV := Lib.hid hv0
    rw [HV.out] at HS
    clear hv0
    have i1 : (v : Int) < 16 := by omega
    go_wp2_with fail
    refine (fvalue_ok _ 4 _ _ _ HI.out (by omega) (all_cut HL.out _ _)).mono ?_
    rintro e w' ⟨rfl, rfl⟩
    rw [HV.out]
    go_wp2
    · refine bodyPost_ret (v := Fr.val ⟨0, false, r, 8, fun _ => 0⟩) (by rw [results_cell1 rfl]; go_simp) rfl ⟨by rw [HS.out, show min v 8 = 8 by omega]; rfl, ?_⟩
      exact set12 (C2.out.setCell (by simp) _) (Nat.le_refl _) _ _ _ _ _ _ _ _ _ _ _ _
    · refine bodyPost_ret (v := Fr.val ⟨0, false, r, (v : Int), fun _ => 0⟩) (by rw [results_cell1 rfl]; go_simp) rfl ⟨by rw [HS.out, show min v 8 = v by omega], ?_⟩
      exact set12 (C2.out.setCell (by simp) _) (Nat.le_refl _) _ _ _ _ _ _ _ _ _ _ _ _

set_option maxHeartbeats 1600000 in
theorem head_true (A : Option Addr) (n cap : Nat) (zs : List Int) (w : World) (hr : Il w A n zs) (hn : n ≤ 100000) (hcap : n ≤ cap) (hl : ∀ z ∈ zs, lvl z = true) (hx : one zs 13 = true) :
    Calls Try.prog 53 #[.slice A n cap] w fun e w' => e = .returned (Fr.val ⟨0, true, one zs 32, (hLn zs : Int), fun _ => 0⟩) ∧ Below w.heap.size w w' := by
  have HR := Lib.hid hr; have HL := Lib.hid hl; have HN := Lib.hid hn; have HZ := Lib.hid hr.1
  have HX := Lib.hid (show hEx zs = true from hx)
  clear hr hl
  obtain ⟨r, hrt⟩ : ∃ r, one zs 32 = r := ⟨_, rfl⟩
  rw [hrt]
  have A0 := Lib.hid (fb_two1 w Fr.zero ⟨0, true, r, 0, fun _ => 0⟩)
  have A1 := Lib.hid (fb_two2 w Fr.zero ⟨0, true, r, 0, fun _ => 0⟩)
  have A2 := Lib.hid (alloc2 w (.cells Fr.zero.cells 24) (.cells (Fr.cells ⟨0, true, r, 0, fun _ => 0⟩) 24))
  go_enter Try.func53, Try.ntmps53
  go_wp2_with fail
  refine (isOne_any A n cap zs 13 _ (HR.out.below ((Below.refl _ _).alloc (Nat.le_refl _) _)) HN.out (by omega)).mono ?_
  rintro e w' ⟨rfl, rfl⟩
  rw [hx]
  go_wp2_with fail
  refine (isOne_any A n cap zs 32 _ (HR.out.below (alloc2 _ _ _)) HN.out (by omega)).mono ?_
  rintro e w' ⟨rfl, rfl⟩
  rw [hrt]
  go_wp2_with fail
  refine (widths_any ⟨0, true, r, 0, fun _ => 0⟩ 0 (by omega) rfl _).mono ?_
  rintro e w1 ⟨rfl, hb1⟩
  have hb1' : Below (w.heap.size + 2) _ w1 := hb1.mono (by simp)
  have B0 := Lib.hid (A0.out.below hb1' (by omega))
  have B1 := Lib.hid (A1.out.below hb1' (by omega))
  have B2 := Lib.hid (A2.out.trans (hb1'.mono (by omega)))
  have hs1 : w.heap.size + 2 ≤ w1.heap.size := by have := hb1.size; simp at this; omega
  clear hb1 hb1' A0 A1 A2
  go_wp2_with fail
  refine (upTo2 _ _ _ (by decide) (by decide) (by unfold dW; split <;> decide) _).mono ?_
  rintro e w2 ⟨rfl, hb2⟩
  rw [show ((1 + aW true + cW true : Nat) : Int) = 39 from rfl]
  have C0 := B0.out.below hb2 (by omega)
  have C1 := B1.out.below hb2 (by omega)
  have C2 := Lib.hid (B2.out.trans (hb2.mono (by omega)))
  clear hb2 B0 B1 B2
  have fz := fun i => C0.frozen i
  have fy := fun i => C1.frozen i
  obtain ⟨c0, c1, c2, c3, c4, c5, c6, c7, c8, c9, c10, c11⟩ := C0.bx
  obtain ⟨b0, b1, b2, b3, b4, b5, b6, b7, b8, b9, b10, b11⟩ := C1.bx
  clear C0 C1 hrt hx
  by_cases hlt : n < 39
  · have HS := Lib.hid (hLn_short (zs := zs) (by rw [HX.out, HZ.out]; exact hlt))
    go_wp2
    refine bodyPost_ret (v := Fr.val ⟨0, true, r, 0, fun _ => 0⟩) (by rw [results_cell1 rfl]; go_simp) rfl ⟨by rw [HS.out]; rfl, ?_⟩
    exact set12 C2.out (Nat.le_refl _) _ _ _ _ _ _ _ _ _ _ _ _
  · obtain ⟨ad, rfl, hblk, -⟩ := HR.out.2 (by omega)
    have HI := Lib.hid ((HR.out.below C2.out).cut 35 4 (by omega))
    have hv := val_4 (all_cut HL.out 35 4) (cutL_len (by rw [HZ.out]; omega))
    have HS := Lib.hid (hLn_far (zs := zs) (by rw [HX.out, HZ.out]; simp [hEnd]; omega))
    rw [HX.out, show hEnd true - 4 = 35 from rfl] at HS
    obtain ⟨v, hv0⟩ : ∃ v, val (cutL zs 35 4) = v := ⟨_, rfl⟩
    rw [hv0] at hv
    have HV := Lib.hid hv0
    rw [HV.out] at HS
    clear hv0
    have i1 : (v : Int) < 16 := by omega
    go_wp2_with fail
    refine (fvalue_ok _ 4 _ _ _ HI.out (by omega) (all_cut HL.out _ _)).mono ?_
    rintro e w' ⟨rfl, rfl⟩
    rw [HV.out]
    go_wp2
    · refine bodyPost_ret (v := Fr.val ⟨0, true, r, 8, fun _ => 0⟩) (by rw [results_cell1 rfl]; go_simp) rfl ⟨by rw [HS.out, show min v 8 = 8 by omega]; rfl, ?_⟩
      exact set12 (C2.out.setCell (by simp) _) (Nat.le_refl _) _ _ _ _ _ _ _ _ _ _ _ _
    · refine bodyPost_ret (v := Fr.val ⟨0, true, r, (v : Int), fun _ => 0⟩) (by rw [results_cell1 rfl]; go_simp) rfl ⟨by rw [HS.out, show min v 8 = v by omega], ?_⟩
      exact set12 (C2.out.setCell (by simp) _) (Nat.le_refl _) _ _ _ _ _ _ _ _ _ _ _ _

theorem head_ok (A : Option Addr) (n cap : Nat) (zs : List Int) (w : World) (hr : Il w A n zs) (hn : n ≤ 100000) (hcap : n ≤ cap) (hl : ∀ z ∈ zs, lvl z = true) :
    Calls Try.prog 53 #[.slice A n cap] w fun e w' => e = .returned (hd zs).val ∧ Below w.heap.size w w' := by
  cases hx : one zs 13
  · have := head_false A n cap zs w hr hn hcap hl hx
    unfold hd hRt hEx
    rw [hx]
    exact this
  · have := head_true A n cap zs w hr hn hcap hl hx
    unfold hd hRt hEx
    rw [hx]
    exact this
end Go.Proofs.Ytffhhegpkejdgaa

/- The contracts of field's Ahead, Right and Next. -/
namespace Go.Proofs.Ytffhhegpkejdgaa
open Go.RowKit

/-- Block g holds the widths. -/
def Wx (w : World) (g a c d : Nat) : Prop := w.cell? ⟨g, 0, none⟩ = some (.int .i64 1) ∧ w.cell? ⟨g, 1, none⟩ = some (.int .i64 (a : Int)) ∧ w.cell? ⟨g, 2, none⟩ = some (.int .i64 (c : Int)) ∧ w.cell? ⟨g, 3, none⟩ = some (.int .i64 (d : Int)) ∧ w.cell? ⟨g, 4, none⟩ = some (.int .i64 15) ∧ w.cell? ⟨g, 5, none⟩ = some (.int .i64 1) ∧ w.cell? ⟨g, 6, none⟩ = some (.int .i64 1) ∧ w.cell? ⟨g, 7, none⟩ = some (.int .i64 1) ∧ w.cell? ⟨g, 8, none⟩ = some (.int .i64 7)
theorem wx_of {w : World} {g a c d : Nat} (h : w.heap[g]? = some (.cells (W9c a c d) 66)) : Wx w g a c d := by
  unfold Wx
  simp only [World.cell?, h]
  refine ⟨rfl, rfl, rfl, rfl, rfl, rfl, rfl, rfl, rfl⟩
theorem wx_new (w : World) (a c d : Nat) : Wx (w.alloc (.cells (W9c a c d) 66)) w.heap.size a c d := wx_of (heap_alloc_new w _)
theorem Wx.below {w w' : World} {g a c d : Nat} (h : Wx w g a c d) (hb : Below w.heap.size w w') (hg : g < w.heap.size) : Wx w' g a c d := by
  unfold Wx at h ⊢
  have e : ∀ k, w'.cell? ⟨g, k, none⟩ = w.cell? ⟨g, k, none⟩ := fun k => hb.cell hg
  simp only [e]
  exact h
theorem dW_hd (zs : List Int) : dW (hd zs).rtr (hLn zs) = hDat zs := rfl
theorem aW_le (x : Bool) : aW x ≤ 100 := by cases x <;> decide
theorem cW_le (x : Bool) : cW x ≤ 100 := by cases x <;> decide
theorem hEnd_le (x : Bool) : hEnd x ≤ 39 := by cases x <;> decide

set_option maxHeartbeats 400000 in
theorem ahead_bad (A : Option Addr) (n cap : Nat) (zs : List Int) (w : World) (hr : Il w A n zs) (hn : n ≤ 100000) (hl : 0 ≤ chk zs) :
    Calls Try.prog 52 #[.slice A n cap] w fun e w' => e = .returned (.tuple #[.int .i64 0, .int .i64 10]) ∧ w = w' := by
  go_enter Try.func52, Try.ntmps52
  go_wp2_with fail
  refine (check_any _ _ _ _ _ hr (by omega)).mono ?_
  rintro e w' ⟨rfl, rfl⟩
  go_wp2
  go_ret2
  exact ⟨rfl, rfl⟩

/-- What Ahead answers of levels. -/
def aout (zs : List Int) : Value := if zs.length < hEnd (hEx zs) then .tuple #[.int .i64 0, .int .i64 13] else .tuple #[.int .i64 (ahead zs : Nat), .int .i64 0]

set_option maxHeartbeats 800000 in
theorem ahead_any (A : Option Addr) (n cap : Nat) (zs : List Int) (w : World) (hr : Il w A n zs) (hn : n ≤ 100000) (hcap : n ≤ cap) (hl : ∀ z ∈ zs, lvl z = true) :
    Calls Try.prog 52 #[.slice A n cap] w fun e w' => e = .returned (aout zs) ∧ Below w.heap.size w w' := by
  have HC := Lib.hid (show chk zs = -1 from fst_of_all lvl zs hl)
  have HR := Lib.hid hr; have HL := Lib.hid hl; have HZ := Lib.hid hr.1
  have HA := Lib.hid (aW_le (hEx zs)); have HB := Lib.hid (cW_le (hEx zs)); have HD := Lib.hid (hDat_le zs)
  have HE := Lib.hid (hEnd_eq (hEx zs)); have hE := hEnd_le (hEx zs)
  have HDD := Lib.hid (show ∀ m, hDat zs = m → ahead zs = hEnd (hEx zs) + m from fun m hm => by unfold ahead; rw [hm])
  clear hr hl
  go_enter Try.func52, Try.ntmps52
  go_wp2_with fail
  refine (check_any _ _ _ _ _ HR.out (by omega)).mono ?_
  rintro e w' ⟨rfl, rfl⟩
  rw [HC.out]
  go_wp2_with fail
  refine (head_ok _ _ _ _ _ HR.out hn hcap HL.out).mono ?_
  rintro e w1 ⟨rfl, hb1⟩
  go_wp2_with fail
  refine (widths_any (hd zs) (hLn zs) (by have := hLn_le zs; omega) rfl _).mono ?_
  rintro e w2 ⟨rfl, hb2⟩
  rw [dW_hd, show (hd zs).ext = hEx zs from rfl]
  have HB2 := Lib.hid (nxt hb1 hb2)
  clear hb1 hb2
  generalize aW (hEx zs) = a at *
  generalize cW (hEx zs) = c at *
  obtain ⟨d, hd0⟩ : ∃ d, hDat zs = d := ⟨_, rfl⟩
  rw [hd0] at HD ⊢
  have HD0 := Lib.hid hd0
  clear hd0
  go_wp2_with fail
  refine (upTo2 a c d HA.out HB.out (by have := HD.out; omega) _).mono ?_
  rintro e w3 ⟨rfl, hb3⟩
  obtain ⟨c0, c1, c2, c3, c4, c5, c6, c7, c8⟩ := (wx_new w2 a c d).below hb3 (by simp)
  have HB3 := Lib.hid (nxt (nxt HB2.out ((Below.refl _ _).alloc (Nat.le_refl _) _)) hb3)
  clear hb3
  rw [HE.out]
  obtain ⟨E, hE0⟩ : ∃ E, hEnd (hEx zs) = E := ⟨_, rfl⟩
  rw [hE0] at hE HE ⊢
  have HE0 := Lib.hid hE0
  clear hE0
  by_cases hlt : n < E
  · go_wp2
    go_ret2
    exact ⟨by unfold aout; rw [HZ.out, HE0.out, if_pos hlt]; rfl, HB3.out⟩
  · go_wp2_with fail
    refine (upTo3 a c d HA.out HB.out (by have := HD.out; omega) _).mono ?_
    rintro e w4 ⟨rfl, hb4⟩
    rw [HE.out]
    go_wp2
    go_ret2
    exact ⟨by unfold aout; rw [HZ.out, HE0.out, if_neg hlt, HDD.out d HD0.out, HE0.out]; rfl, nxt HB3.out hb4⟩

theorem all_chk {zs : List Int} (h : chk zs < 0) : ∀ z ∈ zs, lvl z = true := fst_neg lvl zs h

set_option maxHeartbeats 400000 in
theorem fright_bad (A : Option Addr) (n cap : Nat) (zs : List Int) (w : World) (hr : Il w A n zs) (hn : n ≤ 100000) (hl : 0 ≤ chk zs) :
    Calls Try.prog 69 #[.slice A n cap] w fun e w' => e = .returned (.tuple #[.bool false, .int .i64 10]) ∧ w = w' := by
  go_enter Try.func69, Try.ntmps69
  go_wp2_with fail
  refine (ahead_bad _ _ _ _ _ hr (by omega) hl).mono ?_
  rintro e w' ⟨rfl, rfl⟩
  go_wp2
  go_ret2
  exact ⟨rfl, rfl⟩

/-- What Right answers of levels. -/
def rout (zs : List Int) : Value := if zs.length < hEnd (hEx zs) ∨ zs.length < ahead zs + 15 then .tuple #[.bool false, .int .i64 13] else .tuple #[.bool (rgt (zs.take (ahead zs + 15))), .int .i64 0]
theorem ahead_le (zs : List Int) : ahead zs ≤ 103 := by
  have := hEnd_le (hEx zs); have := hDat_le zs
  unfold ahead; omega

set_option maxHeartbeats 800000 in
theorem fright_any (A : Option Addr) (n cap : Nat) (zs : List Int) (w : World) (hr : Il w A n zs) (hn : n ≤ 100000) (hcap : n ≤ cap) (hl : ∀ z ∈ zs, lvl z = true) :
    Calls Try.prog 69 #[.slice A n cap] w fun e w' => e = .returned (rout zs) ∧ Below w.heap.size w w' := by
  have HR := Lib.hid hr; have HL := Lib.hid hl; have HZ := Lib.hid hr.1
  have hle := ahead_le zs
  clear hr hl
  go_enter Try.func69, Try.ntmps69
  go_wp2_with fail
  refine (ahead_any _ _ _ _ _ HR.out hn hcap HL.out).mono ?_
  rintro e w1 ⟨rfl, hb1⟩
  have HB1 := Lib.hid hb1
  unfold aout
  obtain ⟨q, hq⟩ : ∃ q, ahead zs = q := ⟨_, rfl⟩
  rw [hq] at hle ⊢
  have HQ := Lib.hid hq
  clear hq hb1
  by_cases hs : zs.length < hEnd (hEx zs)
  · have HS := Lib.hid hs
    rw [if_pos hs]
    clear hs
    go_wp2
    go_ret2
    exact ⟨by unfold rout; rw [if_pos (.inl HS.out)]; rfl, HB1.out⟩
  · have HS := Lib.hid hs
    rw [if_neg hs]
    clear hs
    by_cases hlt : n < q + 15
    · go_wp2
      go_ret2
      exact ⟨by unfold rout; rw [HQ.out, HZ.out, if_pos (.inr hlt)]; rfl, HB1.out⟩
    · go_wp2_with fail
      refine (right_any _ _ _ _ _ ((HR.out.below HB1.out).take (q + 15) (by omega)) (by omega) (by omega)).mono ?_
      rintro e w2 ⟨rfl, hb2⟩
      go_wp2
      go_ret2
      exact ⟨by unfold rout; rw [HQ.out, if_neg (fun h => h.elim HS.out fun h => by rw [HZ.out] at h; omega)]; rfl, nxt HB1.out hb2⟩
end Go.Proofs.Ytffhhegpkejdgaa

/- The contract of field's Frame. -/
namespace Go.Proofs.Ytffhhegpkejdgaa
open Go.RowKit

def fid (zs : List Int) : Nat := if hEx zs then val (cutL zs 1 11) * 262144 + val (cutL zs 14 18) else val (cutL zs 1 11)
/-- Byte j of the levels' data. -/
def byt (zs : List Int) (j : Nat) : Nat := val (cutL zs (hEnd (hEx zs) + j * 8) 8)
/-- The frame of levels, with its first k bytes. -/
def frk (zs : List Int) (k : Nat) : Fr := ⟨(fid zs : Int), hEx zs, hRt zs, (hLn zs : Int), fun j => if j < k then (byt zs j : Int) else 0⟩
def frm (zs : List Int) : Fr := frk zs (hDat zs / 8)
/-- What Frame answers of levels. -/
def fout (zs : List Int) : Value :=
  if zs.length < hEnd (hEx zs) ∨ zs.length < ahead zs then .tuple #[Fr.zero.val, .int .i64 13]
  else if one zs 0 then .tuple #[Fr.zero.val, .int .i64 11]
  else .tuple #[(frm zs).val, .int .i64 0]
theorem frk_step (zs : List Int) (k : Nat) : (frk zs k).put k (byt zs k) = frk zs (k + 1) := by
  unfold Fr.put frk
  simp only [Fr.mk.injEq, true_and]
  funext j
  rcases Nat.lt_trichotomy j k with h | h | h
  · rw [if_neg (by omega), if_pos h, if_pos (by omega)]
  · subst h; rw [if_pos rfl, if_pos (by omega)]
  · rw [if_neg (by omega), if_neg (by omega), if_neg (by omega)]

set_option maxHeartbeats 400000 in
theorem frame_bad (A : Option Addr) (n cap : Nat) (zs : List Int) (w : World) (hr : Il w A n zs) (hn : n ≤ 100000) (hl : 0 ≤ chk zs) :
    Calls Try.prog 30 #[.slice A n cap] w fun e w' => e = .returned (.tuple #[Fr.zero.val, .int .i64 10]) ∧ Below w.heap.size w w' := by
  go_enter Try.func30, Try.ntmps30
  go_wp2_with fail
  refine (ahead_bad _ _ _ _ _ (hr.below ((Below.refl _ _).alloc (Nat.le_refl _) _)) (by omega) hl).mono ?_
  rintro e w' ⟨rfl, rfl⟩
  go_wp2
  refine bodyPost_ret (v := .tuple #[Fr.zero.val, .int .i64 10]) (by rw [results_cell_tmp rfl]; go_simp; decide) rfl ⟨rfl, (Below.refl _ _).alloc (Nat.le_refl _) _⟩

set_option maxHeartbeats 400000 in
theorem frame_short (A : Option Addr) (n cap : Nat) (zs : List Int) (w : World) (hr : Il w A n zs) (hn : n ≤ 100000) (hcap : n ≤ cap) (hl : ∀ z ∈ zs, lvl z = true) (hs : zs.length < hEnd (hEx zs) ∨ zs.length < ahead zs) :
    Calls Try.prog 30 #[.slice A n cap] w fun e w' => e = .returned (.tuple #[Fr.zero.val, .int .i64 13]) ∧ Below w.heap.size w w' := by
  have HZ := Lib.hid hr.1
  have hle := ahead_le zs
  have A0 := Lib.hid (fb_new w Fr.zero)
  go_enter Try.func30, Try.ntmps30
  go_wp2_with fail
  refine (ahead_any _ _ _ _ _ (hr.below ((Below.refl _ _).alloc (Nat.le_refl _) _)) (by omega) hcap hl).mono ?_
  rintro e w1 ⟨rfl, hb1⟩
  have HB1 := Lib.hid (nxt ((Below.refl _ _).alloc (Nat.le_refl _) _) hb1)
  have B0 := A0.out.below hb1 (by simp)
  have fz := fun i => B0.frozen i
  obtain ⟨c0, c1, c2, c3, c4, c5, c6, c7, c8, c9, c10, c11⟩ := B0.bx
  clear hb1 A0 B0
  unfold aout
  by_cases h1 : zs.length < hEnd (hEx zs)
  · rw [if_pos h1]
    clear h1 hs hr hl
    go_wp2
    refine bodyPost_ret (v := .tuple #[Fr.zero.val, .int .i64 13]) (by rw [results_cell_tmp rfl]; go_simp; decide) rfl ⟨rfl, ?_⟩
    exact set12 HB1.out (Nat.le_refl _) _ _ _ _ _ _ _ _ _ _ _ _
  · rw [if_neg h1]
    have h2 : n < ahead zs := by
      rw [← HZ.out]
      rcases hs with h | h
      · exact absurd h h1
      · exact h
    clear h1 hs hr hl
    generalize ahead zs = q at *
    go_wp2
    refine bodyPost_ret (v := .tuple #[Fr.zero.val, .int .i64 13]) (by rw [results_cell_tmp rfl]; go_simp; decide) rfl ⟨rfl, ?_⟩
    exact set12 HB1.out (Nat.le_refl _) _ _ _ _ _ _ _ _ _ _ _ _
end Go.Proofs.Ytffhhegpkejdgaa

