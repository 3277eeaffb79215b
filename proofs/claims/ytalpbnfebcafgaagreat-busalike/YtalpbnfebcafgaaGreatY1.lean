/- Counts of errors as values, and what comes to them. -/
import Derived.Test.YtalpbnfebcafgaaGreatRows
import Derived.WalkKit
import Derived.WalkSpells
import Derived.WalkLawsBesides
import Derived.Lib.Hide
import Derived.Deep.QuietTactic
import Derived.BigQuiet
import Derived.Laws.ResultCell
import Derived.Deep.RegionHeld3
import Derived.Below
import Derived.Test.YtalpbnfebcafgaaGreatEq
import Derived.Test.YtalpbnfebcafgaaGreatFb
import Derived.Test.YtalpbnfebcafgaaGreatAr
import Derived.Test.YtalpbnfebcafgaaGreatSl
import Derived.Test.YtalpbnfebcafgaaGreatW2
import Derived.ProofKit
import Derived.OpenShut
import Derived.ShutString
import Derived.ChangeOld
import Derived.Deep.Slices
import Derived.StillTailTactics
import Derived.Deep.DeepCutAuto
import Derived.Lib.SliceRun
import Derived.Test.YtalpbnfebcafgaaGreatY0
namespace Go.Proofs.YtalpbnfebcafgaaGreat
set_option maxRecDepth 20000
open Go.RowKit

/-- Counts. -/
structure Ct where
  t : Int
  r : Int
  o : Bool

abbrev Ct.cells (c : Ct) : Array Value := #[.int .i64 c.t, .int .i64 c.r, .bool c.o]
abbrev Ct.val (c : Ct) : Value := .agg c.cells

theorem ct_ext {c d : Ct} (h1 : c.t = d.t) (h2 : c.r = d.r) (h3 : c.o = d.o) : c = d := by cases c; cases d; simp_all

def wth (n : Int) : Bool := decide (0 ≤ n) && decide (n ≤ 255)
/-- Counts are right. -/
def Ct.right (c : Ct) : Bool := (if c.o then c.t == 256 else wth c.t) && wth c.r
/-- They run. -/
def Ct.run (c : Ct) : Bool := c.right && !c.o
def Ct.st (c : Ct) : Int := if c.o then 2 else if 127 < c.t ∨ 127 < c.r then 1 else 0
def Ct.err (c : Ct) : Int := if c.right then 0 else 10
def Ct.zero : Ct := ⟨0, 0, false⟩
def Ct.snt (c : Ct) : Ct := if c.run then ⟨max (c.t - 1) 0, c.r, c.o⟩ else c
def Ct.rcv (c : Ct) : Ct := if c.run then ⟨c.t, if 127 < c.r then 119 else max (c.r - 1) 0, c.o⟩ else c
def Ct.txx (c : Ct) : Ct := if c.run then (if 255 < c.t + 8 then ⟨256, c.r, true⟩ else ⟨c.t + 8, c.r, c.o⟩) else c
def Ct.rxx (c : Ct) (x : Int) : Ct := if c.run && (x == 1 || x == 8) then ⟨c.t, min (c.r + x) 255, c.o⟩ else c
/-- Counts behind what comes. -/
def Ct.come (c : Ct) (k x : Int) : Ct := if k = 0 then c.snt else if k = 1 then c.rcv else if k = 2 then c.txx else if k = 3 then c.rxx x else if k = 4 then .zero else c

theorem run_iff {c : Ct} : c.run = true ↔ c.o = false ∧ 0 ≤ c.t ∧ c.t ≤ 255 ∧ 0 ≤ c.r ∧ c.r ≤ 255 := by
  obtain ⟨t, r, o⟩ := c
  cases o <;> simp [Ct.run, Ct.right, wth] <;> omega
theorem right_iff {c : Ct} : c.right = true ↔ (c.o = true ∧ c.t = 256 ∨ c.o = false ∧ 0 ≤ c.t ∧ c.t ≤ 255) ∧ 0 ≤ c.r ∧ c.r ≤ 255 := by
  obtain ⟨t, r, o⟩ := c
  cases o <;> simp [Ct.right, wth] <;> omega

theorem results_cellK {fn : Func} {p : Tmp} {ty : TypeId} (h : fn.results = #[.cell p ty]) (tmps : Array Value) (P : Program) (w : World) :
    (results fn tmps).run P w = ((asAddr (tmps.getD p undef)).run P w).andThen fun a w₁ => (loadVar ty a).run P w₁ := by
  simp only [results, h]
  simp [Sem.run_bind, Result.andThen]
theorem nxtK {w w1 w2 : World} (h : Below w.heap.size w w1) (h2 : Below w1.heap.size w1 w2) : Below w.heap.size w w2 := h.trans (h2.mono h.size)
theorem ret_intK {k : IntKind} {a b : Int} (h : a = b) : Ending.returned (.int k a) = .returned (.int k b) := by rw [h]
theorem ret_boolK {a b : Bool} (h : a = b) : Ending.returned (.bool a) = .returned (.bool b) := by rw [h]
theorem ret_ct {a b : Ct} (h : a = b) : Ending.returned a.val = .returned b.val := by rw [h]
theorem below1 (w : World) (a : Obj) : Below w.heap.size w (w.alloc a) := (Below.refl _ _).alloc (Nat.le_refl _) _
theorem below2 (w : World) (a b : Obj) : Below w.heap.size w ((w.alloc a).alloc b) := (below1 w a).alloc (by simp) _
theorem below3 (w : World) (a b c : Obj) : Below w.heap.size w (((w.alloc a).alloc b).alloc c) := (below2 w a b).alloc (by simp; omega) _

/-- Block g is just the counts c, not frozen. -/
def Cb (w : World) (g : Nat) (c : Ct) : Prop := w.heap[g]? = some (.cells c.cells 54)
/-- Block g holds the counts c. -/
def Cx (w : World) (g : Nat) (c : Ct) : Prop := w.cell? ⟨g, 0, none⟩ = some (.int .i64 c.t) ∧ w.cell? ⟨g, 1, none⟩ = some (.int .i64 c.r) ∧ w.cell? ⟨g, 2, none⟩ = some (.bool c.o)
theorem Cb.cx {w : World} {g : Nat} {c : Ct} (h : Cb w g c) : Cx w g c := by
  unfold Cb at h
  exact ⟨cell_of_row w g 0 _ _ (0, 0) h, cell_of_row w g 1 _ _ (0, 0) h, cell_of_row w g 2 _ _ (0, 0) h⟩
theorem Cb.frozen {w : World} {g : Nat} {c : Ct} (h : Cb w g c) (i : Nat) : w.frozen? ⟨g, i, none⟩ = false := by
  unfold Cb at h
  simp [World.frozen?, h]
theorem Cb.lt {w : World} {g : Nat} {c : Ct} (h : Cb w g c) : g < w.heap.size := World.block_lt_of_cell? w ⟨g, 0, none⟩ h.cx.1
theorem Cb.below {w w' : World} {B g : Nat} {c : Ct} (h : Cb w g c) (hb : Below B w w') (hg : g < B) : Cb w' g c := (hb.block g hg).trans h
theorem cb_new (w : World) (c : Ct) : Cb (w.alloc (.cells c.cells 54)) w.heap.size c := heap_alloc_new w _
theorem cb_next (w : World) (o : Obj) (c : Ct) : Cb ((w.alloc o).alloc (.cells c.cells 54)) (w.heap.size + 1) c := by
  have h := cb_new (w.alloc o) c
  simpa using h
theorem cb_next2 (w : World) (o p : Obj) (c : Ct) : Cb (((w.alloc o).alloc p).alloc (.cells c.cells 54)) (w.heap.size + 1 + 1) c := by
  have h := cb_new ((w.alloc o).alloc p) c
  simpa using h
theorem cb_first (w : World) (c : Ct) (o : Obj) : Cb ((w.alloc (.cells c.cells 54)).alloc o) w.heap.size c :=
  (cb_new w c).below (B := w.heap.size + 1) ((Below.refl _ _).alloc (by simp) _) (by omega)
theorem set3 {w wr : World} {B g : Nat} (h : Below B w wr) (hg : B ≤ g) (v0 v1 v2 : Value) : Below B w (((wr.setCell ⟨g, 0, none⟩ v0).setCell ⟨g, 1, none⟩ v1).setCell ⟨g, 2, none⟩ v2) :=
  Below.setCell (Below.setCell (Below.setCell h (p := ⟨g, 0, none⟩) hg v0) (p := ⟨g, 1, none⟩) hg v1) (p := ⟨g, 2, none⟩) hg v2
end Go.Proofs.YtalpbnfebcafgaaGreat

/- When two frames are the same, as the program tells them. -/
namespace Go.Proofs.YtalpbnfebcafgaaGreat
set_option maxRecDepth 20000
open Go.RowKit

/-- Two frames are the same. -/
def Fr.same (f g : Fr) : Bool := f.id == g.id && (f.ext == g.ext && (f.rtr == g.rtr && (f.len == g.len && [f.d 0, f.d 1, f.d 2, f.d 3, f.d 4, f.d 5, f.d 6, f.d 7] == [g.d 0, g.d 1, g.d 2, g.d 3, g.d 4, g.d 5, g.d 6, g.d 7])))
theorem same_iff {f g : Fr} : f.same g = true ↔ f.id = g.id ∧ f.ext = g.ext ∧ f.rtr = g.rtr ∧ f.len = g.len ∧ ∀ k, k < 8 → f.d k = g.d k := by
  simp only [Fr.same, Bool.and_eq_true, beq_iff_eq, List.cons.injEq, and_true]
  refine and_congr Iff.rfl (and_congr Iff.rfl (and_congr Iff.rfl (and_congr Iff.rfl ⟨?_, fun h => ⟨h 0 (by omega), h 1 (by omega), h 2 (by omega), h 3 (by omega), h 4 (by omega), h 5 (by omega), h 6 (by omega), h 7 (by omega)⟩⟩)))
  rintro ⟨h0, h1, h2, h3, h4, h5, h6, h7⟩ k hk
  match k, hk with
  | 0, _ => exact h0
  | 1, _ => exact h1
  | 2, _ => exact h2
  | 3, _ => exact h3
  | 4, _ => exact h4
  | 5, _ => exact h5
  | 6, _ => exact h6
  | 7, _ => exact h7
theorem same_refl (f : Fr) : f.same f = true := same_iff.2 ⟨rfl, rfl, rfl, rfl, fun _ _ => rfl⟩
theorem same_symm {f g : Fr} (h : f.same g = true) : g.same f = true := by
  obtain ⟨a, b, c, d, e⟩ := same_iff.1 h
  exact same_iff.2 ⟨a.symm, b.symm, c.symm, d.symm, fun k hk => (e k hk).symm⟩
theorem same_comm (f g : Fr) : f.same g = g.same f := by
  cases h : f.same g
  · cases h2 : g.same f
    · rfl
    · rw [same_symm h2] at h; cases h
  · exact (same_symm h).symm
theorem same_trans {f g h : Fr} (h1 : f.same g = true) (h2 : g.same h = true) : f.same h = true := by
  obtain ⟨a, b, c, d, e⟩ := same_iff.1 h1
  obtain ⟨a', b', c', d', e'⟩ := same_iff.1 h2
  exact same_iff.2 ⟨a.trans a', b.trans b', c.trans c', d.trans d', fun k hk => (e k hk).trans (e' k hk)⟩
theorem same_val {f g : Fr} : f.same g = true ↔ f.val = g.val := by
  rw [same_iff]
  constructor
  · rintro ⟨a, b, c, d, e⟩
    simp only [a, b, c, d, e 0 (by omega), e 1 (by omega), e 2 (by omega), e 3 (by omega), e 4 (by omega), e 5 (by omega), e 6 (by omega), e 7 (by omega), Fr.val, Fr.cells]
  · intro h
    simp only [Fr.val, Fr.cells, Value.agg.injEq, Array.mk.injEq, List.cons.injEq, Value.int.injEq, Value.bool.injEq, true_and, and_true] at h
    obtain ⟨a, b, c, d, h0, h1, h2, h3, h4, h5, h6, h7⟩ := h
    refine ⟨a, b, c, d, fun k hk => ?_⟩
    match k, hk with
    | 0, _ => exact h0
    | 1, _ => exact h1
    | 2, _ => exact h2
    | 3, _ => exact h3
    | 4, _ => exact h4
    | 5, _ => exact h5
    | 6, _ => exact h6
    | 7, _ => exact h7
theorem same_plc {f g : Fr} (h : f.same g = true) : f.plc = g.plc := by
  obtain ⟨a, b, c, d, e⟩ := same_iff.1 h
  simp only [Fr.plc, Fr.num, a, b, c]
theorem same_may {f g : Fr} (h : f.same g = true) : f.may = g.may := by
  obtain ⟨a, b, c, d, e⟩ := same_iff.1 h
  have hx : f.most = g.most := by simp only [Fr.most, b]
  simp only [Fr.may, a, hx, c, d]
  congr 1
  rw [Bool.eq_iff_iff, List.all_eq_true, List.all_eq_true]
  constructor
  · intro h k hk
    have := h k hk
    rwa [e k (List.mem_range.1 hk)] at this
  · intro h k hk
    have := h k hk
    rwa [← e k (List.mem_range.1 hk)] at this

theorem feqIn (f g : Fr) (w : World) : (Op.equalIn 10000 31 f.val g.val).run Tryz.prog w = .ok (f.same g) w := by
  have h22 := eq22
  go_simp
  by_cases h1 : f.id = g.id
  · by_cases h2 : f.ext = g.ext
    · by_cases h3 : f.rtr = g.rtr
      · by_cases h4 : f.len = g.len
        · rw [if_pos h1, if_pos h2, if_pos h3, if_pos h4]
          unfold Fr.same
          simp only [h1, h2, h3, h4, BEq.rfl, Bool.true_and, List.cons_beq_cons, Bool.and_true]
          split <;> simp_all
        · have : f.same g = false := by unfold Fr.same; simp [h4]
          rw [if_pos h1, if_pos h2, if_pos h3, if_neg h4, this]
      · have : f.same g = false := by unfold Fr.same; simp [h3]
        rw [if_pos h1, if_pos h2, if_neg h3, this]
    · have : f.same g = false := by unfold Fr.same; simp [h2]
      rw [if_pos h1, if_neg h2, this]
  · have : f.same g = false := by unfold Fr.same; simp [h1]
    rw [if_neg h1, this]
theorem feq (f g : Fr) (w : World) : (binOp .eql 31 f.val g.val).run Tryz.prog w = .ok (.bool (f.same g)) w := by
  rw [run_eql_struct, feqIn]; rfl
theorem fneq (f g : Fr) (w : World) : (binOp .neq 31 f.val g.val).run Tryz.prog w = .ok (.bool (!f.same g)) w := by
  rw [run_neq_struct, feqIn]; rfl
end Go.Proofs.YtalpbnfebcafgaaGreat

/- The contracts of frame.bothMayBe, place, Less and Rival. -/
namespace Go.Proofs.YtalpbnfebcafgaaGreat
set_option maxRecDepth 20000
open Go.RowKit

theorem boxed2 (f g : Fr) (w : World) : Below w.heap.size w ((w.alloc (.cells f.cells 31)).alloc (.cells g.cells 31)) := (boxed f w).alloc (by simp) _
theorem bx_two1 (w : World) (f g : Fr) : Bx ((w.alloc (.cells f.cells 31)).alloc (.cells g.cells 31)) w.heap.size f :=
  (bx_new w f).below ((Below.refl _ _).alloc (Nat.le_refl _) _) (by simp)
theorem bx_two2 (w : World) (f g : Fr) : Bx ((w.alloc (.cells f.cells 31)).alloc (.cells g.cells 31)) (w.heap.size + 1) g := by
  have h := bx_new (w.alloc (.cells f.cells 31)) g
  simpa using h

set_option maxHeartbeats 400000 in
theorem both_any (f g : Fr) (w : World) :
    Calls Tryz.prog 27 #[f.val, g.val] w fun e w' => e = .returned (.bool (f.may && g.may)) ∧ Below w.heap.size w w' := by
  have HB := Lib.hid (boxed2 f g w)
  have HX := Lib.hid (bx_two2 w f g)
  cases hf : f.may
  · have HF := Lib.hid hf
    clear hf
    go_enter Tryz.func27, Tryz.ntmps27
    go_wp2_with fail
    refine (fcheck_any f _).mono ?_
    rintro e w1 ⟨rfl, hb1⟩
    rw [err_no HF.out]
    go_wp2
    go_ret
    exact ⟨rfl, nxt HB.out hb1⟩
  · have HF := Lib.hid hf
    clear hf
    have HG : g.may = false ∧ g.err = 14 ∨ g.may = true ∧ g.err = 0 := by
      cases hg : g.may
      · exact .inl ⟨rfl, err_no hg⟩
      · exact .inr ⟨rfl, err_ok hg⟩
    generalize hgm : g.may = m at HG ⊢
    have HG := Lib.hid HG
    clear hgm
    go_enter Tryz.func27, Tryz.ntmps27
    go_wp2_with fail
    refine (fcheck_any f _).mono ?_
    rintro e w1 ⟨rfl, hb1⟩
    rw [err_ok HF.out]
    obtain ⟨c0, c1, c2, c3, c4, c5, c6, c7, c8, c9, c10, c11⟩ := HX.out.below hb1 (by simp)
    go_wp2_with fail
    refine (fcheck_any g _).mono ?_
    rintro e w2 ⟨rfl, hb2⟩
    have HB2 := Lib.hid (nxt (nxt HB.out hb1) hb2)
    rcases HG.out with ⟨rfl, he⟩ | ⟨rfl, he⟩
    · rw [he]
      go_wp2
      go_ret
      exact ⟨rfl, HB2.out⟩
    · rw [he]
      go_wp2
      go_ret
      exact ⟨rfl, HB2.out⟩

set_option maxHeartbeats 400000 in
theorem place_ok (f : Fr) (w : World) (h : f.may = true) :
    Calls Tryz.prog 28 #[f.val] w fun e w' => e = .returned (.int .u64 f.plc) ∧ Below w.heap.size w w' := by
  have HB := Lib.hid (boxed f w)
  cases hx : f.ext
  · have hl := num_short_lt h hx
    have e1 : f.wid = 13 := by simp [Fr.wid, hx]
    have e2 : f.plc = f.num * 524288 := by simp [Fr.plc, hx]
    have HM := Lib.hid h; have HX := Lib.hid hx; have E1 := Lib.hid e1
    obtain ⟨n, hn⟩ : ∃ n, f.num = n := ⟨_, rfl⟩
    rw [e2]
    rw [hn] at hl ⊢
    have HN := Lib.hid hn
    have hl' : (n : Int) < 8192 := by omega
    clear h hx e1 e2 hn
    go_enter Tryz.func28, Tryz.ntmps28
    go_wp2_with fail
    refine (levels_ok f _ HM.out).mono ?_
    rintro e w2 ⟨rfl, hb2⟩
    rw [E1.out, HN.out]
    go_wp2
    go_ret
    exact ⟨ret_int (by simp), nxt HB.out hb2⟩
  · have hl := num_lt h
    have e1 : f.wid = 32 := by simp [Fr.wid, hx]
    have e2 : f.plc = f.num := by simp [Fr.plc, hx]
    have HM := Lib.hid h; have HX := Lib.hid hx; have E1 := Lib.hid e1
    obtain ⟨n, hn⟩ : ∃ n, f.num = n := ⟨_, rfl⟩
    rw [e2]
    rw [hn] at hl ⊢
    have HN := Lib.hid hn
    have hl' : (n : Int) < 4294967296 := by omega
    clear h hx e1 e2 hn
    go_enter Tryz.func28, Tryz.ntmps28
    go_wp2_with fail
    refine (levels_ok f _ HM.out).mono ?_
    rintro e w2 ⟨rfl, hb2⟩
    rw [E1.out, HN.out]
    go_wp2
    go_ret
    exact ⟨rfl, nxt HB.out hb2⟩

theorem beq_cast (o c : Nat) : ((o : Int) == (c : Int)) = (o == c) := by
  rw [Bool.eq_iff_iff, beq_iff_eq, beq_iff_eq]; omega
/-- Two frames lie in the blocks behind w. -/
theorem two_keep (f g : Fr) (w : World) {w' : World} (hb : Below ((w.alloc (.cells f.cells 31)).alloc (.cells g.cells 31)).drew.heap.size ((w.alloc (.cells f.cells 31)).alloc (.cells g.cells 31)).drew w') : Bx w' w.heap.size f ∧ Bx w' (w.heap.size + 1) g :=
  ⟨Bx.below (w := ((w.alloc (.cells f.cells 31)).alloc (.cells g.cells 31)).drew) (bx_two1 w f g) hb (by simp; omega), Bx.below (w := ((w.alloc (.cells f.cells 31)).alloc (.cells g.cells 31)).drew) (bx_two2 w f g) hb (by simp)⟩
set_option maxRecDepth 100000 in
set_option maxHeartbeats 1600000 in
theorem less_yes (f g : Fr) (w : World) (hf : f.may = true) (hg : g.may = true) :
    Calls Tryz.prog 10 #[f.val, g.val] w fun e w' => e = .returned (.bool (decide (f.plc < g.plc))) ∧ Below w.heap.size w w' := by
  have HB := Lib.hid (boxed2 f g w)
  have HX := Lib.hid (And.intro (bx_two1 w f g) (bx_two2 w f g))
  have HF := Lib.hid hf; have HG := Lib.hid hg
  clear hf hg
  go_enter Tryz.func10, Tryz.ntmps10
  go_wp2_with fail
  refine wp_region_held_drew (S := fun w' => Bx w' w.heap.size f ∧ Bx w' (w.heap.size + 1) g) (by kernel_rfl) HX.out (fun hHeld => ?_)
  refine takeH (i := 0) (v := f.val) rfl (by kernel_rfl) (by kernel_rfl) (by kernel_rfl) (fun _ _ _ h => h) (Or.inl ⟨by rfl, fun w hSw => ?_⟩) hHeld ?_
  · (obtain ⟨c0, c1, c2, c3, c4, c5, c6, c7, c8, c9, c10, c11⟩ := hSw.1; clear hSw; go_simp)
  simp only [Act.put, List.setIfInBounds_toArray, List.set_cons_zero, List.set_cons_succ]
  refine takeH (i := 1) (v := g.val) rfl (by kernel_rfl) (by kernel_rfl) (by kernel_rfl) (fun _ _ _ h => h) (Or.inl ⟨by rfl, fun w hSw => ?_⟩) hHeld ?_
  · (obtain ⟨c0, c1, c2, c3, c4, c5, c6, c7, c8, c9, c10, c11⟩ := hSw.2; clear hSw; go_simp)
  simp only [Act.put, List.setIfInBounds_toArray, List.set_cons_zero, List.set_cons_succ]
  refine wpAnyH_ready (rs := [2]) (by kernel_rfl) (by simp) ?_
  refine AllReadyH.cons rfl (fun K hK => ?_) AllReadyH.nil
  go_simp
  refine (both_any f g _).mono ?_
  rintro e w1 ⟨rfl, hb1⟩
  rw [HF.out, HG.out]
  clear hHeld
  dsimp only
  refine hK.out _ _ (two_keep f g w hb1) (fun hHeld => ?_)
  clear hK K
  try simp only [Act.put, List.setIfInBounds_toArray, List.set_cons_zero, List.set_cons_succ]
  refine takeH (i := 3) (v := .bool true) rfl (by kernel_rfl) (by kernel_rfl) (by kernel_rfl) (fun _ _ _ h => h) (Or.inl ⟨by rfl, fun w hSw => ?_⟩) hHeld ?_
  · (clear hSw; go_simp)
  simp only [Act.put, List.setIfInBounds_toArray, List.set_cons_zero, List.set_cons_succ]
  refine takeH (i := 4) (v := f.val) rfl (by kernel_rfl) (by kernel_rfl) (by kernel_rfl) (fun _ _ _ h => h) (Or.inl ⟨by rfl, fun w hSw => ?_⟩) hHeld ?_
  · (obtain ⟨c0, c1, c2, c3, c4, c5, c6, c7, c8, c9, c10, c11⟩ := hSw.1; clear hSw; go_simp)
  simp only [Act.put, List.setIfInBounds_toArray, List.set_cons_zero, List.set_cons_succ]
  refine takeH (i := 6) (v := g.val) rfl (by kernel_rfl) (by kernel_rfl) (by kernel_rfl) (fun _ _ _ h => h) (Or.inl ⟨by rfl, fun w hSw => ?_⟩) hHeld ?_
  · (obtain ⟨c0, c1, c2, c3, c4, c5, c6, c7, c8, c9, c10, c11⟩ := hSw.2; clear hSw; go_simp)
  simp only [Act.put, List.setIfInBounds_toArray, List.set_cons_zero, List.set_cons_succ]
  refine wpAnyH_ready (rs := [5]) (by kernel_rfl) (by simp) ?_
  refine AllReadyH.cons rfl (fun K hK => ?_) AllReadyH.nil
  go_simp
  refine (place_ok f _ HF.out).mono ?_
  rintro e w2 ⟨rfl, hb2⟩
  clear hHeld
  dsimp only
  refine hK.out _ _ (two_keep f g w (nxt hb1 hb2)) (fun hHeld => ?_)
  clear hK K
  try simp only [Act.put, List.setIfInBounds_toArray, List.set_cons_zero, List.set_cons_succ]
  refine wpAnyH_ready (rs := [7]) (by kernel_rfl) (by simp) ?_
  refine AllReadyH.cons rfl (fun K hK => ?_) AllReadyH.nil
  go_simp
  refine (place_ok g _ HG.out).mono ?_
  rintro e w3 ⟨rfl, hb3⟩
  clear hHeld
  dsimp only
  refine hK.out _ _ (two_keep f g w (nxt (nxt hb1 hb2) hb3)) (fun hHeld => ?_)
  clear hK K
  try simp only [Act.put, List.setIfInBounds_toArray, List.set_cons_zero, List.set_cons_succ]
  refine takeH (i := 8) (v := .bool (decide (f.plc < g.plc))) rfl (by kernel_rfl) (by kernel_rfl) (by kernel_rfl) (fun _ _ _ h => h) (Or.inl ⟨by rfl, fun w hSw => ?_⟩) hHeld ?_
  · (clear hSw; go_simp)
  simp only [Act.put, List.setIfInBounds_toArray, List.set_cons_zero, List.set_cons_succ]
  refine takeH (i := 9) (v := .bool (decide (f.plc < g.plc))) rfl (by kernel_rfl) (by kernel_rfl) (by kernel_rfl) (fun _ _ _ h => h) (Or.inl ⟨by rfl, fun w hSw => ?_⟩) hHeld ?_
  · (clear hSw; go_simp)
  simp only [Act.put, List.setIfInBounds_toArray, List.set_cons_zero, List.set_cons_succ]
  refine takeH (i := 10) (v := .bool (decide (f.plc < g.plc))) rfl (by kernel_rfl) (by kernel_rfl) (by kernel_rfl) (fun _ _ _ h => h) (Or.inl ⟨by rfl, fun w hSw => ?_⟩) hHeld ?_
  · (clear hSw; go_simp)
  simp only [Act.put, List.setIfInBounds_toArray, List.set_cons_zero, List.set_cons_succ]
  refine wpAnyH_done (by kernel_rfl) ?_ _
  clear hHeld
  go_wp2
  go_ret
  exact ⟨rfl, nxt (nxt (nxt (nxt HB.out (belowN (Below.refl _ _) 1)) hb1) hb2) hb3⟩

set_option maxRecDepth 100000 in
set_option maxHeartbeats 1600000 in
theorem less_no (f g : Fr) (w : World) (hn : (f.may && g.may) = false) :
    Calls Tryz.prog 10 #[f.val, g.val] w fun e w' => e = .returned (.bool false) ∧ Below w.heap.size w w' := by
  have HB := Lib.hid (boxed2 f g w)
  have HX := Lib.hid (And.intro (bx_two1 w f g) (bx_two2 w f g))
  have HN := Lib.hid hn
  clear hn
  go_enter Tryz.func10, Tryz.ntmps10
  go_wp2_with fail
  refine wp_region_held_drew (S := fun w' => Bx w' w.heap.size f ∧ Bx w' (w.heap.size + 1) g) (by kernel_rfl) HX.out (fun hHeld => ?_)
  refine takeH (i := 0) (v := f.val) rfl (by kernel_rfl) (by kernel_rfl) (by kernel_rfl) (fun _ _ _ h => h) (Or.inl ⟨by rfl, fun w hSw => ?_⟩) hHeld ?_
  · (obtain ⟨c0, c1, c2, c3, c4, c5, c6, c7, c8, c9, c10, c11⟩ := hSw.1; clear hSw; go_simp)
  simp only [Act.put, List.setIfInBounds_toArray, List.set_cons_zero, List.set_cons_succ]
  refine takeH (i := 1) (v := g.val) rfl (by kernel_rfl) (by kernel_rfl) (by kernel_rfl) (fun _ _ _ h => h) (Or.inl ⟨by rfl, fun w hSw => ?_⟩) hHeld ?_
  · (obtain ⟨c0, c1, c2, c3, c4, c5, c6, c7, c8, c9, c10, c11⟩ := hSw.2; clear hSw; go_simp)
  simp only [Act.put, List.setIfInBounds_toArray, List.set_cons_zero, List.set_cons_succ]
  refine wpAnyH_ready (rs := [2]) (by kernel_rfl) (by simp) ?_
  refine AllReadyH.cons rfl (fun K hK => ?_) AllReadyH.nil
  go_simp
  refine (both_any f g _).mono ?_
  rintro e w1 ⟨rfl, hb1⟩
  rw [HN.out]
  clear hHeld
  dsimp only
  refine hK.out _ _ (two_keep f g w hb1) (fun hHeld => ?_)
  clear hK K
  try simp only [Act.put, List.setIfInBounds_toArray, List.set_cons_zero, List.set_cons_succ]
  refine takeH (i := 3) (v := .bool false) rfl (by kernel_rfl) (by kernel_rfl) (by kernel_rfl) (fun _ _ _ h => h) (Or.inl ⟨by rfl, fun w hSw => ?_⟩) hHeld ?_
  · (clear hSw; go_simp)
  simp only [Act.put, List.setIfInBounds_toArray, List.set_cons_zero, List.set_cons_succ]
  refine takeH (i := 4) (v := undef) rfl (by kernel_rfl) (by kernel_rfl) (by kernel_rfl) (fun _ _ _ h => h) (Or.inr ⟨by rfl, rfl⟩) hHeld ?_
  simp only [Act.put, List.setIfInBounds_toArray, List.set_cons_zero, List.set_cons_succ]
  refine takeH (i := 5) (v := undef) rfl (by kernel_rfl) (by kernel_rfl) (by kernel_rfl) (fun _ _ _ h => h) (Or.inr ⟨by rfl, rfl⟩) hHeld ?_
  simp only [Act.put, List.setIfInBounds_toArray, List.set_cons_zero, List.set_cons_succ]
  refine takeH (i := 6) (v := undef) rfl (by kernel_rfl) (by kernel_rfl) (by kernel_rfl) (fun _ _ _ h => h) (Or.inr ⟨by rfl, rfl⟩) hHeld ?_
  simp only [Act.put, List.setIfInBounds_toArray, List.set_cons_zero, List.set_cons_succ]
  refine takeH (i := 7) (v := undef) rfl (by kernel_rfl) (by kernel_rfl) (by kernel_rfl) (fun _ _ _ h => h) (Or.inr ⟨by rfl, rfl⟩) hHeld ?_
  simp only [Act.put, List.setIfInBounds_toArray, List.set_cons_zero, List.set_cons_succ]
  refine takeH (i := 8) (v := undef) rfl (by kernel_rfl) (by kernel_rfl) (by kernel_rfl) (fun _ _ _ h => h) (Or.inr ⟨by rfl, rfl⟩) hHeld ?_
  simp only [Act.put, List.setIfInBounds_toArray, List.set_cons_zero, List.set_cons_succ]
  refine takeH (i := 9) (v := .bool false) rfl (by kernel_rfl) (by kernel_rfl) (by kernel_rfl) (fun _ _ _ h => h) (Or.inl ⟨by rfl, fun w hSw => ?_⟩) hHeld ?_
  · (clear hSw; go_simp)
  simp only [Act.put, List.setIfInBounds_toArray, List.set_cons_zero, List.set_cons_succ]
  refine takeH (i := 10) (v := .bool false) rfl (by kernel_rfl) (by kernel_rfl) (by kernel_rfl) (fun _ _ _ h => h) (Or.inl ⟨by rfl, fun w hSw => ?_⟩) hHeld ?_
  · (clear hSw; go_simp)
  simp only [Act.put, List.setIfInBounds_toArray, List.set_cons_zero, List.set_cons_succ]
  refine wpAnyH_done (by kernel_rfl) ?_ _
  clear hHeld
  go_wp2
  go_ret
  exact ⟨rfl, nxt (nxt HB.out (belowN (Below.refl _ _) 1)) hb1⟩

set_option maxRecDepth 100000 in
set_option maxHeartbeats 1600000 in
theorem rival_yes (f g : Fr) (w : World) (hf : f.may = true) (hg : g.may = true) :
    Calls Tryz.prog 9 #[f.val, g.val] w fun e w' => e = .returned (.bool (f.plc == g.plc)) ∧ Below w.heap.size w w' := by
  have HB := Lib.hid (boxed2 f g w)
  have HX := Lib.hid (And.intro (bx_two1 w f g) (bx_two2 w f g))
  have HF := Lib.hid hf; have HG := Lib.hid hg
  clear hf hg
  go_enter Tryz.func9, Tryz.ntmps9
  go_wp2_with fail
  refine wp_region_held_drew (S := fun w' => Bx w' w.heap.size f ∧ Bx w' (w.heap.size + 1) g) (by kernel_rfl) HX.out (fun hHeld => ?_)
  refine takeH (i := 0) (v := f.val) rfl (by kernel_rfl) (by kernel_rfl) (by kernel_rfl) (fun _ _ _ h => h) (Or.inl ⟨by rfl, fun w hSw => ?_⟩) hHeld ?_
  · (obtain ⟨c0, c1, c2, c3, c4, c5, c6, c7, c8, c9, c10, c11⟩ := hSw.1; clear hSw; go_simp)
  simp only [Act.put, List.setIfInBounds_toArray, List.set_cons_zero, List.set_cons_succ]
  refine takeH (i := 1) (v := g.val) rfl (by kernel_rfl) (by kernel_rfl) (by kernel_rfl) (fun _ _ _ h => h) (Or.inl ⟨by rfl, fun w hSw => ?_⟩) hHeld ?_
  · (obtain ⟨c0, c1, c2, c3, c4, c5, c6, c7, c8, c9, c10, c11⟩ := hSw.2; clear hSw; go_simp)
  simp only [Act.put, List.setIfInBounds_toArray, List.set_cons_zero, List.set_cons_succ]
  refine wpAnyH_ready (rs := [2]) (by kernel_rfl) (by simp) ?_
  refine AllReadyH.cons rfl (fun K hK => ?_) AllReadyH.nil
  go_simp
  refine (both_any f g _).mono ?_
  rintro e w1 ⟨rfl, hb1⟩
  rw [HF.out, HG.out]
  clear hHeld
  dsimp only
  refine hK.out _ _ (two_keep f g w hb1) (fun hHeld => ?_)
  clear hK K
  try simp only [Act.put, List.setIfInBounds_toArray, List.set_cons_zero, List.set_cons_succ]
  refine takeH (i := 3) (v := .bool true) rfl (by kernel_rfl) (by kernel_rfl) (by kernel_rfl) (fun _ _ _ h => h) (Or.inl ⟨by rfl, fun w hSw => ?_⟩) hHeld ?_
  · (clear hSw; go_simp)
  simp only [Act.put, List.setIfInBounds_toArray, List.set_cons_zero, List.set_cons_succ]
  refine takeH (i := 4) (v := f.val) rfl (by kernel_rfl) (by kernel_rfl) (by kernel_rfl) (fun _ _ _ h => h) (Or.inl ⟨by rfl, fun w hSw => ?_⟩) hHeld ?_
  · (obtain ⟨c0, c1, c2, c3, c4, c5, c6, c7, c8, c9, c10, c11⟩ := hSw.1; clear hSw; go_simp)
  simp only [Act.put, List.setIfInBounds_toArray, List.set_cons_zero, List.set_cons_succ]
  refine takeH (i := 6) (v := g.val) rfl (by kernel_rfl) (by kernel_rfl) (by kernel_rfl) (fun _ _ _ h => h) (Or.inl ⟨by rfl, fun w hSw => ?_⟩) hHeld ?_
  · (obtain ⟨c0, c1, c2, c3, c4, c5, c6, c7, c8, c9, c10, c11⟩ := hSw.2; clear hSw; go_simp)
  simp only [Act.put, List.setIfInBounds_toArray, List.set_cons_zero, List.set_cons_succ]
  refine wpAnyH_ready (rs := [5]) (by kernel_rfl) (by simp) ?_
  refine AllReadyH.cons rfl (fun K hK => ?_) AllReadyH.nil
  go_simp
  refine (place_ok f _ HF.out).mono ?_
  rintro e w2 ⟨rfl, hb2⟩
  clear hHeld
  dsimp only
  refine hK.out _ _ (two_keep f g w (nxt hb1 hb2)) (fun hHeld => ?_)
  clear hK K
  try simp only [Act.put, List.setIfInBounds_toArray, List.set_cons_zero, List.set_cons_succ]
  refine wpAnyH_ready (rs := [7]) (by kernel_rfl) (by simp) ?_
  refine AllReadyH.cons rfl (fun K hK => ?_) AllReadyH.nil
  go_simp
  refine (place_ok g _ HG.out).mono ?_
  rintro e w3 ⟨rfl, hb3⟩
  clear hHeld
  dsimp only
  refine hK.out _ _ (two_keep f g w (nxt (nxt hb1 hb2) hb3)) (fun hHeld => ?_)
  clear hK K
  try simp only [Act.put, List.setIfInBounds_toArray, List.set_cons_zero, List.set_cons_succ]
  refine takeH (i := 8) (v := .bool (f.plc == g.plc)) rfl (by kernel_rfl) (by kernel_rfl) (by kernel_rfl) (fun _ _ _ h => h) (Or.inl ⟨by rfl, fun w hSw => ?_⟩) hHeld ?_
  · (clear hSw; go_simp; exact beq_cast _ _)
  simp only [Act.put, List.setIfInBounds_toArray, List.set_cons_zero, List.set_cons_succ]
  refine takeH (i := 9) (v := .bool (f.plc == g.plc)) rfl (by kernel_rfl) (by kernel_rfl) (by kernel_rfl) (fun _ _ _ h => h) (Or.inl ⟨by rfl, fun w hSw => ?_⟩) hHeld ?_
  · (clear hSw; go_simp)
  simp only [Act.put, List.setIfInBounds_toArray, List.set_cons_zero, List.set_cons_succ]
  refine takeH (i := 10) (v := .bool (f.plc == g.plc)) rfl (by kernel_rfl) (by kernel_rfl) (by kernel_rfl) (fun _ _ _ h => h) (Or.inl ⟨by rfl, fun w hSw => ?_⟩) hHeld ?_
  · (clear hSw; go_simp)
  simp only [Act.put, List.setIfInBounds_toArray, List.set_cons_zero, List.set_cons_succ]
  refine wpAnyH_done (by kernel_rfl) ?_ _
  clear hHeld
  go_wp2
  go_ret
  exact ⟨rfl, nxt (nxt (nxt (nxt HB.out (belowN (Below.refl _ _) 1)) hb1) hb2) hb3⟩

set_option maxRecDepth 100000 in
set_option maxHeartbeats 1600000 in
theorem rival_no (f g : Fr) (w : World) (hn : (f.may && g.may) = false) :
    Calls Tryz.prog 9 #[f.val, g.val] w fun e w' => e = .returned (.bool false) ∧ Below w.heap.size w w' := by
  have HB := Lib.hid (boxed2 f g w)
  have HX := Lib.hid (And.intro (bx_two1 w f g) (bx_two2 w f g))
  have HN := Lib.hid hn
  clear hn
  go_enter Tryz.func9, Tryz.ntmps9
  go_wp2_with fail
  refine wp_region_held_drew (S := fun w' => Bx w' w.heap.size f ∧ Bx w' (w.heap.size + 1) g) (by kernel_rfl) HX.out (fun hHeld => ?_)
  refine takeH (i := 0) (v := f.val) rfl (by kernel_rfl) (by kernel_rfl) (by kernel_rfl) (fun _ _ _ h => h) (Or.inl ⟨by rfl, fun w hSw => ?_⟩) hHeld ?_
  · (obtain ⟨c0, c1, c2, c3, c4, c5, c6, c7, c8, c9, c10, c11⟩ := hSw.1; clear hSw; go_simp)
  simp only [Act.put, List.setIfInBounds_toArray, List.set_cons_zero, List.set_cons_succ]
  refine takeH (i := 1) (v := g.val) rfl (by kernel_rfl) (by kernel_rfl) (by kernel_rfl) (fun _ _ _ h => h) (Or.inl ⟨by rfl, fun w hSw => ?_⟩) hHeld ?_
  · (obtain ⟨c0, c1, c2, c3, c4, c5, c6, c7, c8, c9, c10, c11⟩ := hSw.2; clear hSw; go_simp)
  simp only [Act.put, List.setIfInBounds_toArray, List.set_cons_zero, List.set_cons_succ]
  refine wpAnyH_ready (rs := [2]) (by kernel_rfl) (by simp) ?_
  refine AllReadyH.cons rfl (fun K hK => ?_) AllReadyH.nil
  go_simp
  refine (both_any f g _).mono ?_
  rintro e w1 ⟨rfl, hb1⟩
  rw [HN.out]
  clear hHeld
  dsimp only
  refine hK.out _ _ (two_keep f g w hb1) (fun hHeld => ?_)
  clear hK K
  try simp only [Act.put, List.setIfInBounds_toArray, List.set_cons_zero, List.set_cons_succ]
  refine takeH (i := 3) (v := .bool false) rfl (by kernel_rfl) (by kernel_rfl) (by kernel_rfl) (fun _ _ _ h => h) (Or.inl ⟨by rfl, fun w hSw => ?_⟩) hHeld ?_
  · (clear hSw; go_simp)
  simp only [Act.put, List.setIfInBounds_toArray, List.set_cons_zero, List.set_cons_succ]
  refine takeH (i := 4) (v := undef) rfl (by kernel_rfl) (by kernel_rfl) (by kernel_rfl) (fun _ _ _ h => h) (Or.inr ⟨by rfl, rfl⟩) hHeld ?_
  simp only [Act.put, List.setIfInBounds_toArray, List.set_cons_zero, List.set_cons_succ]
  refine takeH (i := 5) (v := undef) rfl (by kernel_rfl) (by kernel_rfl) (by kernel_rfl) (fun _ _ _ h => h) (Or.inr ⟨by rfl, rfl⟩) hHeld ?_
  simp only [Act.put, List.setIfInBounds_toArray, List.set_cons_zero, List.set_cons_succ]
  refine takeH (i := 6) (v := undef) rfl (by kernel_rfl) (by kernel_rfl) (by kernel_rfl) (fun _ _ _ h => h) (Or.inr ⟨by rfl, rfl⟩) hHeld ?_
  simp only [Act.put, List.setIfInBounds_toArray, List.set_cons_zero, List.set_cons_succ]
  refine takeH (i := 7) (v := undef) rfl (by kernel_rfl) (by kernel_rfl) (by kernel_rfl) (fun _ _ _ h => h) (Or.inr ⟨by rfl, rfl⟩) hHeld ?_
  simp only [Act.put, List.setIfInBounds_toArray, List.set_cons_zero, List.set_cons_succ]
  refine takeH (i := 8) (v := undef) rfl (by kernel_rfl) (by kernel_rfl) (by kernel_rfl) (fun _ _ _ h => h) (Or.inr ⟨by rfl, rfl⟩) hHeld ?_
  simp only [Act.put, List.setIfInBounds_toArray, List.set_cons_zero, List.set_cons_succ]
  refine takeH (i := 9) (v := .bool false) rfl (by kernel_rfl) (by kernel_rfl) (by kernel_rfl) (fun _ _ _ h => h) (Or.inl ⟨by rfl, fun w hSw => ?_⟩) hHeld ?_
  · (clear hSw; go_simp)
  simp only [Act.put, List.setIfInBounds_toArray, List.set_cons_zero, List.set_cons_succ]
  refine takeH (i := 10) (v := .bool false) rfl (by kernel_rfl) (by kernel_rfl) (by kernel_rfl) (fun _ _ _ h => h) (Or.inl ⟨by rfl, fun w hSw => ?_⟩) hHeld ?_
  · (clear hSw; go_simp)
  simp only [Act.put, List.setIfInBounds_toArray, List.set_cons_zero, List.set_cons_succ]
  refine wpAnyH_done (by kernel_rfl) ?_ _
  clear hHeld
  go_wp2
  go_ret
  exact ⟨rfl, nxt (nxt HB.out (belowN (Below.refl _ _) 1)) hb1⟩
end Go.Proofs.YtalpbnfebcafgaaGreat

/- Rows of frames; a part of a row, from a place on. -/
namespace Go.Proofs.YtalpbnfebcafgaaGreat
set_option maxRecDepth 20000
open Go.RowKit

/-- The slice value '.slice A n c' holds the frames fs. -/
def Fl (w : World) (A : Option Addr) (n : Nat) (fs : Nat → Fr) : Prop :=
  0 < n → ∃ ad, A = some ad ∧ ad.block < w.heap.size ∧ ∀ j, j < n → ∀ c v, (fs j).cells[c]? = some v → w.cell? (ad.add (j * 12 + c)) = some v
theorem Fl.below {w w' : World} {A : Option Addr} {n : Nat} {fs : Nat → Fr} (h : Fl w A n fs) (hb : Below w.heap.size w w') : Fl w' A n fs := fun hn => by
  obtain ⟨ad, e, hl, hc⟩ := h hn
  exact ⟨ad, e, Nat.lt_of_lt_of_le hl hb.size, fun j hj c v hv => (hb.cell (by rw [block_of_add]; exact hl)).trans (hc j hj c v hv)⟩

/-- A frame lies at p. -/
def Bxa (w : World) (p : Addr) (f : Fr) : Prop := w.cell? p = some (.int .i64 f.id) ∧ w.cell? ⟨p.block, p.off + 1, none⟩ = some (.bool f.ext) ∧ w.cell? ⟨p.block, p.off + 2, none⟩ = some (.bool f.rtr) ∧ w.cell? ⟨p.block, p.off + 3, none⟩ = some (.int .i64 f.len) ∧ w.cell? ⟨p.block, p.off + 4, none⟩ = some (.int .u8 (f.d 0)) ∧ w.cell? ⟨p.block, p.off + 5, none⟩ = some (.int .u8 (f.d 1)) ∧ w.cell? ⟨p.block, p.off + 6, none⟩ = some (.int .u8 (f.d 2)) ∧ w.cell? ⟨p.block, p.off + 7, none⟩ = some (.int .u8 (f.d 3)) ∧ w.cell? ⟨p.block, p.off + 8, none⟩ = some (.int .u8 (f.d 4)) ∧ w.cell? ⟨p.block, p.off + 9, none⟩ = some (.int .u8 (f.d 5)) ∧ w.cell? ⟨p.block, p.off + 10, none⟩ = some (.int .u8 (f.d 6)) ∧ w.cell? ⟨p.block, p.off + 11, none⟩ = some (.int .u8 (f.d 7))
theorem Fl.at_ {w : World} {A : Option Addr} {n k : Nat} {fs : Nat → Fr} (h : Fl w A n fs) (hk : k < n) : ∃ ad, A = some ad ∧ ad.block < w.heap.size ∧ Bxa w (ad.add (k * 12)) (fs k) := by
  obtain ⟨ad, e, hl, hc⟩ := h (by omega)
  have h0 := hc k hk
  have g : ∀ c v, 0 < c → (fs k).cells[c]? = some v → w.cell? ⟨(ad.add (k * 12)).block, (ad.add (k * 12)).off + c, none⟩ = some v := fun c v hc hv => by
    rw [← add_pos _ hc, add_add]; exact h0 c v hv
  exact ⟨ad, e, hl, h0 0 _ rfl, g 1 _ (by omega) rfl, g 2 _ (by omega) rfl, g 3 _ (by omega) rfl, g 4 _ (by omega) rfl, g 5 _ (by omega) rfl, g 6 _ (by omega) rfl, g 7 _ (by omega) rfl, g 8 _ (by omega) rfl, g 9 _ (by omega) rfl, g 10 _ (by omega) rfl, g 11 _ (by omega) rfl⟩

set_option maxRecDepth 100000 in
/-- A part of a row, from a place on. -/
theorem slice_lo (A : Option Addr) (L cap p : Nat) (hp : p ≤ L) (hc : L ≤ cap) : ∃ X, (∀ (w : World) (zs : List Int), Il w A L zs → Il w X (L - p) (zs.drop p)) ∧
    (∀ w : World, (Instr.sliceAt 23 (.slice A L cap) (some (.int .i64 (p : Int))) none none).run Tryz.prog w = .ok (.slice X (L - p) (cap - p)) w) ∧
    ∀ w : World, (Instr.slice 23 (.slice A L cap) (some (.int .i64 (p : Int))) none none).run Tryz.prog w = .ok (.slice X (L - p) (cap - p)) w := by
  obtain ⟨i, hi, -, hsz, -⟩ := info3
  have h : ∀ w : World, (Instr.slice 23 (.slice A L cap) (some (.int .i64 (p : Int))) none none).run Tryz.prog w = .ok (.slice (if cap = p then A else A.map (·.add p)) (L - p) (cap - p)) w := by
    intro w
    rw [run_slice_l _ _ _ _ _ Tryz.underlying23 _ _ (by omega) (by omega)]
    show ((sizeOf 3).run Tryz.prog w).andThen _ = _
    simp [sizeOf, typeInfo, hi, sliced, hsz]
  refine ⟨_, fun w zs hz => ?_, fun w => by rw [run_sliceAt_slice _ _ _ _ _ _ Tryz.underlying23]; exact h w, h⟩
  rcases Nat.lt_or_ge p L with hlt | hge
  · obtain ⟨ad, rfl, _, _⟩ := hz.2 (by omega)
    rw [if_neg (by omega)]
    exact hz.drop p (by omega)
  · rw [show L - p = 0 by omega, List.drop_eq_nil_of_le (by rw [hz.1]; omega)]
    exact ⟨rfl, fun h => by omega⟩

end Go.Proofs.YtalpbnfebcafgaaGreat

/- Rows of frames, and rows of rows, of the call's own: append onto them. -/
namespace Go.Proofs.YtalpbnfebcafgaaGreat
set_option maxRecDepth 20000
open Go.RowKit

section
variable {ty t e : TypeId} {i : TypeInfo} {z : Value} {size bytes : Nat}
/-- append onto a row of the call's own, whatever its elements; and where the answer lies. -/
theorem append_runG (w : World) (ht : Tryz.prog.underlying t = some (.slice e)) (hi : Tryz.prog.info? e = some i) (hz : i.zero = some z) (hsz : i.size = size) (hb : i.bytes = bytes) (hzs : z.cells.size = size) (h0 : 0 < size)
    (base : Nat) (v : Value) (n : Nat) (xs : List Value) (hown : w.ownsRow base e size v n xs) (ad : Addr) (m c : Nat) (news : List Value) (hl : news.length = m * size)
    (hnews : ∀ j u, news[j]? = some u → w.cell? (ad.add j) = some u) (h1 : ∀ u ∈ news, u.oneCell' = true) (hlen : n + m ≤ 1000000) (hby : bytes ≤ 1000) (hbase : base ≤ w.heap.size) :
    ∃ v' w', (Builtin.append_ #[t, t] ty #[v, .slice (some ad) m c]).run Tryz.prog w = .ok v' w' ∧ w'.ownsRow base e size v' (n + m) (xs ++ news) ∧ w.grownBy w' v.ownBlock ∧ Lies w v v' := by
  have hbb : (n + m) * bytes ≤ 140737488355328 := Nat.le_trans (Nat.mul_le_mul hlen hby) (by omega)
  obtain ⟨v', w', hrun, h2, h3, _⟩ := run_append_own (P := Tryz.prog) w base t ty e i z size bytes ht hi hz hsz hb hzs h0 v n xs hown ad m c news hl hnews h1 (by unfold maxLen; omega) hbb hbase
  refine ⟨v', w', hrun, h2, h3, ?_⟩
  rw [← hsz] at hl
  rcases hown.2 with ⟨rfl, rfl⟩ | ⟨g, cap, cur, rfl, hbg, hg, hnc, hcm, hcs, htake⟩
  · rcases Nat.eq_zero_or_pos m with hm0 | hm0
    · subst hm0
      rw [Nat.zero_mul] at hl
      have hy : news = [] := List.eq_nil_of_length_eq_zero hl
      subst hy
      have e : (Builtin.append_ #[t, t] ty #[.slice none 0 0, .slice (some ad) 0 c]).run Tryz.prog w = .ok (.slice none 0 0) w := by
        simp [Builtin.append_, run_underlying ht, sizeOf, typeInfo, hi, Builtin.lenOf, Builtin.firstCells, loadCells, loadCellsFrom]
      rw [e] at hrun
      injection hrun with e1 e2
      exact .inl (by rw [← e1])
    · have e := run_append_nil (P := Tryz.prog) w t ty e i _ ht hi hz ad m c _ hl hnews hm0 (by omega) (by rw [hb]; rw [Nat.zero_add] at hbb; exact Nat.le_trans hbb (by omega))
      rw [e] at hrun
      injection hrun with e1 e2
      exact .inr (by rw [← e1]; rfl)
  · by_cases hroom : n + m ≤ cap
    · have e := run_append_room (P := Tryz.prog) w t ty e i ht hi g n cap cur hg ad m c _ hl hnews h1 hroom (by rw [hl, hcs, hsz, ← Nat.add_mul]; exact Nat.mul_le_mul_right _ hroom)
      rw [e] at hrun
      injection hrun with e1 e2
      exact .inl (by rw [← e1]; rfl)
    · have e := run_append_grow (P := Tryz.prog) w t ty e i _ ht hi hz ⟨g, 0, none⟩ n cap _ (by rw [hsz]; exact hown.1) (World.ownsRow.cells hown (g := g) rfl) ad m c _ hl hnews (by omega) (by omega) (by rw [hb]; exact growslice_fits (by omega) hbb)
      rw [e] at hrun
      injection hrun with e1 e2
      exact .inr (by rw [← e1]; rfl)
theorem append_runG0 (w : World) (ht : Tryz.prog.underlying t = some (.slice e)) (hi : Tryz.prog.info? e = some i) (base : Nat) (v : Value) (n : Nat) (xs : List Value) (hown : w.ownsRow base e size v n xs) (c : Nat) :
    (Builtin.append_ #[t, t] ty #[v, .slice none 0 c]).run Tryz.prog w = .ok v w := by
  rcases hown.2 with ⟨rfl, rfl⟩ | ⟨g, cap, cur, rfl, _, _, hnc, _⟩
  · simp [Builtin.append_, run_underlying ht, sizeOf, typeInfo, hi, Builtin.lenOf, Builtin.firstCells]
  · simp [Builtin.append_, run_underlying ht, sizeOf, typeInfo, hi, Builtin.lenOf, Builtin.firstCells, hnc, storeCells]
end

/-- The cells of frames, one behind the other. -/
def fcs (gs : List Fr) : List Value := gs.flatMap fun f => f.cells.toList
theorem fcs_len : ∀ gs : List Fr, (fcs gs).length = gs.length * 12 := by
  intro gs
  induction gs with
  | nil => rfl
  | cons f gs ih => rw [fcs, List.flatMap_cons, List.length_append, List.length_cons]; unfold fcs at ih; rw [ih]; simp; omega
theorem fcs_app (gs hs : List Fr) : fcs (gs ++ hs) = fcs gs ++ fcs hs := by simp [fcs]
theorem fcs_get : ∀ (gs : List Fr) (j c : Nat) (f : Fr) (v : Value), gs[j]? = some f → f.cells[c]? = some v → (fcs gs)[j * 12 + c]? = some v := by
  intro gs
  induction gs with
  | nil => intro j c f v h; simp at h
  | cons g gs ih =>
    intro j c f v h hv
    have hc : c < 12 := (Array.getElem?_eq_some_iff.1 hv).1
    rw [fcs, List.flatMap_cons]
    cases j with
    | zero =>
      simp at h
      subst h
      rw [List.getElem?_append_left (by simp; omega)]
      simpa using hv
    | succ j =>
      rw [List.getElem?_append_right (by simp; omega)]
      have := ih j c f v (by simpa using h) hv
      unfold fcs at this
      rw [← this]
      congr 1
      simp; omega
theorem fcs_one (gs : List Fr) : ∀ u ∈ fcs gs, u.oneCell' = true := by
  intro u hu
  obtain ⟨f, _, hf⟩ := List.mem_flatMap.1 hu
  simp only [List.mem_cons, List.not_mem_nil, or_false] at hf
  rcases hf with rfl | rfl | rfl | rfl | rfl | rfl | rfl | rfl | rfl | rfl | rfl | rfl <;> rfl

/-- The slice value v is the call's own row of frames. -/
def Fown (w : World) (base : Nat) (v : Value) (gs : List Fr) : Prop := w.ownsRow base 31 12 v gs.length (fcs gs)
section
variable {w w' : World} {base : Nat} {v : Value} {gs : List Fr}
theorem Fown.alloc (h : Fown w base v gs) (o : Obj) : Fown (w.alloc o) base v gs := World.ownsRow.alloc h o
theorem Fown.row (h : Fown w base v gs) : ∀ k, v.ownBlock = some k → base ≤ k := fun k hk => (World.ownsRow.lt h k hk).1
theorem Fown.below (h : Fown w base v gs) (hb : Below w.heap.size w w') : Fown w' base v gs := by
  refine ⟨h.1, ?_⟩
  rcases h.2 with hn | ⟨g, cap, cur, rfl, hbg, hgg, rest⟩
  · exact .inl hn
  · exact .inr ⟨g, cap, cur, rfl, hbg, (hb.block g (Array.getElem?_eq_some_iff.1 hgg).1).trans hgg, rest⟩
theorem Fown.kept {u : Value} (h : Fown w base v gs) (hg : w.grownBy w' u.ownBlock) (hs : Sep v u) : Fown w' base v gs := World.ownsRow.kept h hg hs
theorem Fown.fl (h : Fown w base v gs) : ∃ A cap, v = .slice A gs.length cap ∧ Fl w A gs.length (fun j => gs.getD j Fr.zero) ∧ gs.length ≤ cap := by
  rcases h.2 with ⟨rfl, h0⟩ | ⟨g, cap, cur, rfl, hb, hh, hnc, _, hcs, hx⟩
  · exact ⟨none, 0, by rw [h0], fun hn => by omega, by omega⟩
  · refine ⟨_, cap, rfl, fun _ => ⟨_, rfl, (Array.getElem?_eq_some_iff.1 hh).1, fun j hj c u hu => ?_⟩, hnc⟩
    refine World.ownsRow.cells h (g := g) rfl _ _ (fcs_get gs j c (gs.getD j Fr.zero) u ?_ hu)
    simp [hj]
theorem Fown.nil (w : World) (base : Nat) (hb : base ≤ w.heap.size) : Fown (w.alloc (.cells #[] 31)) base (.slice (some ⟨w.heap.size, 0, none⟩) 0 0) [] :=
  World.ownsRow_lit w #[] 0 hb (by unfold maxLen; omega) rfl
end
/-- A literal of frames. -/
theorem fl_lit (w : World) (gs : List Fr) : Fl (w.alloc (.cells (fcs gs).toArray 31)) (some ⟨w.heap.size, 0, none⟩) gs.length (fun j => gs.getD j Fr.zero) := by
  intro _
  refine ⟨_, rfl, by simp, fun j hj c u hu => ?_⟩
  have := fcs_get gs j c (gs.getD j Fr.zero) u (by simp [hj]) hu
  rw [add_zero_off, cell_of_row _ _ _ _ 31 (0, 0) (heap_alloc_new w _)]
  simpa using this

theorem info28 : ∃ i, Tryz.prog.info? 31 = some i ∧ i.zero = some Fr.zero.val ∧ i.size = 12 ∧ i.bytes = 32 := info_parts (by kernel_rfl)
theorem info22 : ∃ i, Tryz.prog.info? 23 = some i ∧ i.zero = some (.slice none 0 0) ∧ i.size = 1 ∧ i.bytes = 24 := info_parts (by kernel_rfl)
/-- A slice value holds frames, as cells one behind the other. -/
def Fs (w : World) (A : Option Addr) (m : Nat) (hs : List Fr) : Prop := hs.length = m ∧ (0 < m → ∃ ad, A = some ad ∧ ∀ j u, (fcs hs)[j]? = some u → w.cell? (ad.add j) = some u)
theorem fs_lit (w : World) (gs : List Fr) : Fs (w.alloc (.cells (fcs gs).toArray 31)) (some ⟨w.heap.size, 0, none⟩) gs.length gs := by
  refine ⟨rfl, fun _ => ⟨_, rfl, fun j u hu => ?_⟩⟩
  rw [add_zero_off, cell_of_row _ _ _ _ 31 (0, 0) (heap_alloc_new w _)]
  simpa using hu
theorem append_runF (w : World) (ty : TypeId) (base : Nat) (v : Value) (gs : List Fr) (hown : Fown w base v gs) (A : Option Addr) (m c : Nat) (hs : List Fr) (hr : Fs w A m hs) (hlen : gs.length + m ≤ 1000000) (hbase : base ≤ w.heap.size) :
    ∃ v' w', (Builtin.append_ #[22, 22] ty #[v, .slice A m c]).run Tryz.prog w = .ok v' w' ∧ Fown w' base v' (gs ++ hs) ∧ w.grownBy w' v.ownBlock ∧ Lies w v v' := by
  obtain ⟨i, hi, hz, hsz, hb⟩ := info28
  unfold Fown
  rw [List.length_append, fcs_app, hr.1]
  rcases A with _ | ad
  · have h0 : m = 0 := by
      rcases Nat.eq_zero_or_pos m with h | h
      · exact h
      · obtain ⟨ad, e, _⟩ := hr.2 h; cases e
    subst h0
    have hy : hs = [] := List.eq_nil_of_length_eq_zero hr.1
    subst hy
    exact ⟨v, w, append_runG0 w Tryz.underlying22 hi base v _ _ hown c, by rw [show fcs [] = [] from rfl, List.append_nil, Nat.add_zero]; exact hown, World.grownBy.refl w _, .inl rfl⟩
  · refine append_runG w Tryz.underlying22 hi hz hsz hb rfl (by omega) base v _ _ hown ad m c (fcs hs) (by rw [fcs_len, hr.1]) ?_ (fcs_one hs) hlen (by omega) hbase
    intro j u hu
    have hm : 0 < m := by
      rcases Nat.eq_zero_or_pos m with h | h
      · have hy : hs = [] := List.eq_nil_of_length_eq_zero (by rw [hr.1, h])
        subst hy
        simp [fcs] at hu
      · exact h
    obtain ⟨ad', e, hc⟩ := hr.2 hm
    injection e with e
    subst e
    exact hc j u hu
theorem append_F (w : World) {ops : Array Oper} {rest : List Oper} {o : Oper} {a : Act} {Q : Exit → Act → World → Prop} (hgd : Region.wanted o (yielded ops a.tmps) = true) (s x : Operand)
    (ho : o.op = .call { callee := .builtin .append, args := #[s, x], argTypes := #[22, 22] })
    (base : Nat) (v : Value) (gs : List Fr) (hs : a.eval s = v) (hown : Fown w base v gs) (A : Option Addr) (m c : Nat) (ys : List Fr) (hx : a.eval x = .slice A m c) (hr : Fs w A m ys)
    (hlen : gs.length + m ≤ 1000000) (hbase : base ≤ w.heap.size)
    (h : ∀ v' w', Fown w' base v' (gs ++ ys) → w.grownBy w' v.ownBlock → Lies w v v' → wpList Tryz.prog ops Q rest (a.put o.dst v') w') : wpList Tryz.prog ops Q (o :: rest) a w :=
  BigFrame.wpList_want hgd fun _ hK => by
    obtain ⟨v', w', hrun, h1, h2, h3⟩ := append_runF w o.type base v gs hown A m c ys hr hlen hbase
    unfold Oper.wp execOp
    simp only [ho, resolve, invoke, builtin, Sem.run_bind, Sem.run_pure, Result.andThen_ok, List.map_toArray, List.map_cons, List.map_nil, hs, hx, hrun]
    exact hK _ _ (h v' w' h1 h2 h3)

/-- The slice value v is the call's own row of rows. -/
def Vown (w : World) (base : Nat) (v : Value) (vs : List Value) : Prop := w.ownsRow base 23 1 v vs.length vs
section
variable {w w' : World} {base : Nat} {v : Value} {vs : List Value}
theorem Vown.alloc (h : Vown w base v vs) (o : Obj) : Vown (w.alloc o) base v vs := World.ownsRow.alloc h o
theorem Vown.row (h : Vown w base v vs) : ∀ k, v.ownBlock = some k → base ≤ k := fun k hk => (World.ownsRow.lt h k hk).1
theorem Vown.below (h : Vown w base v vs) (hb : Below w.heap.size w w') : Vown w' base v vs := by
  refine ⟨h.1, ?_⟩
  rcases h.2 with hn | ⟨g, cap, cur, rfl, hbg, hgg, rest⟩
  · exact .inl hn
  · exact .inr ⟨g, cap, cur, rfl, hbg, (hb.block g (Array.getElem?_eq_some_iff.1 hgg).1).trans hgg, rest⟩
theorem Vown.shape (h : Vown w base v vs) (h0 : 0 < vs.length) : ∃ g cap, v = .slice (some ⟨g, 0, none⟩) vs.length cap ∧ base ≤ g ∧ ∀ j u, vs[j]? = some u → w.cell? ⟨g, j, none⟩ = some u := by
  rcases h.2 with ⟨_, h1⟩ | ⟨g, cap, cur, rfl, hb, hh, hnc, _⟩
  · omega
  · refine ⟨g, cap, rfl, hb, fun j u hu => ?_⟩
    have := World.ownsRow.cells h (g := g) rfl j u hu
    rwa [add_zero_off] at this
theorem Vown.len (h : Vown w base v vs) : ∃ A cap, v = .slice A vs.length cap := by
  rcases h.2 with ⟨rfl, h0⟩ | ⟨g, cap, cur, rfl, _⟩
  · exact ⟨none, 0, by rw [h0]⟩
  · exact ⟨_, cap, rfl⟩
theorem Vown.nil (w : World) (base : Nat) (hb : base ≤ w.heap.size) : Vown (w.alloc (.cells #[] 23)) base (.slice (some ⟨w.heap.size, 0, none⟩) 0 0) [] :=
  World.ownsRow_lit w #[] 0 hb (by unfold maxLen; omega) rfl
end
end Go.Proofs.YtalpbnfebcafgaaGreat

/- How arguments that came in are opened: slices of ints, arrays of ints and of bools. -/
namespace Go.Proofs.YtalpbnfebcafgaaGreat
set_option maxRecDepth 20000
open Go.ChangeShapes Go.WideShapes Go.ChangeAt Go.RowKit

theorem ownKn : ownKnob Tryz.prog.godebug = none := by kernel_rfl
theorem laidOut : laidOutB Tryz.prog = true := by kernel_rfl

/-- What is known of a slice of ints that came in. -/
def InRow (w : World) (a : Option Addr) (len cap : Nat) (zs : List Int) : Prop :=
  Il w a len zs ∧ len ≤ cap ∧ ∀ z ∈ zs, -9223372036854775808 ≤ z ∧ z ≤ 9223372036854775807

theorem wf_i64 {z : Int} (h : (Lit.int .i64 z).wf = true) : -9223372036854775808 ≤ z ∧ z ≤ 9223372036854775807 := bounds_i64 h

section
variable {H : Type} {enc : TypeId × Value → H} {W : World} {m : Nat} {x : DataW H × List MemPlace}
theorem row_in {c : Value} (hf : DataW.trod enc Tryz.prog W 0 (fun _ => true) true m 23 [c] = some x) : ∃ a len cap zs, c = .slice a len cap ∧ InRow W a len cap zs := by
  rcases open_ints Tryz.underlying23 Tryz.underlying3 (by kernel_rfl) hf with ⟨hcs, _⟩ | ⟨ad, l, c', zs, hcs, _, hl, hm, hz, _, hcell, hwz⟩
  · simp at hcs
    exact ⟨none, 0, 0, [], hcs, ⟨rfl, fun h => by omega⟩, Nat.le_refl _, fun z hz => by cases hz⟩
  · simp at hcs
    have hzl : zs.length = c' := by simpa using hz
    refine ⟨some ad, l, c', zs.take l, hcs, ⟨by rw [List.length_take]; omega, fun hn => ⟨ad, rfl, ?_, fun j hj => ?_⟩⟩, hl, fun z hz => wf_i64 (hwz z (List.mem_of_mem_take hz))⟩
    · have h0 := hcell 0 (by omega)
      rcases Nat.lt_or_ge ad.block W.heap.size with h | h
      · exact h
      · have hb : (ad.add 0).block = ad.block := block_of_add ad 0
        rw [World.cell?, hb, Array.getElem?_eq_none h] at h0
        cases h0
    · rw [hcell j (by omega)]
      simp [List.getD, List.getElem?_take_of_lt hj]
/-- An array of cells: each reads as its element type does. -/
theorem cells_in {t e : TypeId} {n : Nat} {cs : List Value} (ht : Tryz.prog.underlying t = some (.array n e)) (he : Tryz.prog.cellsOf e = 1) (hc : Tryz.prog.cellsOf t = n) (hf : DataW.trod enc Tryz.prog W 0 (fun _ => true) true m t cs = some x) :
    cs.length = n ∧ ∀ i, i < n → ∃ v m' x', cs[i]? = some v ∧ DataW.trod enc Tryz.prog W 0 (fun _ => true) true m' e [v] = some x' := by
  obtain ⟨xs, m', _, _, hl0, hl, hi⟩ := DataW.trod_array ht hf
  rw [hc] at hl0
  refine ⟨hl0, fun i h => ?_⟩
  have h1 := hi i h
  rw [he, Nat.mul_one, List.getElem?_eq_getElem (by omega)] at h1
  have hlt : i < cs.length := by omega
  rw [List.drop_eq_getElem_cons hlt, List.take_succ_cons, List.take_zero] at h1
  exact ⟨_, m', _, List.getElem?_eq_getElem hlt, h1⟩
theorem list_of {α : Type} (f : α → Value) (cs : List Value) (h : ∀ i, i < cs.length → ∃ a, cs[i]? = some (f a)) : ∃ ps : List α, cs = ps.map f := by
  induction cs with
  | nil => exact ⟨[], rfl⟩
  | cons c cs ih =>
    obtain ⟨a, ha⟩ := h 0 (by simp)
    obtain ⟨ps, hps⟩ := ih (fun i hi => by simpa using h (i + 1) (by simp; exact hi))
    simp at ha
    exact ⟨a :: ps, by rw [ha, hps]; rfl⟩
theorem bools_in {t : TypeId} {n : Nat} {cs : List Value} (ht : Tryz.prog.underlying t = some (.array n 4)) (hc : Tryz.prog.cellsOf t = n) (hf : DataW.trod enc Tryz.prog W 0 (fun _ => true) true m t cs = some x) : ∃ bs : List Bool, cs = bs.map Value.bool ∧ bs.length = n := by
  obtain ⟨hl, h⟩ := cells_in ht (by kernel_rfl) hc hf
  obtain ⟨ps, hps⟩ := list_of Value.bool cs (fun i hi => by
    obtain ⟨v, m', x', hv, hr⟩ := h i (by omega)
    obtain ⟨b, hb, _⟩ := DataW.trod_bool Tryz.underlying4 hr
    simp at hb
    exact ⟨b, by rw [hv, hb]⟩)
  exact ⟨ps, hps, by rw [← hl, hps, List.length_map]⟩
theorem ints_in {t : TypeId} {n : Nat} {cs : List Value} (ht : Tryz.prog.underlying t = some (.array n 3)) (hc : Tryz.prog.cellsOf t = n) (hf : DataW.trod enc Tryz.prog W 0 (fun _ => true) true m t cs = some x) : ∃ zs : List Int, cs = zs.map (Value.int .i64) ∧ zs.length = n := by
  obtain ⟨hl, h⟩ := cells_in ht (by kernel_rfl) hc hf
  obtain ⟨ps, hps⟩ := list_of (Value.int .i64) cs (fun i hi => by
    obtain ⟨v, m', x', hv, hr⟩ := h i (by omega)
    obtain ⟨b, hb, _⟩ := DataW.trod_int Tryz.underlying3 hr
    simp at hb
    exact ⟨b, by rw [hv, hb]⟩)
  exact ⟨ps, hps, by rw [← hl, hps, List.length_map]⟩
theorem rows_in {t : TypeId} {n : Nat} {cs : List Value} (ht : Tryz.prog.underlying t = some (.array n 23)) (hc : Tryz.prog.cellsOf t = n) (hf : DataW.trod enc Tryz.prog W 0 (fun _ => true) true m t cs = some x) : cs.length = n ∧ ∀ i, i < n → ∃ a len cap zs, cs[i]? = some (.slice a len cap) ∧ InRow W a len cap zs := by
  obtain ⟨hl, h⟩ := cells_in ht (by kernel_rfl) hc hf
  refine ⟨hl, fun i hi => ?_⟩
  obtain ⟨v, m', x', hv, hr⟩ := h i hi
  obtain ⟨a, len, cap, zs, rfl, hin⟩ := row_in hr
  exact ⟨a, len, cap, zs, hv, hin⟩
end
theorem two_cells {cs : Array Value} {u v : Value} (hl : cs.toList.length = 2) (h0 : cs.toList[0]? = some u) (h1 : cs.toList[1]? = some v) : cs = #[u, v] := by
  obtain ⟨l⟩ := cs
  match l, hl with
  | [a, b], _ =>
    simp at h0 h1
    rw [h0, h1]
/-- An array, or a struct, is its cells. -/
theorem agg_in {W : World} {base : Nat} {t : TypeId} {n : Nat} {e : TypeId} {v : Value} (ht : Tryz.prog.underlying t = some (.array n e)) (h : Value.okWide Tryz.prog W .any base t v) : ∃ cs : Array Value, v = .agg cs := by
  simp only [Value.okWide, ht] at h
  obtain ⟨cs, rfl, _⟩ := h
  exact ⟨cs, rfl⟩
end Go.Proofs.YtalpbnfebcafgaaGreat

/- How frames, rows of frames and rows of bytes that came in are opened. -/
namespace Go.Proofs.YtalpbnfebcafgaaGreat
set_option maxRecDepth 20000
open Go.ChangeShapes Go.WideShapes Go.ChangeAt Go.RowKit

section
variable {H : Type} {enc : TypeId × Value → H} {W : World} {m : Nat} {x : DataW H × List MemPlace}
theorem frame_cells {cs : List Value} (hf : DataW.trod enc Tryz.prog W 0 (fun _ => true) true m 31 cs = some x) : ∃ f : Fr, cs = f.cells.toList ∧ f.wf := by
  obtain ⟨xs, n, _, _, hl, hxl, hg⟩ := DataW.trod_struct Tryz.underlying31 hf
  rw [show Tryz.prog.cellsOf 31 = 12 by kernel_rfl] at hl
  have hxl' : xs.length = 5 := hxl
  match cs, hl with
  | [c0, c1, c2, c3, c4, c5, c6, c7, c8, c9, c10, c11], _ =>
    have t0 : DataW.trod enc Tryz.prog W 0 (fun _ => true) true n 3 (List.take (Tryz.prog.cellsOf 3) (List.drop 0 [c0, c1, c2, c3, c4, c5, c6, c7, c8, c9, c10, c11])) = xs[0]? := hg 0 _ rfl
    have t1 : DataW.trod enc Tryz.prog W 0 (fun _ => true) true n 4 (List.take (Tryz.prog.cellsOf 4) (List.drop 1 [c0, c1, c2, c3, c4, c5, c6, c7, c8, c9, c10, c11])) = xs[1]? := hg 1 _ rfl
    have t2 : DataW.trod enc Tryz.prog W 0 (fun _ => true) true n 4 (List.take (Tryz.prog.cellsOf 4) (List.drop 2 [c0, c1, c2, c3, c4, c5, c6, c7, c8, c9, c10, c11])) = xs[2]? := hg 2 _ rfl
    have t3 : DataW.trod enc Tryz.prog W 0 (fun _ => true) true n 3 (List.take (Tryz.prog.cellsOf 3) (List.drop 3 [c0, c1, c2, c3, c4, c5, c6, c7, c8, c9, c10, c11])) = xs[3]? := hg 3 _ rfl
    have t4 : DataW.trod enc Tryz.prog W 0 (fun _ => true) true n 29 (List.take (Tryz.prog.cellsOf 29) (List.drop 4 [c0, c1, c2, c3, c4, c5, c6, c7, c8, c9, c10, c11])) = xs[4]? := hg 4 _ rfl
    rw [List.getElem?_eq_getElem (by omega)] at t0 t1 t2 t3 t4
    simp only [show Tryz.prog.cellsOf 3 = 1 by kernel_rfl, List.drop_zero, List.drop_succ_cons, List.take_succ_cons, List.take_zero] at t0 t3
    simp only [show Tryz.prog.cellsOf 4 = 1 by kernel_rfl, List.drop_zero, List.drop_succ_cons, List.take_succ_cons, List.take_zero] at t1 t2
    simp only [show Tryz.prog.cellsOf 29 = 8 by kernel_rfl, List.drop_zero, List.drop_succ_cons, List.take_succ_cons, List.take_zero] at t4
    obtain ⟨i, hi, _⟩ := DataW.trod_int Tryz.underlying3 t0
    obtain ⟨e, he, _⟩ := DataW.trod_bool Tryz.underlying4 t1
    obtain ⟨r, hr, _⟩ := DataW.trod_bool Tryz.underlying4 t2
    obtain ⟨l, hl, _⟩ := DataW.trod_int Tryz.underlying3 t3
    obtain ⟨_, hc⟩ := cells_in Tryz.underlying29 (by kernel_rfl) (by kernel_rfl) t4
    have hb : ∀ k, k < 8 → ∃ z : Int, [c4, c5, c6, c7, c8, c9, c10, c11][k]? = some (Value.int .u8 z) ∧ 0 ≤ z ∧ z ≤ 255 := fun k hk => by
      obtain ⟨v, m', x', hv, ht⟩ := hc k hk
      obtain ⟨z, hz, _, hw⟩ := DataW.trod_int Tryz.underlying5 ht
      simp at hz
      subst hz
      exact ⟨z, hv, bounds_u8 hw⟩
    simp at hi he hr hl
    obtain ⟨z0, q0, w0⟩ := hb 0 (by omega)
    obtain ⟨z1, q1, w1⟩ := hb 1 (by omega)
    obtain ⟨z2, q2, w2⟩ := hb 2 (by omega)
    obtain ⟨z3, q3, w3⟩ := hb 3 (by omega)
    obtain ⟨z4, q4, w4⟩ := hb 4 (by omega)
    obtain ⟨z5, q5, w5⟩ := hb 5 (by omega)
    obtain ⟨z6, q6, w6⟩ := hb 6 (by omega)
    obtain ⟨z7, q7, w7⟩ := hb 7 (by omega)
    simp at q0 q1 q2 q3 q4 q5 q6 q7
    refine ⟨⟨i, e, r, l, fun k => [z0, z1, z2, z3, z4, z5, z6, z7].getD k 0⟩, ?_, ?_⟩
    · rw [hi, he, hr, hl, q0, q1, q2, q3, q4, q5, q6, q7]; rfl
    · intro k hk
      match k, hk with
      | 0, _ => exact w0
      | 1, _ => exact w1
      | 2, _ => exact w2
      | 3, _ => exact w3
      | 4, _ => exact w4
      | 5, _ => exact w5
      | 6, _ => exact w6
      | 7, _ => exact w7
theorem frame_in {v : Value} {d : DataW H} {p : List MemPlace} {base : Nat} (hv : Value.okWide Tryz.prog W .any base 31 v) (h : DataW.Trod enc Tryz.prog W 0 (fun _ => true) true 31 v d p) : ∃ f : Fr, v = f.val ∧ f.wf := by
  obtain ⟨cs, rfl, _⟩ := okWide_struct Tryz.underlying31 hv
  obtain ⟨fuel, hf⟩ := h
  obtain ⟨f, hc, hw⟩ := frame_cells hf
  refine ⟨f, ?_, hw⟩
  have : cs = f.cells := Array.toList_inj.1 hc
  rw [this]
end
end Go.Proofs.YtalpbnfebcafgaaGreat

/- How rows of frames that came in are opened. -/
namespace Go.Proofs.YtalpbnfebcafgaaGreat
set_option maxRecDepth 20000
open Go.ChangeShapes Go.WideShapes Go.ChangeAt Go.RowKit

instance : Inhabited Fr := ⟨Fr.zero⟩
/-- What is known of a slice of frames that came in. -/
def InFrames (w : World) (a : Option Addr) (len cap : Nat) (fs : Nat → Fr) : Prop := Fl w a len fs ∧ len ≤ cap ∧ ∀ i, i < len → (fs i).wf
theorem frow_in {H : Type} {enc : TypeId × Value → H} {W : World} {m : Nat} {x : DataW H × List MemPlace} {c : Value} (hf : DataW.trod enc Tryz.prog W 0 (fun _ => true) true m 22 [c] = some x) : ∃ a len cap fs, c = .slice a len cap ∧ InFrames W a len cap fs := by
  rcases Go.Deep.open_slice Tryz.underlying22 hf with ⟨hcs, _⟩ | ⟨ad, l, c', m', n, D, Pl, hcs, _, hl, hm, hmm, _, hel⟩
  · simp at hcs
    exact ⟨none, 0, 0, fun _ => Fr.zero, hcs, fun h => by omega, Nat.le_refl _, fun i hi => by omega⟩
  · simp at hcs
    have hlm : l ≤ m' := by rw [hmm]; split <;> omega
    obtain ⟨fs, hfs⟩ := Go.Deep.choose_lt (α := Fr) (n := l) (p := fun i f => f.wf ∧ W.cells? 0 (ad.add (i * 12)) 12 = some f.cells.toList) (fun i hi => by
      obtain ⟨cs', h1, h2⟩ := hel i (by omega)
      rw [show Tryz.prog.cellsOf 31 = 12 by kernel_rfl] at h1
      obtain ⟨f, hc, hw⟩ := frame_cells h2
      exact ⟨f, hw, by rw [h1, hc]⟩)
    refine ⟨some ad, l, c', fs, hcs, fun hn => ⟨ad, rfl, ?_, fun j hj c v hv => ?_⟩, hl, fun i hi => (hfs i hi).1⟩
    · obtain ⟨_, _, hc⟩ := World.cells?_some (hfs 0 hn).2
      have h0 : W.cell? ((ad.add (0 * 12)).add 0) = some (.int .i64 (fs 0).id) := hc 0 (by omega)
      have hb := World.block_lt_of_cell? W _ h0
      rwa [block_of_add, block_of_add] at hb
    · obtain ⟨_, hln, hc⟩ := World.cells?_some (hfs j hj).2
      have hlt : c < 12 := by
        rcases Nat.lt_or_ge c 12 with h | h
        · exact h
        · rw [Array.getElem?_eq_none (by simpa using h)] at hv; cases hv
      have h1 := hc c hlt
      rw [add_add] at h1
      rw [h1, Array.getElem?_toList]
      exact hv
end Go.Proofs.YtalpbnfebcafgaaGreat

/- Queues in memory, and the contracts of New, Len, First, copied, All. -/
namespace Go.Proofs.YtalpbnfebcafgaaGreat
set_option maxRecDepth 20000
open Go.RowKit

/-- Block g is just a queue: its row v, and its most. -/
def Qb (w : World) (g : Nat) (v : Value) (m : Int) : Prop := w.heap[g]? = some (.cells #[v, .int .i64 m] 130)
section
variable {w w' : World} {g : Nat} {v : Value} {m : Int}
theorem Qb.row (h : Qb w g v m) : w.cell? ⟨g, 0, none⟩ = some v := cell_of_row w g 0 _ _ (0, 0) h
theorem Qb.most (h : Qb w g v m) : w.cell? ⟨g, 1, none⟩ = some (.int .i64 m) := cell_of_row w g 1 _ _ (0, 0) h
theorem Qb.frozen (h : Qb w g v m) (i : Nat) : w.frozen? ⟨g, i, none⟩ = false := by
  unfold Qb at h
  simp [World.frozen?, h]
theorem Qb.lt (h : Qb w g v m) : g < w.heap.size := (Array.getElem?_eq_some_iff.1 h).1
theorem Qb.next (h : Qb w g v m) (hb : Below w.heap.size w w') : Qb w' g v m := (hb.block g h.lt).trans h
theorem Qb.put (h : Qb w g v m) (u : Value) : Qb (w.setCell ⟨g, 0, none⟩ u) g u m := by
  unfold Qb at h ⊢
  simp [World.setCell, Array.getElem?_modify, h]
theorem qb_new (w : World) (v : Value) (m : Int) : Qb (w.alloc (.cells #[v, .int .i64 m] 130)) w.heap.size v m := heap_alloc_new w _
end
/-- A row of frames is in no queue's block. -/
theorem Fown.notq {w : World} {B g : Nat} {v u : Value} {m : Int} {gs : List Fr} (h : Fown w B v gs) (hq : Qb w g u m) : v.ownBlock ≠ some g := by
  intro e
  rcases h.2 with ⟨rfl, _⟩ | ⟨k, cap, cur, rfl, _, hh, _⟩
  · cases e
  · injection e with e
    have e : k = g := e
    subst e
    unfold Qb at hq
    rw [hh] at hq
    injection hq with hq
    injection hq with _ ht
    exact absurd ht (by decide)
theorem Fown.base {w : World} {B B' : Nat} {v : Value} {gs : List Fr} (h : Fown w B v gs) (hB : B' ≤ B) : Fown w B' v gs := by
  refine ⟨h.1, ?_⟩
  rcases h.2 with hn | ⟨g, cap, cur, rfl, hbg, rest⟩
  · exact .inl hn
  · exact .inr ⟨g, cap, cur, rfl, Nat.le_trans hB hbg, rest⟩
theorem Fown.drew {w : World} {B : Nat} {v : Value} {gs : List Fr} (h : Fown w B v gs) : Fown w.drew B v gs := h

/-- At g lies a queue of most m with the frames gs, its row v. -/
structure Que (w : World) (B g : Nat) (v : Value) (m : Int) (gs : List Fr) : Prop where
  q : Qb w g v m
  own : Fown w B v gs
  at_ : B ≤ g
section
variable {w w' : World} {B g : Nat} {v : Value} {m : Int} {gs : List Fr}
theorem Que.next (h : Que w B g v m gs) (hb : Below w.heap.size w w') : Que w' B g v m gs := ⟨h.q.next hb, h.own.below hb, h.at_⟩
theorem Que.base {B' : Nat} (h : Que w B g v m gs) (hB : B' ≤ B) : Que w B' g v m gs := ⟨h.q, h.own.base hB, Nat.le_trans hB h.at_⟩
theorem Que.drew (h : Que w B g v m gs) : Que w.drew B g v m gs := ⟨h.q, h.own, h.at_⟩
theorem Que.lt (h : Que w B g v m gs) : g < w.heap.size := h.q.lt
theorem Que.fl (h : Que w B g v m gs) : ∃ A cap, v = .slice A gs.length cap ∧ Fl w A gs.length (fun j => gs.getD j Fr.zero) ∧ gs.length ≤ cap := h.own.fl
end

/-- What a call turns that turns the queue at g, whose row is v, then v'. -/
structure Turn (g : Nat) (v v' : Value) (w w' : World) : Prop where
  os : w'.os = w.os
  tape : w'.tape = w.tape
  output : w'.output = w.output
  size : w.heap.size ≤ w'.heap.size
  block : ∀ k, k < w.heap.size → k ≠ g → some k ≠ v.ownBlock → w'.heap[k]? = w.heap[k]?
  lies : v'.ownBlock = v.ownBlock ∨ ∀ k, v'.ownBlock = some k → w.heap.size ≤ k
section
variable {w w' w2 : World} {B C g k : Nat} {v v' v2 u : Value} {m n : Int} {gs us : List Fr}
theorem Turn.refl (g : Nat) (v : Value) (w : World) : Turn g v v w w := ⟨rfl, rfl, rfl, Nat.le_refl _, fun _ _ _ _ => rfl, .inl rfl⟩
theorem Turn.of_below (h : Below w.heap.size w w') : Turn g v v w w' := ⟨h.os, h.tape, h.output, h.size, fun k hk _ _ => h.block k hk, .inl rfl⟩
theorem Turn.trans (h : Turn g v v' w w') (h2 : Turn g v' v2 w' w2) : Turn g v v2 w w2 := by
  refine ⟨h2.os.trans h.os, h2.tape.trans h.tape, h2.output.trans h.output, Nat.le_trans h.size h2.size, fun k hk hne hv => ?_, ?_⟩
  · refine (h2.block k (Nat.lt_of_lt_of_le hk h.size) hne ?_).trans (h.block k hk hne hv)
    rcases h.lies with e | e
    · rw [e]; exact hv
    · intro he
      have := e k he.symm
      omega
  · rcases h2.lies with e | e
    · rw [e]; exact h.lies
    · exact .inr fun k hk => Nat.le_trans h.size (e k hk)
theorem Turn.below (h : Turn g v v' w w') (hg : B ≤ g) (hv : ∀ k, v.ownBlock = some k → B ≤ k) (hB : B ≤ w.heap.size) : Below B w w' :=
  ⟨h.os, h.tape, h.output, h.size, fun k hk => h.block k (by omega) (by omega) (fun e => by have := hv k e.symm; omega)⟩
theorem Turn.que (h : Turn g v v' w w') (hq : Que w B g v m gs) (hB : B ≤ w.heap.size) : Below B w w' := h.below hq.at_ hq.own.row hB
/-- Another row stays. -/
theorem Turn.row (h : Turn g v v' w w') (hq : Qb w g v m) (hu : Fown w C u us) (hs : Sep u v) : Fown w' C u us ∧ Sep u v' := by
  have hn := hu.notq hq
  constructor
  · refine ⟨hu.1, ?_⟩
    rcases hu.2 with h0 | ⟨k, cap, cur, rfl, hbk, hh, rest⟩
    · exact .inl h0
    · refine .inr ⟨k, cap, cur, rfl, hbk, (h.block k (Array.getElem?_eq_some_iff.1 hh).1 ?_ ?_).trans hh, rest⟩
      · rintro rfl; exact hn rfl
      · rcases hs with e | e
        · cases e
        · exact e
  · rcases hk : u.ownBlock with _ | k
    · exact .inl hk
    · refine .inr fun he => ?_
      rcases h.lies with e2 | e2
      · rcases hs with e | e
        · rw [hk] at e; cases e
        · exact e (he.trans e2)
      · have h1 := e2 k (he.symm.trans hk)
        have h2 := (World.ownsRow.lt hu k hk).2
        omega
/-- Another queue stays. -/
theorem Turn.other (h : Turn g v v' w w') (hq : Que w B g v m gs) (hu : Que w C k u n us) (hne : k ≠ g) (hs : Sep u v) : Que w' C k u n us ∧ Sep u v' := by
  obtain ⟨h1, h2⟩ := h.row hq.q hu.own hs
  refine ⟨⟨(h.block k hu.lt hne fun e => ?_).trans hu.q, h1, hu.at_⟩, h2⟩
  exact hq.own.notq hu.q e.symm
end

set_option maxHeartbeats 400000 in
theorem new_bad (m : Int) (w : World) (h : ¬ (1 ≤ m ∧ m ≤ 16)) : Calls Tryz.prog 45 #[.int .i64 m] w fun e w' => e = .returned (.tuple #[.pointer none, .int .i64 10]) ∧ w = w' := by
  by_cases h1 : m < 1
  · clear h
    go_enter Tryz.func45, Tryz.ntmps45
    go_wp2
    go_ret2
    exact ⟨rfl, rfl⟩
  · have h2 : 16 < m := by omega
    clear h
    go_enter Tryz.func45, Tryz.ntmps45
    go_wp2
    go_ret2
    exact ⟨rfl, rfl⟩
theorem que_new (w : World) (m : Int) : Que (w.alloc (.cells #[.slice none 0 0, .int .i64 m] 130)) w.heap.size w.heap.size (.slice none 0 0) m [] :=
  ⟨qb_new w _ m, World.ownsRow_nil _ _ _ _, Nat.le_refl _⟩
set_option maxHeartbeats 400000 in
theorem new_ok (m : Int) (w : World) (h1 : 1 ≤ m) (h2 : m ≤ 16) : Calls Tryz.prog 45 #[.int .i64 m] w fun e w' => e = .returned (.tuple #[.pointer (some ⟨w.heap.size, 0, none⟩), .int .i64 0]) ∧ Que w' w.heap.size w.heap.size (.slice none 0 0) m [] ∧ Below w.heap.size w w' := by
  have HQ := Lib.hid (que_new w m)
  have d1 : ¬ m < 1 := by omega
  have d2 : ¬ 16 < m := by omega
  clear h1 h2
  go_enter Tryz.func45, Tryz.ntmps45
  go_wp2
  go_ret2
  exact ⟨rfl, HQ.out, (Below.refl _ _).alloc (Nat.le_refl _) _⟩

theorem len_nil (w : World) : Calls Tryz.prog 51 #[.pointer none] w fun e w' => e = .returned (.int .i64 0) ∧ w' = w := by
  go_enter Tryz.func51, Tryz.ntmps51
  go_wp2
  go_ret
  exact ⟨rfl, rfl⟩
set_option maxHeartbeats 400000 in
theorem len_b (g : Nat) (A : Option Addr) (n c : Nat) (m : Int) (w : World) (hq : Qb w g (.slice A n c) m) : Calls Tryz.prog 51 #[.pointer (some ⟨g, 0, none⟩)] w fun e w' => e = .returned (.int .i64 n) ∧ w' = w := by
  have c0 := hq.row
  clear hq
  go_enter Tryz.func51, Tryz.ntmps51
  go_wp2
  go_ret
  exact ⟨rfl, rfl⟩
theorem len_q {w : World} {B g : Nat} {v : Value} {m : Int} {gs : List Fr} (hq : Que w B g v m gs) : Calls Tryz.prog 51 #[.pointer (some ⟨g, 0, none⟩)] w fun e w' => e = .returned (.int .i64 gs.length) ∧ w' = w := by
  obtain ⟨A, c, rfl, _⟩ := hq.fl
  exact len_b g A _ c m w hq.q
end Go.Proofs.YtalpbnfebcafgaaGreat

/- The contracts of slices.Clone, copied, All, First. -/
namespace Go.Proofs.YtalpbnfebcafgaaGreat
set_option maxRecDepth 20000
open Go.RowKit

theorem first_none (w : World) : Calls Tryz.prog 119 #[.pointer none] w fun e w' => e = .returned (.tuple #[Fr.zero.val, .bool false]) ∧ Below w.heap.size w w' := by
  go_enter Tryz.func119, Tryz.ntmps119
  go_wp2_with fail
  refine (len_nil _).mono ?_
  rintro e w1 ⟨rfl, rfl⟩
  go_wp2
  refine bodyPost_ret (v := .tuple #[.agg #[.int .i64 0, .bool false, .bool false, .int .i64 0, .int .u8 0, .int .u8 0, .int .u8 0, .int .u8 0, .int .u8 0, .int .u8 0, .int .u8 0, .int .u8 0], .bool false]) (by rw [results_cell_tmp rfl]; go_simp) rfl ⟨rfl, ?_⟩
  exact boxed Fr.zero w
set_option maxHeartbeats 800000 in
theorem first_empty {w : World} {B g : Nat} {v : Value} {m : Int} (hq : Que w B g v m []) : Calls Tryz.prog 119 #[.pointer (some ⟨g, 0, none⟩)] w fun e w' => e = .returned (.tuple #[Fr.zero.val, .bool false]) ∧ Below w.heap.size w w' := by
  have HQ := Lib.hid hq
  clear hq
  go_enter Tryz.func119, Tryz.ntmps119
  go_wp2_with fail
  refine (len_q (HQ.out.next (boxed Fr.zero w))).mono ?_
  rintro e w1 ⟨rfl, rfl⟩
  go_wp2
  refine bodyPost_ret (v := .tuple #[.agg #[.int .i64 0, .bool false, .bool false, .int .i64 0, .int .u8 0, .int .u8 0, .int .u8 0, .int .u8 0, .int .u8 0, .int .u8 0, .int .u8 0, .int .u8 0], .bool false]) (by rw [results_cell_tmp rfl]; go_simp) rfl ⟨rfl, ?_⟩
  exact boxed Fr.zero w
theorem fl_head {w : World} {A : Option Addr} {n : Nat} {fs : Nat → Fr} (h : Fl w A n fs) (hn : 0 < n) : ∃ ad, A = some ad ∧ ad.block < w.heap.size ∧ Bxa w ad (fs 0) := by
  obtain ⟨ad, e, hl, hb⟩ := h.at_ hn
  rw [Nat.zero_mul, at_zero] at hb
  exact ⟨ad, e, hl, hb⟩
set_option maxHeartbeats 800000 in
theorem first_q {w : World} {B g : Nat} {v : Value} {m : Int} {f : Fr} {gs : List Fr} (hq : Que w B g v m (f :: gs)) : Calls Tryz.prog 119 #[.pointer (some ⟨g, 0, none⟩)] w fun e w' => e = .returned (.tuple #[f.val, .bool true]) ∧ Below w.heap.size w w' := by
  have HQ := Lib.hid hq
  obtain ⟨A, c, rfl, hf, _⟩ := hq.fl
  have hl := hq.lt
  have hq' := hq.next (boxed Fr.zero w)
  obtain ⟨ad, rfl, hlt, hb⟩ := fl_head (hf.below (boxed Fr.zero w)) (by simp)
  simp only [List.getD_cons_zero] at hb
  obtain ⟨c0, c1, c2, c3, c4, c5, c6, c7, c8, c9, c10, c11⟩ := hb
  have q0 := hq'.q.row
  have HQ' := Lib.hid hq'
  have hn : (((f :: gs).length : Int) == 0) = false := by
    simp only [List.length_cons, beq_eq_false_iff_ne]; omega
  have hn0 : 0 < (f :: gs).length := by simp
  have hne : ¬ (((f :: gs).length : Int) = 0) := by simpa using hn
  clear hq hq' hf
  generalize (f :: gs).length = n at *
  go_enter Tryz.func119, Tryz.ntmps119
  go_wp2_with fail
  refine (len_b g _ n c m _ HQ'.out.q).mono ?_
  rintro e w1 ⟨rfl, rfl⟩
  go_wp2
  refine bodyPost_ret (v := .tuple #[f.val, .bool true]) (by rw [results_cell_tmp rfl]; go_simp) rfl ⟨rfl, ?_⟩
  exact boxed f w
end Go.Proofs.YtalpbnfebcafgaaGreat

/- The contracts of slices.Clone, copied, All, Clone. -/
namespace Go.Proofs.YtalpbnfebcafgaaGreat
set_option maxRecDepth 20000
open Go.RowKit

theorem undrew {w w' : World} (h : Below w.drew.heap.size w.drew w') : Below w.heap.size w w' := ⟨h.os, h.tape, h.output, h.size, h.block⟩
theorem Fown.fs {w : World} {B : Nat} {A : Option Addr} {n c : Nat} {gs : List Fr} (h : Fown w B (.slice A n c) gs) : Fs w A gs.length gs := by
  refine ⟨rfl, fun hn => ?_⟩
  rcases h.2 with ⟨_, h0⟩ | ⟨g, cap, cur, e, _⟩
  · omega
  · injection e with e1 e2 e3
    subst e1
    exact ⟨_, rfl, fun j u hu => World.ownsRow.cells h (g := g) rfl j u hu⟩

set_option maxHeartbeats 800000 in
theorem sclone_any {w : World} {B : Nat} {v : Value} {gs : List Fr} (h : Fown w B v gs) (hn : gs.length ≤ 1000000) :
    Calls Tryz.prog 81 #[v] w fun e w' => ∃ u, e = .returned u ∧ Fown w' w.heap.size u gs ∧ Below w.heap.size w w' := by
  rcases h.2 with ⟨rfl, h0⟩ | ⟨g, cap, cur, rfl, hb, hh, hnc, hcm, hcs, hx⟩
  · have hnl : gs = [] := List.eq_nil_of_length_eq_zero h0
    subst hnl
    clear h
    have heq := fun W : World => Go.Lib.run_eql_slice_nil (P := Tryz.prog) W 22 31 none 0 0 0 0 Tryz.underlying22
    go_enter Tryz.func81, Tryz.ntmps81
    go_wp2
    go_ret
    exact ⟨_, rfl, World.ownsRow_nil _ _ _ _, Below.refl _ _⟩
  · have HO := Lib.hid h
    have hg := (Array.getElem?_eq_some_iff.1 hh).1
    clear h hh hcs hx hcm hb
    have heq := fun W : World => Go.Lib.run_eql_slice_nil (P := Tryz.prog) W 22 31 (some ⟨g, 0, none⟩) gs.length cap 0 0 Tryz.underlying22
    have HF := Lib.hid (Fown.nil w w.heap.size (Nat.le_refl _))
    have HS := Lib.hid ((HO.out.below ((Below.refl _ _).alloc (Nat.le_refl _) (.cells #[] 31))).fs)
    have HN := Lib.hid hn
    clear hn
    go_enter Tryz.func81, Tryz.ntmps81
    go_wp2_with (first | (at_builtin; refine append_F _ (by rfl) _ _ rfl w.heap.size _ [] rfl HF.out _ _ _ gs rfl HS.out (by have := HN.out; simp; omega) (by simp) ?_; intro v' w' h1 h2 h3) | fail)
    go_wp2
    go_ret
    exact ⟨_, rfl, by simpa using h1, Below.grown ((Below.refl _ _).alloc (Nat.le_refl _) _) h2 (by simp) (fun k hk => by injection hk with hk; have hk : w.heap.size = k := hk; omega)⟩
set_option maxHeartbeats 400000 in
theorem copied_q {w : World} {B g : Nat} {v : Value} {m : Int} {gs : List Fr} (hq : Que w B g v m gs) (hn : gs.length ≤ 1000000) :
    Calls Tryz.prog 68 #[.pointer (some ⟨g, 0, none⟩)] w fun e w' => ∃ u, e = .returned u ∧ Fown w' w.heap.size u gs ∧ Below w.heap.size w w' := by
  have q0 := hq.q.row
  have HQ := Lib.hid hq
  have HN := Lib.hid hn
  clear hq hn
  go_enter Tryz.func68, Tryz.ntmps68
  go_wp2_with fail
  refine (sclone_any HQ.out.own HN.out).mono ?_
  rintro e w1 ⟨u, rfl, h1, h2⟩
  go_wp2
  go_ret
  exact ⟨_, rfl, h1, h2⟩
theorem clone_nil (w : World) : Calls Tryz.prog 52 #[.pointer none] w fun e w' => e = .returned (.pointer none) ∧ w' = w := by
  go_enter Tryz.func52, Tryz.ntmps52
  go_wp2
  go_ret
  exact ⟨rfl, rfl⟩
set_option maxHeartbeats 1600000 in
set_option maxRecDepth 100000 in
theorem clone_q {w : World} {B g : Nat} {v : Value} {m : Int} {gs : List Fr} (hq : Que w B g v m gs) (hn : gs.length ≤ 1000000) :
    Calls Tryz.prog 52 #[.pointer (some ⟨g, 0, none⟩)] w fun e w' => ∃ g' u, e = .returned (.pointer (some ⟨g', 0, none⟩)) ∧ Que w' w.heap.size g' u m gs ∧ Below w.heap.size w w' := by
  have HQ := Lib.hid hq
  have HN := Lib.hid hn
  clear hq hn
  go_enter Tryz.func52, Tryz.ntmps52
  go_wp2_with fail
  refine wp_region_held_drew (S := fun w' => Qb w' g v m) (by kernel_rfl) (HQ.out.q) (fun hHeld => ?_)
  refine takeH (i := 0) (v := .pointer (some ⟨g, 0, none⟩)) rfl (by kernel_rfl) (by kernel_rfl) (by kernel_rfl) (fun _ _ _ h => h) (Or.inl ⟨by rfl, fun w hSw => ?_⟩) hHeld ?_
  · (clear hSw; go_simp)
  simp only [Act.put, List.setIfInBounds_toArray, List.set_cons_zero, List.set_cons_succ]
  refine takeH (i := 1) (v := .pointer (some ⟨g, 0, none⟩)) rfl (by kernel_rfl) (by kernel_rfl) (by kernel_rfl) (fun _ _ _ h => h) (Or.inl ⟨by rfl, fun w hSw => ?_⟩) hHeld ?_
  · (clear hSw; go_simp)
  simp only [Act.put, List.setIfInBounds_toArray, List.set_cons_zero, List.set_cons_succ]
  refine takeH (i := 2) (v := .pointer (some ⟨g, 0, none⟩)) rfl (by kernel_rfl) (by kernel_rfl) (by kernel_rfl) (fun _ _ _ h => h) (Or.inl ⟨by rfl, fun w hSw => ?_⟩) hHeld ?_
  · (clear hSw; go_simp)
  simp only [Act.put, List.setIfInBounds_toArray, List.set_cons_zero, List.set_cons_succ]
  refine takeH (i := 5) (v := .pointer (some ⟨g, 0, none⟩)) rfl (by kernel_rfl) (by kernel_rfl) (by kernel_rfl) (fun _ _ _ h => h) (Or.inl ⟨by rfl, fun w hSw => ?_⟩) hHeld ?_
  · (clear hSw; go_simp)
  simp only [Act.put, List.setIfInBounds_toArray, List.set_cons_zero, List.set_cons_succ]
  refine takeH (i := 6) (v := .pointer (some ⟨g, 0, none⟩)) rfl (by kernel_rfl) (by kernel_rfl) (by kernel_rfl) (fun _ _ _ h => h) (Or.inl ⟨by rfl, fun w hSw => ?_⟩) hHeld ?_
  · (clear hSw; go_simp)
  simp only [Act.put, List.setIfInBounds_toArray, List.set_cons_zero, List.set_cons_succ]
  refine takeH (i := 7) (v := .pointer (some ⟨g, 1, none⟩)) rfl (by kernel_rfl) (by kernel_rfl) (by kernel_rfl) (fun _ _ _ h => h) (Or.inl ⟨by rfl, fun w hSw => ?_⟩) hHeld ?_
  · (clear hSw; go_simp)
  simp only [Act.put, List.setIfInBounds_toArray, List.set_cons_zero, List.set_cons_succ]
  refine takeH (i := 8) (v := .int .i64 m) rfl (by kernel_rfl) (by kernel_rfl) (by kernel_rfl) (fun _ _ _ h => h) (Or.inl ⟨by rfl, fun w hSw => ?_⟩) hHeld ?_
  · (have q1 := hSw.most; clear hSw; go_simp)
  simp only [Act.put, List.setIfInBounds_toArray, List.set_cons_zero, List.set_cons_succ]
  refine wpAnyH_ready (rs := [3]) (by kernel_rfl) (by simp) ?_
  refine AllReadyH.cons rfl (fun K hK => ?_) AllReadyH.nil
  go_simp
  refine (copied_q HQ.out.drew HN.out).mono ?_
  rintro e w1 ⟨u, rfl, hu, hb1⟩
  obtain ⟨A, c, rfl, -, -⟩ := hu.fl
  have HU := Lib.hid hu
  have HB := Lib.hid (undrew hb1)
  clear hu hb1
  clear hHeld
  dsimp only
  refine hK.out _ _ (HQ.out.q.next HB.out) (fun hHeld => ?_)
  clear hK K
  try simp only [Act.put, List.setIfInBounds_toArray, List.set_cons_zero, List.set_cons_succ]
  refine takeH (i := 4) (v := .agg #[.slice A gs.length c]) rfl (by kernel_rfl) (by kernel_rfl) (by kernel_rfl) (fun _ _ _ h => h) (Or.inl ⟨by rfl, fun w hSw => ?_⟩) hHeld ?_
  · (clear hSw; go_simp)
  simp only [Act.put, List.setIfInBounds_toArray, List.set_cons_zero, List.set_cons_succ]
  refine takeH (i := 9) (v := .agg #[.slice A gs.length c, .int .i64 m]) rfl (by kernel_rfl) (by kernel_rfl) (by kernel_rfl) (fun _ _ _ h => h) (Or.inl ⟨by rfl, fun w hSw => ?_⟩) hHeld ?_
  · (clear hSw; go_simp)
  simp only [Act.put, List.setIfInBounds_toArray, List.set_cons_zero, List.set_cons_succ]
  refine wpAnyH_ready (rs := [10]) (by kernel_rfl) (by simp) ?_
  refine AllReadyH.cons rfl (fun K hK => ?_) AllReadyH.nil
  go_simp
  refine hK.out _ _ ((HQ.out.q.next HB.out).next ((Below.refl _ _).alloc (Nat.le_refl _) _)) (fun hHeld => ?_)
  clear hK K
  try simp only [Act.put, List.setIfInBounds_toArray, List.set_cons_zero, List.set_cons_succ]
  refine takeH (i := 11) (v := .pointer (some ⟨w1.heap.size, 0, none⟩)) rfl (by kernel_rfl) (by kernel_rfl) (by kernel_rfl) (fun _ _ _ h => h) (Or.inl ⟨by rfl, fun w hSw => ?_⟩) hHeld ?_
  · (clear hSw; go_simp)
  simp only [Act.put, List.setIfInBounds_toArray, List.set_cons_zero, List.set_cons_succ]
  refine wpAnyH_done (by kernel_rfl) ?_ _
  clear hHeld
  go_wp2
  go_ret
  have hb : Below w.heap.size w (w1.alloc (.cells #[.slice A gs.length c, .int .i64 m] 130)) := Below.alloc HB.out HB.out.size _
  exact ⟨_, .slice A gs.length c, rfl, ⟨qb_new w1 _ m, Fown.alloc HU.out _, HB.out.size⟩, hb⟩
end Go.Proofs.YtalpbnfebcafgaaGreat

/- The contract of slices.Index over frames. -/
namespace Go.Proofs.YtalpbnfebcafgaaGreat
set_option maxRecDepth 20000
open Go.RowKit

/-- Where f is first among fs. -/
def Found (f : Fr) (fs : Nat → Fr) (n : Nat) (r : Int) : Prop := (∃ k : Nat, k < n ∧ r = k ∧ f.same (fs k) = true ∧ ∀ j, j < k → f.same (fs j) = false) ∨ (r = -1 ∧ ∀ j, j < n → f.same (fs j) = false)

set_option maxHeartbeats 1600000 in
set_option maxRecDepth 100000 in
theorem index_any (f : Fr) (A : Option Addr) (n c : Nat) (fs : Nat → Fr) (w : World) (h : Fl w A n fs) (hn : n ≤ 1000000) :
    Calls Tryz.prog 149 #[.slice A n c, f.val] w fun e w' => ∃ r, e = .returned (.int .i64 r) ∧ Found f fs n r ∧ Below w.heap.size w w' := by
  have HL := Lib.hid (h.below (boxed f w))
  have HB := Lib.hid (boxed f w)
  have HX := Lib.hid (bx_new w f)
  clear h
  go_enter Tryz.func149, Tryz.ntmps149
  go_wp2
  go_loopw [8] (fun i wr => ∃ k : Nat, k ≤ n ∧ i = .int .i64 k ∧ (∀ j, j < k → f.same (fs j) = false) ∧ Below (w.heap.size + 1) (w.alloc (.cells f.cells 31)) wr) (fun i _ => n - (intOf i).toNat)
  case atStart => exact ⟨0, Nat.zero_le _, rfl, fun j hj => by omega, Below.refl _ _⟩
  case round =>
    obtain ⟨k, hk, rfl, hz, hb⟩ := hrel
    have hb' : Below (w.alloc (.cells f.cells 31)).heap.size (w.alloc (.cells f.cells 31)) wr := by simpa using hb
    have HZ := Lib.hid hz
    have HBB := Lib.hid hb
    have HBW := Lib.hid (nxt HB.out hb')
    by_cases hlt : k < n
    · have hlt' : (k : Int) < (n : Int) := by omega
      obtain ⟨c0, c1, c2, c3, c4, c5, c6, c7, c8, c9, c10, c11⟩ := bx_past hb'
      obtain ⟨ad, rfl, hl, d0, d1, d2, d3, d4, d5, d6, d7, d8, d9, d10, d11⟩ := (HL.out.below hb').at_ hlt
      have hfe := fun W => feq f (fs k) W
      clear hb hb' hz
      cases hs : f.same (fs k)
      · have HS := Lib.hid hs
        rw [hs] at hfe
        clear hs
        go_wp2
        go_quiet (fail)
        go_wp2
        go_roundw
        case rel => exact ⟨k + 1, by omega, by go_num, fun j hj => by
          rcases Nat.lt_or_ge j k with h | h
          · exact HZ.out j h
          · rw [show j = k by omega]; exact HS.out, belowN HBB.out _⟩
        case measure => simp [intOf]; omega
      · have HS := Lib.hid hs
        rw [hs] at hfe
        clear hs
        go_wp2
        go_quiet (fail)
        go_wp2
        go_ret
        exact ⟨k, rfl, .inl ⟨k, hlt, rfl, HS.out, HZ.out⟩, belowN HBW.out _⟩
    · clear hb hb' hz
      go_wp2
      go_ret
      exact ⟨-1, rfl, .inr ⟨rfl, fun j hj => HZ.out j (by omega)⟩, HBW.out⟩
end Go.Proofs.YtalpbnfebcafgaaGreat

/- Queues as lists: where a frame comes, what is dropped. -/
namespace Go.Proofs.YtalpbnfebcafgaaGreat
set_option maxRecDepth 20000
open Go.RowKit

/-- Frames lie in order. -/
def Upq (gs : List Fr) : Prop := gs.Pairwise fun a b => a.plc ≤ b.plc
/-- Where f comes. -/
def sits (f : Fr) (gs : List Fr) : Nat := gs.findIdx fun g => decide (f.plc < g.plc)
def ins (f : Fr) (gs : List Fr) : List Fr := gs.take (sits f gs) ++ f :: gs.drop (sits f gs)
/-- f taken out, where it is first. -/
def drp (f : Fr) (gs : List Fr) : List Fr := gs.eraseP f.same
/-- A queue's frames. -/
def Okq (gs : List Fr) : Prop := Upq gs ∧ ∀ g ∈ gs, g.may = true

theorem sits_le (f : Fr) (gs : List Fr) : sits f gs ≤ gs.length := List.findIdx_le_length
theorem ins_len1 (f : Fr) (gs : List Fr) : (ins f gs).length = gs.length + 1 := by
  have := sits_le f gs
  unfold ins
  rw [List.length_append, List.length_take, List.length_cons, List.length_drop]; omega
theorem getD_get {gs : List Fr} {j : Nat} (h : j < gs.length) : gs.getD j Fr.zero = gs[j] := by simp [h]
theorem sits_of {f : Fr} {gs : List Fr} {r : Nat} (hr : r ≤ gs.length) (h1 : ∀ j, j < r → (gs.getD j Fr.zero).plc ≤ f.plc) (h2 : ∀ j, r ≤ j → j < gs.length → f.plc < (gs.getD j Fr.zero).plc) : sits f gs = r := by
  unfold sits
  rcases Nat.lt_or_ge r gs.length with h | h
  · refine (List.findIdx_eq h).2 ⟨?_, fun j hj => ?_⟩
    · have := h2 r (Nat.le_refl _) h
      rw [getD_get h] at this
      simpa using this
    · have := h1 j hj
      rw [getD_get (by omega)] at this
      simpa using this
  · have e : r = gs.length := by omega
    subst e
    rw [List.findIdx_eq_length]
    intro x hx
    obtain ⟨j, hj, rfl⟩ := List.getElem_of_mem hx
    have := h1 j hj
    rw [getD_get hj] at this
    simpa using this
theorem upq_get {gs : List Fr} (h : Upq gs) {a b : Nat} (hab : a ≤ b) (hb : b < gs.length) : (gs.getD a Fr.zero).plc ≤ (gs.getD b Fr.zero).plc := by
  rw [getD_get hb, getD_get (by omega)]
  rcases Nat.lt_or_ge a b with h1 | h1
  · exact List.pairwise_iff_getElem.1 h a b (by omega) hb h1
  · have : a = b := by omega
    subst this; exact Nat.le_refl _
theorem ins_mem {f g : Fr} {gs : List Fr} : g ∈ ins f gs ↔ g = f ∨ g ∈ gs := by
  unfold ins
  rw [List.mem_append, List.mem_cons, or_left_comm, ← List.mem_append, List.take_append_drop]
theorem ins_up {f : Fr} {gs : List Fr} (h : Upq gs) : Upq (ins f gs) := by
  have hlo : ∀ g ∈ gs.take (sits f gs), g.plc ≤ f.plc := by
    intro g hg
    obtain ⟨j, hj, rfl⟩ := List.getElem_of_mem hg
    rw [List.length_take] at hj
    have := List.not_of_lt_findIdx (show j < gs.findIdx (fun g => decide (f.plc < g.plc)) from by unfold sits at hj; omega)
    rw [List.getElem_take]
    simpa using this
  have hhi : ∀ g ∈ gs.drop (sits f gs), f.plc ≤ g.plc := by
    intro g hg
    obtain ⟨j, hj, rfl⟩ := List.getElem_of_mem hg
    rw [List.length_drop] at hj
    rw [List.getElem_drop]
    have hs : sits f gs < gs.length := by omega
    have h1 : f.plc < (gs[sits f gs]).plc := by
      have := List.findIdx_getElem (w := (show gs.findIdx (fun g => decide (f.plc < g.plc)) < gs.length from hs))
      simpa [sits] using this
    have h2 := upq_get h (show sits f gs ≤ sits f gs + j by omega) (by omega)
    rw [getD_get hs, getD_get (by omega)] at h2
    omega
  unfold ins Upq
  unfold Upq at h
  rw [List.pairwise_append]
  refine ⟨h.sublist (List.take_sublist _ _), List.pairwise_cons.2 ⟨hhi, h.sublist (List.drop_sublist _ _)⟩, fun a ha b hb => ?_⟩
  rcases List.mem_cons.1 hb with rfl | hb
  · exact hlo a ha
  · exact Nat.le_trans (hlo a ha) (hhi b hb)
theorem ins_ok {f : Fr} {gs : List Fr} (h : Okq gs) (hf : f.may = true) : Okq (ins f gs) :=
  ⟨ins_up h.1, fun g hg => by
    rcases ins_mem.1 hg with rfl | h1
    · exact hf
    · exact h.2 g h1⟩
theorem drp_sub (f : Fr) (gs : List Fr) : (drp f gs).Sublist gs := List.eraseP_sublist
theorem drp_ok {f : Fr} {gs : List Fr} (h : Okq gs) : Okq (drp f gs) :=
  ⟨h.1.sublist (drp_sub f gs), fun g hg => h.2 g ((drp_sub f gs).subset hg)⟩
theorem drp_le (f : Fr) (gs : List Fr) : (drp f gs).length ≤ gs.length := (drp_sub f gs).length_le
theorem ok_nil : Okq [] := ⟨List.Pairwise.nil, fun g hg => by cases hg⟩

/-- What Put answers, and leaves. -/
def pE (m : Int) (f : Fr) (gs : List Fr) : Int := if f.may = false then 14 else if m ≤ gs.length then 15 else 0
def pL (m : Int) (f : Fr) (gs : List Fr) : List Fr := if f.may = false ∨ m ≤ gs.length then gs else ins f gs
/-- What Drop answers. -/
def dropE (f : Fr) (gs : List Fr) : Int := if gs.any f.same then 0 else 16
theorem pL_ok {m : Int} {f : Fr} {gs : List Fr} (h : Okq gs) : Okq (pL m f gs) := by
  unfold pL
  split
  · exact h
  · rename_i hn
    exact ins_ok h (by cases hm : f.may <;> simp_all)
theorem pL_le {m : Int} {f : Fr} {gs : List Fr} (h : (gs.length : Int) ≤ m) : ((pL m f gs).length : Int) ≤ m := by
  unfold pL
  split
  · exact h
  · rw [ins_len1]; simp_all; omega

/-- Where f is found, and that it is dropped there. -/
theorem found_drp {f : Fr} {gs : List Fr} {r : Int} (h : Found f (fun j => gs.getD j Fr.zero) gs.length r) : (∃ k : Nat, r = k ∧ k < gs.length ∧ dropE f gs = 0 ∧ gs.eraseIdx k = drp f gs) ∨ (r = -1 ∧ dropE f gs = 16 ∧ drp f gs = gs) := by
  rcases h with ⟨k, hk, hr, hs, hz⟩ | ⟨hr, hz⟩
  · left
    have hs' : f.same gs[k] = true := by have := hs; dsimp only at this; rwa [getD_get hk] at this
    refine ⟨k, hr, hk, ?_, ?_⟩
    · unfold dropE
      rw [if_pos]
      exact List.any_eq_true.2 ⟨gs[k], List.getElem_mem hk, hs'⟩
    · have hfi : gs.findIdx f.same = k := (List.findIdx_eq hk).2 ⟨hs', fun j hj => by have := hz j hj; dsimp only at this; rwa [getD_get (by omega)] at this⟩
      unfold drp
      rw [List.eraseP_eq_eraseIdx]
      have : gs.findIdx? f.same = some k := by
        rw [List.findIdx?_eq_some_iff_findIdx_eq]
        exact ⟨hk, hfi⟩
      rw [this]
  · right
    have hall : ∀ g ∈ gs, f.same g = false := by
      intro g hg
      obtain ⟨j, hj, rfl⟩ := List.getElem_of_mem hg
      have := hz j hj
      dsimp only at this
      rwa [getD_get hj] at this
    refine ⟨hr, ?_, List.eraseP_of_forall_not fun g hg => by rw [hall g hg]; simp⟩
    unfold dropE
    rw [if_neg]
    rw [List.any_eq_true]
    rintro ⟨g, hg, h1⟩
    rw [hall g hg] at h1; cases h1
end Go.Proofs.YtalpbnfebcafgaaGreat

/- A node as a value, and what a level does to it. -/
namespace Go.Proofs.YtalpbnfebcafgaaGreat
set_option maxRecDepth 20000

/-- An event: its kind, and its frame. -/
abbrev Ev := Int × Fr

/-- A node. -/
structure Nd where
  mode : Int
  sl : Int
  sn : Int
  rows : Int
  owed : Bool
  erred : Bool
  own : List Int
  kind : Int
  nth : Int
  bl : Int
  bn : Int
  outF : Fr
  outL : List Int
  tx : Bool
  ct : Ct
  q : List Fr

def Nd.new : Nd := ⟨0, 0, 0, 0, false, false, [], 0, 0, 0, 0, Fr.zero, [], false, Ct.zero, []⟩
/-- A mode begins. -/
def Nd.enter (n : Nd) (m : Int) : Nd := ⟨m, 0, 0, 0, false, false, [], 0, 0, 0, 0, Fr.zero, [], n.tx, n.ct, n.q⟩
/-- How many are alike, of so many of a level, behind another one. -/
def tlN (l n z : Int) : Int := if z = l then n + 1 else 1
def Nd.see (n : Nd) (z : Int) : Nd := { n with sl := z, sn := tlN n.sl n.sn z }
def Nd.added (n : Nd) : Bool := decide (n.kind ≤ 5) && n.bn == 5
/-- The place in its field of the level that comes behind others. -/
def pl (o : List Int) : Nat := (nx (hW o) o.length 0).2
def Nd.takeOwn (n : Nd) (z : Int) : Nd := { n with own := n.own ++ [z], kind := (kd (n.own ++ [z]) : Nat), nth := (pl (n.own ++ [z]) : Nat) }
def Nd.told (n : Nd) (z : Int) : Nd := { n with bl := z, bn := tlN n.bl n.bn z }
def Nd.take (n : Nd) (z : Int) : Nd := (if n.added then n else n.takeOwn z).told z
def oth (l : Int) : Int := if l = 0 then 1 else 0
def Nd.drvIn (n : Nd) : Int :=
  if n.tx && n.added then oth n.bl else if n.tx then n.outL.getD n.own.length 0 else if n.kind == 6 && rok n.own then 0 else 1
def Nd.drv (n : Nd) : Int :=
  if n.mode = 1 then (if 0 < n.q.length then 0 else 1) else if n.mode = 2 then n.drvIn else if n.mode = 3 ∨ n.mode = 5 then 0 else 1
def Nd.pas (n : Nd) : Bool := n.ct.st == 1
def ev (k : Int) : Ev := (k, Fr.zero)
/-- It counts as it is. -/
def Nd.cnt (n : Nd) (x : Int) : Nd := { n with ct := if n.tx then n.ct.txx else n.ct.rxx x }
def Nd.casE (n : Nd) (x : Int) : List Ev := if (n.cnt x).ct.st = 2 then [ev 10] else []
def Nd.casN (n : Nd) (x : Int) : Nd := if (n.cnt x).ct.st = 2 then (n.cnt x).enter 10 else n.cnt x
def Nd.flg (n : Nd) : Nd := n.enter (if n.pas then 4 else 3)
def Nd.failU (n : Nd) (k : Int) : List Ev × Nd := ([ev k], n.flg)
def Nd.fail (n : Nd) (k : Int) : List Ev × Nd := (ev k :: n.flg.casE 1, n.flg.casN 1)
def Nd.over (n : Nd) : List Ev × Nd := ([ev 9], n.enter 5)
/-- A frame is laid to be sent. -/
def Nd.load (n : Nd) (may : Bool) : Nd :=
  { n.enter 2 with tx := may && decide (0 < n.q.length)
                   outF := if may && decide (0 < n.q.length) then n.q.headD Fr.zero else Fr.zero
                   outL := if may && decide (0 < n.q.length) then alls (n.q.headD Fr.zero) else [] }
def Nd.begin_ (n : Nd) (may : Bool) : Nd := (n.load may).take 0
def Nd.quiet (n : Nd) (z : Int) : Bool := tlN n.sl n.sn z == 11 && z == 1
def Nd.join (n : Nd) (z : Int) : List Ev × Nd := ([], if n.quiet z then n.enter 1 else n.see z)
def Nd.idle (n : Nd) (z : Int) : List Ev × Nd :=
  if z = 0 then ([], n.begin_ true) else if 0 < n.q.length then ({ n with tx := true } : Nd).fail 4 else ([], n)
def Nd.loses (n : Nd) (z : Int) : Bool := n.tx && (n.kind == 1 && (!n.added && decide (z < n.drvIn)))
def Nd.lost (n : Nd) : Nd := { n with tx := false, outF := Fr.zero, outL := [] }
/-- The frame of levels. -/
def fF (o : List Int) : Fr := if o.length < hEnd (hEx o) ∨ o.length < ahead o ∨ one o 0 = true then Fr.zero else frm o
def Nd.fin (n : Nd) : List Ev × Nd :=
  if n.tx then ([(1, n.outF)], { n.enter 8 with ct := n.ct.snt, q := drp n.outF n.q }) else ([], n.enter 8)
def Nd.onto (n : Nd) : List Ev × Nd :=
  if n.kind = 9 then n.fin else if n.kind = 8 ∧ n.nth = 6 ∧ n.tx = false then ([(2, fF n.own)], { n with ct := n.ct.rcv }) else ([], n)
def Nd.goOn (n : Nd) (z : Int) : List Ev × Nd := (n.take z).onto
def Nd.unheard (n : Nd) : List Ev × Nd := if n.pas then ([ev 8], { n.flg with owed := true }) else n.fail 8
def Nd.send (n : Nd) (z : Int) : List Ev × Nd :=
  if n.kind = 6 then (if z = 0 then n.goOn z else n.unheard)
  else if n.kind = 1 ∧ n.added = true ∧ z < n.drvIn then n.failU 5 else if z = n.drvIn then n.goOn z else n.fail 4
/-- The kind of error that a level is to one that does not send; 0: none. -/
def Nd.wrongK (n : Nd) (z : Int) : Int :=
  if n.drvIn < z then 4 else if n.added then (if z = n.bl then 5 else 0)
  else if n.kind = 5 ∨ n.kind = 7 ∨ n.kind = 8 then (if z = 0 then 7 else if n.kind = 7 ∧ rok n.own = false then 6 else 0) else 0
def Nd.recv (n : Nd) (z : Int) : List Ev × Nd :=
  if n.kind = 8 ∧ n.nth = 6 ∧ z = 0 then n.over else if n.wrongK z ≠ 0 then n.fail (n.wrongK z) else n.goOn z
def Nd.inF (n : Nd) (z : Int) : List Ev × Nd :=
  if n.loses z then (ev 3 :: (n.lost.recv z).1, (n.lost.recv z).2) else if n.tx then n.send z else n.recv z
def Nd.endF (n : Nd) : Nd := { n.enter 6 with erred := decide (n.mode ≠ 5) }
def Nd.flagN (n : Nd) : Nd := if tlN n.sl n.sn 0 = 6 then n.endF else n.see 0
def Nd.flag (n : Nd) (z : Int) : List Ev × Nd := if z = 0 then ([], n.flagN) else (ev 4 :: n.flagN.casE 8, n.flagN.casN 8)
def Nd.due (n : Nd) (z : Int) : Bool := n.owed && z == 0
def Nd.pflN (n : Nd) (z : Int) : Nd := if tlN n.sl n.sn z = 6 then n.endF else { n.see z with owed := n.owed && !(n.owed && z == 0) }
def Nd.pflag (n : Nd) (z : Int) : List Ev × Nd := if n.due z then ((n.pflN z).casE 1, (n.pflN z).casN 1) else ([], n.pflN z)
def Nd.closeN (n : Nd) : Nd := if tlN n.sl n.sn 1 = 8 then n.enter 8 else n.see 1
def Nd.close (n : Nd) (z : Int) : List Ev × Nd := if z = 1 then ([], n.closeN) else if n.sn = 7 then n.over else n.fail 7
def Nd.heavy (n : Nd) : Bool := (tlN n.sl n.sn 0 == 1 && (n.erred && !n.tx)) || tlN n.sl n.sn 0 % 8 == 0
def Nd.wait (n : Nd) (z : Int) : List Ev × Nd :=
  if z = 1 then (n.enter 7).close 1 else if n.heavy then ((n.see 0).casE 8, (n.see 0).casN 8) else ([], n.see 0)
def Nd.back (n : Nd) : Bool := n.pas && n.tx
def Nd.pause (n : Nd) (z : Int) : List Ev × Nd :=
  if z = 0 then (if n.sn = 2 then ([], n.begin_ (!n.back)) else n.over)
  else if n.sn ≠ 2 then ([], n.see 1) else if n.back then ([], n.enter 9) else ([], n.enter 1)
def Nd.susp (n : Nd) (z : Int) : List Ev × Nd :=
  if z = 0 then ([], n.begin_ false) else ([], if tlN n.sl n.sn 1 = 8 then n.enter 1 else n.see 1)
def Nd.row0 (n : Nd) : Nd := { n with sl := 0, sn := 0, rows := n.rows + 1 }
def Nd.off (n : Nd) (z : Int) : List Ev × Nd :=
  if n.quiet z then (if n.rows + 1 < 128 then ([], n.row0) else ([ev 11], { n.enter 1 with ct := Ct.zero, tx := false }))
  else ([], n.see z)
/-- What a level does. -/
def Nd.stp (n : Nd) (z : Int) : List Ev × Nd :=
  if n.mode = 0 then n.join z else if n.mode = 1 then n.idle z else if n.mode = 2 then n.inF z else if n.mode = 3 then n.flag z
  else if n.mode = 4 then n.pflag z else if n.mode = 5 then n.flag z else if n.mode = 6 then n.wait z else if n.mode = 7 then n.close z
  else if n.mode = 8 then n.pause z else if n.mode = 9 then n.susp z else n.off z
end Go.Proofs.YtalpbnfebcafgaaGreat

