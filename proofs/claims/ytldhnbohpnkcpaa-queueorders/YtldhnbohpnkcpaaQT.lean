/- For the law QueueOwn: queues beside each other; rows of bools; the contract of has. -/
import Derived.Test.YtldhnbohpnkcpaaQS
namespace Go.Proofs.Ytldhnbohpnkcpaa
open Go.RowKit
set_option linter.unusedSimpArgs false

/-- Two queues, apart. -/
structure T2 (w0 w : World) (ga : Nat) (va : Value) (xs : List Fr) (gb : Nat) (vb : Value) (ys : List Fr) (m : Int) : Prop where
  a : Que w w0.heap.size ga va m xs
  b : Que w w0.heap.size gb vb m ys
  s : Sep va vb
  ne : ga ≠ gb
  bel : Below w0.heap.size w0 w
section
variable {w0 w w' : World} {ga gb gc : Nat} {va vb vc v' u : Value} {xs ys zs us ts : List Fr} {m : Int}
theorem T2.next (h : T2 w0 w ga va xs gb vb ys m) (hb : Below w.heap.size w w') : T2 w0 w' ga va xs gb vb ys m :=
  ⟨h.a.next hb, h.b.next hb, h.s, h.ne, nxt h.bel hb⟩
theorem T2.turna (h : T2 w0 w ga va xs gb vb ys m) (hq : Que w' w0.heap.size ga v' m ts) (ht : Turn ga va v' w w') : T2 w0 w' ga v' ts gb vb ys m := by
  obtain ⟨h1, h2⟩ := ht.other h.a h.b h.ne.symm h.s.symm
  exact ⟨hq, h1, h2.symm, h.ne, h.bel.trans (ht.que h.a h.bel.size)⟩
theorem T2.turnb (h : T2 w0 w ga va xs gb vb ys m) (hq : Que w' w0.heap.size gb v' m ts) (ht : Turn gb vb v' w w') : T2 w0 w' ga va xs gb v' ts m := by
  obtain ⟨h1, h2⟩ := ht.other h.b h.a h.ne h.s
  exact ⟨h1, hq, h2, h.ne, h.bel.trans (ht.que h.b h.bel.size)⟩
/-- .. and a third one, and a row. -/
structure T3 (w0 w : World) (ga : Nat) (va : Value) (xs : List Fr) (gb : Nat) (vb : Value) (ys : List Fr) (gc : Nat) (vc : Value) (zs : List Fr) (u : Value) (us : List Fr) (m : Int) : Prop where
  ab : T2 w0 w ga va xs gb vb ys m
  c : Que w w0.heap.size gc vc m zs
  ur : Fown w w0.heap.size u us
  sa : Sep va vc
  sb : Sep vb vc
  sc : Sep u vc
  na : ga ≠ gc
  nb : gb ≠ gc
theorem T3.next (h : T3 w0 w ga va xs gb vb ys gc vc zs u us m) (hb : Below w.heap.size w w') : T3 w0 w' ga va xs gb vb ys gc vc zs u us m :=
  ⟨h.ab.next hb, h.c.next hb, h.ur.below hb, h.sa, h.sb, h.sc, h.na, h.nb⟩
theorem T3.turnc (h : T3 w0 w ga va xs gb vb ys gc vc zs u us m) (hq : Que w' w0.heap.size gc v' m ts) (ht : Turn gc vc v' w w') : T3 w0 w' ga va xs gb vb ys gc v' ts u us m := by
  obtain ⟨h1, h2⟩ := ht.other h.c h.ab.a h.na h.sa
  obtain ⟨h3, h4⟩ := ht.other h.c h.ab.b h.nb h.sb
  obtain ⟨h5, h6⟩ := ht.row h.c.q h.ur h.sc
  exact ⟨⟨h1, h3, h.ab.s, h.ab.ne, h.ab.bel.trans (ht.que h.c h.ab.bel.size)⟩, hq, h5, h2, h4, h6, h.na, h.nb⟩
end

/-- Block g is just the bools bs. -/
def BArr (w : World) (g : Nat) (bs : List Bool) : Prop := w.heap[g]? = some (.cells (bs.map Value.bool).toArray 4 (0, 0))
section
variable {w w' : World} {g : Nat} {bs : List Bool}
theorem BArr.lt (h : BArr w g bs) : g < w.heap.size := (Array.getElem?_eq_some_iff.1 h).1
theorem BArr.cell (h : BArr w g bs) {i : Nat} {b : Bool} (hi : bs[i]? = some b) : w.cell? ⟨g, i, none⟩ = some (.bool b) := by
  rw [cell_of_row w g i _ 4 (0, 0) h]
  simp [hi]
theorem BArr.frozen (h : BArr w g bs) (i : Nat) : w.frozen? ⟨g, i, none⟩ = false := by
  unfold BArr at h
  simp [World.frozen?, h]
theorem BArr.put (h : BArr w g bs) (i : Nat) (b : Bool) : BArr (w.setCell ⟨g, i, none⟩ (.bool b)) g (bs.set i b) := by
  unfold BArr at h ⊢
  simp [World.setCell, Array.getElem?_modify, h, List.map_set]
theorem BArr.below {B : Nat} (h : BArr w g bs) (hb : Below B w w') (hg : g < B) : BArr w' g bs := (hb.block g hg).trans h
end
theorem info4 : ∃ i, Try.prog.info? 4 = some i ∧ i.zero = some (.bool false) ∧ i.size = 1 ∧ i.bytes = 1 := info_parts (by kernel_rfl)
theorem makeB (n : Nat) (hn : n ≤ 100000) (w : World) : (Instr.makeSlice 61 (.int .i64 (n : Int)) (.int .i64 (n : Int))).run Try.prog w =
    .ok (.slice (some ⟨w.heap.size, 0, none⟩) n n) (w.alloc (.cells (Array.replicate n (Value.bool false)) 4)) := by
  obtain ⟨i, hi, hz, hs, hb⟩ := info4
  have hr := run_make (P := Try.prog) w 61 4 i _ Try.underlying61 hi hz .i64 .i64 n n (by omega) (by omega) (by rw [hb]; omega) (by omega)
  have e : madeCells (Value.bool false).cells (n * i.size) = (Array.replicate n (Value.bool false)) := by
    rw [hs, Nat.mul_one]
    apply Array.toList_inj.1
    show (madeCells #[Value.bool false] n).toList = _
    rw [toList_madeCells_one]; simp
  simp only [Int.toNat_natCast] at hr
  rw [hr, e]
theorem barr_new (w : World) (n : Nat) : BArr (w.alloc (.cells (Array.replicate n (Value.bool false)) 4)) w.heap.size (List.replicate n false) := by
  unfold BArr
  rw [heap_alloc_new]
  simp

/-- How many of xs that are used are x. -/
def us9 (xs : Nat → Fr) (bs : List Bool) (x : Fr) : Nat := (List.range bs.length).countP fun k => bs.getD k false && x.same (xs k)
/-- Just as many are used as there are ahead. -/
def Used (xs : Nat → Fr) (bs : List Bool) (ys : List Fr) (i : Nat) : Prop := ∀ x : Fr, us9 xs bs x = (ys.take i).countP x.same
theorem used_zero (xs : Nat → Fr) (n : Nat) (ys : List Fr) : Used xs (List.replicate n false) ys 0 := by
  intro x
  unfold us9
  rw [List.take_zero, List.countP_nil, List.countP_eq_zero]
  intro k _
  have : (List.replicate n false).getD k false = false := by
    rw [List.getD, List.getElem?_replicate]; split <;> rfl
  rw [this]; simp
theorem same_alike {x y z : Fr} (h : y.same z = true) : x.same y = x.same z := by
  cases h1 : x.same y
  · cases h2 : x.same z
    · rfl
    · rw [same_trans h2 (same_symm h)] at h1; cases h1
  · exact (same_trans h1 h).symm
theorem cu_set (xs : Nat → Fr) (bs : List Bool) (k : Nat) (x : Fr) (hk : k < bs.length) (hb : bs.getD k false = false) : ∀ n, (List.range n).countP (fun j => (bs.set k true).getD j false && x.same (xs j)) = (List.range n).countP (fun j => bs.getD j false && x.same (xs j)) + if k < n ∧ x.same (xs k) = true then 1 else 0 := by
  intro n
  induction n with
  | zero => simp
  | succ n ih =>
    rw [List.range_succ, List.countP_append, List.countP_append, ih]
    by_cases e : k = n
    · subst e
      have e1 : (bs.set k true).getD k false = true := by simp [List.getD, hk]
      rw [if_neg (by omega)]
      simp only [List.countP_singleton, e1, hb, Bool.true_and, Bool.false_and, Nat.add_zero]
      cases hx : x.same (xs k) <;> simp
    · have e1 : (bs.set k true).getD n false = bs.getD n false := by simp [List.getD, List.getElem?_set, e]
      simp only [List.countP_singleton, e1]
      by_cases hc : k < n ∧ x.same (xs k) = true
      · have h2 : k < n + 1 ∧ x.same (xs k) = true := ⟨by omega, hc.2⟩
        rw [if_pos hc, if_pos h2]; omega
      · have h2 : ¬ (k < n + 1 ∧ x.same (xs k) = true) := fun h => hc ⟨by omega, h.2⟩
        rw [if_neg hc, if_neg h2]; omega
theorem used_set {xs : Nat → Fr} {bs : List Bool} {ys : List Fr} {i k : Nat} (h : Used xs bs ys i) (hk : k < bs.length) (hb : bs.getD k false = false) (hi : i < ys.length) (hs : (ys.getD i Fr.zero).same (xs k) = true) : Used xs (bs.set k true) ys (i + 1) := by
  intro x
  have h1 := cu_set xs bs k x hk hb bs.length
  unfold us9
  rw [List.length_set, h1, take_one hi, List.countP_append, List.countP_singleton, same_alike hs]
  have h2 := h x
  unfold us9 at h2
  rw [h2]
  cases hx : x.same (xs k) <;> simp [hk]
theorem range_count (xs : List Fr) (y : Fr) : (List.range xs.length).countP (fun k => y.same (xs.getD k Fr.zero)) = xs.countP y.same := by
  have e : xs = (List.range xs.length).map fun k => xs.getD k Fr.zero := by
    apply List.ext_getElem
    · simp
    · intro j h1 h2; simp at h2; simp [h2]
  conv => rhs; rw [e]
  rw [List.countP_map]; rfl
theorem used_more {xs ys : List Fr} {bs : List Bool} {i : Nat} (h : Used (fun k => xs.getD k Fr.zero) bs ys i) (hl : bs.length = xs.length) (hi : i < ys.length) (hc : ys.countP (ys.getD i Fr.zero).same ≤ xs.countP (ys.getD i Fr.zero).same)
    (hno : ∀ j, j < bs.length → ¬ (bs.getD j false = false ∧ (ys.getD i Fr.zero).same (xs.getD j Fr.zero) = true)) : False := by
  have h1 := h (ys.getD i Fr.zero)
  have h2 : us9 (fun k => xs.getD k Fr.zero) bs (ys.getD i Fr.zero) = xs.countP (ys.getD i Fr.zero).same := by
    rw [← range_count, ← hl]
    unfold us9
    apply List.countP_congr
    intro j hj
    have hj' := List.mem_range.1 hj
    cases hb : bs.getD j false
    · have := hno j hj'
      simp only [Bool.false_and]
      constructor
      · intro hf; cases hf
      · intro hf; exact absurd ⟨hb, hf⟩ this
    · simp
  have h3 : (ys.take (i + 1)).countP (ys.getD i Fr.zero).same = (ys.take i).countP (ys.getD i Fr.zero).same + 1 := by
    rw [take_one hi, List.countP_append, List.countP_singleton, same_refl]; rfl
  have h4 : (ys.take (i + 1)).countP (ys.getD i Fr.zero).same ≤ ys.countP (ys.getD i Fr.zero).same := (List.take_sublist _ _).countP_le
  omega

set_option maxHeartbeats 3200000 in
set_option maxRecDepth 100000 in
theorem has_yes {w : World} {B B' : Nat} {u u' : Value} {xs ys : List Fr} (h : Fown w B u xs) (h' : Fown w B' u' ys) (hx : xs.length ≤ 1000) (hy : ys.length ≤ 1000) (hc : ∀ x : Fr, ys.countP x.same ≤ xs.countP x.same) :
    Calls Try.prog 24 #[u, u'] w fun e w' => e = .returned (.bool true) ∧ Below w.heap.size w w' := by
  obtain ⟨A, c, rfl, hf, _⟩ := h.fl
  obtain ⟨A', c', rfl, hf', _⟩ := h'.fl
  have HX := Lib.hid hf; have HY := Lib.hid hf'; have HC := Lib.hid hc; have HXL := Lib.hid hx; have HYL := Lib.hid hy
  have hmk := makeB xs.length (by omega)
  have HN := Lib.hid (barr_new w xs.length)
  have HB := Lib.hid (show Below w.heap.size w (w.alloc (.cells (Array.replicate xs.length (Value.bool false)) 4)) from (Below.refl _ _).alloc (Nat.le_refl _) _)
  obtain ⟨nx, hnx⟩ : ∃ nx, xs.length = nx := ⟨_, rfl⟩
  obtain ⟨ny, hny⟩ : ∃ ny, ys.length = ny := ⟨_, rfl⟩
  have HNX := Lib.hid hnx; have HNY := Lib.hid hny
  rw [hnx] at hmk HN HB HX hx ⊢
  rw [hny] at HY hy ⊢
  clear h h' hf hf' hc hnx hny
  generalize Array.replicate nx (Value.bool false) = CS at *
  go_enter Try.func24, Try.ntmps24
  go_wp2
  go_loopw [6] (fun vi wr => ∃ (i : Nat) (bs : List Bool), i ≤ ny ∧ vi = .int .i64 i ∧ bs.length = nx ∧ BArr wr w.heap.size bs ∧ Used (fun k => xs.getD k Fr.zero) bs ys i ∧ Below w.heap.size w wr) (fun vi _ => ny - (intOf vi).toNat)
  case atStart => exact ⟨0, _, Nat.zero_le _, rfl, by simp, HN.out, used_zero _ _ _, HB.out⟩
  case round =>
    clear HN HB hmk
    obtain ⟨i, bs, hi, rfl, hbl, hba, hus, hb⟩ := hrel
    have HBA := Lib.hid hba; have HUS := Lib.hid hus; have HB := Lib.hid hb; have HBL := Lib.hid hbl
    clear hba hus hb hbl
    by_cases hlt : i < ny
    · have hlt' : (i : Int) < (ny : Int) := by omega
      have HLT := Lib.hid (show i < ys.length by rw [HNY.out]; exact hlt)
      obtain ⟨y, hyy⟩ : ∃ y, ys.getD i Fr.zero = y := ⟨_, rfl⟩
      have HYY := Lib.hid hyy
      obtain ⟨bd, rfl, -, -⟩ := HY.out.at_ hlt
      clear hyy
      rename World => wo
      go_wp2
      go_loopw [7, 8] (fun vt vk wx => ∃ (t : Bool) (k : Nat) (cs : List Bool), k ≤ nx ∧ vt = .bool t ∧ vk = .int .i64 k ∧ cs.length = nx ∧ BArr wx w.heap.size cs ∧ Below w.heap.size w wx ∧ (t = false → cs = bs ∧ ∀ j, j < k → ¬ (bs.getD j false = false ∧ y.same (xs.getD j Fr.zero) = true)) ∧ (t = true → Used (fun k => xs.getD k Fr.zero) cs ys (i + 1))) (fun _ vk _ => nx - (intOf vk).toNat)
      case atStart => exact ⟨false, 0, bs, Nat.zero_le _, rfl, rfl, HBL.out, HBA.out, HB.out, fun _ => ⟨rfl, fun j hj => by omega⟩, fun h => by cases h⟩
      case round =>
        obtain ⟨t, k, cs, hk, rfl, rfl, hcl, hca, hcb, hf, ht⟩ := hrel
        have HCA := Lib.hid hca; have HCB := Lib.hid hcb; have HF := Lib.hid hf; have HT := Lib.hid ht; have HCL := Lib.hid hcl
        clear hca hcb hf ht hcl HB HBA
        by_cases hkl : k < nx
        · have hkl' : (k : Int) < (nx : Int) := by omega
          cases t
          · obtain ⟨rfl, hno⟩ := HF.out rfl
            have HNO := Lib.hid hno
            obtain ⟨x, hxx⟩ : ∃ x, xs.getD k Fr.zero = x := ⟨_, rfl⟩
            have HXX := Lib.hid hxx
            obtain ⟨ad, rfl, -, -⟩ := HX.out.at_ hkl
            obtain ⟨d0, d1, d2, d3, d4, d5, d6, d7, d8, d9, d10, d11⟩ := (HX.out.below HCB.out).el hkl hxx
            obtain ⟨c0, c1, c2, c3, c4, c5, c6, c7, c8, c9, c10, c11⟩ := (HY.out.below HCB.out).el hlt HYY.out
            have hfe := fun W => feq x y W
            obtain ⟨b0, hb0⟩ : ∃ b, cs[k]? = some b := ⟨cs[k]'(by rw [HCL.out]; exact hkl), List.getElem?_eq_getElem _⟩
            have HB0 := Lib.hid (show cs.getD k false = b0 by simp [List.getD, hb0])
            have q0 := HCA.out.cell hb0
            have q1 := HCA.out.frozen k
            clear hno hxx hb0
            cases b0
            · cases hs : x.same y
              · have HS := Lib.hid (show y.same (xs.getD k Fr.zero) = false from by rw [HXX.out, same_comm]; exact hs)
                rw [hs] at hfe
                clear hs
                go_wp2
                go_quiet (fail)
                go_wp2
                go_roundw
                case rel => exact ⟨false, k + 1, cs, by omega, rfl, by go_num, HCL.out, HCA.out, belowN HCB.out _, fun _ => ⟨rfl, fun j hj => by
                  rcases Nat.lt_or_ge j k with h | h
                  · exact HNO.out j h
                  · rw [show j = k by omega]; intro h2; rw [HS.out] at h2; cases h2.2⟩, fun h => by cases h⟩
                case measure => simp [intOf]; omega
              · have HS := Lib.hid (show y.same (xs.getD k Fr.zero) = true from by rw [HXX.out, same_comm]; exact hs)
                rw [hs] at hfe
                clear hs
                go_wp2
                go_quiet (fail)
                go_wp2
                go_roundw
                case rel => exact ⟨true, k + 1, cs.set k true, by omega, rfl, by go_num, by rw [List.length_set]; exact HCL.out, HCA.out.put k true, (belowN HCB.out _).setCell (Nat.le_refl _) _, fun h => (by cases h), fun _ => used_set HUS.out (by rw [HCL.out]; exact hkl) HB0.out HLT.out (by rw [HYY.out]; exact HS.out)⟩
                case measure => simp [intOf]; omega
            · go_wp2
              go_quiet (fail)
              go_wp2
              go_roundw
              case rel => exact ⟨false, k + 1, cs, by omega, rfl, by go_num, HCL.out, HCA.out, belowN HCB.out _, fun _ => ⟨rfl, fun j hj => by
                rcases Nat.lt_or_ge j k with h | h
                · exact HNO.out j h
                · rw [show j = k by omega]; intro h2; rw [HB0.out] at h2; cases h2.1⟩, fun h => by cases h⟩
              case measure => simp [intOf]; omega
          · go_wp2
            go_roundw
            case rel => exact ⟨i + 1, cs, by omega, by go_num, HCL.out, HCA.out, HT.out rfl, HCB.out⟩
            case measure => simp [intOf]; omega
        · cases t
          · exfalso
            obtain ⟨rfl, hno⟩ := HF.out rfl
            exact used_more HUS.out (by rw [HCL.out, HNX.out]) HLT.out (HC.out _) (by rw [HCL.out, HYY.out]; exact fun j hj => hno j (by omega))
          · go_wp2
            go_roundw
            case rel => exact ⟨i + 1, cs, by omega, by go_num, HCL.out, HCA.out, HT.out rfl, HCB.out⟩
            case measure => simp [intOf]; omega
    · go_wp2
      go_ret
      exact ⟨rfl, HB.out⟩
end Go.Proofs.Ytldhnbohpnkcpaa
