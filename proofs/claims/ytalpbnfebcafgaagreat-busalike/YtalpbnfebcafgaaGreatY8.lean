/- The contract of Check; how rows of acts are read. -/
import Derived.Test.YtalpbnfebcafgaaGreatY7
import Derived.Test.YtalpbnfebcafgaaGreatY6
namespace Go.Proofs.YtalpbnfebcafgaaGreat
set_option maxRecDepth 20000
open Go.RowKit
set_option linter.unusedSimpArgs false

/-- An act lies at p. -/
def Acx (w : World) (p : Addr) (a : Ac) : Prop := w.cell? p = some (.int .i64 a.t) ∧ w.cell? ⟨p.block, p.off + 1, none⟩ = some (.int .i64 a.n) ∧ w.cell? ⟨p.block, p.off + 2, none⟩ = some (.bool a.ft) ∧ w.cell? ⟨p.block, p.off + 3, none⟩ = some (.int .i64 a.f.id) ∧ w.cell? ⟨p.block, p.off + 4, none⟩ = some (.bool a.f.ext) ∧ w.cell? ⟨p.block, p.off + 5, none⟩ = some (.bool a.f.rtr) ∧ w.cell? ⟨p.block, p.off + 6, none⟩ = some (.int .i64 a.f.len) ∧ w.cell? ⟨p.block, p.off + 7, none⟩ = some (.int .u8 (a.f.d 0)) ∧ w.cell? ⟨p.block, p.off + 8, none⟩ = some (.int .u8 (a.f.d 1)) ∧ w.cell? ⟨p.block, p.off + 9, none⟩ = some (.int .u8 (a.f.d 2)) ∧ w.cell? ⟨p.block, p.off + 10, none⟩ = some (.int .u8 (a.f.d 3)) ∧ w.cell? ⟨p.block, p.off + 11, none⟩ = some (.int .u8 (a.f.d 4)) ∧ w.cell? ⟨p.block, p.off + 12, none⟩ = some (.int .u8 (a.f.d 5)) ∧ w.cell? ⟨p.block, p.off + 13, none⟩ = some (.int .u8 (a.f.d 6)) ∧ w.cell? ⟨p.block, p.off + 14, none⟩ = some (.int .u8 (a.f.d 7))
theorem Gs.ac {w : World} {A : Option Addr} {m j : Nat} {l : List Ac} {a : Ac} (h : Gs acT w A m l) (hj : l[j]? = some a) : ∃ ad, A = some ad ∧ ad.block < w.heap.size ∧ Acx w (ad.add (j * 15)) a := by
  obtain ⟨ad, h1, hl, h0⟩ := h.at_ hj
  have g : ∀ c v, 0 < c → (accs a)[c]? = some v → w.cell? ⟨(ad.add (j * 15)).block, (ad.add (j * 15)).off + c, none⟩ = some v := fun c v hc hv => by
    rw [← add_pos _ hc]; exact h0 c v hv
  exact ⟨ad, h1, hl, h0 0 _ rfl, g 1 _ (by omega) rfl, g 2 _ (by omega) rfl, g 3 _ (by omega) rfl, g 4 _ (by omega) rfl, g 5 _ (by omega) rfl, g 6 _ (by omega) rfl, g 7 _ (by omega) rfl, g 8 _ (by omega) rfl, g 9 _ (by omega) rfl, g 10 _ (by omega) rfl, g 11 _ (by omega) rfl, g 12 _ (by omega) rfl, g 13 _ (by omega) rfl, g 14 _ (by omega) rfl⟩
/-- How an act is wrong. -/
def Ac.off (n : Int) (a : Ac) : Bool := decide (a.t < 0) || !(decide (0 ≤ a.n) && decide (a.n < n))
def chkA (n : Int) : List Ac → Int
  | [] => 0
  | a :: l => if a.off n then 10 else if a.ft = false ∧ a.f.may = false then 14 else chkA n l
/-- What Check answers. -/
def chk11 (n : Int) (l : List Ac) : Int := if 1 ≤ n ∧ n ≤ 32 then chkA n l else 10
theorem chkA_ok {n : Int} : ∀ {l : List Ac}, chkA n l = 0 ↔ ∀ a ∈ l, 0 ≤ a.t ∧ 0 ≤ a.n ∧ a.n < n ∧ (a.ft = false → a.f.may = true)
  | [] => by simp [chkA]
  | a :: l => by
    have ih := chkA_ok (n := n) (l := l)
    unfold chkA Ac.off
    by_cases h1 : a.t < 0
    · simp [h1]; intro h; omega
    · by_cases h2 : 0 ≤ a.n ∧ a.n < n
      · have e : (decide (a.t < 0) || !(decide (0 ≤ a.n) && decide (a.n < n))) = false := by simp [h1, h2.1, h2.2]
        rw [e, if_neg (by decide)]
        by_cases h3 : a.ft = false ∧ a.f.may = false
        · rw [if_pos h3]
          constructor
          · intro h; cases h
          · intro h
            have := (h a (by simp)).2.2.2 h3.1
            rw [h3.2] at this; cases this
        · rw [if_neg h3, ih]
          constructor
          · intro h x hx
            rcases List.mem_cons.1 hx with rfl | hx
            · refine ⟨by omega, h2.1, h2.2, fun hf => ?_⟩
              cases hm : x.f.may
              · exact absurd ⟨hf, hm⟩ h3
              · rfl
            · exact h x hx
          · intro h x hx
            exact h x (List.mem_cons_of_mem _ hx)
      · have e : (decide (a.t < 0) || !(decide (0 ≤ a.n) && decide (a.n < n))) = true := by
          simp only [Bool.or_eq_true, Bool.not_eq_true', Bool.and_eq_false_iff, decide_eq_false_iff_not, decide_eq_true_eq]
          omega
        rw [e, if_pos rfl]
        constructor
        · intro h; cases h
        · intro h
          have := h a (by simp)
          exact absurd ⟨this.2.1, this.2.2.1⟩ h2
theorem check_off (n : Int) (v : Value) (hn : ¬ (1 ≤ n ∧ n ≤ 32)) (w : World) (hv : ∃ A m c, v = .slice A m c) : Calls Tryz.prog 18 #[.int .i64 n, v] w fun e w' => e = .returned (.int .i64 10) ∧ w = w' := by
  obtain ⟨A, m, c, rfl⟩ := hv
  have hm := mayBe11 n w
  rw [show (decide (1 ≤ n) && decide (n ≤ 32)) = false by simpa using fun h => by omega] at hm
  go_enter Tryz.func18, Tryz.ntmps18
  go_wp2_with fail
  refine hm.mono ?_
  rintro e w1 ⟨rfl, rfl⟩
  go_wp2
  go_ret
  exact ⟨rfl, rfl⟩
set_option maxHeartbeats 3200000 in
theorem check11 {w : World} {A : Option Addr} {m c : Nat} {l : List Ac} (h : Gs acT w A m l) (n : Int) (hn : 1 ≤ n ∧ n ≤ 32) (hm : m ≤ 1000000) :
    Calls Tryz.prog 18 #[.int .i64 n, .slice A m c] w fun e w' => e = .returned (.int .i64 (chkA n l)) ∧ Below w.heap.size w w' := by
  have hmay := mayBe11 n w
  rw [show (decide (1 ≤ n) && decide (n ≤ 32)) = true by simp [hn.1, hn.2]] at hmay
  have HG := Lib.hid h
  have hone := fun (i : Int) (W : World) => isOne11 i n W
  clear h hn
  go_enter Tryz.func18, Tryz.ntmps18
  go_wp2_with fail
  refine hmay.mono ?_
  rintro e w1 ⟨rfl, rfl⟩
  go_wp2
  go_loopw [12] (fun i wr => ∃ k : Nat, k ≤ m ∧ i = .int .i64 k ∧ chkA n l = chkA n (l.drop k) ∧ Below w.heap.size w wr) (fun i _ => m - (intOf i).toNat)
  case atStart => exact ⟨0, Nat.zero_le _, rfl, rfl, Below.refl _ _⟩
  case round =>
    obtain ⟨k, hk, rfl, hch, hb⟩ := hrel
    have HB := Lib.hid hb
    by_cases hlt : k < m
    · have hlt' : (k : Int) < (m : Int) := by omega
      have hkl : k < l.length := by rw [HG.out.1]; exact hlt
      obtain ⟨a, ha⟩ : ∃ a, l[k] = a := ⟨_, rfl⟩
      have hla : l[k]? = some a := by rw [List.getElem?_eq_getElem hkl, ha]
      rw [List.drop_eq_getElem_cons hkl, ha] at hch
      obtain ⟨ad, rfl, hal, c0, c1, c2, c3, c4, c5, c6, c7, c8, c9, c10, c11, c12, c13, c14⟩ := (HG.out.below hb).ac hla
      have HCH := Lib.hid hch
      have HA := Lib.hid (hb.alloc hb.size (.cells (accs a).toArray 35))
      have hfc := fun W => fcheck_any a.f W
      obtain ⟨at_, an, aft, af⟩ := a
      simp only at *
      clear hla ha hch hb
      by_cases h1 : at_ < 0
      · have h1' : decide (at_ < 0) = true := decide_eq_true h1
        go_wp2
        go_ret
        exact ⟨by rw [HCH.out]; unfold chkA Ac.off; simp [h1], HA.out⟩
      · have h1' : decide (at_ < 0) = false := decide_eq_false h1
        have hon := fun W => hone an W
        cases hoo : (decide (0 ≤ an) && decide (an < n))
        · rw [hoo] at hon
          go_wp2_with fail
          refine (hon _).mono ?_
          rintro e w2 ⟨rfl, rfl⟩
          go_wp2
          go_ret
          exact ⟨by rw [HCH.out]; unfold chkA Ac.off; simp only; rw [hoo, h1']; rfl, HA.out⟩
        · rw [hoo] at hon
          have hoff : Ac.off n ⟨at_, an, aft, af⟩ = false := by unfold Ac.off; simp only; rw [hoo, h1']; rfl
          cases aft
          · cases hmy : af.may
            · rw [show af.err = 14 from by unfold Fr.err; rw [hmy]; rfl] at hfc
              go_wp2_with fail
              refine (hon _).mono ?_
              rintro e w2 ⟨rfl, rfl⟩
              go_wp2_with fail
              refine (hfc _).mono ?_
              rintro e w3 ⟨rfl, hb3⟩
              have HB3 := Lib.hid (nxt HA.out hb3)
              clear hb3
              go_wp2
              go_ret
              exact ⟨by rw [HCH.out]; unfold chkA; rw [hoff, if_neg (by decide), if_pos ⟨rfl, hmy⟩]; rfl, HB3.out⟩
            · rw [show af.err = 0 from by unfold Fr.err; rw [hmy]; rfl] at hfc
              go_wp2_with fail
              refine (hon _).mono ?_
              rintro e w2 ⟨rfl, rfl⟩
              go_wp2_with fail
              refine (hfc _).mono ?_
              rintro e w3 ⟨rfl, hb3⟩
              have HB3 := Lib.hid (nxt HA.out hb3)
              clear hb3
              go_wp2
              go_roundw
              case rel => exact ⟨k + 1, by omega, by go_num, by rw [HCH.out]; conv => lhs; unfold chkA; rw [hoff, if_neg (by decide), if_neg (fun h => by rw [hmy] at h; cases h.2)], HB3.out⟩
              case measure => simp [intOf]; omega
          · go_wp2_with fail
            refine (hon _).mono ?_
            rintro e w2 ⟨rfl, rfl⟩
            go_wp2
            go_roundw
            case rel => exact ⟨k + 1, by omega, by go_num, by rw [HCH.out]; conv => lhs; unfold chkA; rw [hoff, if_neg (by decide), if_neg (fun h => by cases h.1)], HA.out⟩
            case measure => simp [intOf]; omega
    · have hlt' : ¬ (k : Int) < (m : Int) := by omega
      have : k = m := by omega
      subst this
      rw [List.drop_of_length_le (by rw [HG.out.1]; exact Nat.le_refl _)] at hch
      have HCH := Lib.hid hch
      clear hch hb
      go_wp2
      go_ret
      exact ⟨by rw [HCH.out]; rfl, HB.out⟩
end Go.Proofs.YtalpbnfebcafgaaGreat

/- The contract of byTick. -/
namespace Go.Proofs.YtalpbnfebcafgaaGreat
set_option maxRecDepth 20000
open Go.RowKit
set_option linter.unusedSimpArgs false

theorem abx_cells {w : World} {g : Nat} {a : Ac} (h : w.heap[g]? = some (.cells (accs a).toArray 35)) : w.cell? ⟨g, 0, none⟩ = some (.int .i64 a.t) ∧ w.cell? ⟨g, 1, none⟩ = some (.int .i64 a.n) ∧ w.cell? ⟨g, 2, none⟩ = some (.bool a.ft) ∧ w.cell? ⟨g, 3, none⟩ = some (.int .i64 a.f.id) ∧ w.cell? ⟨g, 4, none⟩ = some (.bool a.f.ext) ∧ w.cell? ⟨g, 5, none⟩ = some (.bool a.f.rtr) ∧ w.cell? ⟨g, 6, none⟩ = some (.int .i64 a.f.len) ∧ w.cell? ⟨g, 7, none⟩ = some (.int .u8 (a.f.d 0)) ∧ w.cell? ⟨g, 8, none⟩ = some (.int .u8 (a.f.d 1)) ∧ w.cell? ⟨g, 9, none⟩ = some (.int .u8 (a.f.d 2)) ∧ w.cell? ⟨g, 10, none⟩ = some (.int .u8 (a.f.d 3)) ∧ w.cell? ⟨g, 11, none⟩ = some (.int .u8 (a.f.d 4)) ∧ w.cell? ⟨g, 12, none⟩ = some (.int .u8 (a.f.d 5)) ∧ w.cell? ⟨g, 13, none⟩ = some (.int .u8 (a.f.d 6)) ∧ w.cell? ⟨g, 14, none⟩ = some (.int .u8 (a.f.d 7)) :=
  ⟨cell_of_row w g 0 _ _ (0, 0) h, cell_of_row w g 1 _ _ (0, 0) h, cell_of_row w g 2 _ _ (0, 0) h, cell_of_row w g 3 _ _ (0, 0) h, cell_of_row w g 4 _ _ (0, 0) h, cell_of_row w g 5 _ _ (0, 0) h, cell_of_row w g 6 _ _ (0, 0) h, cell_of_row w g 7 _ _ (0, 0) h, cell_of_row w g 8 _ _ (0, 0) h, cell_of_row w g 9 _ _ (0, 0) h, cell_of_row w g 10 _ _ (0, 0) h, cell_of_row w g 11 _ _ (0, 0) h, cell_of_row w g 12 _ _ (0, 0) h, cell_of_row w g 13 _ _ (0, 0) h, cell_of_row w g 14 _ _ (0, 0) h⟩
theorem Amp.made (w : World) : Amp (w.alloc (.map #[] 0)) w.heap.size w.heap.size [] (fun _ => .slice none 0 0) :=
  ⟨Mp.made w, fun t => Gown.nil _ _ _, fun s t k _ h => (by cases h), Nat.le_refl _⟩
set_option maxHeartbeats 6400000 in
set_option maxRecDepth 100000 in
theorem byTick_any {w : World} {A : Option Addr} {m c : Nat} {l : List Ac} (h : Gs acT w A m l) (hm : m ≤ 1000) (hwf : ∀ a ∈ l, (Lit.int .i64 a.t).wf = true) :
    Calls Tryz.prog 29 #[.slice A m c] w fun e w' => ∃ g f, e = .returned (.map (some g)) ∧ Amp w' w.heap.size g l f ∧ Below w.heap.size w w' := by
  have hmm := @run_makeMap Tryz.prog
  have HG := Lib.hid h
  have HWF := Lib.hid hwf
  have HA0 := Lib.hid (Amp.made w)
  have HB0 := Lib.hid ((Below.refl w.heap.size w).alloc (Nat.le_refl _) (.map #[] 0))
  clear h hwf
  go_enter Tryz.func29, Tryz.ntmps29
  go_wp2
  go_loopw [9] (fun i wr => ∃ (k : Nat) (f : Int → Value), k ≤ m ∧ i = .int .i64 k ∧ Amp wr w.heap.size w.heap.size (l.take k) f ∧ Below w.heap.size w wr) (fun i _ => m - (intOf i).toNat)
  case atStart => exact ⟨0, _, Nat.zero_le _, rfl, HA0.out, HB0.out⟩
  case round =>
    obtain ⟨k, f, hk, rfl, hamp, hb⟩ := hrel
    have HB := Lib.hid hb
    have HAMP := Lib.hid hamp
    by_cases hlt : k < m
    · have hlt' : (k : Int) < (m : Int) := by omega
      have hkl : k < l.length := by rw [HG.out.1]; exact hlt
      obtain ⟨a, ha⟩ : ∃ a, l[k] = a := ⟨_, rfl⟩
      have hla : l[k]? = some a := by rw [List.getElem?_eq_getElem hkl, ha]
      have hwa := HWF.out a (List.mem_of_getElem? hla)
      obtain ⟨ad, rfl, hal, c0, c1, c2, c3, c4, c5, c6, c7, c8, c9, c10, c11, c12, c13, c14⟩ := (HG.out.below hb).ac hla
      have HTK := Lib.hid (show l.take (k + 1) = l.take k ++ [a] by rw [List.take_add_one, hla]; rfl)
      obtain ⟨at_, an, aft, af⟩ := a
      simp only at *
      obtain ⟨Af, cf, hft, -⟩ := (hamp.own at_).len
      obtain ⟨nf, hnf⟩ : ∃ nf, (atI (l.take k) at_).length = nf := ⟨_, rfl⟩
      rw [hnf] at hft
      have hnfl : nf ≤ 1000 := by
        rw [← hnf]
        have h1 := List.length_filter_le (fun x : Ac => x.t == at_) (l.take k)
        rw [List.length_take] at h1
        unfold atI
        omega
      have HBXV := Lib.hid (show ((wr.alloc (.cells (accs ⟨at_, an, aft, af⟩).toArray 35)).drew).heap[wr.heap.size]? = some (.cells (accs ⟨at_, an, aft, af⟩).toArray 35) from heap_alloc_new wr _)
      have HBW1 := Lib.hid (show Below wr.heap.size wr ((wr.alloc (.cells (accs ⟨at_, an, aft, af⟩).toArray 35)).drew) from below_drew ((Below.refl _ _).alloc (Nat.le_refl _) _))
      have HBW2 := Lib.hid (show Below wr.heap.size wr (((wr.alloc (.cells (accs ⟨at_, an, aft, af⟩).toArray 35)).alloc (.cells (accs ⟨at_, an, aft, af⟩).toArray 35)).drew) from below_drew (alloc2 wr _ _))
      have HB2 := Lib.hid (show Below w.heap.size w (((wr.alloc (.cells (accs ⟨at_, an, aft, af⟩).toArray 35)).alloc (.cells (accs ⟨at_, an, aft, af⟩).toArray 35)).drew) from nxt hb HBW2.out)
      have HS2 := Lib.hid (show (((wr.alloc (.cells (accs ⟨at_, an, aft, af⟩).toArray 35)).alloc (.cells (accs ⟨at_, an, aft, af⟩).toArray 35)).drew).heap[wr.heap.size]? = some (.cells (accs ⟨at_, an, aft, af⟩).toArray 35) from (heap_alloc_old (wr.alloc (.cells (accs ⟨at_, an, aft, af⟩).toArray 35)) (.cells (accs ⟨at_, an, aft, af⟩).toArray 35) (r := wr.heap.size) (typed_lt HBXV.out)).trans HBXV.out)
      have HROW := Lib.hid (show Gown acT (((wr.alloc (.cells (accs ⟨at_, an, aft, af⟩).toArray 35)).alloc (.cells (accs ⟨at_, an, aft, af⟩).toArray 35)).drew) w.heap.size (.slice Af nf cf) (atI (l.take k) at_) from by have h := (hamp.below HBW2.out).own at_; rw [hft] at h; exact h)
      have HLIT := Lib.hid (show Gs acT (((wr.alloc (.cells (accs ⟨at_, an, aft, af⟩).toArray 35)).alloc (.cells (accs ⟨at_, an, aft, af⟩).toArray 35)).drew) (some ⟨wr.heap.size + 1, 0, none⟩) 1 [⟨at_, an, aft, af⟩] from by have h2 := Gown.lit1 acT (wr.alloc (.cells (accs ⟨at_, an, aft, af⟩).toArray 35)) ⟨at_, an, aft, af⟩; rw [show (wr.alloc (.cells (accs ⟨at_, an, aft, af⟩).toArray 35)).heap.size = wr.heap.size + 1 from by simp] at h2; exact h2)
      have HLEN := Lib.hid (show (atI (l.take k) at_).length + 1 ≤ 1000000 by rw [hnf]; omega)
      have HSZ := Lib.hid (show w.heap.size ≤ (((wr.alloc (.cells (accs ⟨at_, an, aft, af⟩).toArray 35)).alloc (.cells (accs ⟨at_, an, aft, af⟩).toArray 35)).drew).heap.size from HB2.out.size)
      have HFL := Lib.hid (show ∀ j, (Value.slice Af nf cf).ownBlock = some j → j < wr.heap.size from fun j hj => by have h := (World.ownsRow.lt (hamp.own at_) j (by rw [hft]; exact hj)).2; exact h)
      have HGL := Lib.hid hamp.mp.lt
      have hk1 : (l.take k).length < 1000000 := by rw [List.length_take]; omega
      have HNX := Lib.hid (fun (u : Value) (w5 : World) (g5 : (((wr.alloc (.cells (accs ⟨at_, an, aft, af⟩).toArray 35)).alloc (.cells (accs ⟨at_, an, aft, af⟩).toArray 35)).drew).grownBy w5 (Value.slice Af nf cf).ownBlock) (l5 : Lies (((wr.alloc (.cells (accs ⟨at_, an, aft, af⟩).toArray 35)).alloc (.cells (accs ⟨at_, an, aft, af⟩).toArray 35)).drew) (Value.slice Af nf cf) u) (h5 : Gown acT w5 w.heap.size u (atI (l.take k) at_ ++ [⟨at_, an, aft, af⟩])) =>
        hamp.next (a := ⟨at_, an, aft, af⟩) hk1 hwa HBW2.out (by rw [hft]; exact g5) (by rw [hft]; exact l5) h5)
      have look1 : (Instr.lookup 77 (.map (some w.heap.size)) (.int .i64 at_) false).run Tryz.prog ((wr.alloc (.cells (accs ⟨at_, an, aft, af⟩).toArray 35)).drew) = .ok (.slice Af nf cf) ((wr.alloc (.cells (accs ⟨at_, an, aft, af⟩).toArray 35)).drew) := by rw [← hft]; exact (hamp.below HBW1.out).mp.look hwa
      have look2 : (Instr.lookup 77 (.map (some w.heap.size)) (.int .i64 at_) false).run Tryz.prog (((wr.alloc (.cells (accs ⟨at_, an, aft, af⟩).toArray 35)).alloc (.cells (accs ⟨at_, an, aft, af⟩).toArray 35)).drew) = .ok (.slice Af nf cf) (((wr.alloc (.cells (accs ⟨at_, an, aft, af⟩).toArray 35)).alloc (.cells (accs ⟨at_, an, aft, af⟩).toArray 35)).drew) := by rw [← hft]; exact (hamp.below HBW2.out).mp.look hwa
      clear hamp hb hla ha hnf hft
      go_wp2_with fail
      refine wp_region_held_drew (S := fun w' => w'.heap[wr.heap.size]? = some (.cells (accs ⟨at_, an, aft, af⟩).toArray 35)) (by kernel_rfl) (HBXV.out) (fun hHeld => ?_)
      refine takeH (i := 0) (v := .map (some w.heap.size)) rfl (by kernel_rfl) (by kernel_rfl) (by kernel_rfl) (fun _ _ _ h => h) (Or.inl ⟨by rfl, fun w' hSw => ?_⟩) hHeld ?_
      · (clear hSw; go_simp)
      simp only [Act.put, List.setIfInBounds_toArray, List.set_cons_zero, List.set_cons_succ]
      refine takeH (i := 1) (v := .pointer (some ⟨wr.heap.size, 0, none⟩)) rfl (by kernel_rfl) (by kernel_rfl) (by kernel_rfl) (fun _ _ _ h => h) (Or.inl ⟨by rfl, fun w' hSw => ?_⟩) hHeld ?_
      · (clear hSw; go_simp)
      simp only [Act.put, List.setIfInBounds_toArray, List.set_cons_zero, List.set_cons_succ]
      refine takeH (i := 2) (v := .int .i64 at_) rfl (by kernel_rfl) (by kernel_rfl) (by kernel_rfl) (fun _ _ _ h => h) (Or.inl ⟨by rfl, fun w' hSw => ?_⟩) hHeld ?_
      · (obtain ⟨q0, q1, q2, q3, q4, q5, q6, q7, q8, q9, q10, q11, q12, q13, q14⟩ := abx_cells hSw; clear hSw; go_simp)
      simp only [Act.put, List.setIfInBounds_toArray, List.set_cons_zero, List.set_cons_succ]
      refine takeH (i := 3) (v := .map (some w.heap.size)) rfl (by kernel_rfl) (by kernel_rfl) (by kernel_rfl) (fun _ _ _ h => h) (Or.inl ⟨by rfl, fun w' hSw => ?_⟩) hHeld ?_
      · (clear hSw; go_simp)
      simp only [Act.put, List.setIfInBounds_toArray, List.set_cons_zero, List.set_cons_succ]
      refine takeH (i := 4) (v := .pointer (some ⟨wr.heap.size, 0, none⟩)) rfl (by kernel_rfl) (by kernel_rfl) (by kernel_rfl) (fun _ _ _ h => h) (Or.inl ⟨by rfl, fun w' hSw => ?_⟩) hHeld ?_
      · (clear hSw; go_simp)
      simp only [Act.put, List.setIfInBounds_toArray, List.set_cons_zero, List.set_cons_succ]
      refine takeH (i := 5) (v := .int .i64 at_) rfl (by kernel_rfl) (by kernel_rfl) (by kernel_rfl) (fun _ _ _ h => h) (Or.inl ⟨by rfl, fun w' hSw => ?_⟩) hHeld ?_
      · (obtain ⟨q0, q1, q2, q3, q4, q5, q6, q7, q8, q9, q10, q11, q12, q13, q14⟩ := abx_cells hSw; clear hSw; go_simp)
      simp only [Act.put, List.setIfInBounds_toArray, List.set_cons_zero, List.set_cons_succ]
      refine takeH (i := 7) (v := .agg (accs ⟨at_, an, aft, af⟩).toArray) rfl (by kernel_rfl) (by kernel_rfl) (by kernel_rfl) (fun _ _ _ h => h) (Or.inl ⟨by rfl, fun w' hSw => ?_⟩) hHeld ?_
      · (obtain ⟨q0, q1, q2, q3, q4, q5, q6, q7, q8, q9, q10, q11, q12, q13, q14⟩ := abx_cells hSw; clear hSw; go_simp)
      simp only [Act.put, List.setIfInBounds_toArray, List.set_cons_zero, List.set_cons_succ]
      refine wpAnyH_ready (rs := [6, 8]) (by kernel_rfl) (by simp) ?_
      refine AllReadyH.cons rfl (fun K hK => ?_) (AllReadyH.cons rfl (fun K hK => ?_) AllReadyH.nil)
      · go_simp
        refine hK.out _ _ (hHeld) (fun hHeld => ?_)
        clear hK K
        try simp only [Act.put, List.setIfInBounds_toArray, List.set_cons_zero, List.set_cons_succ]
        refine wpAnyH_ready (rs := [8]) (by kernel_rfl) (by simp) ?_
        refine AllReadyH.cons rfl (fun K hK => ?_) AllReadyH.nil
        go_simp
        refine hK.out _ _ (HS2.out) (fun hHeld => ?_)
        clear hK K
        try simp only [Act.put, List.setIfInBounds_toArray, List.set_cons_zero, List.set_cons_succ]
        refine wpAnyH_ready (rs := [9]) (by kernel_rfl) (by simp) ?_
        refine AllReadyH.cons rfl (fun K hK => ?_) AllReadyH.nil
        refine step_append_E11 acT _ (by rfl) (.tmp 19) (.tmp 21) (by rfl) w.heap.size (.slice Af nf cf) (atI (l.take k) at_) (by rfl) HROW.out (some ⟨wr.heap.size + 1, 0, none⟩) 1 1 [⟨at_, an, aft, af⟩] (by rfl) HLIT.out HLEN.out HSZ.out ?_
        intro u w5 h5 g5 l5
        obtain ⟨w6, hr6, h6, g6⟩ := HNX.out u w5 g5 l5 h5
        have HB6 := Lib.hid (HB2.out.grown g5 HB2.out.size (fun j hj => (World.ownsRow.lt HROW.out j hj).1) |>.grown g6 (Nat.le_trans HB2.out.size g5.size) (fun j hj => by injection hj with hj; omega))
        have HS5 := Lib.hid (show w5.heap[wr.heap.size]? = some (.cells (accs ⟨at_, an, aft, af⟩).toArray 35) from (g5.block _ (typed_lt HS2.out) (fun e => by have h1 := HFL.out _ e.symm; omega)).trans HS2.out)
        have HS6 := Lib.hid (show w6.heap[wr.heap.size]? = some (.cells (accs ⟨at_, an, aft, af⟩).toArray 35) from (g6.block _ (typed_lt HS5.out) (fun e => by injection e with e; have := HGL.out; omega)).trans HS5.out)
        have H6 := Lib.hid h6
        obtain ⟨Au, cu, hu, -⟩ := h5.len
        obtain ⟨nu, hnu⟩ : ∃ nu, (atI (l.take k) at_ ++ [(⟨at_, an, aft, af⟩ : Ac)]).length = nu := ⟨_, rfl⟩
        rw [hnu] at hu
        subst hu
        clear h5 g5 l5 h6 g6 hnu hHeld
        refine hK.out _ _ (HS5.out) (fun hHeld => ?_)
        clear hK K
        try simp only [Act.put, List.setIfInBounds_toArray, List.set_cons_zero, List.set_cons_succ]
        refine wpAnyH_ready (rs := [10]) (by kernel_rfl) (by simp) ?_
        refine AllReadyH.cons rfl (fun K hK => ?_) AllReadyH.nil
        go_simp
        refine hK.out _ _ (HS6.out) (fun hHeld => ?_)
        clear hK K
        try simp only [Act.put, List.setIfInBounds_toArray, List.set_cons_zero, List.set_cons_succ]
        refine wpAnyH_done (by kernel_rfl) ?_ _
        clear hHeld
        go_wp2
        go_roundw
        case rel => exact ⟨k + 1, _, by omega, by go_num, by rw [HTK.out]; exact H6.out, HB6.out⟩
        case measure => simp [intOf]; omega
      · go_simp
        refine hK.out _ _ (HS2.out) (fun hHeld => ?_)
        clear hK K
        try simp only [Act.put, List.setIfInBounds_toArray, List.set_cons_zero, List.set_cons_succ]
        refine wpAnyH_ready (rs := [6]) (by kernel_rfl) (by simp) ?_
        refine AllReadyH.cons rfl (fun K hK => ?_) AllReadyH.nil
        go_simp
        refine hK.out _ _ (hHeld) (fun hHeld => ?_)
        clear hK K
        try simp only [Act.put, List.setIfInBounds_toArray, List.set_cons_zero, List.set_cons_succ]
        refine wpAnyH_ready (rs := [9]) (by kernel_rfl) (by simp) ?_
        refine AllReadyH.cons rfl (fun K hK => ?_) AllReadyH.nil
        refine step_append_E11 acT _ (by rfl) (.tmp 19) (.tmp 21) (by rfl) w.heap.size (.slice Af nf cf) (atI (l.take k) at_) (by rfl) HROW.out (some ⟨wr.heap.size + 1, 0, none⟩) 1 1 [⟨at_, an, aft, af⟩] (by rfl) HLIT.out HLEN.out HSZ.out ?_
        intro u w5 h5 g5 l5
        obtain ⟨w6, hr6, h6, g6⟩ := HNX.out u w5 g5 l5 h5
        have HB6 := Lib.hid (HB2.out.grown g5 HB2.out.size (fun j hj => (World.ownsRow.lt HROW.out j hj).1) |>.grown g6 (Nat.le_trans HB2.out.size g5.size) (fun j hj => by injection hj with hj; omega))
        have HS5 := Lib.hid (show w5.heap[wr.heap.size]? = some (.cells (accs ⟨at_, an, aft, af⟩).toArray 35) from (g5.block _ (typed_lt HS2.out) (fun e => by have h1 := HFL.out _ e.symm; omega)).trans HS2.out)
        have HS6 := Lib.hid (show w6.heap[wr.heap.size]? = some (.cells (accs ⟨at_, an, aft, af⟩).toArray 35) from (g6.block _ (typed_lt HS5.out) (fun e => by injection e with e; have := HGL.out; omega)).trans HS5.out)
        have H6 := Lib.hid h6
        obtain ⟨Au, cu, hu, -⟩ := h5.len
        obtain ⟨nu, hnu⟩ : ∃ nu, (atI (l.take k) at_ ++ [(⟨at_, an, aft, af⟩ : Ac)]).length = nu := ⟨_, rfl⟩
        rw [hnu] at hu
        subst hu
        clear h5 g5 l5 h6 g6 hnu hHeld
        refine hK.out _ _ (HS5.out) (fun hHeld => ?_)
        clear hK K
        try simp only [Act.put, List.setIfInBounds_toArray, List.set_cons_zero, List.set_cons_succ]
        refine wpAnyH_ready (rs := [10]) (by kernel_rfl) (by simp) ?_
        refine AllReadyH.cons rfl (fun K hK => ?_) AllReadyH.nil
        go_simp
        refine hK.out _ _ (HS6.out) (fun hHeld => ?_)
        clear hK K
        try simp only [Act.put, List.setIfInBounds_toArray, List.set_cons_zero, List.set_cons_succ]
        refine wpAnyH_done (by kernel_rfl) ?_ _
        clear hHeld
        go_wp2
        go_roundw
        case rel => exact ⟨k + 1, _, by omega, by go_num, by rw [HTK.out]; exact H6.out, HB6.out⟩
        case measure => simp [intOf]; omega
    · have hlt' : ¬ (k : Int) < (m : Int) := by omega
      have : k = m := by omega
      subst this
      rw [List.take_of_length_le (by rw [HG.out.1]; exact Nat.le_refl _)] at hamp
      have HF := Lib.hid hamp
      clear hamp hb HAMP
      go_wp2
      go_ret
      exact ⟨_, rfl, ⟨_, HF.out⟩, HB.out⟩
end Go.Proofs.YtalpbnfebcafgaaGreat

/- The contract of do: the acts of a tick. -/
namespace Go.Proofs.YtalpbnfebcafgaaGreat
set_option maxRecDepth 20000
open Go.RowKit
set_option linter.unusedSimpArgs false

theorem snocI {α : Type} {P : List α → Prop} (h0 : P []) (h : ∀ l z, P l → P (l ++ [z])) (l : List α) : P l := by
  rw [← l.reverse_reverse]
  induction l.reverse with
  | nil => exact h0
  | cons z l ih => rw [List.reverse_cons]; exact h _ _ ih
theorem do1_len (p : Bs × Nat) (a : Ac) : (Bs.do1 p a).1.L.length = p.1.L.length := by
  unfold Bs.do1
  split
  · rfl
  · show (List.set _ _ _).length = _
    rw [List.length_set]
theorem dos_snoc (b : Bs) (l : List Ac) (a : Ac) : b.dos (l ++ [a]) = Bs.do1 (b.dos l) a := by unfold Bs.dos; rw [List.foldl_append]; rfl
theorem dos_len (b : Bs) (l : List Ac) : (b.dos l).1.L.length = b.L.length := by
  induction l using snocI with
  | h0 => rfl
  | h l a ih => rw [dos_snoc, do1_len, ih]
theorem dos_t (b : Bs) (l : List Ac) : (b.dos l).1.t = b.t := by
  induction l using snocI with
  | h0 => rfl
  | h l a ih =>
    rw [dos_snoc]
    unfold Bs.do1
    split
    · exact ih
    · exact ih
theorem set_sound {T i : Nat} {L : List Nd} {n : Nd} (hS : ∀ n ∈ L, Sound T n) (hn : Sound T n) : ∀ m ∈ L.set i n, Sound T m := fun m hm => by
  rcases List.mem_or_eq_of_mem_set hm with h | rfl
  · exact hS m h
  · exact hn
theorem getD_sound {T i : Nat} {L : List Nd} (hS : ∀ n ∈ L, Sound T n) : Sound T (L.getD i Nd.new) := by
  by_cases h : i < L.length
  · rw [List.getD, List.getElem?_eq_getElem h]; exact hS _ (List.getElem_mem h)
  · rw [List.getD, List.getElem?_eq_none (by omega)]; exact sound_new.more (by omega)
theorem dos_sound {T : Nat} {b : Bs} (hS : ∀ n ∈ b.L, Sound T n) (l : List Ac) (hwf : ∀ a ∈ l, a.f.wf) : ∀ n ∈ (b.dos l).1.L, Sound T n := by
  induction l using snocI with
  | h0 => exact hS
  | h l a ih =>
    have ih := ih fun x hx => hwf x (by simp [hx])
    rw [dos_snoc]
    unfold Bs.do1
    split
    · exact ih
    · exact set_sound ih (sound_put (getD_sound ih) _ (hwf a (by simp)))
theorem dos_lt {N : Nat} (b : Bs) (l : List Ac) (hin : ∀ a ∈ l, 0 ≤ a.n ∧ a.n < (N : Int)) : (b.dos l).2 < 2 ^ N := by
  induction l using snocI with
  | h0 => exact Nat.pow_pos (by omega)
  | h l a ih =>
    have ih := ih fun x hx => hin x (by simp [hx])
    have ha := hin a (by simp)
    rw [dos_snoc]
    unfold Bs.do1
    split
    · exact Nat.or_lt_two_pow ih (Nat.pow_lt_pow_right (by omega) (by omega))
    · exact ih
/-- A mask of nodes is one of none else. -/
theorem mask_in {x N : Nat} (hx : x < 2 ^ N) (hN : N ≤ 32) : x &&& (4294967295 - (2 ^ N - 1)) = 0 := by
  have hp : 2 ^ N ≤ 2 ^ 32 := Nat.pow_le_pow_right (by omega) hN
  apply Nat.eq_of_testBit_eq
  intro i
  rw [Nat.testBit_and, not_bit (by omega), Nat.testBit_two_pow_sub_one, Nat.zero_testBit]
  by_cases hi : i < N
  · simp [hi]
  · rw [Nat.testBit_lt_two_pow (Nat.lt_of_lt_of_le hx (Nat.pow_le_pow_right (by omega) (by omega)))]
    rfl
set_option maxHeartbeats 3200000 in
theorem do_any {w : World} {B B2 T : Nat} {p : BP} {b : Bs} (hl : BLay w B p b) (hL : b.L.length ≤ 32) (hS : ∀ n ∈ b.L, Sound T n) {A : Option Addr} {m c : Nat} {l : List Ac} (hg : Gown acT w B2 (.slice A m c) l) (hm : m ≤ 1000) (hml : l.length = m)
    (hin : ∀ a ∈ l, 0 ≤ a.n ∧ a.n < (b.L.length : Int)) (hwf : ∀ a ∈ l, a.f.wf) :
    Calls Tryz.prog 30 #[.pointer (some ⟨p.g, 0, none⟩), .slice A m c] w fun e w' => ∃ ps', e = .returned (.int .u32 ((b.dos l).2 : Nat)) ∧ BLay w' B { p with ps := ps' } (b.dos l).1 ∧ Moves p.fp (BP.fp { p with ps := ps' }) w w' := by
  obtain ⟨g, pv, ps⟩ := p
  have HL := Lib.hid hl
  have HG := Lib.hid hg
  have HAP := Lib.hid (hl.typed hg (by decide) (by decide) (by decide) (by decide) (by decide) (by decide))
  have HML := Lib.hid hml
  have HIN := Lib.hid hin
  have HWF := Lib.hid hwf
  have HS := Lib.hid hS
  clear hl hg hml hin hwf hS
  go_enter Tryz.func30, Tryz.ntmps30
  go_wp2
  go_loopw [5, 10] (fun x i wr => ∃ (k : Nat) (qs : List NP), k ≤ m ∧ i = .int .i64 k ∧ x = .int .u32 ((b.dos (l.take k)).2 : Nat) ∧ BLay wr B ⟨g, pv, qs⟩ (b.dos (l.take k)).1 ∧ Moves (BP.fp ⟨g, pv, ps⟩) (BP.fp ⟨g, pv, qs⟩) w wr) (fun _ i _ => m - (intOf i).toNat)
  case atStart => exact ⟨0, ps, Nat.zero_le _, rfl, rfl, HL.out, .refl _ _⟩
  case round =>
    obtain ⟨k, qs, hk, rfl, rfl, hb, hmv⟩ := hrel
    have HB := Lib.hid hb
    have HMV := Lib.hid hmv
    by_cases hlt : k < m
    · have hlt' : (k : Int) < (m : Int) := by omega
      have hkl : k < l.length := by rw [HML.out]; exact hlt
      obtain ⟨a, ha⟩ : ∃ a, l[k] = a := ⟨_, rfl⟩
      have hla : l[k]? = some a := by rw [List.getElem?_eq_getElem hkl, ha]
      have hmem := List.mem_of_getElem? hla
      have hia := HIN.out a hmem
      have HTK := Lib.hid (show b.dos (l.take (k + 1)) = Bs.do1 (b.dos (l.take k)) a by rw [List.take_add_one, hla]; exact dos_snoc _ _ _)
      have hGr := (HG.out.moves hmv HAP.out).1
      obtain ⟨ad, rfl, hal, c0, c1, c2, c3, c4, c5, c6, c7, c8, c9, c10, c11, c12, c13, c14⟩ := hGr.gs.ac hla
      have hx := dos_lt (N := b.L.length) b (l.take k) fun x hx => HIN.out x (List.mem_of_mem_take hx)
      have hx32 : (b.dos (l.take k)).2 < 4294967296 := Nat.lt_of_lt_of_le hx (Nat.le_trans (Nat.pow_le_pow_right (n := 2) (i := b.L.length) (j := 32) (by omega) hL) (by decide))
      have hsd := dos_sound HS.out (l.take k) fun x hx => HWF.out x (List.mem_of_mem_take hx)
      have hlen := dos_len b (l.take k)
      obtain ⟨b', hb'⟩ : ∃ b', b.dos (l.take k) = b' := ⟨_, rfl⟩
      rw [hb'] at hb hx32 hsd hlen HB HTK ⊢
      obtain ⟨at_, an, aft, af⟩ := a
      simp only at *
      obtain ⟨i, rfl⟩ := Int.eq_ofNat_of_zero_le hia.1
      have hi : i < b'.1.L.length := by rw [hlen]; omega
      obtain ⟨b1, x⟩ := b'
      simp only at *
      have HA := Lib.hid ((Below.refl wr.heap.size wr).alloc (Nat.le_refl _) (.cells (accs ⟨at_, i, aft, af⟩).toArray 35))
      cases aft
      · have hgs := getD_sound (i := i) hsd
        have HP := Lib.hid (bput_in (hb.next HA.out) hi af hgs.q (by have := hgs.ql; omega))
        have HTK' := Lib.hid (show b.dos (l.take (k + 1)) = (b1.put i af, x) by rw [HTK.out]; unfold Bs.do1; simp)
        clear hb hmv hla ha hGr hsd hgs hx hb' hmem hia HTK hkl
        go_wp2_with fail
        refine HP.out.mono ?_
        rintro e w2 ⟨rs, rfl, k1, k2⟩
        have HK := Lib.hid (And.intro k1 (HMV.out.trans ((Moves.of_below HA.out _).trans k2)))
        clear k1 k2
        go_wp2
        go_roundw
        case rel => exact ⟨k + 1, rs, by omega, by go_num, by rw [HTK'.out], by rw [HTK'.out]; exact HK.out.1, HK.out.2⟩
        case measure => simp [intOf]; omega
      · have hp : 2 ^ i < 4294967296 := Nat.lt_of_lt_of_le (Nat.pow_lt_pow_right (n := 32) (by omega) (by omega)) (by decide)
        have hbit := fun W => bit_any i (by omega) W
        rw [Nat.mod_eq_of_lt hp] at hbit
        have hor := u32_or_nat x (2 ^ i) hx32 hp
        have HTK' := Lib.hid (show b.dos (l.take (k + 1)) = (b1, x ||| 2 ^ i) by rw [HTK.out]; unfold Bs.do1; simp)
        generalize x ||| 2 ^ i = y at *
        generalize 2 ^ i = P at *
        clear hb hmv hla ha hGr hsd hx hb' hmem hia HTK hkl
        go_wp2_with fail
        refine (hbit _).mono ?_
        rintro e w2 ⟨rfl, rfl⟩
        go_wp2
        go_roundw
        case rel => exact ⟨k + 1, qs, by omega, by go_num, by rw [HTK'.out], by rw [HTK'.out]; exact HB.out.next HA.out, HMV.out.next HA.out⟩
        case measure => simp [intOf]; omega
    · have hlt' : ¬ (k : Int) < (m : Int) := by omega
      have : k = m := by omega
      subst this
      rw [List.take_of_length_le (by rw [HML.out]; exact Nat.le_refl _)] at hb ⊢
      have HF := Lib.hid hb
      clear hb hmv HB
      go_wp2
      go_ret
      exact ⟨rfl, qs, HF.out, HMV.out⟩
end Go.Proofs.YtalpbnfebcafgaaGreat

