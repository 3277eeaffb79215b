/- The contracts of insert's closure, and of sort.Search with it. -/
import Derived.Test.YtldhnbohpnkcpaaQJ
namespace Go.Proofs.Ytldhnbohpnkcpaa
open Go.RowKit
set_option linter.unusedSimpArgs false

/-- What insert's closure sees: the frame in block gf, the row's place in block gr, the row's frames. -/
structure Sees9 (w : World) (gf gr g : Nat) (f : Fr) (A : Option Addr) (n c : Nat) (m : Int) (fs : Nat → Fr) : Prop where
  fr : Fb w gf f
  rw_ : w.heap[gr]? = some (.cells #[.pointer (some ⟨g, 0, none⟩)] 62)
  q : Qb w g (.slice A n c) m
  fl : Fl w A n fs
section
variable {w w' : World} {gf gr g : Nat} {f : Fr} {A : Option Addr} {n c : Nat} {m : Int} {fs : Nat → Fr}
theorem Sees9.below (h : Sees9 w gf gr g f A n c m fs) (hb : Below w.heap.size w w') : Sees9 w' gf gr g f A n c m fs :=
  ⟨h.fr.below hb h.fr.lt, (hb.block gr (Array.getElem?_eq_some_iff.1 h.rw_).1).trans h.rw_, h.q.next hb, h.fl.below hb⟩
theorem Sees9.drew (h : Sees9 w gf gr g f A n c m fs) : Sees9 w.drew gf gr g f A n c m fs := ⟨h.fr, h.rw_, h.q, h.fl⟩
end

set_option maxHeartbeats 1600000 in
set_option maxRecDepth 100000 in
theorem closure_any {w : World} {gf gr g : Nat} {f : Fr} {A : Option Addr} {n c : Nat} {m : Int} {fs : Nat → Fr} {k : Nat} (h : Sees9 w gf gr g f A n c m fs) (hk : k < n) (hf : f.may = true) (hm : (fs k).may = true) :
    Calls Try.prog 37 #[.int .i64 k, .pointer (some ⟨gf, 0, none⟩), .pointer (some ⟨gr, 0, none⟩)] w fun e w' => e = .returned (.bool (decide (f.plc < (fs k).plc))) ∧ Below w.heap.size w w' := by
  have HF := Lib.hid hf; have HM := Lib.hid hm
  obtain ⟨c0, c1, c2, c3, c4, c5, c6, c7, c8, c9, c10, c11⟩ := h.fr.bx
  have r0 : w.cell? ⟨gr, 0, none⟩ = some (.pointer (some ⟨g, 0, none⟩)) := cell_of_row w gr 0 _ _ (0, 0) h.rw_
  have q0 := h.q.row
  obtain ⟨ad, rfl, hl, d0, d1, d2, d3, d4, d5, d6, d7, d8, d9, d10, d11⟩ := h.fl.at_ hk
  have hlt' : (k : Int) < (n : Int) := by omega
  clear h hf hm
  go_enter Try.func37, Try.ntmps37
  go_wp2_with fail
  go_still_tail 8, (by kernel_rfl)
  go_wp2_with fail
  refine (less_yes f (fs k) _ HF.out HM.out).mono ?_
  rintro e w1 ⟨rfl, hb1⟩
  go_wp2
  go_ret
  exact ⟨rfl, undrew hb1⟩

set_option maxHeartbeats 1600000 in
set_option maxRecDepth 100000 in
theorem search_any {w : World} {gf gr g : Nat} {f : Fr} {A : Option Addr} {n c : Nat} {m : Int} {fs : Nat → Fr} (h : Sees9 w gf gr g f A n c m fs) (hf : f.may = true) (hm : ∀ k, k < n → (fs k).may = true) (hup : ∀ a b, a ≤ b → b < n → (fs a).plc ≤ (fs b).plc) (hn : n ≤ 1000) :
    Calls Try.prog 36 #[.int .i64 n, .func (.func 37) #[] #[.pointer (some ⟨gf, 0, none⟩), .pointer (some ⟨gr, 0, none⟩)]] w fun e w' => ∃ r : Nat, e = .returned (.int .i64 r) ∧ r ≤ n ∧ (∀ j, j < r → (fs j).plc ≤ f.plc) ∧ (∀ j, r ≤ j → j < n → f.plc < (fs j).plc) ∧ Below w.heap.size w w' := by
  have HS := Lib.hid h
  have HF := Lib.hid hf; have HM := Lib.hid hm; have HU := Lib.hid hup
  clear h hf hm hup
  go_enter Try.func36, Try.ntmps36
  go_wp2
  go_loopw [5, 6] (fun vi vj wr => ∃ i j : Nat, i ≤ j ∧ j ≤ n ∧ vi = .int .i64 i ∧ vj = .int .i64 j ∧ (∀ a, a < i → (fs a).plc ≤ f.plc) ∧ (∀ a, j ≤ a → a < n → f.plc < (fs a).plc) ∧ Below w.heap.size w wr) (fun vi vj _ => (intOf vj).toNat - (intOf vi).toNat)
  case atStart => exact ⟨0, n, Nat.zero_le _, Nat.le_refl _, rfl, rfl, fun a ha => by omega, fun a h1 h2 => by omega, Below.refl _ _⟩
  case round =>
    obtain ⟨i, j, hij, hj, rfl, rfl, hlo, hhi, hb⟩ := hrel
    have HLO := Lib.hid hlo; have HHI := Lib.hid hhi; have HB := Lib.hid hb
    clear hlo hhi hb
    by_cases hlt : i < j
    · have hlt' : (i : Int) < (j : Int) := by omega
      obtain ⟨mid, hmid⟩ : ∃ mid, (i + j) / 2 = mid := ⟨_, rfl⟩
      have hm1 : i ≤ mid := by omega
      have hm2 : mid < j := by omega
      have hme : ((i : Int) + (j : Int)) / 2 = (mid : Int) := by omega
      cases hd : decide (f.plc < (fs mid).plc)
      · have HD := Lib.hid hd
        clear hd hmid
        go_wp2_with fail
        refine (closure_any (HS.out.below HB.out) (show mid < n by omega) HF.out (HM.out mid (by omega))).mono ?_
        rintro e w1 ⟨rfl, hb1⟩
        rw [HD.out]
        have HB1 := Lib.hid (nxt HB.out hb1)
        clear hb1
        go_wp2
        go_roundw
        case rel => exact ⟨mid + 1, j, by omega, hj, by go_num, rfl, fun a ha => by
          have h1 := HU.out a mid (by omega) (by omega)
          have h2 : ¬ f.plc < (fs mid).plc := by simpa using HD.out
          omega, HHI.out, HB1.out⟩
        case measure => simp [intOf]; omega
      · have HD := Lib.hid hd
        clear hd hmid
        go_wp2_with fail
        refine (closure_any (HS.out.below HB.out) (show mid < n by omega) HF.out (HM.out mid (by omega))).mono ?_
        rintro e w1 ⟨rfl, hb1⟩
        rw [HD.out]
        have HB1 := Lib.hid (nxt HB.out hb1)
        clear hb1
        go_wp2
        go_roundw
        case rel => exact ⟨i, mid, by omega, by omega, rfl, rfl, HLO.out, fun a h1 h2 => by
          have h3 := HU.out mid a h1 h2
          have h4 : f.plc < (fs mid).plc := by simpa using HD.out
          omega, HB1.out⟩
        case measure => simp [intOf]; omega
    · have hge : ¬ ((i : Int) < (j : Int)) := by omega
      go_wp2
      go_ret
      exact ⟨i, rfl, by omega, HLO.out, fun a h1 h2 => HHI.out a (by omega) h2, HB.out⟩
end Go.Proofs.Ytldhnbohpnkcpaa
