/- How far a node has counted, in each of its modes. -/
import Derived.Test.YtenfcbmeokenaaaGreatY5
import Derived.Test.YtenfcbmeokenaaaGreatY4
import Derived.Test.YtenfcbmeokenaaaGreatY0
import Derived.Test.YtenfcbmeokenaaaGreatY2
import Derived.Test.YtenfcbmeokenaaaGreatY1
namespace Go.Proofs.YtenfcbmeokenaaaGreat
set_option maxRecDepth 20000
open Go.RowKit
set_option linter.unusedSectionVars false

/-- How many alike there may be. -/
structure Tidy (n : Nd) : Prop where
  j : n.mode = 0 → n.sl = 1 → n.sn ≤ 10
  f : n.mode = 3 ∨ n.mode = 5 → n.sl = 0 ∧ n.sn ≤ 5
  p : n.mode = 4 → n.sn ≤ 5
  c : n.mode = 7 → n.sl = 1 ∧ 1 ≤ n.sn ∧ n.sn ≤ 7
  z : n.mode = 8 → n.sn ≤ 2 ∧ (n.sl = 1 ∨ n.sn = 0)
  s : n.mode = 9 → n.sn ≤ 7 ∧ (n.sl = 1 ∨ n.sn = 0)
  o : n.mode = 10 → n.sl = 1 → n.sn ≤ 10
section
variable {B : Nat} {n : Nd} {z : Int}
theorem tidy_enter {m : Int} (h7 : m ≠ 7) : Tidy (n.enter m) :=
  ⟨fun _ e => (by cases e), fun _ => ⟨rfl, by show (0 : Int) ≤ 5; omega⟩, fun _ => by show (0 : Int) ≤ 5; omega, fun e => absurd e h7, fun _ => ⟨by show (0 : Int) ≤ 2; omega, .inr rfl⟩, fun _ => ⟨by show (0 : Int) ≤ 7; omega, .inr rfl⟩, fun _ e => (by cases e)⟩
/-- In a mode that counts nothing. -/
theorem tidy_free (h : n.mode = 1 ∨ n.mode = 2 ∨ n.mode = 6) : Tidy n :=
  ⟨fun e => by omega, fun e => by omega, fun e => by omega, fun e => by omega, fun e => by omega, fun e => by omega, fun e => by omega⟩
theorem Tidy.of {n' : Nd} (h : Tidy n) (e1 : n'.mode = n.mode) (e2 : n'.sl = n.sl) (e3 : n'.sn = n.sn) : Tidy n' :=
  ⟨by rw [e1, e2, e3]; exact h.j, by rw [e1, e2, e3]; exact h.f, by rw [e1, e3]; exact h.p, by rw [e1, e2, e3]; exact h.c, by rw [e1, e2, e3]; exact h.z, by rw [e1, e2, e3]; exact h.s, by rw [e1, e2, e3]; exact h.o⟩
theorem tidy_cas {x : Int} (h : Tidy n) : Tidy (n.casN x) := by
  unfold Nd.casN
  split
  · exact tidy_enter (by omega)
  · exact h.of rfl rfl rfl
theorem tidy_fail {k : Int} : Tidy (n.fail k).2 := by
  unfold Nd.fail Nd.flg
  exact tidy_cas (tidy_enter (by split <;> omega))
theorem tidy_failU {k : Int} : Tidy (n.failU k).2 := tidy_enter (by split <;> omega)
theorem tidy_over : Tidy n.over.2 := tidy_enter (by omega)
theorem tidy_begin {may : Bool} : Tidy (n.begin_ may) := tidy_free (.inr (.inl rfl))
theorem tidy_goOn (hm : n.mode = 2) : Tidy (n.goOn z).2 := by
  have e : (n.take z).mode = 2 := by unfold Nd.take; split <;> exact hm
  unfold Nd.goOn Nd.onto
  split
  · unfold Nd.fin
    split
    · exact (tidy_enter (n := n.take z) (m := 8) (by omega)).of rfl rfl rfl
    · exact tidy_enter (by omega)
  · split
    · exact tidy_free (.inr (.inl e))
    · exact tidy_free (.inr (.inl e))
theorem tidy_recv (hm : n.mode = 2) : Tidy (n.recv z).2 := by
  unfold Nd.recv
  split
  · exact tidy_over
  · split
    · exact tidy_fail
    · exact tidy_goOn hm
theorem tidy_send (hm : n.mode = 2) : Tidy (n.send z).2 := by
  unfold Nd.send
  split
  · split
    · exact tidy_goOn hm
    · unfold Nd.unheard
      split
      · exact (tidy_enter (n := n) (m := if n.pas then 4 else 3) (by split <;> omega)).of rfl rfl rfl
      · exact tidy_fail
  · split
    · exact tidy_failU
    · split
      · exact tidy_goOn hm
      · exact tidy_fail
theorem tidy_inF (hm : n.mode = 2) : Tidy (n.inF z).2 := by
  unfold Nd.inF
  split
  · exact tidy_recv (n := n.lost) hm
  · split
    · exact tidy_send hm
    · exact tidy_recv hm
theorem tidy_endF : Tidy n.endF := tidy_free (.inr (.inr rfl))
theorem tidy_see (hj : n.mode = 0 → z = 1 → tlN n.sl n.sn z ≤ 10) (hf : n.mode = 3 ∨ n.mode = 5 → z = 0 ∧ tlN n.sl n.sn z ≤ 5) (hp : n.mode = 4 → tlN n.sl n.sn z ≤ 5) (hc : n.mode = 7 → z = 1 ∧ 1 ≤ tlN n.sl n.sn z ∧ tlN n.sl n.sn z ≤ 7)
    (h8 : n.mode = 8 → tlN n.sl n.sn z ≤ 2 ∧ (z = 1 ∨ tlN n.sl n.sn z = 0)) (h9 : n.mode = 9 → tlN n.sl n.sn z ≤ 7 ∧ (z = 1 ∨ tlN n.sl n.sn z = 0)) (ho : n.mode = 10 → z = 1 → tlN n.sl n.sn z ≤ 10) : Tidy (n.see z) := ⟨hj, hf, hp, hc, h8, h9, ho⟩
theorem not_quiet (hq : ¬ n.quiet z = true) : ¬ (tlN n.sl n.sn z = 11 ∧ z = 1) := by
  rintro ⟨e1, e2⟩
  apply hq
  show (tlN n.sl n.sn z == 11 && z == 1) = true
  rw [e1, e2]
  rfl
theorem tlN_le {C : Int} (hq : ¬ (tlN n.sl n.sn z = C + 1 ∧ z = 1)) (hC : 1 ≤ C) (a : n.sl = 1 → n.sn ≤ C) (hz : z = 1) : tlN n.sl n.sn z ≤ C := by
  have hne : tlN n.sl n.sn z ≠ C + 1 := fun e => hq ⟨e, hz⟩
  unfold tlN at hne ⊢
  by_cases hl : z = n.sl
  · have := a (by omega)
    rw [if_pos hl] at hne ⊢
    omega
  · rw [if_neg hl]; omega
theorem tidy_flagN (h : Tidy n) (hs : Sound B n) (hm : n.mode = 3 ∨ n.mode = 5) : Tidy n.flagN := by
  have a := h.f hm
  have s0 := hs.s0
  unfold Nd.flagN
  split
  · exact tidy_endF
  · rename_i h6
    have e : tlN n.sl n.sn 0 = n.sn + 1 := by unfold tlN; rw [if_pos a.1.symm]
    exact tidy_see (fun e => by omega) (fun _ => ⟨rfl, by omega⟩) (fun e => by omega) (fun e => by omega) (fun e => by omega) (fun e => by omega) (fun e => by omega)
theorem tidy_pflN (h : Tidy n) (hm : n.mode = 4) : Tidy (n.pflN z) := by
  have a := h.p hm
  unfold Nd.pflN
  split
  · exact tidy_endF
  · rename_i h6
    have e : tlN n.sl n.sn z ≤ 5 := by
      unfold tlN at h6 ⊢
      split
      · rw [if_pos (by assumption)] at h6; omega
      · omega
    exact (tidy_see (n := n) (z := z) (fun e => by omega) (fun e => by omega) (fun _ => e) (fun e => by omega) (fun e => by omega) (fun e => by omega) (fun e => by omega)).of rfl rfl rfl
theorem tidy_closeN (h : n.mode = 7) (hs : n.sl = 1 ∧ n.sn ≤ 7 ∨ n.sl ≠ 1) (h0 : 0 ≤ n.sn) : Tidy n.closeN := by
  unfold Nd.closeN
  split
  · exact tidy_enter (by omega)
  · rename_i h8
    have e : 1 ≤ tlN n.sl n.sn 1 ∧ tlN n.sl n.sn 1 ≤ 7 := by
      unfold tlN at h8 ⊢
      split
      · rw [if_pos (by assumption)] at h8; omega
      · omega
    exact tidy_see (fun e => by omega) (fun e => by omega) (fun e => by omega) (fun _ => ⟨rfl, e.1, e.2⟩) (fun e => by omega) (fun e => by omega) (fun e => by omega)
theorem tidy_stp (hs : Sound B n) (h : Tidy n) : Tidy (n.stp z).2 := by
  have m0 := hs.m0
  have m1 := hs.m1
  have s0 := hs.s0
  unfold Nd.stp
  split
  · rename_i hm
    unfold Nd.join
    split
    · exact tidy_enter (by omega)
    · rename_i hq
      exact tidy_see (fun _ e => tlN_le (not_quiet hq) (by omega) (h.j hm) e) (fun e => by omega) (fun e => by omega) (fun e => by omega) (fun e => by omega) (fun e => by omega) (fun e => by omega)
  split
  · unfold Nd.idle
    split
    · exact tidy_begin
    · split
      · exact tidy_fail
      · exact h
  split
  · exact tidy_inF (by assumption)
  split
  · rename_i hm
    unfold Nd.flag
    split
    · exact tidy_flagN h hs (.inl hm)
    · exact tidy_cas (tidy_flagN h hs (.inl hm))
  split
  · rename_i hm
    unfold Nd.pflag
    split
    · exact tidy_cas (tidy_pflN h hm)
    · exact tidy_pflN h hm
  split
  · rename_i hm
    unfold Nd.flag
    split
    · exact tidy_flagN h hs (.inr hm)
    · exact tidy_cas (tidy_flagN h hs (.inr hm))
  split
  · rename_i hm
    unfold Nd.wait
    split
    · unfold Nd.close
      rw [if_pos rfl]
      exact tidy_closeN (n := n.enter 7) rfl (.inr (by show (0 : Int) ≠ 1; omega)) (Int.le_refl 0)
    · split
      · exact tidy_cas (tidy_free (.inr (.inr hm)))
      · exact tidy_free (.inr (.inr hm))
  split
  · rename_i hm
    have a := h.c hm
    unfold Nd.close
    split
    · exact tidy_closeN hm (.inl ⟨a.1, a.2.2⟩) s0
    · split
      · exact tidy_over
      · exact tidy_fail
  split
  · rename_i hm
    have a := h.z hm
    unfold Nd.pause
    split
    · split
      · exact tidy_begin
      · exact tidy_over
    · split
      · have e : tlN n.sl n.sn 1 ≤ 2 := by
          unfold tlN
          split <;> omega
        exact tidy_see (fun e => by omega) (fun e => by omega) (fun e => by omega) (fun e => by omega) (fun _ => ⟨e, .inl rfl⟩) (fun e => by omega) (fun e => by omega)
      · split
        · exact tidy_enter (by omega)
        · exact tidy_enter (by omega)
  split
  · rename_i hm
    have a := h.s hm
    unfold Nd.susp
    split
    · exact tidy_begin
    · show Tidy (if tlN n.sl n.sn 1 = 8 then n.enter 1 else n.see 1)
      split
      · exact tidy_enter (by omega)
      · rename_i h8
        have e : tlN n.sl n.sn 1 ≤ 7 := by
          unfold tlN at h8 ⊢
          split
          · rw [if_pos (by assumption)] at h8; omega
          · omega
        exact tidy_see (fun e => by omega) (fun e => by omega) (fun e => by omega) (fun e => by omega) (fun e => by omega) (fun _ => ⟨e, .inl rfl⟩) (fun e => by omega)
  · have hm : n.mode = 10 := by omega
    unfold Nd.off
    split
    · split
      · exact ⟨fun e => (by cases (show n.mode = 0 from e).symm.trans hm), fun _ => ⟨rfl, by show (0 : Int) ≤ 5; omega⟩, fun _ => by show (0 : Int) ≤ 5; omega, fun e => absurd (e.symm.trans hm) (by decide), fun _ => ⟨by show (0 : Int) ≤ 2; omega, .inr rfl⟩, fun _ => ⟨by show (0 : Int) ≤ 7; omega, .inr rfl⟩, fun _ e => (by cases e)⟩
      · exact (tidy_enter (n := n) (m := 1) (by omega)).of rfl rfl rfl
    · rename_i hq
      exact tidy_see (fun e => by omega) (fun e => by omega) (fun e => by omega) (fun e => by omega) (fun e => by omega) (fun e => by omega) (fun _ e => tlN_le (not_quiet hq) (by omega) (h.o hm) e)
end
end Go.Proofs.YtenfcbmeokenaaaGreat

/- A node without frames stays one. -/
namespace Go.Proofs.YtenfcbmeokenaaaGreat
set_option maxRecDepth 20000
open Go.RowKit
set_option linter.unusedSectionVars false

section
variable {B : Nat} {n : Nd} {z : Int}
theorem tx_cas {x : Int} : (n.casN x).tx = n.tx := by
  unfold Nd.casN
  split <;> rfl
theorem tx_fail {k : Int} : (n.fail k).2.tx = n.tx := by
  unfold Nd.fail
  exact tx_cas
theorem tx_begin10 {may : Bool} (hq : n.q = []) : (n.begin_ may).tx = false := by
  rw [begin_at]
  show (may && decide (0 < n.q.length)) = false
  rw [hq]
  simp
theorem tx_goOn (ht : n.tx = false) : (n.goOn z).2.tx = false := by
  have e := (take_kept (n := n) (z := z)).2.2.1
  rw [ht] at e
  unfold Nd.goOn Nd.onto
  split
  · unfold Nd.fin
    rw [e, if_neg (by simp)]
    exact e
  · split <;> exact e
theorem tx_inF (ht : n.tx = false) : (n.inF z).2.tx = false := by
  have hl : n.loses z = false := by
    unfold Nd.loses
    rw [ht]; rfl
  unfold Nd.inF
  rw [hl, if_neg (by simp), if_neg (by rw [ht]; simp)]
  unfold Nd.recv
  split
  · exact ht
  · split
    · rw [tx_fail]; exact ht
    · exact tx_goOn ht
theorem tx_stp (ht : n.tx = false) (hq : n.q = []) : (n.stp z).2.tx = false := by
  have h0 : ¬ 0 < n.q.length := by rw [hq]; simp
  unfold Nd.stp
  split
  · unfold Nd.join
    split <;> exact ht
  split
  · unfold Nd.idle
    split
    · exact tx_begin10 hq
    · exact ht
  split
  · exact tx_inF ht
  have hf : n.flagN.tx = false := by
    unfold Nd.flagN
    split <;> exact ht
  have hp : (n.pflN z).tx = false := by
    unfold Nd.pflN
    split <;> exact ht
  have hfl : (n.flag z).2.tx = false := by
    unfold Nd.flag
    split
    · exact hf
    · rw [tx_cas]; exact hf
  have hcl : ∀ m : Nd, m.tx = false → (m.close z).2.tx = false := fun m hm => by
    unfold Nd.close
    split
    · unfold Nd.closeN
      split <;> exact hm
    · split
      · exact hm
      · rw [tx_fail]; exact hm
  split
  · exact hfl
  split
  · unfold Nd.pflag
    split
    · rw [tx_cas]; exact hp
    · exact hp
  split
  · exact hfl
  split
  · unfold Nd.wait
    split
    · rename_i hz
      have := hcl (n.enter 7) ht
      rw [hz] at this
      exact this
    · split
      · rw [tx_cas]; exact ht
      · exact ht
  split
  · exact hcl n ht
  split
  · unfold Nd.pause
    split
    · split
      · exact tx_begin10 hq
      · exact ht
    · split
      · exact ht
      · split <;> exact ht
  split
  · unfold Nd.susp
    split
    · exact tx_begin10 hq
    · show (if tlN n.sl n.sn 1 = 8 then n.enter 1 else n.see 1).tx = false
      split <;> exact ht
  · unfold Nd.off
    split
    · split
      · exact ht
      · rfl
    · exact ht
theorem q_stp (hs : Sound B n) (hq : n.q = []) (hz : z = 0 ∨ z = 1) : (n.stp z).2.q = [] := by
  rcases (good_stp hs hz).q with h | ⟨f, h1, _⟩
  · rw [h.1, hq]
  · rw [hq] at h1; cases h1
/-- What such a node drives. -/
theorem drv_still (hq : n.q = []) (h0 : n.drv = 0) : n.mode = 2 ∨ n.mode = 3 ∨ n.mode = 5 := by
  unfold Nd.drv at h0
  split at h0
  · rw [hq, if_neg (by simp)] at h0; omega
  · split at h0
    · exact .inl (by assumption)
    · split at h0
      · rename_i h; exact .inr h
      · omega
end
end Go.Proofs.YtenfcbmeokenaaaGreat

/- The field of the level that comes, level by level, and how many are left. -/
namespace Go.Proofs.YtenfcbmeokenaaaGreat
set_option maxRecDepth 20000
open Go.RowKit

theorem kd_both {o : List Int} {z : Int} (h : kd o < 9) : nx (hW o) o.length 0 = nx (hW (o ++ [z])) o.length 0 ∧ o.length + 1 ≤ sumW (hW (o ++ [z])) := by
  have h1 := kd_next (z := z) h
  have h2 := kd_lt h
  have e := nout_take (zs := o ++ [z]) (k := o.length) (by simp)
  rw [List.take_append_of_le_length (Nat.le_refl _), List.take_length] at e
  rw [nout_nx (hW o) o.length 0 (by omega), nout_nx (hW (o ++ [z])) o.length 0 (by omega)] at e
  obtain ⟨e1, e2, _⟩ := tup3 e
  injection e1 with _ e1
  injection e2 with _ e2
  exact ⟨Prod.ext (by omega) (by omega), h1⟩
/-- Ahead of the sum's delimiter, or j levels behind it. -/
theorem kd_split {o : List Int} {z : Int} (h : kd o < 9) : (kd o ≤ 4 ∧ kd (o ++ [z]) ≤ 5) ∨ ∃ j, j ≤ 9 ∧ kd o = tl j ∧ kd (o ++ [z]) = tl (j + 1) ∧ (3 ≤ j → pl o = j - 3) ∧ (3 ≤ j + 1 → j + 1 ≤ 9 → pl (o ++ [z]) = j + 1 - 3) := by
  obtain ⟨e, h1⟩ := kd_both (z := z) h
  obtain ⟨a, ha⟩ : ∃ a, aW (hEx (o ++ [z])) = a := ⟨_, rfl⟩
  obtain ⟨c, hc⟩ : ∃ c, cW (hEx (o ++ [z])) = c := ⟨_, rfl⟩
  obtain ⟨d, hd⟩ : ∃ d, hDat (o ++ [z]) = d := ⟨_, rfl⟩
  have hw : hW (o ++ [z]) = wds a c d := by unfold hW; rw [ha, hc, hd]
  have k1 : kd o = (nx (wds a c d) o.length 0).1 := by unfold kd; rw [e, hw]
  have p1 : pl o = (nx (wds a c d) o.length 0).2 := by unfold pl; rw [e, hw]
  have k2 : kd (o ++ [z]) = (nx (wds a c d) (o.length + 1) 0).1 := by unfold kd; rw [hw, List.length_append, List.length_singleton]
  have p2 : pl (o ++ [z]) = (nx (wds a c d) (o.length + 1) 0).2 := by unfold pl; rw [hw, List.length_append, List.length_singleton]
  rw [hw] at h1
  simp only [wds, sumW] at h1
  rcases Nat.lt_or_ge o.length (1 + a + c + d + 15) with h2 | h2
  · refine .inl ⟨by rw [k1]; exact nx_lo _ _ _ _ h2, ?_⟩
    rw [k2]
    rcases Nat.lt_or_ge (o.length + 1) (1 + a + c + d + 15) with h4 | h4
    · have := nx_lo a c d (o.length + 1) h4; omega
    · have := nx_hi a c d 0 (by omega)
      rw [show 1 + a + c + d + 15 + 0 = o.length + 1 by omega] at this
      rw [this]; decide
  · obtain ⟨j, hj⟩ : ∃ j, o.length = 1 + a + c + d + 15 + j := ⟨o.length - (1 + a + c + d + 15), by omega⟩
    refine .inr ⟨j, by omega, ?_, ?_, fun h3 => ?_, fun h3 h9 => ?_⟩
    · rw [k1, hj]; exact nx_hi _ _ _ _ (by omega)
    · rw [k2, hj]; exact nx_hi a c d (j + 1) (by omega)
    · rw [p1, hj]; exact nx_pl _ _ _ _ h3 (by omega)
    · rw [p2, hj]; exact nx_pl a c d (j + 1) h3 h9
/-- How many levels of a frame's end are left; 11: its sum is not yet passed. -/
def lef (o : List Int) : Nat := if kd o ≤ 4 then 11 else if kd o ≤ 7 then 15 - kd o else if kd o = 8 then 7 - pl o else 0
theorem lef_of {o : List Int} {j : Nat} (hj : j ≤ 10) (hk : kd o = tl j) (hp : 3 ≤ j → j ≤ 9 → pl o = j - 3) : lef o = 10 - j := by
  unfold lef
  rw [hk]
  have : j = 0 ∨ j = 1 ∨ j = 2 ∨ (3 ≤ j ∧ j ≤ 9) ∨ j = 10 := by omega
  rcases this with rfl | rfl | rfl | ⟨h1, h2⟩ | rfl
  · rfl
  · rfl
  · rfl
  · have e : tl j = 8 := by unfold tl; rw [if_neg (by omega), if_pos (by omega)]
    rw [e, hp h1 h2, if_neg (by omega), if_neg (by omega), if_pos rfl]
    omega
  · rfl
theorem lef_step {o : List Int} {z : Int} (h : kd o < 9) (h5 : 5 ≤ kd o) : lef (o ++ [z]) + 1 = lef o ∧ 6 ≤ kd (o ++ [z]) := by
  rcases kd_split (z := z) h with ⟨h1, _⟩ | ⟨j, hj, h1, h2, h3, h4⟩
  · omega
  · rw [lef_of (by omega) h1 (fun a _ => h3 a), lef_of (by omega) h2 h4]
    refine ⟨by omega, ?_⟩
    rw [h2]
    unfold tl
    split
    · omega
    · split <;> omega
end Go.Proofs.YtenfcbmeokenaaaGreat

/- Levels alike of a frame that a node receives. -/
namespace Go.Proofs.YtenfcbmeokenaaaGreat
set_option maxRecDepth 20000
open Go.RowKit
set_option linter.unusedSectionVars false

/-- No more than five alike ahead of the sum's delimiter. -/
def Fiv (n : Nd) : Prop := n.mode = 2 → (n.bl = 0 ∨ n.bl = 1) ∧ (kd n.own ≤ 5 → n.bn ≤ 5)
section
variable {B : Nat} {n : Nd} {z : Int}
theorem fiv_not (h : n.mode ≠ 2) : Fiv n := fun e => absurd e h
theorem fiv_begin {may : Bool} : Fiv (n.begin_ may) := fun _ => ⟨.inl rfl, fun _ => by show ((alk [0] : Nat) : Int) ≤ 5; decide⟩
/-- What comes of a level that is taken. -/
theorem take_fiv (hs : Sound B n) (hm : n.mode = 2) (hf : Fiv n) (hz : z = 0 ∨ z = 1) (ha : n.added = true → z ≠ n.bl) : ((n.take z).bl = 0 ∨ (n.take z).bl = 1) ∧ (kd (n.take z).own ≤ 5 → (n.take z).bn ≤ 5) := by
  have i := hs.inf hm
  obtain ⟨f1, f2⟩ := hf hm
  have e1 : (n.take z).bl = z ∧ (n.take z).bn = tlN n.bl n.bn z := by
    unfold Nd.take
    split <;> exact ⟨rfl, rfl⟩
  rw [e1.1, e1.2]
  refine ⟨hz, fun hk => ?_⟩
  cases h : n.added
  · have e2 : (n.take z).own = n.own ++ [z] := by
      unfold Nd.take
      rw [h, if_neg (by simp)]; rfl
    rw [e2] at hk
    have h4 : kd n.own ≤ 4 := by
      rcases Nat.lt_or_ge 4 (kd n.own) with h5 | h5
      · have := (lef_step (z := z) i.go h5).2
        omega
      · exact h5
    have hb := f2 (by omega)
    have h5 : n.bn ≠ 5 := by
      intro e
      have : n.added = true := by
        unfold Nd.added
        rw [i.kind, e]
        simp
        omega
      rw [h] at this; cases this
    unfold tlN
    split <;> omega
  · have := ha h
    unfold tlN
    rw [if_neg this]
    omega
theorem mode_cas {x : Int} : (n.casN x).mode = n.mode ∨ (n.casN x).mode = 10 := by
  unfold Nd.casN
  split
  · exact .inr rfl
  · exact .inl rfl
theorem mode_fail {k : Int} : (n.fail k).2.mode = 3 ∨ (n.fail k).2.mode = 4 ∨ (n.fail k).2.mode = 10 := by
  unfold Nd.fail
  rcases mode_cas (n := n.flg) (x := 1) with h | h
  · show (n.flg.casN 1).mode = 3 ∨ _
    rw [h]
    show (if n.pas then 4 else 3 : Int) = 3 ∨ (if n.pas then 4 else 3 : Int) = 4 ∨ _
    split <;> omega
  · exact .inr (.inr h)
theorem wrong_bl (hw : n.wrongK z = 0) (ha : n.added = true) : z ≠ n.bl := by
  intro e
  unfold Nd.wrongK at hw
  rw [ha, if_pos rfl, if_pos e] at hw
  split at hw <;> omega
theorem fiv_recv (hs : Sound B n) (hm : n.mode = 2) (hf : Fiv n) (hz : z = 0 ∨ z = 1) : Fiv (n.recv z).2 := by
  have i := hs.inf hm
  unfold Nd.recv
  split
  · exact fiv_not (by show (5 : Int) ≠ 2; omega)
  · split
    · exact fiv_not (by have := mode_fail (n := n) (k := n.wrongK z); omega)
    · rename_i hw
      have hw' : n.wrongK z = 0 := Classical.not_not.1 hw
      have a := take_fiv hs hm hf hz (fun e => wrong_bl hw' e)
      unfold Nd.goOn Nd.onto
      split
      · unfold Nd.fin
        split
        · exact fiv_not (by show (8 : Int) ≠ 2; omega)
        · exact fiv_not (by show (8 : Int) ≠ 2; omega)
      · split
        · exact fun _ => a
        · exact fun _ => a
theorem fiv_inF (hs : Sound B n) (hm : n.mode = 2) (ht : n.tx = false) (hf : Fiv n) (hz : z = 0 ∨ z = 1) : Fiv (n.inF z).2 := by
  have hl : n.loses z = false := by
    unfold Nd.loses
    rw [ht]; rfl
  unfold Nd.inF
  rw [hl, if_neg (by simp), if_neg (by rw [ht]; simp)]
  exact fiv_recv hs hm hf hz
theorem fiv_stp (hs : Sound B n) (ht : n.tx = false) (hf : Fiv n) (hz : z = 0 ∨ z = 1) : Fiv (n.stp z).2 := by
  have hcas : ∀ (m : Nd) (x : Int), m.mode ≠ 2 → Fiv (m.casN x) := fun m x h => fiv_not (by have := mode_cas (n := m) (x := x); omega)
  have hfail : ∀ (m : Nd) (k : Int), Fiv (m.fail k).2 := fun m k => fiv_not (by have := mode_fail (n := m) (k := k); omega)
  have hen : ∀ (m : Nd) (k : Int), k ≠ 2 → Fiv (m.enter k) := fun m k h => fiv_not h
  have hfl : n.mode = 3 ∨ n.mode = 5 → n.flagN.mode ≠ 2 := fun h => (hs.flagN h).2.2.1
  have hcl : ∀ m : Nd, m.mode ≠ 2 → Fiv (m.close z).2 := fun m h => by
    unfold Nd.close
    split
    · unfold Nd.closeN
      split
      · exact hen _ _ (by omega)
      · exact fiv_not h
    · split
      · exact hen _ _ (by omega)
      · exact hfail _ _
  have hpf : n.mode = 4 → (n.pflN z).mode ≠ 2 := fun h => by
    unfold Nd.pflN
    split
    · show (6 : Int) ≠ 2; omega
    · show n.mode ≠ 2; omega
  unfold Nd.stp
  split
  · unfold Nd.join
    split
    · exact hen _ _ (by omega)
    · exact fiv_not (by show n.mode ≠ 2; omega)
  split
  · unfold Nd.idle
    split
    · exact fiv_begin
    · split
      · exact hfail _ _
      · exact hf
  split
  · exact fiv_inF hs (by assumption) ht hf hz
  split
  · unfold Nd.flag
    split
    · exact fiv_not (hfl (.inl (by assumption)))
    · exact hcas _ _ (hfl (.inl (by assumption)))
  split
  · unfold Nd.pflag
    split
    · exact hcas _ _ (hpf (by assumption))
    · exact fiv_not (hpf (by assumption))
  split
  · unfold Nd.flag
    split
    · exact fiv_not (hfl (.inr (by assumption)))
    · exact hcas _ _ (hfl (.inr (by assumption)))
  split
  · unfold Nd.wait
    split
    · rename_i hz1
      have := hcl (n.enter 7) (by show (7 : Int) ≠ 2; omega)
      rw [hz1] at this
      exact this
    · split
      · exact hcas _ _ (by show n.mode ≠ 2; omega)
      · exact fiv_not (by show n.mode ≠ 2; omega)
  split
  · exact hcl n (by omega)
  split
  · unfold Nd.pause
    split
    · split
      · exact fiv_begin
      · exact hen _ _ (by omega)
    · split
      · exact fiv_not (by show n.mode ≠ 2; omega)
      · split <;> exact hen _ _ (by omega)
  split
  · unfold Nd.susp
    split
    · exact fiv_begin
    · show Fiv (if tlN n.sl n.sn 1 = 8 then n.enter 1 else n.see 1)
      split
      · exact hen _ _ (by omega)
      · exact fiv_not (by show n.mode ≠ 2; omega)
  · unfold Nd.off
    split
    · split
      · exact fiv_not (by show n.mode ≠ 2; omega)
      · exact fiv_not (by show (1 : Int) ≠ 2; omega)
    · exact fiv_not (by show n.mode ≠ 2; omega)
end
end Go.Proofs.YtenfcbmeokenaaaGreat

/- How many recessive levels a node without frames needs to be idle; and rows of eleven of one that is off. -/
namespace Go.Proofs.YtenfcbmeokenaaaGreat
set_option maxRecDepth 20000
open Go.RowKit
set_option linter.unusedSectionVars false

/-- How many recessive levels in a row it has seen. -/
def Nd.run (n : Nd) : Int := if n.sl = 1 then n.sn else 0
/-- How many recessive levels are left till it is idle, or off, at most. -/
def rk (n : Nd) : Int :=
  if n.mode = 0 then 11 - n.run else if n.mode = 1 then 0
  else if n.mode = 2 then (if kd n.own ≤ 5 then 26 + (if n.bl = 1 then 6 - n.bn else 6) else 17 + (lef n.own : Nat))
  else if n.mode = 3 ∨ n.mode = 5 then 17 - n.sn else if n.mode = 4 then 17 - n.run else if n.mode = 6 then 11
  else if n.mode = 7 then 11 - n.sn else if n.mode = 8 then 3 - n.sn else if n.mode = 9 then 8 - n.sn else 0
section
variable {B : Nat} {n : Nd} {z : Int}
theorem tlN_one : tlN n.sl n.sn 1 = n.run + 1 := by
  unfold tlN Nd.run
  by_cases h : n.sl = 1
  · rw [if_pos h.symm, if_pos h]
  · rw [if_neg (fun e => h e.symm), if_neg h]; rfl
theorem run_see1 : (n.see 1).run = n.run + 1 := by
  show (if (1 : Int) = 1 then tlN n.sl n.sn 1 else 0) = _
  rw [if_pos rfl, tlN_one]
theorem run_see0 : (n.see 0).run = 0 := by
  show (if (0 : Int) = 1 then tlN n.sl n.sn 0 else 0) = 0
  rw [if_neg (by omega)]
theorem quiet1 : n.quiet 1 = true ↔ n.run = 10 := by
  unfold Nd.quiet
  rw [tlN_one]
  simp
  omega
theorem quiet0 : n.quiet 0 = false := by
  unfold Nd.quiet
  simp
theorem run_pos (h : 0 ≤ n.sn) : 0 ≤ n.run := by
  unfold Nd.run
  split <;> omega
theorem rk_cas {x : Int} {C : Int} (h : rk n ≤ C) (h0 : 0 ≤ C) (_hm : n.mode ≠ 2) : rk (n.casN x) ≤ C := by
  unfold Nd.casN
  split
  · exact h0
  · have e : rk (n.cnt x) = rk n := rfl
    rw [e]; exact h
theorem rk_fail {k : Int} : rk (n.fail k).2 ≤ 17 := by
  unfold Nd.fail Nd.flg
  by_cases h : n.pas = true
  · rw [if_pos h]
    exact rk_cas (by show (17 : Int) - 0 ≤ 17; omega) (by omega) (by show (4 : Int) ≠ 2; omega)
  · rw [if_neg h]
    exact rk_cas (by show (17 : Int) - 0 ≤ 17; omega) (by omega) (by show (3 : Int) ≠ 2; omega)
theorem lef_nine {o : List Int} (h : 6 ≤ kd o) : lef o ≤ 9 := by
  unfold lef
  rw [if_neg (by omega)]
  split
  · omega
  · split <;> omega
theorem lef_one {o : List Int} (h5 : 5 ≤ kd o) (h : kd o < 9) : 1 ≤ lef o := by
  have := (lef_step (z := 0) h h5).1
  omega
theorem rk_in (hm : n.mode = 2) : rk n = if kd n.own ≤ 5 then 26 + (if n.bl = 1 then 6 - n.bn else 6) else 17 + (lef n.own : Nat) := by
  unfold rk
  rw [if_neg (by omega), if_neg (by omega), if_pos hm]
theorem rk_ge (hs : Sound B n) (hf : Fiv n) (hm : n.mode = 2) : 18 ≤ rk n ∧ rk n ≤ 32 := by
  have i := hs.inf hm
  have b0 := i.b0
  obtain ⟨f1, f2⟩ := hf hm
  rw [rk_in hm]
  split
  · rename_i hk
    have := f2 hk
    split <;> omega
  · rename_i hk
    have h1 := lef_one (o := n.own) (by omega) i.go
    have h2 := lef_nine (o := n.own) (by omega)
    omega
theorem rk_inF (hs : Sound B n) (hm : n.mode = 2) (ht : n.tx = false) (hf : Fiv n) : rk (n.inF 1).2 + 1 ≤ rk n := by
  have i := hs.inf hm
  obtain ⟨g1, g2⟩ := rk_ge hs hf hm
  obtain ⟨f1, f2⟩ := hf hm
  have hl : n.loses 1 = false := by
    unfold Nd.loses
    rw [ht]; rfl
  unfold Nd.inF
  rw [hl, if_neg (by simp), if_neg (by rw [ht]; simp)]
  unfold Nd.recv
  rw [if_neg (by omega)]
  by_cases hw : n.wrongK 1 ≠ 0
  · rw [if_pos hw]
    have := rk_fail (n := n) (k := n.wrongK 1)
    omega
  · rw [if_neg hw]
    have hw' : n.wrongK 1 = 0 := Classical.not_not.1 hw
    have a := fun e => wrong_bl hw' e
    obtain ⟨e1, e2, e3, e4, e5⟩ := take_kept (n := n) (z := 1)
    have e6 : (n.take 1).bl = 1 ∧ (n.take 1).bn = tlN n.bl n.bn 1 ∧ (n.take 1).mode = n.mode := by
      unfold Nd.take
      split <;> exact ⟨rfl, rfl, rfl⟩
    have hin : rk (n.take 1) + 1 ≤ rk n := by
      rw [rk_in hm, rk_in (e6.2.2.trans hm), e6.1, e6.2.1, if_pos rfl]
      cases h : n.added
      · have e7 : (n.take 1).own = n.own ++ [1] := by
          unfold Nd.take
          rw [h, if_neg (by simp)]; rfl
        rw [e7]
        rcases Nat.lt_or_ge 4 (kd n.own) with h5 | h5
        · obtain ⟨l1, l2⟩ := lef_step (z := 1) i.go h5
          rw [if_neg (by omega)]
          split
          · rename_i hk
            have hb := f2 hk
            have l3 := lef_nine l2
            split <;> omega
          · omega
        · have h6 : kd (n.own ++ [1]) ≤ 5 := by
            rcases kd_split (z := 1) i.go with ⟨_, h6⟩ | ⟨j, _, h6, h7, _, _⟩
            · exact h6
            · rw [h6] at h5
              unfold tl at h5
              split at h5
              · omega
              · split at h5 <;> omega
          rw [if_pos h6, if_pos (by omega)]
          unfold tlN
          by_cases hb : n.bl = 1
          · rw [if_pos hb.symm, if_pos hb]; omega
          · rw [if_neg (fun e => hb e.symm), if_neg hb]; omega
      · have e7 : (n.take 1).own = n.own := by
          unfold Nd.take
          rw [h, if_pos rfl]; rfl
        rw [e7]
        have hb : n.bl ≠ 1 := fun e => a h e.symm
        have hk : kd n.own ≤ 5 := by
          unfold Nd.added at h
          rw [i.kind] at h
          simp at h
          omega
        rw [if_pos hk, if_pos hk, if_neg hb]
        unfold tlN
        rw [if_neg (fun e => hb e.symm)]
        omega
    unfold Nd.goOn Nd.onto
    split
    · unfold Nd.fin
      have : ∀ m : Nd, m.mode = 8 → m.sn = 0 → rk m ≤ 3 := fun m h1 h2 => by
        unfold rk
        rw [h1, h2]; simp
      split
      · exact Int.le_trans (Int.add_le_add_right (this _ rfl rfl) 1) (by omega)
      · exact Int.le_trans (Int.add_le_add_right (this _ rfl rfl) 1) (by omega)
    · split
      · exact hin
      · exact hin
/-- Each recessive level brings it nearer. -/
theorem rk_stp (hs : Sound B n) (hd : Tidy n) (hf : Fiv n) (ht : n.tx = false) (hq : n.q = []) : (rk n = 0 ∧ rk (n.stp 1).2 = 0) ∨ rk (n.stp 1).2 + 1 ≤ rk n := by
  have m0 := hs.m0
  have m1 := hs.m1
  have s0 := hs.s0
  have hlq : ¬ 0 < n.q.length := by rw [hq]; simp
  have hb : n.back = false := by
    unfold Nd.back
    rw [ht, Bool.and_false]
  have hmode : ∀ (a : Nd) (k : Int), a.mode = k → rk a = if k = 0 then 11 - a.run else if k = 1 then 0 else if k = 2 then (if kd a.own ≤ 5 then 26 + (if a.bl = 1 then 6 - a.bn else 6) else 17 + (lef a.own : Nat)) else if k = 3 ∨ k = 5 then 17 - a.sn else if k = 4 then 17 - a.run else if k = 6 then 11 else if k = 7 then 11 - a.sn else if k = 8 then 3 - a.sn else if k = 9 then 8 - a.sn else 0 := fun a k h => by
    subst h; rfl
  have hen : ∀ k : Int, k = 1 ∨ k = 10 → rk (n.enter k) = 0 := fun k hk => by rcases hk with rfl | rfl <;> rfl
  have hc : n.mode = 0 ∨ n.mode = 1 ∨ n.mode = 2 ∨ n.mode = 3 ∨ n.mode = 4 ∨ n.mode = 5 ∨ n.mode = 6 ∨ n.mode = 7 ∨ n.mode = 8 ∨ n.mode = 9 ∨ n.mode = 10 := by omega
  have hflag : n.mode = 3 ∨ n.mode = 5 → rk (n.flag 1).2 + 1 ≤ rk n := fun h => by
    obtain ⟨a1, a2⟩ := hd.f h
    have e : tlN n.sl n.sn 0 = n.sn + 1 := by unfold tlN; rw [if_pos a1.symm]
    have hk : rk n = 17 - n.sn := by rcases h with h | h <;> rw [hmode n _ h] <;> rfl
    unfold Nd.flag
    rw [if_neg (by omega)]
    have hr : rk n.flagN ≤ 16 - n.sn ∧ n.flagN.mode ≠ 2 := by
      unfold Nd.flagN
      rw [e]
      split
      · refine ⟨?_, by show (6 : Int) ≠ 2; omega⟩
        rw [hmode n.endF 6 rfl]
        show (11 : Int) ≤ _
        omega
      · have hk2 : rk (n.see 0) = 17 - (n.see 0).sn := by rcases h with h | h <;> rw [hmode (n.see 0) _ h] <;> rfl
        refine ⟨?_, by show n.mode ≠ 2; omega⟩
        rw [hk2]
        show 17 - tlN n.sl n.sn 0 ≤ _
        omega
    have := rk_cas (x := 8) hr.1 (by omega) hr.2
    show rk (n.flagN.casN 8) + 1 ≤ rk n
    omega
  rcases hc with h | h | h | h | h | h | h | h | h | h | h
  · refine .inr ?_
    rw [hmode n 0 h]
    unfold Nd.stp
    rw [if_pos h]
    unfold Nd.join
    have j := hd.j h
    have hr : n.run ≤ 10 := by
      unfold Nd.run
      split
      · exact j (by assumption)
      · omega
    by_cases hq1 : n.quiet 1 = true
    · rw [if_pos hq1, hen 1 (.inl rfl)]
      show 0 + 1 ≤ 11 - n.run
      omega
    · rw [if_neg hq1, hmode (n.see 1) 0 h, run_see1]
      show 11 - (n.run + 1) + 1 ≤ 11 - n.run
      omega
  · refine .inl ⟨by rw [hmode n 1 h]; rfl, ?_⟩
    unfold Nd.stp
    rw [if_neg (by omega), if_pos h]
    unfold Nd.idle
    rw [if_neg (by omega), if_neg hlq]
    show rk n = 0
    rw [hmode n 1 h]; rfl
  · refine .inr ?_
    unfold Nd.stp
    rw [if_neg (by omega), if_neg (by omega), if_pos h]
    exact rk_inF hs h ht hf
  · refine .inr ?_
    unfold Nd.stp
    rw [if_neg (by omega), if_neg (by omega), if_neg (by omega), if_pos h]
    exact hflag (.inl h)
  · refine .inr ?_
    have hp := hd.p h
    have hr5 : n.run ≤ 5 := by unfold Nd.run; split <;> omega
    rw [hmode n 4 h]
    show _ ≤ 17 - n.run
    unfold Nd.stp
    rw [if_neg (by omega), if_neg (by omega), if_neg (by omega), if_neg (by omega), if_pos h]
    unfold Nd.pflag
    have hdue : n.due 1 = false := by unfold Nd.due; simp
    rw [hdue, if_neg (by simp)]
    unfold Nd.pflN
    rw [tlN_one]
    split
    · rw [hmode n.endF 6 rfl]
      show (11 : Int) + 1 ≤ _
      omega
    · have hm4 : rk ({ n.see 1 with owed := n.owed && !(n.owed && 1 == 0) } : Nd) = 17 - (n.see 1).run := by
        exact hmode ({ n.see 1 with owed := n.owed && !(n.owed && 1 == 0) } : Nd) 4 h
      show rk ({ n.see 1 with owed := n.owed && !(n.owed && 1 == 0) } : Nd) + 1 ≤ _
      rw [hm4, run_see1]; omega
  · refine .inr ?_
    unfold Nd.stp
    rw [if_neg (by omega), if_neg (by omega), if_neg (by omega), if_neg (by omega), if_neg (by omega), if_pos h]
    exact hflag (.inr h)
  · refine .inr ?_
    rw [hmode n 6 h]
    unfold Nd.stp
    rw [if_neg (by omega), if_neg (by omega), if_neg (by omega), if_neg (by omega), if_neg (by omega), if_neg (by omega), if_pos h]
    unfold Nd.wait
    rw [if_pos rfl]
    show (10 : Int) + 1 ≤ 11
    omega
  · refine .inr ?_
    obtain ⟨c1, c2, c3⟩ := hd.c h
    rw [hmode n 7 h]
    show _ ≤ 11 - n.sn
    unfold Nd.stp
    rw [if_neg (by omega), if_neg (by omega), if_neg (by omega), if_neg (by omega), if_neg (by omega), if_neg (by omega), if_neg (by omega), if_pos h]
    unfold Nd.close
    rw [if_pos rfl]
    unfold Nd.closeN
    have e : tlN n.sl n.sn 1 = n.sn + 1 := by unfold tlN; rw [if_pos c1.symm]
    rw [e]
    split
    · show (3 : Int) - 0 + 1 ≤ _
      omega
    · show rk (n.see 1) + 1 ≤ _
      rw [hmode (n.see 1) 7 h]
      show 11 - tlN n.sl n.sn 1 + 1 ≤ _
      omega
  · refine .inr ?_
    obtain ⟨c1, c2⟩ := hd.z h
    rw [hmode n 8 h]
    show _ ≤ 3 - n.sn
    unfold Nd.stp
    rw [if_neg (by omega), if_neg (by omega), if_neg (by omega), if_neg (by omega), if_neg (by omega), if_neg (by omega), if_neg (by omega), if_neg (by omega), if_pos h]
    unfold Nd.pause
    rw [if_neg (by omega)]
    split
    · show rk (n.see 1) + 1 ≤ _
      rw [hmode (n.see 1) 8 h]
      show 3 - tlN n.sl n.sn 1 + 1 ≤ _
      have e : tlN n.sl n.sn 1 = n.sn + 1 := by
        unfold tlN
        split
        · rfl
        · omega
      omega
    · rw [hb, if_neg (by simp)]
      show (0 : Int) + 1 ≤ _
      omega
  · refine .inr ?_
    obtain ⟨c1, c2⟩ := hd.s h
    rw [hmode n 9 h]
    show _ ≤ 8 - n.sn
    unfold Nd.stp
    rw [if_neg (by omega), if_neg (by omega), if_neg (by omega), if_neg (by omega), if_neg (by omega), if_neg (by omega), if_neg (by omega), if_neg (by omega), if_neg (by omega), if_pos h]
    unfold Nd.susp
    rw [if_neg (by omega)]
    have e : tlN n.sl n.sn 1 = n.sn + 1 := by
      unfold tlN
      split
      · rfl
      · omega
    show rk (if tlN n.sl n.sn 1 = 8 then n.enter 1 else n.see 1) + 1 ≤ _
    rw [e]
    split
    · rw [hen 1 (.inl rfl)]; omega
    · rw [hmode (n.see 1) 9 h]
      show 8 - tlN n.sl n.sn 1 + 1 ≤ _
      omega
  · refine .inl ⟨by rw [hmode n 10 h]; rfl, ?_⟩
    unfold Nd.stp
    rw [if_neg (by omega), if_neg (by omega), if_neg (by omega), if_neg (by omega), if_neg (by omega), if_neg (by omega), if_neg (by omega), if_neg (by omega), if_neg (by omega), if_neg (by omega)]
    unfold Nd.off
    split
    · split
      · show rk n.row0 = 0
        rw [hmode n.row0 10 h]; rfl
      · rfl
    · show rk (n.see 1) = 0
      rw [hmode (n.see 1) 10 h]; rfl
theorem rk_zero (hs : Sound B n) (hd : Tidy n) (hf : Fiv n) (h : rk n = 0) : n.mode = 1 ∨ n.mode = 10 := by
  have m0 := hs.m0
  have m1 := hs.m1
  rcases Decidable.em (n.mode = 2) with h2 | h2
  · have := rk_ge hs hf h2; omega
  have j := hd.j
  have f := hd.f
  have p := hd.p
  have c := hd.c
  have z8 := hd.z
  have s9 := hd.s
  have s0 := hs.s0
  have hr : n.run = n.sn ∧ n.sl = 1 ∨ n.run = 0 := by
    unfold Nd.run
    split
    · exact .inl ⟨rfl, by assumption⟩
    · exact .inr rfl
  unfold rk at h
  rcases hr with hr | hr
  · repeat (first | split at h | omega)
  · repeat (first | split at h | omega)
theorem rk_le (hs : Sound B n) (hf : Fiv n) : rk n ≤ 60 := by
  rcases Decidable.em (n.mode = 2) with h2 | h2
  · have := rk_ge hs hf h2; omega
  have s0 := hs.s0
  have hr := run_pos s0
  unfold rk
  repeat (first | split | omega)
/-- What a level does to one that is off. -/
theorem off_stp0 (hm : n.mode = 10) : n.stp 0 = ([], n.see 0) := by
  unfold Nd.stp
  rw [if_neg (by omega), if_neg (by omega), if_neg (by omega), if_neg (by omega), if_neg (by omega), if_neg (by omega), if_neg (by omega), if_neg (by omega), if_neg (by omega), if_neg (by omega)]
  unfold Nd.off
  rw [quiet0, if_neg (by simp)]
theorem off_stp1 (hm : n.mode = 10) (hr : n.run ≠ 10) : n.stp 1 = ([], n.see 1) := by
  unfold Nd.stp
  rw [if_neg (by omega), if_neg (by omega), if_neg (by omega), if_neg (by omega), if_neg (by omega), if_neg (by omega), if_neg (by omega), if_neg (by omega), if_neg (by omega), if_neg (by omega)]
  unfold Nd.off
  rw [if_neg (fun e => hr (quiet1.1 e))]
theorem off_stpR (hm : n.mode = 10) (hr : n.run = 10) (h : n.rows + 1 < 128) : n.stp 1 = ([], n.row0) := by
  unfold Nd.stp
  rw [if_neg (by omega), if_neg (by omega), if_neg (by omega), if_neg (by omega), if_neg (by omega), if_neg (by omega), if_neg (by omega), if_neg (by omega), if_neg (by omega), if_neg (by omega)]
  unfold Nd.off
  rw [if_pos (quiet1.2 hr), if_pos h]
theorem off_stpB (hm : n.mode = 10) (hr : n.run = 10) (h : ¬ n.rows + 1 < 128) : n.stp 1 = ([ev 11], { n.enter 1 with ct := Ct.zero, tx := false }) := by
  unfold Nd.stp
  rw [if_neg (by omega), if_neg (by omega), if_neg (by omega), if_neg (by omega), if_neg (by omega), if_neg (by omega), if_neg (by omega), if_neg (by omega), if_neg (by omega), if_neg (by omega)]
  unfold Nd.off
  rw [if_pos (quiet1.2 hr), if_neg h]
theorem off_run (hs : Sound B n) (hd : Tidy n) (hm : n.mode = 10) : 0 ≤ n.run ∧ n.run ≤ 10 := by
  refine ⟨run_pos hs.s0, ?_⟩
  unfold Nd.run
  split
  · exact hd.o hm (by assumption)
  · omega
/-- How many recessive levels are left till one that is off comes back. -/
def ork (n : Nd) : Int := if n.mode = 10 then 11 * (128 - n.rows) - n.run else 0
theorem ork_stp (hs : Sound B n) (hd : Tidy n) (h : n.mode = 1 ∨ n.mode = 10) (hq : n.q = []) : ((n.stp 1).2.mode = 1 ∨ (n.stp 1).2.mode = 10) ∧ ((ork n = 0 ∧ ork (n.stp 1).2 = 0) ∨ ork (n.stp 1).2 + 1 ≤ ork n) := by
  have hlq : ¬ 0 < n.q.length := by rw [hq]; simp
  rcases h with h | h
  · have e : n.stp 1 = ([], n) := by
      unfold Nd.stp
      rw [if_neg (by omega), if_pos h]
      unfold Nd.idle
      rw [if_neg (by omega), if_neg hlq]
    rw [e]
    have : ork n = 0 := by unfold ork; rw [if_neg (by omega)]
    exact ⟨.inl h, .inl ⟨this, this⟩⟩
  · obtain ⟨r0, r1⟩ := off_run hs hd h
    have ho : ork n = 11 * (128 - n.rows) - n.run := by unfold ork; rw [if_pos h]
    have q1 := hs.r1
    rw [ho]
    by_cases hr : n.run = 10
    · by_cases h1 : n.rows + 1 < 128
      · rw [off_stpR h hr h1]
        refine ⟨.inr h, .inr ?_⟩
        have : ork n.row0 = 11 * (128 - (n.rows + 1)) - 0 := by
          unfold ork
          rw [if_pos (show n.row0.mode = 10 from h)]; rfl
        show ork n.row0 + 1 ≤ _
        omega
      · rw [off_stpB h hr h1]
        refine ⟨.inl rfl, .inr ?_⟩
        show (0 : Int) + 1 ≤ _
        omega
    · rw [off_stp1 h hr]
      refine ⟨.inr h, .inr ?_⟩
      have : ork (n.see 1) = 11 * (128 - n.rows) - (n.run + 1) := by
        unfold ork
        rw [if_pos (show (n.see 1).mode = 10 from h), run_see1]; rfl
      show ork (n.see 1) + 1 ≤ _
      omega
theorem ork_le (hs : Sound B n) : 0 ≤ ork n → ork n ≤ 1408 := fun _ => by
  have := hs.r0
  have := run_pos hs.s0
  unfold ork
  split <;> omega
theorem ork_zero (hs : Sound B n) (hd : Tidy n) (h : n.mode = 1 ∨ n.mode = 10) (h0 : ork n ≤ 0) : n.mode = 1 := by
  rcases h with h | h
  · exact h
  · obtain ⟨r0, r1⟩ := off_run hs hd h
    have q1 := hs.r1
    unfold ork at h0
    rw [if_pos h] at h0
    omega
end
end Go.Proofs.YtenfcbmeokenaaaGreat

/- What a node drives is a level; a node without frames. -/
namespace Go.Proofs.YtenfcbmeokenaaaGreat
set_option maxRecDepth 20000
open Go.RowKit
set_option linter.unusedSectionVars false

section
variable {B : Nat} {n : Nd} {z : Int}
theorem oth_01 (l : Int) : oth l = 0 ∨ oth l = 1 := by
  unfold oth
  split
  · exact .inr rfl
  · exact .inl rfl
theorem drvIn_01 (hs : Sound B n) (hm : n.mode = 2) : n.drvIn = 0 ∨ n.drvIn = 1 := by
  have i := hs.inf hm
  unfold Nd.drvIn
  split
  · exact oth_01 _
  · split
    · rename_i ht
      obtain ⟨x1, x2, b, x3⟩ := i.out ht
      have hl : n.own.length < n.outL.length := by rw [x2]; exact tx_short (hs.qf _ x1).1 x3 i.go
      have hm : n.outL.getD n.own.length 0 ∈ n.outL := by
        simp [List.getD, List.getElem?_eq_getElem hl]
      have ha : ∀ z ∈ n.outL, lvl z = true := by
        rw [x2]
        exact alls_all n.outF
      exact lvl_01 (ha _ hm)
    · split
      · exact .inl rfl
      · exact .inr rfl
theorem drv_01 (hs : Sound B n) : n.drv = 0 ∨ n.drv = 1 := by
  unfold Nd.drv
  split
  · split
    · exact .inl rfl
    · exact .inr rfl
  · split
    · exact drvIn_01 hs (by assumption)
    · split
      · exact .inl rfl
      · exact .inr rfl
/-- A node without frames, behind B levels. -/
structure Cm (B : Nat) (n : Nd) : Prop where
  s : Sound B n
  d : Tidy n
  f : Fiv n
  t : n.tx = false
  q : n.q = []
theorem cm_new : Cm 0 Nd.new := ⟨sound_new, ⟨fun _ e => (by cases e), fun e => by (rcases e with e | e <;> cases e), fun e => (by cases e), fun e => (by cases e), fun e => (by cases e), fun e => (by cases e), fun e => (by cases e)⟩, fiv_not (by decide), rfl, rfl⟩
theorem Cm.stp (h : Cm B n) (hz : z = 0 ∨ z = 1) : Cm (B + 1) (n.stp z).2 :=
  ⟨(good_stp h.s hz).s, tidy_stp h.s h.d, fiv_stp h.s h.t h.f hz, tx_stp h.t h.q, q_stp h.s h.q hz⟩
/-- With so many recessive levels still to come. -/
theorem Cm.near (h : Cm B n) {k : Nat} (hk : k < 60) (hr : rk n ≤ 60 - (k : Nat)) : rk (n.stp 1).2 ≤ 60 - ((k + 1 : Nat) : Int) := by
  rcases rk_stp h.s h.d h.f h.t h.q with ⟨a, b⟩ | a <;> omega
theorem Cm.nearer (h : Cm B n) (hm : n.mode = 1 ∨ n.mode = 10) {k : Nat} (hk : k < 1408) (hr : ork n ≤ 1408 - (k : Nat)) : ((n.stp 1).2.mode = 1 ∨ (n.stp 1).2.mode = 10) ∧ ork (n.stp 1).2 ≤ 1408 - ((k + 1 : Nat) : Int) := by
  obtain ⟨a, b⟩ := ork_stp h.s h.d hm h.q
  refine ⟨a, ?_⟩
  rcases b with ⟨b1, b2⟩ | b <;> omega
theorem rk_pos (hs : Sound B n) (hd : Tidy n) (hf : Fiv n) : 0 ≤ rk n := by
  rcases Decidable.em (n.mode = 2) with h2 | h2
  · have := rk_ge hs hf h2; omega
  have j := hd.j
  have f := hd.f
  have p := hd.p
  have c := hd.c
  have z8 := hd.z
  have s9 := hd.s
  have s0 := hs.s0
  have hr : n.run = n.sn ∧ n.sl = 1 ∨ n.run = 0 := by
    unfold Nd.run
    split
    · exact .inl ⟨rfl, by assumption⟩
    · exact .inr rfl
  unfold rk
  rcases hr with hr | hr
  · repeat (first | split | omega)
  · repeat (first | split | omega)
theorem Cm.idle (h : Cm B n) (hr : rk n ≤ 0) : n.mode = 1 ∨ n.mode = 10 := rk_zero h.s h.d h.f (by have := rk_pos h.s h.d h.f; omega)
theorem Cm.back (h : Cm B n) (hm : n.mode = 1 ∨ n.mode = 10) (hr : ork n ≤ 0) : n.mode = 1 := ork_zero h.s h.d hm hr
theorem Cm.drv1 (h : Cm B n) (hm : n.mode = 1) : n.drv = 1 := by
  unfold Nd.drv
  rw [if_pos hm, h.q, if_neg (by simp)]
theorem Cm.orl (h : Cm B n) : ork n ≤ 1408 := by
  have a := h.s.r0
  have b := h.s.r1
  have c := run_pos h.s.s0
  unfold ork
  split <;> omega
end
end Go.Proofs.YtenfcbmeokenaaaGreat

/- Counts, turn by turn: how a node goes off, and comes back; events told; blocks beside a node. -/
namespace Go.Proofs.YtenfcbmeokenaaaGreat
set_option maxRecDepth 20000
open Go.RowKit
set_option linter.unusedSectionVars false

/-- One that has just gone off has counted nothing. -/
def Fresh (n : Nd) : Prop := n.mode = 10 → n.run = 0 ∧ n.rows = 0
section
variable {B : Nat} {n : Nd} {z : Int}
theorem fresh_not (h : n.mode ≠ 10) : Fresh n := fun e => absurd e h
theorem fresh_cas {x : Int} (h : n.mode ≠ 10) : Fresh (n.casN x) := by
  unfold Nd.casN
  split
  · exact fun _ => ⟨rfl, rfl⟩
  · exact fresh_not h
theorem fresh_fail {k : Int} : Fresh (n.fail k).2 := by
  unfold Nd.fail Nd.flg
  exact fresh_cas (by show (if n.pas then 4 else 3 : Int) ≠ 10; split <;> omega)
theorem fresh_goOn (hm : n.mode = 2) : Fresh (n.goOn z).2 := by
  have e : (n.take z).mode = 2 := by unfold Nd.take; split <;> exact hm
  unfold Nd.goOn Nd.onto
  split
  · unfold Nd.fin
    split
    · exact fresh_not (by show (8 : Int) ≠ 10; omega)
    · exact fresh_not (by show (8 : Int) ≠ 10; omega)
  · split
    · exact fresh_not (by show (n.take z).mode ≠ 10; omega)
    · exact fresh_not (by show (n.take z).mode ≠ 10; omega)
theorem fresh_recv (hm : n.mode = 2) : Fresh (n.recv z).2 := by
  unfold Nd.recv
  split
  · exact fresh_not (by show (5 : Int) ≠ 10; omega)
  · split
    · exact fresh_fail
    · exact fresh_goOn hm
theorem fresh_send (hm : n.mode = 2) : Fresh (n.send z).2 := by
  have hf : ∀ k, (n.enter k).mode = k := fun _ => rfl
  unfold Nd.send
  split
  · split
    · exact fresh_goOn hm
    · unfold Nd.unheard
      split
      · exact fresh_not (by show (if n.pas then 4 else 3 : Int) ≠ 10; split <;> omega)
      · exact fresh_fail
  · split
    · exact fresh_not (by show (if n.pas then 4 else 3 : Int) ≠ 10; split <;> omega)
    · split
      · exact fresh_goOn hm
      · exact fresh_fail
theorem fresh_inF (hm : n.mode = 2) : Fresh (n.inF z).2 := by
  unfold Nd.inF
  split
  · exact fresh_recv (n := n.lost) hm
  · split
    · exact fresh_send hm
    · exact fresh_recv hm
theorem fresh_stp (hs : Sound B n) (h10 : n.mode ≠ 10) : Fresh (n.stp z).2 := by
  have m0 := hs.m0
  have m1 := hs.m1
  have hen : ∀ (m : Nd) (k : Int), k ≠ 10 → Fresh (m.enter k) := fun m k h => fresh_not h
  have hfl : n.mode = 3 ∨ n.mode = 5 → n.flagN.mode ≠ 10 := fun h => (hs.flagN h).2.1
  have hcl : ∀ m : Nd, m.mode ≠ 10 → Fresh (m.close z).2 := fun m h => by
    unfold Nd.close
    split
    · unfold Nd.closeN
      split
      · exact hen _ _ (by omega)
      · exact fresh_not h
    · split
      · exact hen _ _ (by omega)
      · exact fresh_fail
  have hpf : n.mode = 4 → (n.pflN z).mode ≠ 10 := fun h => by
    unfold Nd.pflN
    split
    · show (6 : Int) ≠ 10; omega
    · show n.mode ≠ 10; omega
  unfold Nd.stp
  split
  · unfold Nd.join
    split
    · exact hen _ _ (by omega)
    · exact fresh_not h10
  split
  · unfold Nd.idle
    split
    · exact fresh_not (by show (2 : Int) ≠ 10; omega)
    · split
      · exact fresh_fail
      · exact fresh_not h10
  split
  · exact fresh_inF (by assumption)
  split
  · unfold Nd.flag
    split
    · exact fresh_not (hfl (.inl (by assumption)))
    · exact fresh_cas (hfl (.inl (by assumption)))
  split
  · unfold Nd.pflag
    split
    · exact fresh_cas (hpf (by assumption))
    · exact fresh_not (hpf (by assumption))
  split
  · unfold Nd.flag
    split
    · exact fresh_not (hfl (.inr (by assumption)))
    · exact fresh_cas (hfl (.inr (by assumption)))
  split
  · unfold Nd.wait
    split
    · rename_i hz1
      have := hcl (n.enter 7) (by show (7 : Int) ≠ 10; omega)
      rw [hz1] at this
      exact this
    · split
      · exact fresh_cas h10
      · exact fresh_not h10
  split
  · exact hcl n h10
  split
  · unfold Nd.pause
    split
    · split
      · exact fresh_not (by show (2 : Int) ≠ 10; omega)
      · exact hen _ _ (by omega)
    · split
      · exact fresh_not h10
      · split <;> exact hen _ _ (by omega)
  split
  · unfold Nd.susp
    split
    · exact fresh_not (by show (2 : Int) ≠ 10; omega)
    · show Fresh (if tlN n.sl n.sn 1 = 8 then n.enter 1 else n.see 1)
      split
      · exact hen _ _ (by omega)
      · exact fresh_not h10
  · omega
/-- A node, behind any turns, and what one has counted of it as it is off. -/
structure Cn (B : Nat) (n : Nd) (run rows : Int) : Prop where
  s : Sound B n
  d : Tidy n
  o : n.ct.o = true → run = n.run ∧ rows = n.rows
  a : 0 ≤ run ∧ run ≤ 11
  b : 0 ≤ rows ∧ rows ≤ 128
theorem cn_new : Cn 0 Nd.new 0 0 := ⟨sound_new, cm_new.d, fun e => (by cases e), by omega, by omega⟩
theorem Cn.put {run rows : Int} (h : Cn B n run rows) (f : Fr) (hf : f.wf) : Cn B { n with q := pL 16 f n.q } run rows :=
  ⟨sound_put h.s f hf, h.d.of rfl rfl rfl, h.o, h.a, h.b⟩
/-- What is told of going off, and coming back. -/
def has (k : Int) (es : List Ev) : Bool := es.any fun e => e.1 == k
theorem has_iff {k : Int} {es : List Ev} : has k es = true ↔ ∃ e ∈ es, e.1 = k := by
  unfold has
  rw [List.any_eq_true]
  constructor
  · rintro ⟨e, h1, h2⟩
    exact ⟨e, h1, by simpa using h2⟩
  · rintro ⟨e, h1, h2⟩
    exact ⟨e, h1, by simpa using h2⟩
theorem has_more {k : Int} {es : List Ev} {j : Nat} (hj : j < es.length) : has k (es.take (j + 1)) = (has k (es.take j) || (es.getD j (0, Fr.zero)).1 == k) := by
  unfold has
  rw [List.take_add_one, List.getElem?_eq_getElem hj, List.any_append]
  simp [List.getD, List.getElem?_eq_getElem hj]
theorem Cn.told {run rows : Int} (h : Cn B n run rows) (hz : z = 0 ∨ z = 1) {o' : Bool} (ho' : (n.stp z).2.ct.o = o') : has 10 (n.stp z).1 = (!n.ct.o && o') ∧ has 11 (n.stp z).1 = (n.ct.o && !o') ∧ (n.stp z).1.length ≤ 3 ∧ (n.stp z).2.ct.t ≤ n.ct.t + 8 ∧ (o' = true ↔ (n.stp z).2.mode = 10) := by
  have g := good_stp h.s hz
  have e1 := g.gone
  have e2 := g.back
  rw [← has_iff] at e1 e2
  rw [ho'] at e1 e2
  refine ⟨?_, ?_, g.len, g.t, by rw [← ho']; exact g.s.off⟩
  · cases h10 : has 10 (n.stp z).1 <;> cases hn : n.ct.o <;> cases o' <;> simp_all
  · cases h11 : has 11 (n.stp z).1 <;> cases hn : n.ct.o <;> cases o' <;> simp_all
theorem Cn.stp_on {run rows : Int} (h : Cn B n run rows) (ho : n.ct.o = false) (hz : z = 0 ∨ z = 1) : Cn (B + 1) (n.stp z).2 0 0 := by
  have g := good_stp h.s hz
  refine ⟨g.s, tidy_stp h.s h.d, fun e => ?_, by omega, by omega⟩
  have h10 : n.mode ≠ 10 := fun e2 => by
    have := h.s.off.2 e2
    rw [ho] at this
    cases this
  obtain ⟨f1, f2⟩ := fresh_stp (z := z) h.s h10 (g.s.off.1 e)
  exact ⟨f1.symm, f2.symm⟩
/-- What a level does to one that is off, as one counts. -/
theorem Cn.stp_off {run rows : Int} (h : Cn B n run rows) (ho : n.ct.o = true) (hz : z = 0 ∨ z = 1) :
    (z = 0 ∧ (n.stp z).2.ct = n.ct ∧ rows ≠ 128 ∧ Cn (B + 1) (n.stp z).2 0 rows) ∨
    (z = 1 ∧ run + 1 ≠ 11 ∧ (n.stp z).2.ct = n.ct ∧ rows ≠ 128 ∧ Cn (B + 1) (n.stp z).2 (run + 1) rows) ∨
    (z = 1 ∧ run + 1 = 11 ∧ (n.stp z).2.ct = n.ct ∧ rows + 1 ≠ 128 ∧ Cn (B + 1) (n.stp z).2 0 (rows + 1)) ∨
    (z = 1 ∧ run + 1 = 11 ∧ (n.stp z).2.ct = Ct.zero ∧ rows + 1 = 128 ∧ Cn (B + 1) (n.stp z).2 0 128) := by
  have g := (good_stp h.s hz).s
  have hd := tidy_stp (z := z) h.s h.d
  have hm := h.s.off.1 ho
  obtain ⟨e1, e2⟩ := h.o ho
  obtain ⟨r0, r1⟩ := off_run h.s h.d hm
  have q0 := h.s.r0
  have q1 := h.s.r1
  rcases hz with rfl | rfl
  · have hst := off_stp0 hm
    rw [hst] at g hd ⊢
    exact .inl ⟨rfl, rfl, by omega, g, hd, fun _ => ⟨run_see0.symm, e2⟩, by omega, h.b⟩
  · by_cases hr : n.run = 10
    · by_cases h1 : n.rows + 1 < 128
      · have hst := off_stpR hm hr h1
        rw [hst] at g hd ⊢
        exact .inr (.inr (.inl ⟨rfl, by omega, rfl, by omega, g, hd, fun _ => ⟨rfl, by show rows + 1 = n.rows + 1; omega⟩, by omega, by omega⟩))
      · have hst := off_stpB hm hr h1
        rw [hst] at g hd ⊢
        exact .inr (.inr (.inr ⟨rfl, by omega, rfl, by omega, g, hd, fun e => (by cases e), by omega, by omega⟩))
    · have hst := off_stp1 hm hr
      rw [hst] at g hd ⊢
      exact .inr (.inl ⟨rfl, by omega, rfl, by omega, g, hd, fun _ => ⟨by rw [run_see1]; omega, e2⟩, by omega, h.b⟩)
theorem err_ok8 {c : Ct} (h : c.right = true) : c.err = 0 := by
  unfold Ct.err
  rw [h]; rfl
theorem off_drv (hm : n.mode = 10) : n.drv = 1 := by
  unfold Nd.drv
  rw [if_neg (by omega), if_neg (by omega), if_neg (by omega)]
/-- All that a turn's level does, as one counts. -/
theorem Cn.turn {run rows : Int} (h : Cn B n run rows) (hz : z = 0 ∨ z = 1) {t r t' r' : Int} {o o' : Bool} (hc : n.ct = ⟨t, r, o⟩) (hc' : (n.stp z).2.ct = ⟨t', r', o'⟩) :
    (0 ≤ t ∧ t ≤ 256 ∧ t' ≤ t + 8) ∧ Ct.err ⟨t', r', o'⟩ = 0 ∧ has 10 (n.stp z).1 = (!o && o') ∧ has 11 (n.stp z).1 = (o && !o') ∧ (n.stp z).1.length ≤ 3 ∧ (o' = true ↔ (n.stp z).2.mode = 10) ∧
    (o = false → Cn (B + 1) (n.stp z).2 0 0) ∧ (o = true → n.drv = 1 ∧ ((t' = t ∧ r' = r ∧ o' = true ∧
      ((z = 0 ∧ rows ≠ 128 ∧ Cn (B + 1) (n.stp z).2 0 rows) ∨ (z = 1 ∧ run + 1 ≠ 11 ∧ rows ≠ 128 ∧ Cn (B + 1) (n.stp z).2 (run + 1) rows) ∨ (z = 1 ∧ run + 1 = 11 ∧ rows + 1 ≠ 128 ∧ Cn (B + 1) (n.stp z).2 0 (rows + 1)))) ∨
      (t' = 0 ∧ r' = 0 ∧ o' = false ∧ z = 1 ∧ run + 1 = 11 ∧ rows + 1 = 128 ∧ Cn (B + 1) (n.stp z).2 0 128))) := by
  obtain ⟨e1, e2, e3, e4, e5⟩ := h.told hz (o' := o') (by rw [hc'])
  have g := (good_stp h.s hz).s
  rw [hc] at e1 e2 e4
  rw [hc'] at e4
  have hr := h.s.ct
  rw [hc] at hr
  obtain ⟨h1, h2, h3⟩ := right_iff.1 hr
  simp only at h1 e4
  refine ⟨⟨by omega, by omega, e4⟩, by rw [← hc']; exact err_ok8 g.ct, e1, e2, e3, e5, fun e => h.stp_on (by rw [hc]; exact e) hz, fun e => ⟨off_drv (h.s.off.1 (by rw [hc]; exact e)), ?_⟩⟩
  have hk : ∀ {a b : Ct}, a = b → a.t = b.t ∧ a.r = b.r ∧ a.o = b.o := fun e => by subst e; exact ⟨rfl, rfl, rfl⟩
  rcases h.stp_off (by rw [hc]; exact e) hz with ⟨a1, a2, a3, a4⟩ | ⟨a1, a2, a3, a4, a5⟩ | ⟨a1, a2, a3, a4, a5⟩ | ⟨a1, a2, a3, a4, a5⟩
  · obtain ⟨b1, b2, b3⟩ := hk (hc'.symm.trans (a2.trans hc))
    exact .inl ⟨b1, b2, b3.trans e, .inl ⟨a1, a3, a4⟩⟩
  · obtain ⟨b1, b2, b3⟩ := hk (hc'.symm.trans (a3.trans hc))
    exact .inl ⟨b1, b2, b3.trans e, .inr (.inl ⟨a1, a2, a4, a5⟩)⟩
  · obtain ⟨b1, b2, b3⟩ := hk (hc'.symm.trans (a3.trans hc))
    exact .inl ⟨b1, b2, b3.trans e, .inr (.inr ⟨a1, a2, a4, a5⟩)⟩
  · obtain ⟨b1, b2, b3⟩ := hk (hc'.symm.trans a3)
    exact .inr ⟨b1, b2, b3, a1, a2, a4, a5⟩
end
/-- A block beside a node. -/
def BlkS (g : Nat) (a : Array Value) (T : TypeId) : World → (Nat → Prop) → Prop := fun w F => w.heap[g]? = some (.cells a T) ∧ ¬ F g
theorem kept_blk (g : Nat) (a : Array Value) (T : TypeId) : Kept (BlkS g a T) := fun _ _ _ _ hm hp => hm.blk hp.1 hp.2
theorem blkS_new (w : World) (a : Array Value) (T : TypeId) : ∀ F : Nat → Prop, (∀ k, F k → k < w.heap.size) → BlkS w.heap.size a T (w.alloc (.cells a T)) F :=
  fun F hF => ⟨heap_alloc_new w _, fun hf => by have := hF _ hf; omega⟩
theorem below_new (w : World) (o : Obj) : Below w.heap.size w (w.alloc o) := (Below.refl _ _).alloc (Nat.le_refl _) o
/-- Events' row beside a node. -/
def EvS (B : Nat) (v : Value) (es : List Ev) : World → (Nat → Prop) → Prop := fun w F => Eown w B v es ∧ ∀ k, v.ownBlock = some k → ¬ F k
theorem kept_ev (B : Nat) (v : Value) (es : List Ev) : Kept (EvS B v es) := fun _ _ _ _ hm hp => hm.owns hp.1 hp.2
theorem ecs_at {es : List Ev} {j : Nat} (hj : j < es.length) {c : Nat} {v : Value} (hv : (evcs (es.getD j (0, Fr.zero)))[c]? = some v) : (ecs es)[j * 15 + c]? = some v := by
  induction es generalizing j with
  | nil => simp at hj
  | cons e es ih =>
    have hc : c < 15 := by
      rcases Nat.lt_or_ge c 15 with h | h
      · exact h
      · rw [List.getElem?_eq_none (by simpa using h)] at hv; cases hv
    have e1 : ecs (e :: es) = evcs e ++ ecs es := by simp [ecs]
    rw [e1]
    rcases j with _ | j
    · rw [List.getElem?_append_left (by simpa using hc)]
      simpa using hv
    · rw [List.getElem?_append_right (by simp; omega)]
      have := ih (j := j) (by simpa using hj) (by simpa using hv)
      rw [← this]
      congr 1
      simp
      omega
theorem Eown.at_ {w : World} {B : Nat} {A : Option Addr} {n c : Nat} {es : List Ev} (h : Eown w B (.slice A n c) es) {j : Nat} (hj : j < es.length) : ∃ g, A = some ⟨g, 0, none⟩ ∧ ∀ c v, (evcs (es.getD j (0, Fr.zero)))[c]? = some v → w.cell? ⟨g, j * 15 + c, none⟩ = some v := by
  rcases h.2 with ⟨_, h0⟩ | ⟨g, cap, cur, e, rest⟩
  · omega
  · injection e with e1 e2 e3
    subst e1
    refine ⟨g, rfl, fun c v hv => ?_⟩
    have := World.ownsRow.cells h (g := g) rfl (j * 15 + c) v (ecs_at hj hv)
    rw [add_zero_off] at this
    exact this
end Go.Proofs.YtenfcbmeokenaaaGreat

/- Three nodes in one world. -/
namespace Go.Proofs.YtenfcbmeokenaaaGreat
set_option maxRecDepth 20000
open Go.RowKit
set_option linter.unusedSimpArgs false

/-- Two nodes apart. -/
def Dis (p q : NP) : Prop := ∀ k, p.fp k → ¬ q.fp k
theorem Dis.symm {p q : NP} (h : Dis p q) : Dis q p := fun k hq hp => h k hp hq
/-- A node lies apart from what moves. -/
theorem Lay.apart {w w' : World} {B : Nat} {q : NP} {b : Nd} {F F' : Nat → Prop} (h : Lay w B q b) (hm : Moves F F' w w') (hF : ∀ k, q.fp k → ¬ F k) : Lay w' B q b ∧ ∀ k, q.fp k → ¬ F' k := by
  have a1 := hm.blk h.blk (hF _ (.inl rfl))
  have a2 := hm.blk h.que.q (hF _ (.inr (.inl rfl)))
  have a3 := hm.owns h.own fun k hk => hF k (.inr (.inr (.inl hk)))
  have a4 := hm.owns h.lev fun k hk => hF k (.inr (.inr (.inr (.inl hk))))
  have a5 := hm.owns h.que.own fun k hk => hF k (.inr (.inr (.inr (.inr hk))))
  refine ⟨⟨a1.1, a3.1, a4.1, ⟨a2.1, a5.1, h.que.at_⟩, h.sep, h.at_⟩, ?_⟩
  rintro k (rfl | rfl | hk | hk | hk)
  · exact a1.2
  · exact a2.2
  · exact a3.2 k hk
  · exact a4.2 k hk
  · exact a5.2 k hk
/-- Three nodes in one world, and what lies beside them. -/
def Nd3 (w0 w : World) (ga : Nat) (a : Nd) (gb : Nat) (b : Nd) (gc : Nat) (c : Nd) (P : World → (Nat → Prop) → Prop) : Prop :=
  ∃ pa pb pc : NP, pa.g = ga ∧ pb.g = gb ∧ pc.g = gc ∧ Lay w w0.heap.size pa a ∧ Lay w w0.heap.size pb b ∧ Lay w w0.heap.size pc c ∧ Dis pa pb ∧ Dis pb pc ∧ Dis pc pa ∧
    P w (fun k => pa.fp k ∨ pb.fp k ∨ pc.fp k) ∧ Below w0.heap.size w0 w
section
variable {w0 w w' : World} {ga gb gc : Nat} {a b c : Nd} {P Q : World → (Nat → Prop) → Prop}
theorem Nd3.below (h : Nd3 w0 w ga a gb b gc c P) : Below w0.heap.size w0 w := by
  obtain ⟨_, _, _, _, _, _, _, _, _, _, _, _, _, h⟩ := h
  exact h
theorem Nd3.rot (h : Nd3 w0 w ga a gb b gc c P) : Nd3 w0 w gb b gc c ga a P := by
  obtain ⟨pa, pb, pc, e1, e2, e3, l1, l2, l3, d1, d2, d3, hp, hb⟩ := h
  refine ⟨pb, pc, pa, e2, e3, e1, l2, l3, l1, d2, d3, d1, ?_, hb⟩
  have : (fun k => pb.fp k ∨ pc.fp k ∨ pa.fp k) = fun k => pa.fp k ∨ pb.fp k ∨ pc.fp k := by
    funext k
    apply propext
    constructor
    · rintro (h | h | h)
      · exact .inr (.inl h)
      · exact .inr (.inr h)
      · exact .inl h
    · rintro (h | h | h)
      · exact .inr (.inr h)
      · exact .inl h
      · exact .inr (.inl h)
  rw [this]
  exact hp
theorem Nd3.moved {pa pb pc pa' : NP} {a' : Nd} (e2 : pb.g = gb) (e3 : pc.g = gc) (l2 : Lay w w0.heap.size pb b) (l3 : Lay w w0.heap.size pc c) (d1 : Dis pa pb) (d2 : Dis pb pc) (d3 : Dis pc pa)
    (hP : Kept P) (hp : P w (fun k => pa.fp k ∨ pb.fp k ∨ pc.fp k)) (e1 : pa'.g = ga) (l1 : Lay w' w0.heap.size pa' a') (hm : Moves pa.fp pa'.fp w w') (hb : Below w0.heap.size w0 w') : Nd3 w0 w' ga a' gb b gc c P := by
  obtain ⟨m2, n2⟩ := l2.apart hm d1.symm
  obtain ⟨m3, n3⟩ := l3.apart hm d3
  have hm' : Moves (fun k => pa.fp k ∨ pb.fp k ∨ pc.fp k) (fun k => pa'.fp k ∨ pb.fp k ∨ pc.fp k) w w' := by
    refine ⟨hm.os, hm.tape, hm.output, hm.size, fun k hk hn => hm.block k hk fun h => hn (.inl h), ?_⟩
    rintro k (h | h | h)
    · exact (hm.new k h).imp .inl id
    · exact .inl (.inr (.inl h))
    · exact .inl (.inr (.inr h))
  exact ⟨pa', pb, pc, e1, e2, e3, l1, m2, m3, Dis.symm n2, d2, n3, hP _ _ _ _ hm' hp, hb⟩
theorem Nd3.next (h : Nd3 w0 w ga a gb b gc c P) (hP : Kept P) (hb : Below w.heap.size w w') : Nd3 w0 w' ga a gb b gc c P := by
  obtain ⟨pa, pb, pc, e1, e2, e3, l1, l2, l3, d1, d2, d3, hp, h0⟩ := h
  exact ⟨pa, pb, pc, e1, e2, e3, l1.next hb, l2.next hb, l3.next hb, d1, d2, d3, hP _ _ _ _ (.of_below hb _) hp, nxt h0 hb⟩
theorem Nd3.drew (h : Nd3 w0 w ga a gb b gc c P) (hP : Kept P) : Nd3 w0 w.drew ga a gb b gc c P := h.next hP (below_drew (Below.refl _ _))
theorem Nd3.add (h : Nd3 w0 w ga a gb b gc c P) (hq : ∀ F : Nat → Prop, (∃ p q r : NP, (∀ k, F k ↔ p.fp k ∨ q.fp k ∨ r.fp k) ∧ Lay w w0.heap.size p a ∧ Lay w w0.heap.size q b ∧ Lay w w0.heap.size r c) → Q w F) : Nd3 w0 w ga a gb b gc c (Both P Q) := by
  obtain ⟨pa, pb, pc, e1, e2, e3, l1, l2, l3, d1, d2, d3, hp, h0⟩ := h
  exact ⟨pa, pb, pc, e1, e2, e3, l1, l2, l3, d1, d2, d3, ⟨hp, hq _ ⟨pa, pb, pc, fun _ => Iff.rfl, l1, l2, l3⟩⟩, h0⟩
/-- Events' rows lie apart from nodes. -/
theorem Nd3.addE (h : Nd3 w0 w ga a gb b gc c P) {B : Nat} {v : Value} {es : List Ev} (he : Eown w B v es) : Nd3 w0 w ga a gb b gc c (Both P (EvS B v es)) := by
  refine h.add ?_
  rintro F ⟨p, q, r, hF, l1, l2, l3⟩
  refine ⟨he, fun k hk hf => ?_⟩
  rcases (hF k).1 hf with h | h | h
  · exact he.apart l1 k hk h
  · exact he.apart l2 k hk h
  · exact he.apart l3 k hk h
theorem Nd3.less (h : Nd3 w0 w ga a gb b gc c P) (hq : ∀ F : Nat → Prop, P w F → Q w F) : Nd3 w0 w ga a gb b gc c Q := by
  obtain ⟨pa, pb, pc, e1, e2, e3, l1, l2, l3, d1, d2, d3, hp, h0⟩ := h
  exact ⟨pa, pb, pc, e1, e2, e3, l1, l2, l3, d1, d2, d3, hq _ hp, h0⟩
theorem Nd3.side (h : Nd3 w0 w ga a gb b gc c P) : ∃ F : Nat → Prop, P w F := by
  obtain ⟨pa, pb, pc, e1, e2, e3, l1, l2, l3, d1, d2, d3, hp, h0⟩ := h
  exact ⟨_, hp⟩
theorem nd3_drive (h : Nd3 w0 w ga a gb b gc c P) (hf : a.mode = 2 → Okf a) : Calls Tryz.prog 16 #[.pointer (some ⟨ga, 0, none⟩)] w fun e w' => e = .returned (.int .i64 a.drv) ∧ Below w.heap.size w w' := by
  obtain ⟨pa, pb, pc, rfl, e2, e3, l1, l2, l3, d1, d2, d3, hp, h0⟩ := h
  exact drv_any l1 hf
theorem nd3_look (h : Nd3 w0 w ga a gb b gc c P) : Calls Tryz.prog 18 #[.pointer (some ⟨ga, 0, none⟩)] w fun e w' => e = .returned a.lookV ∧ Below w.heap.size w w' := by
  obtain ⟨pa, pb, pc, rfl, e2, e3, l1, l2, l3, d1, d2, d3, hp, h0⟩ := h
  exact look_any l1
theorem nd3_queue (h : Nd3 w0 w ga a gb b gc c P) (hn : a.q.length ≤ 1000000) : Calls Tryz.prog 19 #[.pointer (some ⟨ga, 0, none⟩)] w fun e w' => ∃ u, e = .returned u ∧ Fown w' w.heap.size u a.q ∧ Below w.heap.size w w' := by
  obtain ⟨pa, pb, pc, rfl, e2, e3, l1, l2, l3, d1, d2, d3, hp, h0⟩ := h
  exact queue_any l1 hn
theorem nd3_step (h : Nd3 w0 w ga a gb b gc c P) (hP : Kept P) (hn : Fit a) (z : Int) (hz : z = 0 ∨ z = 1) : Calls Tryz.prog 17 #[.pointer (some ⟨ga, 0, none⟩), .int .i64 z] w fun e w' =>
    ∃ u, e = .returned (.tuple #[u, .int .i64 0]) ∧ Eown w' w.heap.size u (a.stp z).1 ∧ Nd3 w0 w' ga (a.stp z).2 gb b gc c P ∧ Below w0.heap.size w w' := by
  obtain ⟨pa, pb, pc, rfl, e2, e3, l1, l2, l3, d1, d2, d3, hp, h0⟩ := h
  refine (step_any10 l1 hn z hz).mono ?_
  rintro e w' ⟨u, vo', vl', vq', rfl, g1, g2, g3⟩
  have hb := l1.below g3
  exact ⟨u, rfl, g1, Nd3.moved (pa' := ⟨pa.g, pa.gq, vo', vl', vq'⟩) e2 e3 l2 l3 d1 d2 d3 hP hp rfl g2 g3 (h0.trans hb), hb⟩
theorem nd3_put (h : Nd3 w0 w ga a gb b gc c P) (hP : Kept P) (f : Fr) (hok : Okq a.q) (hn : a.q.length ≤ 1000) : Calls Tryz.prog 23 #[.pointer (some ⟨ga, 0, none⟩), f.val] w fun e w' =>
    e = .returned (.int .i64 (pE 16 f a.q)) ∧ Nd3 w0 w' ga { a with q := pL 16 f a.q } gb b gc c P := by
  obtain ⟨pa, pb, pc, rfl, e2, e3, l1, l2, l3, d1, d2, d3, hp, h0⟩ := h
  refine (nput_any l1 f hok hn).mono ?_
  rintro e w' ⟨vq', rfl, g1, g2⟩
  exact ⟨rfl, Nd3.moved (pa' := { pa with vq := vq' }) e2 e3 l2 l3 d1 d2 d3 hP hp rfl g1 g2 (h0.trans (l1.below g2))⟩
theorem nd3_bad (h : Nd3 w0 w ga a gb b gc c P) (z : Int) (h0 : z ≠ 0) (h1 : z ≠ 1) : Calls Tryz.prog 17 #[.pointer (some ⟨ga, 0, none⟩), .int .i64 z] w fun e w' => e = .returned (.tuple #[.slice none 0 0, .int .i64 10]) ∧ w = w' := by
  obtain ⟨pa, pb, pc, rfl, e2, e3, l1, l2, l3, d1, d2, d3, hp, h0⟩ := h
  exact step_bad l1 z (by assumption) h1
end
/-- A node, cloned. -/
theorem nst_clone {w0 w : World} {g gq : Nat} {n : Nd} {P : World → (Nat → Prop) → Prop} (h : Nst w0 w g gq n P) (hq : n.q.length ≤ 1000000) (ho : n.own.length ≤ 100000) (hv : n.outL.length ≤ 100000) :
    Calls Tryz.prog 26 #[.pointer (some ⟨g, 0, none⟩)] w fun e w' => ∃ p', e = .returned (.pointer (some ⟨p'.g, 0, none⟩)) ∧ Lay w' w.heap.size p' n ∧ Below w.heap.size w w' := by
  obtain ⟨vo, vl, vq, h1, h2, h3⟩ := h
  exact nclone_any (p := ⟨g, gq, vo, vl, vq⟩) h1 hq ho hv
/-- A node and two clones, each of which came later. -/
theorem nd3_of {w0 w w1 : World} {g gq : Nat} {n b c : Nd} {P : World → (Nat → Prop) → Prop} {B : Nat} {pb pc : NP} (h : Nst w0 w g gq n P) (hP : Kept P) (hb : Below w.heap.size w w1)
    (l2 : Lay w1 w.heap.size pb b) (hB : ∀ k, pb.fp k → k < B) (hwB : w.heap.size ≤ B) (l3 : Lay w1 B pc c) (hPn : ∀ (F G : Nat → Prop), P w1 F → (∀ k, G k → w.heap.size ≤ k) → P w1 fun k => F k ∨ G k) : Nd3 w0 w1 g n pb.g b pc.g c P := by
  obtain ⟨vo, vl, vq, h1, h2, h3⟩ := h
  have hz := h3.size
  refine ⟨⟨g, gq, vo, vl, vq⟩, pb, pc, rfl, rfl, rfl, h1.next hb, l2.base hz, l3.base (Nat.le_trans hz hwB), fun k hk hf => ?_, fun k hk hf => ?_, fun k hk hf => ?_, ?_, nxt h3 hb⟩
  · have := h1.fp_lt k hk
    have := l2.fp_ge k hf
    omega
  · have := hB k hk
    have := l3.fp_ge k hf
    omega
  · have := l3.fp_ge k hk
    have := h1.fp_lt k hf
    omega
  · refine hPn _ _ (hP _ _ _ _ (.of_below hb _) h2) ?_
    rintro k (hk | hk)
    · exact l2.fp_ge k hk
    · exact Nat.le_trans hwB (l3.fp_ge k hk)
end Go.Proofs.YtenfcbmeokenaaaGreat

/- Looks and events that are the same. -/
namespace Go.Proofs.YtenfcbmeokenaaaGreat
set_option maxRecDepth 20000
open Go.RowKit
set_option linter.unusedSimpArgs false

theorem lkeqA (m t r l : Int) (x o : Bool) (w : World) : (Op.equalIn 10000 43 (.agg #[.int .i64 m, .bool x, .int .i64 t, .int .i64 r, .bool o, .int .i64 l]) (.agg #[.int .i64 m, .bool x, .int .i64 t, .int .i64 r, .bool o, .int .i64 l])).run Tryz.prog w = .ok true w := by
  go_simp
theorem lkneqA (m t r l : Int) (x o : Bool) (w : World) : (binOp .neq 43 (.agg #[.int .i64 m, .bool x, .int .i64 t, .int .i64 r, .bool o, .int .i64 l]) (.agg #[.int .i64 m, .bool x, .int .i64 t, .int .i64 r, .bool o, .int .i64 l])).run Tryz.prog w = .ok (.bool false) w := by
  rw [run_neq_struct, lkeqA]; rfl
theorem eq33 (a0 a1 a2 a3 a4 a5 a6 a7 : Int) (w : World) : (Op.equalIn 9998 30 (.agg #[.int .u8 a0, .int .u8 a1, .int .u8 a2, .int .u8 a3, .int .u8 a4, .int .u8 a5, .int .u8 a6, .int .u8 a7]) (.agg #[.int .u8 a0, .int .u8 a1, .int .u8 a2, .int .u8 a3, .int .u8 a4, .int .u8 a5, .int .u8 a6, .int .u8 a7])).run Tryz.prog w = .ok true w := by
  have := eq_array w 9996 [a0, a1, a2, a3, a4, a5, a6, a7] [a0, a1, a2, a3, a4, a5, a6, a7] rfl rfl
  simpa using this
theorem eveqIn (e : Ev) (w : World) : (Op.equalIn 10000 39 (evV e) (evV e)).run Tryz.prog w = .ok true w := by
  have h33 := eq33
  go_simp
theorem evneq (e : Ev) (w : World) : (binOp .neq 39 (evV e) (evV e)).run Tryz.prog w = .ok (.bool false) w := by
  rw [run_neq_struct, eveqIn]; rfl
end Go.Proofs.YtenfcbmeokenaaaGreat

/- A node's rows are short. -/
namespace Go.Proofs.YtenfcbmeokenaaaGreat
set_option maxRecDepth 20000
open Go.RowKit
set_option linter.unusedSectionVars false

/-- Out of a frame a node has no levels; one that does not send has none to send. -/
structure Slim (n : Nd) : Prop where
  o : n.mode ≠ 2 → n.own = [] ∧ n.outL = []
  t : n.mode = 2 → n.tx = false → n.outL = []
section
variable {B : Nat} {n : Nd} {z : Int}
theorem slim_enter {m : Int} (h : m ≠ 2) : Slim (n.enter m) := ⟨fun _ => ⟨rfl, rfl⟩, fun e => absurd e h⟩
theorem Slim.of {n' : Nd} (h : Slim n) (hm : n.mode ≠ 2) (e1 : n'.mode = n.mode) (e2 : n'.own = n.own) (e3 : n'.outL = n.outL) : Slim n' := by
  obtain ⟨a, b⟩ := h.o hm
  exact ⟨fun _ => ⟨e2.trans a, e3.trans b⟩, fun e => absurd (e1.symm.trans e) hm⟩
theorem slim_cas {x : Int} (h : Slim n) (hm : n.mode ≠ 2) : Slim (n.casN x) := by
  unfold Nd.casN
  split
  · exact slim_enter (by omega)
  · exact h.of hm rfl rfl rfl
theorem slim_fail {k : Int} : Slim (n.fail k).2 := by
  unfold Nd.fail Nd.flg
  have hm : (if n.pas then 4 else 3 : Int) ≠ 2 := by split <;> omega
  exact slim_cas (slim_enter hm) hm
theorem slim_in (hm : n.mode = 2) (h : n.tx = false → n.outL = []) : Slim n := ⟨fun e => absurd hm e, fun _ => h⟩
theorem slim_begin {may : Bool} : Slim (n.begin_ may) := by
  rw [begin_at]
  refine slim_in rfl fun ht => ?_
  have ht' : (may && decide (0 < n.q.length)) = false := ht
  show (if may && decide (0 < n.q.length) then alls (n.q.headD Fr.zero) else []) = []
  rw [ht', if_neg (by simp)]
theorem slim_goOn (h : Slim n) (hm : n.mode = 2) : Slim (n.goOn z).2 := by
  have e : (n.take z).mode = 2 ∧ (n.take z).tx = n.tx ∧ (n.take z).outL = n.outL := by
    unfold Nd.take
    split <;> exact ⟨hm, rfl, rfl⟩
  have ht : (n.take z).tx = false → (n.take z).outL = [] := fun a => e.2.2.trans (h.t hm (e.2.1.symm.trans a))
  unfold Nd.goOn Nd.onto
  split
  · unfold Nd.fin
    split
    · exact (slim_enter (n := n.take z) (m := 8) (by omega)).of (by show (8 : Int) ≠ 2; omega) rfl rfl rfl
    · exact slim_enter (by omega)
  · split
    · exact slim_in e.1 ht
    · exact slim_in e.1 ht
theorem slim_recv (h : Slim n) (hm : n.mode = 2) : Slim (n.recv z).2 := by
  unfold Nd.recv
  split
  · exact slim_enter (by omega)
  · split
    · exact slim_fail
    · exact slim_goOn h hm
theorem slim_send (h : Slim n) (hm : n.mode = 2) : Slim (n.send z).2 := by
  have hf : (if n.pas then 4 else 3 : Int) ≠ 2 := by split <;> omega
  unfold Nd.send
  split
  · split
    · exact slim_goOn h hm
    · unfold Nd.unheard
      split
      · exact (slim_enter (n := n) hf).of hf rfl rfl rfl
      · exact slim_fail
  · split
    · exact slim_enter hf
    · split
      · exact slim_goOn h hm
      · exact slim_fail
theorem slim_inF (h : Slim n) (hm : n.mode = 2) : Slim (n.inF z).2 := by
  unfold Nd.inF
  split
  · exact slim_recv (n := n.lost) (slim_in hm fun _ => rfl) hm
  · split
    · exact slim_send h hm
    · exact slim_recv h hm
theorem slim_endF : Slim n.endF := (slim_enter (n := n) (m := 6) (by omega)).of (by show (6 : Int) ≠ 2; omega) rfl rfl rfl
theorem slim_stp (hs : Sound B n) (h : Slim n) : Slim (n.stp z).2 := by
  have m0 := hs.m0
  have m1 := hs.m1
  have hfl : n.mode = 3 ∨ n.mode = 5 → Slim n.flagN ∧ n.flagN.mode ≠ 2 := fun e => by
    refine ⟨?_, (hs.flagN e).2.2.1⟩
    unfold Nd.flagN
    split
    · exact slim_endF
    · exact h.of (by omega) rfl rfl rfl
  have hcl : ∀ m : Nd, m.mode ≠ 2 → Slim m → Slim (m.close z).2 := fun m hm h2 => by
    unfold Nd.close
    split
    · unfold Nd.closeN
      split
      · exact slim_enter (by omega)
      · exact h2.of hm rfl rfl rfl
    · split
      · exact slim_enter (by omega)
      · exact slim_fail
  have hpf : n.mode = 4 → Slim (n.pflN z) ∧ (n.pflN z).mode ≠ 2 := fun e => by
    unfold Nd.pflN
    split
    · exact ⟨slim_endF, by show (6 : Int) ≠ 2; omega⟩
    · exact ⟨h.of (by omega) rfl rfl rfl, by show n.mode ≠ 2; omega⟩
  unfold Nd.stp
  split
  · unfold Nd.join
    split
    · exact slim_enter (by omega)
    · exact h.of (by omega) rfl rfl rfl
  split
  · unfold Nd.idle
    split
    · exact slim_begin
    · split
      · exact slim_fail
      · exact h
  split
  · exact slim_inF h (by assumption)
  split
  · unfold Nd.flag
    have a := hfl (.inl (by assumption))
    split
    · exact a.1
    · exact slim_cas a.1 a.2
  split
  · unfold Nd.pflag
    have a := hpf (by assumption)
    split
    · exact slim_cas a.1 a.2
    · exact a.1
  split
  · unfold Nd.flag
    have a := hfl (.inr (by assumption))
    split
    · exact a.1
    · exact slim_cas a.1 a.2
  split
  · unfold Nd.wait
    split
    · rename_i hz1
      have := hcl (n.enter 7) (by show (7 : Int) ≠ 2; omega) (slim_enter (by omega))
      rw [hz1] at this
      exact this
    · have a : Slim (n.see 0) := h.of (by omega) rfl rfl rfl
      split
      · exact slim_cas a (by show n.mode ≠ 2; omega)
      · exact a
  split
  · exact hcl n (by omega) h
  split
  · unfold Nd.pause
    split
    · split
      · exact slim_begin
      · exact slim_enter (by omega)
    · split
      · exact h.of (by omega) rfl rfl rfl
      · split <;> exact slim_enter (by omega)
  split
  · unfold Nd.susp
    split
    · exact slim_begin
    · show Slim (if tlN n.sl n.sn 1 = 8 then n.enter 1 else n.see 1)
      split
      · exact slim_enter (by omega)
      · exact h.of (by omega) rfl rfl rfl
  · unfold Nd.off
    split
    · split
      · exact h.of (by omega) rfl rfl rfl
      · exact (slim_enter (n := n) (m := 1) (by omega)).of (by show (1 : Int) ≠ 2; omega) rfl rfl rfl
    · exact h.of (by omega) rfl rfl rfl
theorem slim_new : Slim Nd.new := ⟨fun _ => ⟨rfl, rfl⟩, fun e => by cases e⟩
theorem alls_short {f : Fr} (hf : f.may = true) : (alls f).length ≤ 310 := by
  rw [show alls f = raw f ++ ten (slt false) from rfl, List.length_append, ten_len]
  have h1 := stf_raw_le hf
  have h2 := (stf_len (raw f)).1
  omega
/-- Behind any turns. -/
structure Ow (B : Nat) (n : Nd) : Prop where
  s : Sound B n
  l : Slim n
theorem ow_new : Ow 0 Nd.new := ⟨sound_new, slim_new⟩
theorem Ow.stp (h : Ow B n) (hz : z = 0 ∨ z = 1) : Ow (B + 1) (n.stp z).2 := ⟨(good_stp h.s hz).s, slim_stp h.s h.l⟩
theorem Ow.put (h : Ow B n) (f : Fr) (hf : f.wf) : Ow B { n with q := pL 16 f n.q } := ⟨sound_put h.s f hf, ⟨h.l.o, h.l.t⟩⟩
theorem Ow.short (h : Ow B n) : n.own.length ≤ 100000 ∧ n.outL.length ≤ 100000 := by
  by_cases hm : n.mode = 2
  · have i := h.s.inf hm
    have h1 := own_short i.go
    refine ⟨by omega, ?_⟩
    cases ht : n.tx
    · rw [h.l.t hm ht]; simp
    · obtain ⟨x1, x2, _⟩ := i.out ht
      rw [x2]
      have := alls_short (h.s.qf _ x1).1
      omega
  · obtain ⟨a, b⟩ := h.l.o hm
    rw [a, b]; simp
end
end Go.Proofs.YtenfcbmeokenaaaGreat

/- For the law CtlKeeps: what waits, and what is left; a row that grows beside a node. -/
namespace Go.Proofs.YtenfcbmeokenaaaGreat
set_option maxRecDepth 20000
open Go.RowKit
set_option linter.unusedSimpArgs false

theorem Fown.fl2 {w : World} {B : Nat} {A : Option Addr} {n c : Nat} {gs : List Fr} (h : Fown w B (.slice A n c) gs) : Fl w A n (fun j => gs.getD j Fr.zero) := by
  obtain ⟨A', c', e, hf, _⟩ := h.fl
  injection e with e1 e2 e3
  subst e1; subst e2
  exact hf
theorem Fl.el {w : World} {ad : Addr} {n k : Nat} {fs : Nat → Fr} {f : Fr} (h : Fl w (some ad) n fs) (hk : k < n) (hf : fs k = f) : Bxa w (ad.add (k * 12)) f := by
  obtain ⟨ad', e, _, hb⟩ := h.at_ hk
  injection e with e
  subst e
  rw [← hf]; exact hb
/-- How many of the first i are f. -/
def cn (f : Fr) (gs : List Fr) (i : Nat) : Nat := (gs.take i).countP f.same
theorem take_one {gs : List Fr} {i : Nat} (h : i < gs.length) : gs.take (i + 1) = gs.take i ++ [gs.getD i Fr.zero] := by
  rw [getD_get h, List.take_add_one, List.getElem?_eq_getElem h]; rfl
theorem cn_yes {f : Fr} {gs : List Fr} {i : Nat} (h : i < gs.length) (hs : f.same (gs.getD i Fr.zero) = true) : cn f gs (i + 1) = cn f gs i + 1 := by
  unfold cn
  rw [take_one h, List.countP_append, List.countP_cons_of_pos hs]; rfl
theorem cn_no {f : Fr} {gs : List Fr} {i : Nat} (h : i < gs.length) (hs : f.same (gs.getD i Fr.zero) = false) : cn f gs (i + 1) = cn f gs i := by
  unfold cn
  rw [take_one h, List.countP_append, List.countP_cons_of_neg (by rw [hs]; simp)]; rfl
theorem cn_le (f : Fr) (gs : List Fr) (i : Nat) : cn f gs i ≤ gs.length := by
  unfold cn
  exact Nat.le_trans List.countP_le_length (by rw [List.length_take]; omega)
theorem cn_all (f : Fr) (gs : List Fr) : cn f gs gs.length = gs.countP f.same := by unfold cn; rw [List.take_length]
/-- append onto a row of the call's own, as a step of a drawn region. -/
theorem step_append_F9 (w : World) {ops : Array Oper} {o : Oper} {a : Act} {K : Act → World → Prop} {Q : Exit → Act → World → Prop} {E : Prop} (hgd : o.guard = none) (s x : Operand)
    (ho : o.op = .call { callee := .builtin .append, args := #[s, x], argTypes := #[22, 22] })
    (base : Nat) (v : Value) (gs : List Fr) (hs : a.eval s = v) (hown : Fown w base v gs) (A : Option Addr) (m c : Nat) (ys : List Fr) (hx : a.eval x = .slice A m c) (hr : Fs w A m ys)
    (hlen : gs.length + m ≤ 1000000) (hbase : base ≤ w.heap.size)
    (h : ∀ v' w', Fown w' base v' (gs ++ ys) → w.grownBy w' v.ownBlock → Lies w v v' → K (a.put o.dst v') w') :
    if Region.wanted o (yielded ops a.tmps) = true then Oper.wp Tryz.prog o a w K Q else E := by
  have hw : Region.wanted o (yielded ops a.tmps) = true := by simp [Region.wanted, hgd]
  rw [if_pos hw]
  obtain ⟨v', w', hrun, h1, h2, h3⟩ := append_runF w o.type base v gs hown A m c ys hr hlen hbase
  unfold Oper.wp execOp
  simp only [ho, resolve, invoke, builtin, Sem.run_bind, Sem.run_pure, Result.andThen_ok, List.map_toArray, List.map_cons, List.map_nil, hs, hx, hrun]
  exact h v' w' h1 h2 h3
/-- The parts of a row. -/
theorem Fown.parts {w : World} {B b cap : Nat} {cur : Array Value} {gs : List Fr} (hR : Rw w b cur) (ht : cur.toList.take (gs.length * 12) = fcs gs) (_hB : B ≤ b) (a : Nat) (ha : a < gs.length) (hc : gs.length ≤ cap) :
    Fs w (some ⟨b, 0, none⟩) a (gs.take a) ∧ Fs w (some ⟨b, if cap = a + 1 then 0 else (a + 1) * 12, none⟩) (gs.length - (a + 1)) (gs.drop (a + 1)) := by
  have hg : ∀ j u, (fcs gs)[j]? = some u → w.cell? ⟨b, j, none⟩ = some u := fun j u hu => by
    refine hR.cell ?_
    rw [← ht, List.getElem?_take] at hu
    split at hu
    · simpa using hu
    · cases hu
  refine ⟨⟨by rw [List.length_take]; omega, fun h0 => ⟨_, rfl, fun j u hu => ?_⟩⟩, ⟨by rw [List.length_drop], fun h0 => ⟨_, rfl, fun j u hu => ?_⟩⟩⟩
  · rw [add0]
    refine hg j u ?_
    rw [fcs_take, List.getElem?_take] at hu
    split at hu
    · exact hu
    · cases hu
  · rw [if_neg (by omega), Addr.add_lit]
    refine hg _ u ?_
    rwa [fcs_drop, List.getElem?_drop] at hu

/-- The two rows have the same frames, as often. -/
def Alk2 (xs ys : List Fr) : Prop := ∀ g : Fr, xs.countP g.same = ys.countP g.same
theorem count_snoc (g f : Fr) (xs : List Fr) : (xs ++ [f]).countP g.same = xs.countP g.same + if g.same f then 1 else 0 := by
  rw [List.countP_append]
  cases h : g.same f
  · rw [List.countP_cons_of_neg (by rw [h]; simp)]; simp
  · rw [List.countP_cons_of_pos h]; simp
theorem count_ins (g f : Fr) (ys : List Fr) : (ins f ys).countP g.same = ys.countP g.same + if g.same f then 1 else 0 := by
  unfold ins
  have e : ys.countP g.same = (ys.take (sits f ys)).countP g.same + (ys.drop (sits f ys)).countP g.same := by rw [← List.countP_append, List.take_append_drop]
  rw [List.countP_append, e]
  cases h : g.same f
  · rw [List.countP_cons_of_neg (by rw [h]; simp)]; simp
  · rw [List.countP_cons_of_pos h]; simp; omega
theorem alk_ins {xs ys : List Fr} (h : Alk2 xs ys) (f : Fr) : Alk2 (xs ++ [f]) (ins f ys) := fun g => by rw [count_snoc, count_ins, h g]
theorem same_left {f a g : Fr} (h : f.same a = true) : g.same a = g.same f := by
  cases h1 : g.same f
  · cases h2 : g.same a
    · rfl
    · rw [same_trans h2 (same_symm h)] at h1; cases h1
  · exact same_trans h1 h
theorem count_drp (g f : Fr) : ∀ ys : List Fr, (∃ a ∈ ys, f.same a = true) → (drp f ys).countP g.same + (if g.same f then 1 else 0) = ys.countP g.same
  | [], h => by obtain ⟨a, h, _⟩ := h; cases h
  | y :: ys, h => by
    cases hy : f.same y
    · obtain ⟨a, ha, hs⟩ := h
      have ha' : a ∈ ys := by
        rcases List.mem_cons.1 ha with rfl | h1
        · rw [hs] at hy; cases hy
        · exact h1
      have ih := count_drp g f ys ⟨a, ha', hs⟩
      unfold drp at ih ⊢
      rw [List.eraseP_cons_of_neg (by rw [hy]; simp)]
      cases h2 : g.same y
      · rw [List.countP_cons_of_neg (by rw [h2]; simp), List.countP_cons_of_neg (by rw [h2]; simp)]; exact ih
      · rw [List.countP_cons_of_pos h2, List.countP_cons_of_pos h2]; omega
    · unfold drp
      rw [List.eraseP_cons_of_pos hy]
      have e := same_left (g := g) hy
      cases h2 : g.same f
      · rw [List.countP_cons_of_neg (by rw [e, h2]; simp)]; simp
      · rw [List.countP_cons_of_pos (by rw [e, h2])]; simp
theorem count_erase (g : Fr) : ∀ (xs : List Fr) (i : Nat) (_h : i < xs.length), (xs.eraseIdx i).countP g.same + (if g.same (xs.getD i Fr.zero) then 1 else 0) = xs.countP g.same
  | [], i, h => by simp at h
  | x :: xs, 0, _ => by
    show xs.countP g.same + (if g.same x then 1 else 0) = _
    cases h2 : g.same x
    · rw [List.countP_cons_of_neg (by rw [h2]; simp)]; simp
    · rw [List.countP_cons_of_pos h2]; simp
  | x :: xs, i + 1, h => by
    have ih := count_erase g xs i (by simpa using h)
    show (x :: xs.eraseIdx i).countP g.same + (if g.same (xs.getD i Fr.zero) then 1 else 0) = _
    cases h2 : g.same x
    · rw [List.countP_cons_of_neg (by rw [h2]; simp), List.countP_cons_of_neg (by rw [h2]; simp)]; exact ih
    · rw [List.countP_cons_of_pos h2, List.countP_cons_of_pos h2]; omega
theorem alk_drp {xs ys : List Fr} {f : Fr} {i : Nat} (h : Alk2 xs ys) (hf : f ∈ ys) (hi : i < xs.length) (hs : f.same (xs.getD i Fr.zero) = true) : Alk2 (xs.eraseIdx i) (drp f ys) := fun g => by
  have h1 := count_drp g f ys ⟨f, hf, same_refl f⟩
  have h2 := count_erase g xs i hi
  rw [same_left hs] at h2
  have := h g
  omega
theorem drp_len {f : Fr} : ∀ {ys : List Fr}, f ∈ ys → (drp f ys).length + 1 = ys.length := fun {ys} h => by
  unfold drp
  have := List.length_eraseP_of_mem (p := f.same) h (same_refl f)
  have hp : 0 < ys.length := List.length_pos_of_mem h
  omega
/-- The last one that is it, among the first i. -/
def Lst (f : Fr) (xs : List Fr) (i : Nat) (r : Int) : Prop := (r = -1 ∧ (xs.take i).countP f.same = 0) ∨ ∃ k : Nat, k < i ∧ r = (k : Nat) ∧ f.same (xs.getD k Fr.zero) = true
theorem lst_no {f : Fr} {xs : List Fr} {i : Nat} {r : Int} (h : Lst f xs i r) (hi : i < xs.length) (hs : f.same (xs.getD i Fr.zero) = false) : Lst f xs (i + 1) r := by
  rcases h with ⟨h1, h2⟩ | ⟨k, h1, h2, h3⟩
  · refine .inl ⟨h1, ?_⟩
    have := cn_no hi hs
    unfold cn at this
    omega
  · exact .inr ⟨k, by omega, h2, h3⟩
theorem lst_yes {f : Fr} {xs : List Fr} {i : Nat} (hs : f.same (xs.getD i Fr.zero) = true) : Lst f xs (i + 1) (i : Nat) := .inr ⟨i, by omega, rfl, hs⟩
theorem lst_all {f : Fr} {xs : List Fr} {r : Int} (h : Lst f xs xs.length r) (h0 : xs.countP f.same ≠ 0) : ∃ k : Nat, k < xs.length ∧ r = (k : Nat) ∧ f.same (xs.getD k Fr.zero) = true := by
  rcases h with ⟨_, h2⟩ | h
  · rw [List.take_length] at h2
    exact absurd h2 h0
  · exact h
theorem alk_has {xs ys : List Fr} {f : Fr} (h : Alk2 xs ys) (hf : f ∈ ys) : xs.countP f.same ≠ 0 := by
  rw [h f]
  have : 0 < ys.countP f.same := List.countP_pos_iff.2 ⟨f, hf, same_refl f⟩
  omega
/-- What grows is one row. -/
theorem moves_grown {w w' : World} {v v' : Value} (hg : w.grownBy w' v.ownBlock) (hl : Lies w v v') : Moves (fun k => v.ownBlock = some k) (fun k => v'.ownBlock = some k) w w' := by
  refine ⟨hg.os, hg.tape, hg.output, hg.size, fun k hk hn => hg.block k hk fun e => hn e.symm, fun k hk => ?_⟩
  rcases hl with h | h
  · exact .inl (h.symm.trans hk)
  · rw [h] at hk
    injection hk with hk
    exact .inr (by omega)
theorem lay_apart {w w' : World} {B : Nat} {q : NP} {b : Nd} {F F' : Nat → Prop} (h : Lay w B q b) (hm : Moves F F' w w') (hF : ∀ k, q.fp k → ¬ F k) : Lay w' B q b ∧ ∀ k, q.fp k → ¬ F' k := by
  have a1 := hm.blk h.blk (hF _ (.inl rfl))
  have a2 := hm.blk h.que.q (hF _ (.inr (.inl rfl)))
  have a3 := hm.owns h.own fun k hk => hF k (.inr (.inr (.inl hk)))
  have a4 := hm.owns h.lev fun k hk => hF k (.inr (.inr (.inr (.inl hk))))
  have a5 := hm.owns h.que.own fun k hk => hF k (.inr (.inr (.inr (.inr hk))))
  refine ⟨⟨a1.1, a3.1, a4.1, ⟨a2.1, a5.1, h.que.at_⟩, h.sep, h.at_⟩, ?_⟩
  rintro k (rfl | rfl | hk | hk | hk)
  · exact a1.2
  · exact a2.2
  · exact a3.2 k hk
  · exact a4.2 k hk
  · exact a5.2 k hk
/-- A row beside a node has grown. -/
theorem Nst.grow {w0 w w' : World} {g gq : Nat} {n : Nd} {v v' : Value} {gs gs' : List Fr} (h : Nst w0 w g gq n (FrsS w0.heap.size v gs)) (hg : w.grownBy w' v.ownBlock) (hl : Lies w v v') (hv : Fown w' w0.heap.size v' gs') : Nst w0 w' g gq n (FrsS w0.heap.size v' gs') := by
  obtain ⟨vo, vl, vq, h1, ⟨h2, h3⟩, h4⟩ := h
  have hm := moves_grown hg hl
  obtain ⟨a, b⟩ := lay_apart h1 hm fun k hk e => h3 k e hk
  exact ⟨vo, vl, vq, a, ⟨hv, fun k hk hf => b k hf hk⟩, h4.grown hg h4.size h2.row⟩
/-- A new row beside a node. -/
theorem frsS_new {w w1 : World} {B : Nat} {v : Value} {gs : List Fr} (h : Fown w1 w.heap.size v gs) (hB : B ≤ w.heap.size) : ∀ F : Nat → Prop, (∀ k, F k → k < w.heap.size) → FrsS B v gs w1 F :=
  fun F hF => ⟨h.base hB, fun k hk hf => by have := (World.ownsRow.lt h k hk).1; have := hF k hf; omega⟩
theorem Nst.row {w0 w : World} {g gq : Nat} {n : Nd} {v : Value} {gs : List Fr} (h : Nst w0 w g gq n (FrsS w0.heap.size v gs)) : Fown w w0.heap.size v gs := by
  obtain ⟨F, hF⟩ := h.side
  exact hF.1
end Go.Proofs.YtenfcbmeokenaaaGreat

