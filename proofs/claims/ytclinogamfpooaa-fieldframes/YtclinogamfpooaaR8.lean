/- The reference of layer 4: Frame. -/
import Derived.Test.YtclinogamfpooaaR7
namespace Go.Proofs.Ytclinogamfpooaa
open Go.RowKit

set_option maxHeartbeats 400000 in
theorem rframe_short (A : Option Addr) (n cap : Nat) (zs : List Int) (w : World) (hr : Il w A n zs) (hn : n ≤ 100000) (hcap : n ≤ cap) (hl : ∀ z ∈ zs, lvl z = true) (hs : zs.length < hEnd (hEx zs) ∨ zs.length < ahead zs) :
    Calls Try.prog 24 #[.slice A n cap] w fun e w' => e = .returned (.tuple #[Fr.zero.val, .int .i64 13]) ∧ Below w.heap.size w w' := by
  have HZ := Lib.hid hr.1
  have hle := ahead_le zs
  have A0 := Lib.hid (fb_new w Fr.zero)
  go_enter Try.func24, Try.ntmps24
  go_wp2_with fail
  refine (rahead_ok _ _ _ _ _ (hr.below ((Below.refl _ _).alloc (Nat.le_refl _) _)) (by omega) hcap hl).mono ?_
  rintro e w1 ⟨rfl, hb1⟩
  have HB1 := Lib.hid (nxt ((Below.refl _ _).alloc (Nat.le_refl _) _) hb1)
  have B0 := A0.out.below hb1 (by simp)
  have fz := fun i => B0.frozen i
  obtain ⟨c0, c1, c2, c3, c4, c5, c6, c7, c8, c9, c10, c11⟩ := B0.bx
  clear hb1 A0 B0
  unfold raout
  by_cases h1 : zs.length < hEnd (hEx zs)
  · rw [if_pos h1]
    clear h1 hs hr hl
    go_wp2
    refine bodyPost_ret (v := .tuple #[Fr.zero.val, .int .i64 13]) (by rw [results_cell_tmp rfl]; go_simp; decide) rfl ⟨rfl, ?_⟩
    exact set12 HB1.out (Nat.le_refl _) _ _ _ _ _ _ _ _ _ _ _ _
  · rw [if_neg h1]
    have h2 : n < ahead zs := by
      rw [← HZ.out]
      rcases hs with h | h
      · exact absurd h h1
      · exact h
    clear h1 hs hr hl
    generalize ahead zs = q at *
    go_wp2
    refine bodyPost_ret (v := .tuple #[Fr.zero.val, .int .i64 13]) (by rw [results_cell_tmp rfl]; go_simp; decide) rfl ⟨rfl, ?_⟩
    exact set12 HB1.out (Nat.le_refl _) _ _ _ _ _ _ _ _ _ _ _ _

set_option maxHeartbeats 800000 in
theorem rframe_form (ad : Addr) (n cap : Nat) (zs : List Int) (w : World) (hr : Il w (some ad) n zs) (hn : n ≤ 100000) (hcap : n ≤ cap) (hl : ∀ z ∈ zs, lvl z = true)
    (h1 : hEnd (hEx zs) ≤ n) (h2 : ahead zs ≤ n) (h0 : one zs 0 = true) :
    Calls Try.prog 24 #[.slice (some ad) n cap] w fun e w' => e = .returned (.tuple #[Fr.zero.val, .int .i64 11]) ∧ Below w.heap.size w w' := by
  have HR := Lib.hid hr; have HL := Lib.hid hl; have HZ := Lib.hid hr.1
  have hpos : 0 < hEnd (hEx zs) := by cases hEx zs <;> decide
  obtain ⟨ad', z, e, hz, hc0⟩ := hr.at_ (show 0 < n by omega)
  injection e with e
  subst e
  have hz01 : z = 1 := by rw [one_at hz] at h0; simpa using h0
  subst hz01
  rw [at_zero] at hc0
  have HC0 := Lib.hid hc0
  have HAO := Lib.hid (show raout zs = (ahead zs : Nat) by unfold raout; rw [if_neg (by rw [HZ.out]; omega)])
  have hle := ahead_le zs
  obtain ⟨q, hq⟩ : ∃ q, ahead zs = q := ⟨_, rfl⟩
  rw [hq] at h2 HAO hle
  have hn0 : 0 < n := by omega
  clear hr hl h0 hz hc0 hq hpos
  have A0 := Lib.hid (fb_new w Fr.zero)
  go_enter Try.func24, Try.ntmps24
  go_wp2_with fail
  refine (rahead_ok _ _ _ _ _ (HR.out.below ((Below.refl _ _).alloc (Nat.le_refl _) _)) hn hcap HL.out).mono ?_
  rintro e w1 ⟨rfl, hb1⟩
  rw [HAO.out]
  have hbw1 := nxt ((Below.refl w.heap.size w).alloc (Nat.le_refl _) (.cells Fr.zero.cells 24)) hb1
  have B0 := A0.out.below hb1 (by simp)
  have hc1 : w1.cell? ad = some (.int .i64 1) := (hbw1.cell (by obtain ⟨a, e, hl, _⟩ := HR.out.2 (by omega); injection e with e; subst e; exact hl)).trans HC0.out
  have HB1 := Lib.hid hbw1
  have fz := fun i => B0.frozen i
  obtain ⟨c0, c1, c2, c3, c4, c5, c6, c7, c8, c9, c10, c11⟩ := B0.bx
  clear hb1 A0 B0 hbw1
  go_wp2
  refine bodyPost_ret (v := .tuple #[Fr.zero.val, .int .i64 11]) (by rw [results_cell_tmp rfl]; go_simp; decide) rfl ⟨rfl, ?_⟩
  exact set12 HB1.out (Nat.le_refl _) _ _ _ _ _ _ _ _ _ _ _ _
end Go.Proofs.Ytclinogamfpooaa
