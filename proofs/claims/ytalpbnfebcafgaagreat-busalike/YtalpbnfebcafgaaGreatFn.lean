/- The contracts of field's Ahead, Right and Next. -/
import Derived.Test.YtalpbnfebcafgaaGreatFh
namespace Go.Proofs.YtalpbnfebcafgaaGreat
set_option maxRecDepth 20000
open Go.RowKit

/-- Block g holds the widths. -/
def Wx (w : World) (g a c d : Nat) : Prop := w.cell? ⟨g, 0, none⟩ = some (.int .i64 1) ∧ w.cell? ⟨g, 1, none⟩ = some (.int .i64 (a : Int)) ∧ w.cell? ⟨g, 2, none⟩ = some (.int .i64 (c : Int)) ∧ w.cell? ⟨g, 3, none⟩ = some (.int .i64 (d : Int)) ∧ w.cell? ⟨g, 4, none⟩ = some (.int .i64 15) ∧ w.cell? ⟨g, 5, none⟩ = some (.int .i64 1) ∧ w.cell? ⟨g, 6, none⟩ = some (.int .i64 1) ∧ w.cell? ⟨g, 7, none⟩ = some (.int .i64 1) ∧ w.cell? ⟨g, 8, none⟩ = some (.int .i64 7)
theorem wx_of {w : World} {g a c d : Nat} (h : w.heap[g]? = some (.cells (W9c a c d) 119)) : Wx w g a c d := by
  unfold Wx
  simp only [World.cell?, h]
  refine ⟨rfl, rfl, rfl, rfl, rfl, rfl, rfl, rfl, rfl⟩
theorem wx_new (w : World) (a c d : Nat) : Wx (w.alloc (.cells (W9c a c d) 119)) w.heap.size a c d := wx_of (heap_alloc_new w _)
theorem Wx.below {w w' : World} {g a c d : Nat} (h : Wx w g a c d) (hb : Below w.heap.size w w') (hg : g < w.heap.size) : Wx w' g a c d := by
  unfold Wx at h ⊢
  have e : ∀ k, w'.cell? ⟨g, k, none⟩ = w.cell? ⟨g, k, none⟩ := fun k => hb.cell hg
  simp only [e]
  exact h
theorem dW_hd (zs : List Int) : dW (hd zs).rtr (hLn zs) = hDat zs := rfl
theorem aW_le (x : Bool) : aW x ≤ 100 := by cases x <;> decide
theorem cW_le (x : Bool) : cW x ≤ 100 := by cases x <;> decide
theorem hEnd_le (x : Bool) : hEnd x ≤ 39 := by cases x <;> decide

set_option maxHeartbeats 400000 in
theorem ahead_bad (A : Option Addr) (n cap : Nat) (zs : List Int) (w : World) (hr : Il w A n zs) (hn : n ≤ 100000) (hl : 0 ≤ chk zs) :
    Calls Tryz.prog 117 #[.slice A n cap] w fun e w' => e = .returned (.tuple #[.int .i64 0, .int .i64 10]) ∧ w = w' := by
  go_enter Tryz.func117, Tryz.ntmps117
  go_wp2_with fail
  refine (check_any _ _ _ _ _ hr (by omega)).mono ?_
  rintro e w' ⟨rfl, rfl⟩
  go_wp2
  go_ret2
  exact ⟨rfl, rfl⟩

/-- What Ahead answers of levels. -/
def aout (zs : List Int) : Value := if zs.length < hEnd (hEx zs) then .tuple #[.int .i64 0, .int .i64 13] else .tuple #[.int .i64 (ahead zs : Nat), .int .i64 0]

set_option maxHeartbeats 800000 in
theorem ahead_any (A : Option Addr) (n cap : Nat) (zs : List Int) (w : World) (hr : Il w A n zs) (hn : n ≤ 100000) (hcap : n ≤ cap) (hl : ∀ z ∈ zs, lvl z = true) :
    Calls Tryz.prog 117 #[.slice A n cap] w fun e w' => e = .returned (aout zs) ∧ Below w.heap.size w w' := by
  have HC := Lib.hid (show chk zs = -1 from fst_of_all lvl zs hl)
  have HR := Lib.hid hr; have HL := Lib.hid hl; have HZ := Lib.hid hr.1
  have HA := Lib.hid (aW_le (hEx zs)); have HB := Lib.hid (cW_le (hEx zs)); have HD := Lib.hid (hDat_le zs)
  have HE := Lib.hid (hEnd_eq (hEx zs)); have hE := hEnd_le (hEx zs)
  have HDD := Lib.hid (show ∀ m, hDat zs = m → ahead zs = hEnd (hEx zs) + m from fun m hm => by unfold ahead; rw [hm])
  clear hr hl
  go_enter Tryz.func117, Tryz.ntmps117
  go_wp2_with fail
  refine (check_any _ _ _ _ _ HR.out (by omega)).mono ?_
  rintro e w' ⟨rfl, rfl⟩
  rw [HC.out]
  go_wp2_with fail
  refine (head_ok _ _ _ _ _ HR.out hn hcap HL.out).mono ?_
  rintro e w1 ⟨rfl, hb1⟩
  go_wp2_with fail
  refine (widths_any (hd zs) (hLn zs) (by have := hLn_le zs; omega) rfl _).mono ?_
  rintro e w2 ⟨rfl, hb2⟩
  rw [dW_hd, show (hd zs).ext = hEx zs from rfl]
  have HB2 := Lib.hid (nxt hb1 hb2)
  clear hb1 hb2
  generalize aW (hEx zs) = a at *
  generalize cW (hEx zs) = c at *
  obtain ⟨d, hd0⟩ : ∃ d, hDat zs = d := ⟨_, rfl⟩
  rw [hd0] at HD ⊢
  have HD0 := Lib.hid hd0
  clear hd0
  go_wp2_with fail
  refine (upTo2 a c d HA.out HB.out (by have := HD.out; omega) _).mono ?_
  rintro e w3 ⟨rfl, hb3⟩
  obtain ⟨c0, c1, c2, c3, c4, c5, c6, c7, c8⟩ := (wx_new w2 a c d).below hb3 (by simp)
  have HB3 := Lib.hid (nxt (nxt HB2.out ((Below.refl _ _).alloc (Nat.le_refl _) _)) hb3)
  clear hb3
  rw [HE.out]
  obtain ⟨E, hE0⟩ : ∃ E, hEnd (hEx zs) = E := ⟨_, rfl⟩
  rw [hE0] at hE HE ⊢
  have HE0 := Lib.hid hE0
  clear hE0
  by_cases hlt : n < E
  · go_wp2
    go_ret2
    exact ⟨by unfold aout; rw [HZ.out, HE0.out, if_pos hlt]; rfl, HB3.out⟩
  · go_wp2_with fail
    refine (upTo3 a c d HA.out HB.out (by have := HD.out; omega) _).mono ?_
    rintro e w4 ⟨rfl, hb4⟩
    rw [HE.out]
    go_wp2
    go_ret2
    exact ⟨by unfold aout; rw [HZ.out, HE0.out, if_neg hlt, HDD.out d HD0.out, HE0.out]; rfl, nxt HB3.out hb4⟩

theorem all_chk {zs : List Int} (h : chk zs < 0) : ∀ z ∈ zs, lvl z = true := fst_neg lvl zs h

set_option maxHeartbeats 400000 in
theorem fright_bad (A : Option Addr) (n cap : Nat) (zs : List Int) (w : World) (hr : Il w A n zs) (hn : n ≤ 100000) (hl : 0 ≤ chk zs) :
    Calls Tryz.prog 101 #[.slice A n cap] w fun e w' => e = .returned (.tuple #[.bool false, .int .i64 10]) ∧ w = w' := by
  go_enter Tryz.func101, Tryz.ntmps101
  go_wp2_with fail
  refine (ahead_bad _ _ _ _ _ hr (by omega) hl).mono ?_
  rintro e w' ⟨rfl, rfl⟩
  go_wp2
  go_ret2
  exact ⟨rfl, rfl⟩

/-- What Right answers of levels. -/
def rout (zs : List Int) : Value := if zs.length < hEnd (hEx zs) ∨ zs.length < ahead zs + 15 then .tuple #[.bool false, .int .i64 13] else .tuple #[.bool (rgt (zs.take (ahead zs + 15))), .int .i64 0]
theorem ahead_le (zs : List Int) : ahead zs ≤ 103 := by
  have := hEnd_le (hEx zs); have := hDat_le zs
  unfold ahead; omega

set_option maxHeartbeats 800000 in
theorem fright_any (A : Option Addr) (n cap : Nat) (zs : List Int) (w : World) (hr : Il w A n zs) (hn : n ≤ 100000) (hcap : n ≤ cap) (hl : ∀ z ∈ zs, lvl z = true) :
    Calls Tryz.prog 101 #[.slice A n cap] w fun e w' => e = .returned (rout zs) ∧ Below w.heap.size w w' := by
  have HR := Lib.hid hr; have HL := Lib.hid hl; have HZ := Lib.hid hr.1
  have hle := ahead_le zs
  clear hr hl
  go_enter Tryz.func101, Tryz.ntmps101
  go_wp2_with fail
  refine (ahead_any _ _ _ _ _ HR.out hn hcap HL.out).mono ?_
  rintro e w1 ⟨rfl, hb1⟩
  have HB1 := Lib.hid hb1
  unfold aout
  obtain ⟨q, hq⟩ : ∃ q, ahead zs = q := ⟨_, rfl⟩
  rw [hq] at hle ⊢
  have HQ := Lib.hid hq
  clear hq hb1
  by_cases hs : zs.length < hEnd (hEx zs)
  · have HS := Lib.hid hs
    rw [if_pos hs]
    clear hs
    go_wp2
    go_ret2
    exact ⟨by unfold rout; rw [if_pos (.inl HS.out)]; rfl, HB1.out⟩
  · have HS := Lib.hid hs
    rw [if_neg hs]
    clear hs
    by_cases hlt : n < q + 15
    · go_wp2
      go_ret2
      exact ⟨by unfold rout; rw [HQ.out, HZ.out, if_pos (.inr hlt)]; rfl, HB1.out⟩
    · go_wp2_with fail
      refine (right_any _ _ _ _ _ ((HR.out.below HB1.out).take (q + 15) (by omega)) (by omega) (by omega)).mono ?_
      rintro e w2 ⟨rfl, hb2⟩
      go_wp2
      go_ret2
      exact ⟨by unfold rout; rw [HQ.out, if_neg (fun h => h.elim HS.out fun h => by rw [HZ.out] at h; omega)]; rfl, nxt HB1.out hb2⟩
end Go.Proofs.YtalpbnfebcafgaaGreat
