/- The contract of the reference's Parse. -/
import Derived.Test.YtjjfkakjkkpgaaaTm
import Derived.Test.YtjjfkakjkkpgaaaRt
import Derived.Test.YtjjfkakjkkpgaaaRc
namespace Go.Proofs.Ytjjfkakjkkpgaaa
open Go.RowKit

/-- Where the reference looks for the mark. -/
def At (s : ByteArray) (p : Nat) : Prop := (p = 8 ∧ ∃ h : 8 < s.size, s[8] = 35) ∨ (p = 3 ∧ s.size ≤ 8 ∧ ∃ h : 3 < s.size, s[3] = 35) ∨ (p = 3 ∧ ∃ h : 8 < s.size, s[8] ≠ 35 ∧ s[3]'(by omega) = 35)
theorem beq_byte {c : UInt8} {n : Nat} (hn : n < 256) : ((c.toNat : Int) == (n : Int)) = (c == UInt8.ofNat n) := by
  rw [Bool.eq_iff_iff, beq_iff_eq, beq_iff_eq, ← UInt8.toNat_inj, UInt8.toNat_ofNat', Nat.mod_eq_of_lt (by omega)]; omega
theorem is35 {c : UInt8} (h : c = 35) : ((c.toNat : Int) == 35) = true := by subst h; rfl
theorem isnt35 {c : UInt8} (h : c = 35) : ((c.toNat : Int) != 35) = false := by subst h; rfl
theorem not35 {c : UInt8} (h : c ≠ 35) : ((c.toNat : Int) == 35) = false := by
  have := beq_byte (c := c) (n := 35) (by omega)
  rw [show ((c.toNat : Int) == 35) = (c == 35) from this]; simpa using h
theorem not35' {c : UInt8} (h : c ≠ 35) : ((c.toNat : Int) != 35) = true := by simp [bne, not35 h]
/-- The frame of the first k pairs, with an ID. -/
def frq (id : Nat) (x : Bool) (l : List UInt8) (k : Nat) : Fr := { frp l k with id := (id : Int), ext := x }
theorem frq_step (id : Nat) (x : Bool) (l : List UInt8) (k : Nat) : (frq id x l k).put k (hval (pr l k)) = frq id x l (k + 1) := by
  unfold Fr.put frq frp
  simp only [Fr.mk.injEq, true_and]
  funext j
  rcases Nat.lt_trichotomy j k with h | h | h
  · rw [if_neg (by omega), if_pos h, if_pos (by omega)]
  · subst h; rw [if_pos rfl, if_pos (by omega)]
  · rw [if_neg (by omega), if_neg (by omega), if_neg (by omega)]

set_option maxHeartbeats 1600000 in
theorem rp_bad_8 (s s1 s2 : ByteArray) (w : World) (hv : ∃ h : 8 < s.size, s[8] = 35) (hx0 : s.extract 0 8 = s1) (hx1 : s.extract (8 + 1) s.size = s2) (hs : s.size ≤ 100) (HN : Hid (∀ w : World, Calls Try.prog 36 #[.string s1] w fun e w' => e = .returned (.int .i64 (-1)) ∧ w = w')) :
    Calls Try.prog 21 #[.string s] w fun e w' => e = .returned (.tuple #[Fr.zero.val, .int .i64 11]) ∧ Below w.heap.size w w' := by
  obtain ⟨h8, e8⟩ := hv
  have a1 : (8 : Int) < (s.size : Int) := by omega
  have a2 := is35 e8
  have a3 := isnt35 e8
  have a4 : decide ((s.size : Int) ≤ 8) = false := by simp; omega
  have a5 : (9 : Int) ≤ (s.size : Int) := by omega
  have a6 : (8 : Int) ≤ (s.size : Int) := by omega
  clear e8
  go_enter Try.func21, Try.ntmps21
  go_wp2_with fail
  refine (HN.out _).mono ?_
  rintro e w' ⟨rfl, rfl⟩
  go_wp2
  refine bodyPost_ret (v := .tuple #[Fr.zero.val, .int .i64 11]) (by rw [results_cell_tmp rfl]; go_simp; decide) rfl ⟨rfl, ?_⟩
  exact alloc2 w _ _

set_option maxHeartbeats 1600000 in
theorem rp_r_8 (s s1 s2 : ByteArray) (id : Nat) (w : World) (hv : ∃ h : 8 < s.size, s[8] = 35) (hx0 : s.extract 0 8 = s1) (hx1 : s.extract (8 + 1) s.size = s2) (hs : s.size ≤ 100) (HN : Hid (∀ w : World, Calls Try.prog 36 #[.string s1] w fun e w' => e = .returned (.int .i64 (id : Int)) ∧ w = w')) (g1 : (s2.size : Int) = 2) (z1 : 1 < s2.size) (g2 : ((s2[0].toNat : Int) == 82) = true) (n : Int) (F : Fr) (hF : F = ⟨(id : Int), true, true, n, fun _ => 0⟩) (HD : Hid (∀ w : World, Calls Try.prog 37 #[.int .u8 (s2[1].toNat : Int)] w fun e w' => e = .returned (.int .i64 n) ∧ w = w')) (fo : Fr) (er : Int) (H : Hid (n < 0 ∧ er = 11 ∧ fo = Fr.zero ∨ 0 ≤ n ∧ (F.err = 0 ∧ er = 0 ∧ fo = F ∨ F.err = 14 ∧ er = 14 ∧ fo = Fr.zero))) :
    Calls Try.prog 21 #[.string s] w fun e w' => e = .returned (.tuple #[fo.val, .int .i64 er]) ∧ Below w.heap.size w w' := by
  obtain ⟨h8, e8⟩ := hv
  have a1 : (8 : Int) < (s.size : Int) := by omega
  have a2 := is35 e8
  have a3 := isnt35 e8
  have a4 : decide ((s.size : Int) ≤ 8) = false := by simp; omega
  have a5 : (9 : Int) ≤ (s.size : Int) := by omega
  have a6 : (8 : Int) ≤ (s.size : Int) := by omega
  clear e8
  have z1' : (1 : Int) < (s2.size : Int) := by omega
  have HF := Lib.hid hF
  clear hF
  rcases H.out with ⟨h0, rfl, rfl⟩ | ⟨h0, h1⟩
  · go_enter Try.func21, Try.ntmps21
    go_wp2_with fail
    refine (HN.out _).mono ?_
    rintro e w' ⟨rfl, rfl⟩
    go_wp2_with fail
    refine (HD.out _).mono ?_
    rintro e w' ⟨rfl, rfl⟩
    go_wp2
    refine bodyPost_ret (v := .tuple #[Fr.zero.val, .int .i64 11]) (by rw [results_cell_tmp rfl]; go_simp; decide) rfl ⟨rfl, ?_⟩
    exact alloc2 w _ _
  · have h0' : decide (n < 0) = false := by simpa using h0
    have H1 := Lib.hid h1
    clear h1 H
    go_enter Try.func21, Try.ntmps21
    go_wp2_with fail
    refine (HN.out _).mono ?_
    rintro e w' ⟨rfl, rfl⟩
    go_wp2_with fail
    refine (HD.out _).mono ?_
    rintro e w' ⟨rfl, rfl⟩
    have HZ := Lib.hid (fb_two1 w Fr.zero F)
    have HB := Lib.hid (alloc2 w (.cells Fr.zero.cells 24) (.cells F.cells 24))
    have HG := Lib.hid (fb_two2 w Fr.zero F)
    rw [HF.out] at HZ HB HG H1
    go_wp2_with fail
    refine (rcheck_any ⟨(id : Int), true, true, n, fun _ => 0⟩ _).mono ?_
    rintro e w3 ⟨rfl, hb3⟩
    have HZ3 := Lib.hid (HZ.out.below hb3 HZ.out.lt)
    have HG3 := Lib.hid (HG.out.below hb3 HG.out.lt)
    have HB3 := Lib.hid (nxt HB.out hb3)
    clear HZ HG HB hb3
    obtain ⟨c0, c1, c2, c3, c4, c5, c6, c7, c8, c9, c10, c11⟩ := HZ3.out.bx
    obtain ⟨b0, b1, b2, b3, b4, b5, b6, b7, b8, b9, b10, b11⟩ := HG3.out.bx
    have fz := fun i => HZ3.out.frozen i
    rcases H1.out with ⟨h2, rfl, h3⟩ | ⟨h2, rfl, h3⟩
    · rw [h2]
      have H3 := Lib.hid h3
      clear h2 h3
      go_wp2
      rw [H3.out]
      refine bodyPost_ret (v := .tuple #[Fr.val ⟨(id : Int), true, true, n, fun _ => 0⟩, .int .i64 0]) (by rw [results_cell_tmp rfl]; go_simp) rfl ⟨rfl, ?_⟩
      exact set12 HB3.out (Nat.le_refl _) _ _ _ _ _ _ _ _ _ _ _ _
    · rw [h2]
      have H3 := Lib.hid h3
      clear h2 h3
      go_wp2
      rw [H3.out]
      refine bodyPost_ret (v := .tuple #[Fr.zero.val, .int .i64 14]) (by rw [results_cell_tmp rfl]; go_simp; decide) rfl ⟨rfl, ?_⟩
      exact set12 HB3.out (Nat.le_refl _) _ _ _ _ _ _ _ _ _ _ _ _

set_option maxHeartbeats 1600000 in
theorem rp_odd_8 (s s1 s2 : ByteArray) (id : Nat) (w : World) (hv : ∃ h : 8 < s.size, s[8] = 35) (hx0 : s.extract 0 8 = s1) (hx1 : s.extract (8 + 1) s.size = s2) (hs : s.size ≤ 100) (HN : Hid (∀ w : World, Calls Try.prog 36 #[.string s1] w fun e w' => e = .returned (.int .i64 (id : Int)) ∧ w = w')) (g1 : ((s2.size : Int) == 2) = false) (h : ((s2.size : Int) % 2 != 0) = true) :
    Calls Try.prog 21 #[.string s] w fun e w' => e = .returned (.tuple #[Fr.zero.val, .int .i64 11]) ∧ Below w.heap.size w w' := by
  obtain ⟨h8, e8⟩ := hv
  have a1 : (8 : Int) < (s.size : Int) := by omega
  have a2 := is35 e8
  have a3 := isnt35 e8
  have a4 : decide ((s.size : Int) ≤ 8) = false := by simp; omega
  have a5 : (9 : Int) ≤ (s.size : Int) := by omega
  have a6 : (8 : Int) ≤ (s.size : Int) := by omega
  clear e8
  go_enter Try.func21, Try.ntmps21
  go_wp2_with fail
  refine (HN.out _).mono ?_
  rintro e w' ⟨rfl, rfl⟩
  go_wp2
  refine bodyPost_ret (v := .tuple #[Fr.zero.val, .int .i64 11]) (by rw [results_cell_tmp rfl]; go_simp; decide) rfl ⟨rfl, ?_⟩
  exact alloc2 w _ _

set_option maxHeartbeats 1600000 in
theorem rp_far_8 (s s1 s2 : ByteArray) (id : Nat) (w : World) (hv : ∃ h : 8 < s.size, s[8] = 35) (hx0 : s.extract 0 8 = s1) (hx1 : s.extract (8 + 1) s.size = s2) (hs : s.size ≤ 100) (HN : Hid (∀ w : World, Calls Try.prog 36 #[.string s1] w fun e w' => e = .returned (.int .i64 (id : Int)) ∧ w = w')) (g1 : ((s2.size : Int) == 2) = false) (h : ((s2.size : Int) % 2 != 0) = false) (h2 : 16 < (s2.size : Int)) :
    Calls Try.prog 21 #[.string s] w fun e w' => e = .returned (.tuple #[Fr.zero.val, .int .i64 11]) ∧ Below w.heap.size w w' := by
  obtain ⟨h8, e8⟩ := hv
  have a1 : (8 : Int) < (s.size : Int) := by omega
  have a2 := is35 e8
  have a3 := isnt35 e8
  have a4 : decide ((s.size : Int) ≤ 8) = false := by simp; omega
  have a5 : (9 : Int) ≤ (s.size : Int) := by omega
  have a6 : (8 : Int) ≤ (s.size : Int) := by omega
  clear e8
  go_enter Try.func21, Try.ntmps21
  go_wp2_with fail
  refine (HN.out _).mono ?_
  rintro e w' ⟨rfl, rfl⟩
  go_wp2
  refine bodyPost_ret (v := .tuple #[Fr.zero.val, .int .i64 11]) (by rw [results_cell_tmp rfl]; go_simp; decide) rfl ⟨rfl, ?_⟩
  exact alloc2 w _ _

set_option maxHeartbeats 1600000 in
theorem rp_off_ne_8 (s s1 s2 : ByteArray) (id : Nat) (w : World) (hv : ∃ h : 8 < s.size, s[8] = 35) (hx0 : s.extract 0 8 = s1) (hx1 : s.extract (8 + 1) s.size = s2) (hs : s.size ≤ 100) (HN : Hid (∀ w : World, Calls Try.prog 36 #[.string s1] w fun e w' => e = .returned (.int .i64 (id : Int)) ∧ w = w')) (g1 : ((s2.size : Int) == 2) = false) (h : ((s2.size : Int) % 2 != 0) = false) (h2 : (s2.size : Int) < 15) (HR : Hid (∀ w : World, Calls Try.prog 36 #[.string s2] w fun e w' => e = .returned (.int .i64 (-1)) ∧ w = w')) :
    Calls Try.prog 21 #[.string s] w fun e w' => e = .returned (.tuple #[Fr.zero.val, .int .i64 11]) ∧ Below w.heap.size w w' := by
  obtain ⟨h8, e8⟩ := hv
  have a1 : (8 : Int) < (s.size : Int) := by omega
  have a2 := is35 e8
  have a3 := isnt35 e8
  have a4 : decide ((s.size : Int) ≤ 8) = false := by simp; omega
  have a5 : (9 : Int) ≤ (s.size : Int) := by omega
  have a6 : (8 : Int) ≤ (s.size : Int) := by omega
  clear e8
  have h3 : decide (16 < (s2.size : Int)) = false := by simp; omega
  go_enter Try.func21, Try.ntmps21
  go_wp2_with fail
  refine (HN.out _).mono ?_
  rintro e w' ⟨rfl, rfl⟩
  go_wp2_with fail
  refine (HR.out _).mono ?_
  rintro e w' ⟨rfl, rfl⟩
  go_wp2
  refine bodyPost_ret (v := .tuple #[Fr.zero.val, .int .i64 11]) (by rw [results_cell_tmp rfl]; go_simp; decide) rfl ⟨rfl, ?_⟩
  exact alloc2 w _ _

set_option maxHeartbeats 1600000 in
theorem rp_off_eq_8 (s s1 s2 : ByteArray) (id : Nat) (w : World) (hv : ∃ h : 8 < s.size, s[8] = 35) (hx0 : s.extract 0 8 = s1) (hx1 : s.extract (8 + 1) s.size = s2) (hs : s.size ≤ 100) (HN : Hid (∀ w : World, Calls Try.prog 36 #[.string s1] w fun e w' => e = .returned (.int .i64 (id : Int)) ∧ w = w')) (g1 : (s2.size : Int) = 2) (g0 : 0 < s2.size) (g2 : ((s2[0].toNat : Int) == 82) = false) (HR : Hid (∀ w : World, Calls Try.prog 36 #[.string s2] w fun e w' => e = .returned (.int .i64 (-1)) ∧ w = w')) :
    Calls Try.prog 21 #[.string s] w fun e w' => e = .returned (.tuple #[Fr.zero.val, .int .i64 11]) ∧ Below w.heap.size w w' := by
  obtain ⟨h8, e8⟩ := hv
  have a1 : (8 : Int) < (s.size : Int) := by omega
  have a2 := is35 e8
  have a3 := isnt35 e8
  have a4 : decide ((s.size : Int) ≤ 8) = false := by simp; omega
  have a5 : (9 : Int) ≤ (s.size : Int) := by omega
  have a6 : (8 : Int) ≤ (s.size : Int) := by omega
  clear e8
  go_enter Try.func21, Try.ntmps21
  go_wp2_with fail
  refine (HN.out _).mono ?_
  rintro e w' ⟨rfl, rfl⟩
  go_wp2_with fail
  refine (HR.out _).mono ?_
  rintro e w' ⟨rfl, rfl⟩
  go_wp2
  refine bodyPost_ret (v := .tuple #[Fr.zero.val, .int .i64 11]) (by rw [results_cell_tmp rfl]; go_simp; decide) rfl ⟨rfl, ?_⟩
  exact alloc2 w _ _

set_option maxHeartbeats 1600000 in
theorem rp_bad_3a (s s1 s2 : ByteArray) (w : World) (hv : s.size ≤ 8 ∧ ∃ h : 3 < s.size, s[3] = 35) (hx0 : s.extract 0 3 = s1) (hx1 : s.extract (3 + 1) s.size = s2) (hs : s.size ≤ 100) (HN : Hid (∀ w : World, Calls Try.prog 36 #[.string s1] w fun e w' => e = .returned (.int .i64 (-1)) ∧ w = w')) :
    Calls Try.prog 21 #[.string s] w fun e w' => e = .returned (.tuple #[Fr.zero.val, .int .i64 11]) ∧ Below w.heap.size w w' := by
  obtain ⟨h8, h3, e3⟩ := hv
  have a1 : decide ((8 : Int) < (s.size : Int)) = false := by simp; omega
  have a3 := isnt35 e3
  have a4 : decide ((s.size : Int) ≤ 3) = false := by simp; omega
  have a5 : (4 : Int) ≤ (s.size : Int) := by omega
  have a6 : (3 : Int) ≤ (s.size : Int) := by omega
  have a7 : (3 : Int) < (s.size : Int) := by omega
  clear e3
  go_enter Try.func21, Try.ntmps21
  go_wp2_with fail
  refine (HN.out _).mono ?_
  rintro e w' ⟨rfl, rfl⟩
  go_wp2
  refine bodyPost_ret (v := .tuple #[Fr.zero.val, .int .i64 11]) (by rw [results_cell_tmp rfl]; go_simp; decide) rfl ⟨rfl, ?_⟩
  exact alloc2 w _ _

set_option maxHeartbeats 1600000 in
theorem rp_r_3a (s s1 s2 : ByteArray) (id : Nat) (w : World) (hv : s.size ≤ 8 ∧ ∃ h : 3 < s.size, s[3] = 35) (hx0 : s.extract 0 3 = s1) (hx1 : s.extract (3 + 1) s.size = s2) (hs : s.size ≤ 100) (HN : Hid (∀ w : World, Calls Try.prog 36 #[.string s1] w fun e w' => e = .returned (.int .i64 (id : Int)) ∧ w = w')) (g1 : (s2.size : Int) = 2) (z1 : 1 < s2.size) (g2 : ((s2[0].toNat : Int) == 82) = true) (n : Int) (F : Fr) (hF : F = ⟨(id : Int), false, true, n, fun _ => 0⟩) (HD : Hid (∀ w : World, Calls Try.prog 37 #[.int .u8 (s2[1].toNat : Int)] w fun e w' => e = .returned (.int .i64 n) ∧ w = w')) (fo : Fr) (er : Int) (H : Hid (n < 0 ∧ er = 11 ∧ fo = Fr.zero ∨ 0 ≤ n ∧ (F.err = 0 ∧ er = 0 ∧ fo = F ∨ F.err = 14 ∧ er = 14 ∧ fo = Fr.zero))) :
    Calls Try.prog 21 #[.string s] w fun e w' => e = .returned (.tuple #[fo.val, .int .i64 er]) ∧ Below w.heap.size w w' := by
  obtain ⟨h8, h3, e3⟩ := hv
  have a1 : decide ((8 : Int) < (s.size : Int)) = false := by simp; omega
  have a3 := isnt35 e3
  have a4 : decide ((s.size : Int) ≤ 3) = false := by simp; omega
  have a5 : (4 : Int) ≤ (s.size : Int) := by omega
  have a6 : (3 : Int) ≤ (s.size : Int) := by omega
  have a7 : (3 : Int) < (s.size : Int) := by omega
  clear e3
  have z1' : (1 : Int) < (s2.size : Int) := by omega
  have HF := Lib.hid hF
  clear hF
  rcases H.out with ⟨h0, rfl, rfl⟩ | ⟨h0, h1⟩
  · go_enter Try.func21, Try.ntmps21
    go_wp2_with fail
    refine (HN.out _).mono ?_
    rintro e w' ⟨rfl, rfl⟩
    go_wp2_with fail
    refine (HD.out _).mono ?_
    rintro e w' ⟨rfl, rfl⟩
    go_wp2
    refine bodyPost_ret (v := .tuple #[Fr.zero.val, .int .i64 11]) (by rw [results_cell_tmp rfl]; go_simp; decide) rfl ⟨rfl, ?_⟩
    exact alloc2 w _ _
  · have h0' : decide (n < 0) = false := by simpa using h0
    have H1 := Lib.hid h1
    clear h1 H
    go_enter Try.func21, Try.ntmps21
    go_wp2_with fail
    refine (HN.out _).mono ?_
    rintro e w' ⟨rfl, rfl⟩
    go_wp2_with fail
    refine (HD.out _).mono ?_
    rintro e w' ⟨rfl, rfl⟩
    have HZ := Lib.hid (fb_two1 w Fr.zero F)
    have HB := Lib.hid (alloc2 w (.cells Fr.zero.cells 24) (.cells F.cells 24))
    have HG := Lib.hid (fb_two2 w Fr.zero F)
    rw [HF.out] at HZ HB HG H1
    go_wp2_with fail
    refine (rcheck_any ⟨(id : Int), false, true, n, fun _ => 0⟩ _).mono ?_
    rintro e w3 ⟨rfl, hb3⟩
    have HZ3 := Lib.hid (HZ.out.below hb3 HZ.out.lt)
    have HG3 := Lib.hid (HG.out.below hb3 HG.out.lt)
    have HB3 := Lib.hid (nxt HB.out hb3)
    clear HZ HG HB hb3
    obtain ⟨c0, c1, c2, c3, c4, c5, c6, c7, c8, c9, c10, c11⟩ := HZ3.out.bx
    obtain ⟨b0, b1, b2, b3, b4, b5, b6, b7, b8, b9, b10, b11⟩ := HG3.out.bx
    have fz := fun i => HZ3.out.frozen i
    rcases H1.out with ⟨h2, rfl, h3⟩ | ⟨h2, rfl, h3⟩
    · rw [h2]
      have H3 := Lib.hid h3
      clear h2 h3
      go_wp2
      rw [H3.out]
      refine bodyPost_ret (v := .tuple #[Fr.val ⟨(id : Int), false, true, n, fun _ => 0⟩, .int .i64 0]) (by rw [results_cell_tmp rfl]; go_simp) rfl ⟨rfl, ?_⟩
      exact set12 HB3.out (Nat.le_refl _) _ _ _ _ _ _ _ _ _ _ _ _
    · rw [h2]
      have H3 := Lib.hid h3
      clear h2 h3
      go_wp2
      rw [H3.out]
      refine bodyPost_ret (v := .tuple #[Fr.zero.val, .int .i64 14]) (by rw [results_cell_tmp rfl]; go_simp; decide) rfl ⟨rfl, ?_⟩
      exact set12 HB3.out (Nat.le_refl _) _ _ _ _ _ _ _ _ _ _ _ _

set_option maxHeartbeats 1600000 in
theorem rp_odd_3a (s s1 s2 : ByteArray) (id : Nat) (w : World) (hv : s.size ≤ 8 ∧ ∃ h : 3 < s.size, s[3] = 35) (hx0 : s.extract 0 3 = s1) (hx1 : s.extract (3 + 1) s.size = s2) (hs : s.size ≤ 100) (HN : Hid (∀ w : World, Calls Try.prog 36 #[.string s1] w fun e w' => e = .returned (.int .i64 (id : Int)) ∧ w = w')) (g1 : ((s2.size : Int) == 2) = false) (h : ((s2.size : Int) % 2 != 0) = true) :
    Calls Try.prog 21 #[.string s] w fun e w' => e = .returned (.tuple #[Fr.zero.val, .int .i64 11]) ∧ Below w.heap.size w w' := by
  obtain ⟨h8, h3, e3⟩ := hv
  have a1 : decide ((8 : Int) < (s.size : Int)) = false := by simp; omega
  have a3 := isnt35 e3
  have a4 : decide ((s.size : Int) ≤ 3) = false := by simp; omega
  have a5 : (4 : Int) ≤ (s.size : Int) := by omega
  have a6 : (3 : Int) ≤ (s.size : Int) := by omega
  have a7 : (3 : Int) < (s.size : Int) := by omega
  clear e3
  go_enter Try.func21, Try.ntmps21
  go_wp2_with fail
  refine (HN.out _).mono ?_
  rintro e w' ⟨rfl, rfl⟩
  go_wp2
  refine bodyPost_ret (v := .tuple #[Fr.zero.val, .int .i64 11]) (by rw [results_cell_tmp rfl]; go_simp; decide) rfl ⟨rfl, ?_⟩
  exact alloc2 w _ _

set_option maxHeartbeats 1600000 in
theorem rp_far_3a (s s1 s2 : ByteArray) (id : Nat) (w : World) (hv : s.size ≤ 8 ∧ ∃ h : 3 < s.size, s[3] = 35) (hx0 : s.extract 0 3 = s1) (hx1 : s.extract (3 + 1) s.size = s2) (hs : s.size ≤ 100) (HN : Hid (∀ w : World, Calls Try.prog 36 #[.string s1] w fun e w' => e = .returned (.int .i64 (id : Int)) ∧ w = w')) (g1 : ((s2.size : Int) == 2) = false) (h : ((s2.size : Int) % 2 != 0) = false) (h2 : 16 < (s2.size : Int)) :
    Calls Try.prog 21 #[.string s] w fun e w' => e = .returned (.tuple #[Fr.zero.val, .int .i64 11]) ∧ Below w.heap.size w w' := by
  obtain ⟨h8, h3, e3⟩ := hv
  have a1 : decide ((8 : Int) < (s.size : Int)) = false := by simp; omega
  have a3 := isnt35 e3
  have a4 : decide ((s.size : Int) ≤ 3) = false := by simp; omega
  have a5 : (4 : Int) ≤ (s.size : Int) := by omega
  have a6 : (3 : Int) ≤ (s.size : Int) := by omega
  have a7 : (3 : Int) < (s.size : Int) := by omega
  clear e3
  go_enter Try.func21, Try.ntmps21
  go_wp2_with fail
  refine (HN.out _).mono ?_
  rintro e w' ⟨rfl, rfl⟩
  go_wp2
  refine bodyPost_ret (v := .tuple #[Fr.zero.val, .int .i64 11]) (by rw [results_cell_tmp rfl]; go_simp; decide) rfl ⟨rfl, ?_⟩
  exact alloc2 w _ _

set_option maxHeartbeats 1600000 in
theorem rp_off_ne_3a (s s1 s2 : ByteArray) (id : Nat) (w : World) (hv : s.size ≤ 8 ∧ ∃ h : 3 < s.size, s[3] = 35) (hx0 : s.extract 0 3 = s1) (hx1 : s.extract (3 + 1) s.size = s2) (hs : s.size ≤ 100) (HN : Hid (∀ w : World, Calls Try.prog 36 #[.string s1] w fun e w' => e = .returned (.int .i64 (id : Int)) ∧ w = w')) (g1 : ((s2.size : Int) == 2) = false) (h : ((s2.size : Int) % 2 != 0) = false) (h2 : (s2.size : Int) < 15) (HR : Hid (∀ w : World, Calls Try.prog 36 #[.string s2] w fun e w' => e = .returned (.int .i64 (-1)) ∧ w = w')) :
    Calls Try.prog 21 #[.string s] w fun e w' => e = .returned (.tuple #[Fr.zero.val, .int .i64 11]) ∧ Below w.heap.size w w' := by
  obtain ⟨h8, h3, e3⟩ := hv
  have a1 : decide ((8 : Int) < (s.size : Int)) = false := by simp; omega
  have a3 := isnt35 e3
  have a4 : decide ((s.size : Int) ≤ 3) = false := by simp; omega
  have a5 : (4 : Int) ≤ (s.size : Int) := by omega
  have a6 : (3 : Int) ≤ (s.size : Int) := by omega
  have a7 : (3 : Int) < (s.size : Int) := by omega
  clear e3
  have h3 : decide (16 < (s2.size : Int)) = false := by simp; omega
  go_enter Try.func21, Try.ntmps21
  go_wp2_with fail
  refine (HN.out _).mono ?_
  rintro e w' ⟨rfl, rfl⟩
  go_wp2_with fail
  refine (HR.out _).mono ?_
  rintro e w' ⟨rfl, rfl⟩
  go_wp2
  refine bodyPost_ret (v := .tuple #[Fr.zero.val, .int .i64 11]) (by rw [results_cell_tmp rfl]; go_simp; decide) rfl ⟨rfl, ?_⟩
  exact alloc2 w _ _

set_option maxHeartbeats 1600000 in
theorem rp_off_eq_3a (s s1 s2 : ByteArray) (id : Nat) (w : World) (hv : s.size ≤ 8 ∧ ∃ h : 3 < s.size, s[3] = 35) (hx0 : s.extract 0 3 = s1) (hx1 : s.extract (3 + 1) s.size = s2) (hs : s.size ≤ 100) (HN : Hid (∀ w : World, Calls Try.prog 36 #[.string s1] w fun e w' => e = .returned (.int .i64 (id : Int)) ∧ w = w')) (g1 : (s2.size : Int) = 2) (g0 : 0 < s2.size) (g2 : ((s2[0].toNat : Int) == 82) = false) (HR : Hid (∀ w : World, Calls Try.prog 36 #[.string s2] w fun e w' => e = .returned (.int .i64 (-1)) ∧ w = w')) :
    Calls Try.prog 21 #[.string s] w fun e w' => e = .returned (.tuple #[Fr.zero.val, .int .i64 11]) ∧ Below w.heap.size w w' := by
  obtain ⟨h8, h3, e3⟩ := hv
  have a1 : decide ((8 : Int) < (s.size : Int)) = false := by simp; omega
  have a3 := isnt35 e3
  have a4 : decide ((s.size : Int) ≤ 3) = false := by simp; omega
  have a5 : (4 : Int) ≤ (s.size : Int) := by omega
  have a6 : (3 : Int) ≤ (s.size : Int) := by omega
  have a7 : (3 : Int) < (s.size : Int) := by omega
  clear e3
  go_enter Try.func21, Try.ntmps21
  go_wp2_with fail
  refine (HN.out _).mono ?_
  rintro e w' ⟨rfl, rfl⟩
  go_wp2_with fail
  refine (HR.out _).mono ?_
  rintro e w' ⟨rfl, rfl⟩
  go_wp2
  refine bodyPost_ret (v := .tuple #[Fr.zero.val, .int .i64 11]) (by rw [results_cell_tmp rfl]; go_simp; decide) rfl ⟨rfl, ?_⟩
  exact alloc2 w _ _

set_option maxHeartbeats 1600000 in
theorem rp_bad_3b (s s1 s2 : ByteArray) (w : World) (hv : ∃ h : 8 < s.size, s[8] ≠ 35 ∧ s[3]'(by omega) = 35) (hx0 : s.extract 0 3 = s1) (hx1 : s.extract (3 + 1) s.size = s2) (hs : s.size ≤ 100) (HN : Hid (∀ w : World, Calls Try.prog 36 #[.string s1] w fun e w' => e = .returned (.int .i64 (-1)) ∧ w = w')) :
    Calls Try.prog 21 #[.string s] w fun e w' => e = .returned (.tuple #[Fr.zero.val, .int .i64 11]) ∧ Below w.heap.size w w' := by
  obtain ⟨h8, e8, e3⟩ := hv
  have a1 : (8 : Int) < (s.size : Int) := by omega
  have a2 := not35 e8
  have a3 := isnt35 e3
  have a4 : decide ((s.size : Int) ≤ 3) = false := by simp; omega
  have a5 : (4 : Int) ≤ (s.size : Int) := by omega
  have a6 : (3 : Int) ≤ (s.size : Int) := by omega
  have a7 : (3 : Int) < (s.size : Int) := by omega
  clear e8 e3
  go_enter Try.func21, Try.ntmps21
  go_wp2_with fail
  refine (HN.out _).mono ?_
  rintro e w' ⟨rfl, rfl⟩
  go_wp2
  refine bodyPost_ret (v := .tuple #[Fr.zero.val, .int .i64 11]) (by rw [results_cell_tmp rfl]; go_simp; decide) rfl ⟨rfl, ?_⟩
  exact alloc2 w _ _

set_option maxHeartbeats 1600000 in
theorem rp_r_3b (s s1 s2 : ByteArray) (id : Nat) (w : World) (hv : ∃ h : 8 < s.size, s[8] ≠ 35 ∧ s[3]'(by omega) = 35) (hx0 : s.extract 0 3 = s1) (hx1 : s.extract (3 + 1) s.size = s2) (hs : s.size ≤ 100) (HN : Hid (∀ w : World, Calls Try.prog 36 #[.string s1] w fun e w' => e = .returned (.int .i64 (id : Int)) ∧ w = w')) (g1 : (s2.size : Int) = 2) (z1 : 1 < s2.size) (g2 : ((s2[0].toNat : Int) == 82) = true) (n : Int) (F : Fr) (hF : F = ⟨(id : Int), false, true, n, fun _ => 0⟩) (HD : Hid (∀ w : World, Calls Try.prog 37 #[.int .u8 (s2[1].toNat : Int)] w fun e w' => e = .returned (.int .i64 n) ∧ w = w')) (fo : Fr) (er : Int) (H : Hid (n < 0 ∧ er = 11 ∧ fo = Fr.zero ∨ 0 ≤ n ∧ (F.err = 0 ∧ er = 0 ∧ fo = F ∨ F.err = 14 ∧ er = 14 ∧ fo = Fr.zero))) :
    Calls Try.prog 21 #[.string s] w fun e w' => e = .returned (.tuple #[fo.val, .int .i64 er]) ∧ Below w.heap.size w w' := by
  obtain ⟨h8, e8, e3⟩ := hv
  have a1 : (8 : Int) < (s.size : Int) := by omega
  have a2 := not35 e8
  have a3 := isnt35 e3
  have a4 : decide ((s.size : Int) ≤ 3) = false := by simp; omega
  have a5 : (4 : Int) ≤ (s.size : Int) := by omega
  have a6 : (3 : Int) ≤ (s.size : Int) := by omega
  have a7 : (3 : Int) < (s.size : Int) := by omega
  clear e8 e3
  have z1' : (1 : Int) < (s2.size : Int) := by omega
  have HF := Lib.hid hF
  clear hF
  rcases H.out with ⟨h0, rfl, rfl⟩ | ⟨h0, h1⟩
  · go_enter Try.func21, Try.ntmps21
    go_wp2_with fail
    refine (HN.out _).mono ?_
    rintro e w' ⟨rfl, rfl⟩
    go_wp2_with fail
    refine (HD.out _).mono ?_
    rintro e w' ⟨rfl, rfl⟩
    go_wp2
    refine bodyPost_ret (v := .tuple #[Fr.zero.val, .int .i64 11]) (by rw [results_cell_tmp rfl]; go_simp; decide) rfl ⟨rfl, ?_⟩
    exact alloc2 w _ _
  · have h0' : decide (n < 0) = false := by simpa using h0
    have H1 := Lib.hid h1
    clear h1 H
    go_enter Try.func21, Try.ntmps21
    go_wp2_with fail
    refine (HN.out _).mono ?_
    rintro e w' ⟨rfl, rfl⟩
    go_wp2_with fail
    refine (HD.out _).mono ?_
    rintro e w' ⟨rfl, rfl⟩
    have HZ := Lib.hid (fb_two1 w Fr.zero F)
    have HB := Lib.hid (alloc2 w (.cells Fr.zero.cells 24) (.cells F.cells 24))
    have HG := Lib.hid (fb_two2 w Fr.zero F)
    rw [HF.out] at HZ HB HG H1
    go_wp2_with fail
    refine (rcheck_any ⟨(id : Int), false, true, n, fun _ => 0⟩ _).mono ?_
    rintro e w3 ⟨rfl, hb3⟩
    have HZ3 := Lib.hid (HZ.out.below hb3 HZ.out.lt)
    have HG3 := Lib.hid (HG.out.below hb3 HG.out.lt)
    have HB3 := Lib.hid (nxt HB.out hb3)
    clear HZ HG HB hb3
    obtain ⟨c0, c1, c2, c3, c4, c5, c6, c7, c8, c9, c10, c11⟩ := HZ3.out.bx
    obtain ⟨b0, b1, b2, b3, b4, b5, b6, b7, b8, b9, b10, b11⟩ := HG3.out.bx
    have fz := fun i => HZ3.out.frozen i
    rcases H1.out with ⟨h2, rfl, h3⟩ | ⟨h2, rfl, h3⟩
    · rw [h2]
      have H3 := Lib.hid h3
      clear h2 h3
      go_wp2
      rw [H3.out]
      refine bodyPost_ret (v := .tuple #[Fr.val ⟨(id : Int), false, true, n, fun _ => 0⟩, .int .i64 0]) (by rw [results_cell_tmp rfl]; go_simp) rfl ⟨rfl, ?_⟩
      exact set12 HB3.out (Nat.le_refl _) _ _ _ _ _ _ _ _ _ _ _ _
    · rw [h2]
      have H3 := Lib.hid h3
      clear h2 h3
      go_wp2
      rw [H3.out]
      refine bodyPost_ret (v := .tuple #[Fr.zero.val, .int .i64 14]) (by rw [results_cell_tmp rfl]; go_simp; decide) rfl ⟨rfl, ?_⟩
      exact set12 HB3.out (Nat.le_refl _) _ _ _ _ _ _ _ _ _ _ _ _

set_option maxHeartbeats 1600000 in
theorem rp_odd_3b (s s1 s2 : ByteArray) (id : Nat) (w : World) (hv : ∃ h : 8 < s.size, s[8] ≠ 35 ∧ s[3]'(by omega) = 35) (hx0 : s.extract 0 3 = s1) (hx1 : s.extract (3 + 1) s.size = s2) (hs : s.size ≤ 100) (HN : Hid (∀ w : World, Calls Try.prog 36 #[.string s1] w fun e w' => e = .returned (.int .i64 (id : Int)) ∧ w = w')) (g1 : ((s2.size : Int) == 2) = false) (h : ((s2.size : Int) % 2 != 0) = true) :
    Calls Try.prog 21 #[.string s] w fun e w' => e = .returned (.tuple #[Fr.zero.val, .int .i64 11]) ∧ Below w.heap.size w w' := by
  obtain ⟨h8, e8, e3⟩ := hv
  have a1 : (8 : Int) < (s.size : Int) := by omega
  have a2 := not35 e8
  have a3 := isnt35 e3
  have a4 : decide ((s.size : Int) ≤ 3) = false := by simp; omega
  have a5 : (4 : Int) ≤ (s.size : Int) := by omega
  have a6 : (3 : Int) ≤ (s.size : Int) := by omega
  have a7 : (3 : Int) < (s.size : Int) := by omega
  clear e8 e3
  go_enter Try.func21, Try.ntmps21
  go_wp2_with fail
  refine (HN.out _).mono ?_
  rintro e w' ⟨rfl, rfl⟩
  go_wp2
  refine bodyPost_ret (v := .tuple #[Fr.zero.val, .int .i64 11]) (by rw [results_cell_tmp rfl]; go_simp; decide) rfl ⟨rfl, ?_⟩
  exact alloc2 w _ _

set_option maxHeartbeats 1600000 in
theorem rp_far_3b (s s1 s2 : ByteArray) (id : Nat) (w : World) (hv : ∃ h : 8 < s.size, s[8] ≠ 35 ∧ s[3]'(by omega) = 35) (hx0 : s.extract 0 3 = s1) (hx1 : s.extract (3 + 1) s.size = s2) (hs : s.size ≤ 100) (HN : Hid (∀ w : World, Calls Try.prog 36 #[.string s1] w fun e w' => e = .returned (.int .i64 (id : Int)) ∧ w = w')) (g1 : ((s2.size : Int) == 2) = false) (h : ((s2.size : Int) % 2 != 0) = false) (h2 : 16 < (s2.size : Int)) :
    Calls Try.prog 21 #[.string s] w fun e w' => e = .returned (.tuple #[Fr.zero.val, .int .i64 11]) ∧ Below w.heap.size w w' := by
  obtain ⟨h8, e8, e3⟩ := hv
  have a1 : (8 : Int) < (s.size : Int) := by omega
  have a2 := not35 e8
  have a3 := isnt35 e3
  have a4 : decide ((s.size : Int) ≤ 3) = false := by simp; omega
  have a5 : (4 : Int) ≤ (s.size : Int) := by omega
  have a6 : (3 : Int) ≤ (s.size : Int) := by omega
  have a7 : (3 : Int) < (s.size : Int) := by omega
  clear e8 e3
  go_enter Try.func21, Try.ntmps21
  go_wp2_with fail
  refine (HN.out _).mono ?_
  rintro e w' ⟨rfl, rfl⟩
  go_wp2
  refine bodyPost_ret (v := .tuple #[Fr.zero.val, .int .i64 11]) (by rw [results_cell_tmp rfl]; go_simp; decide) rfl ⟨rfl, ?_⟩
  exact alloc2 w _ _

set_option maxHeartbeats 1600000 in
theorem rp_off_ne_3b (s s1 s2 : ByteArray) (id : Nat) (w : World) (hv : ∃ h : 8 < s.size, s[8] ≠ 35 ∧ s[3]'(by omega) = 35) (hx0 : s.extract 0 3 = s1) (hx1 : s.extract (3 + 1) s.size = s2) (hs : s.size ≤ 100) (HN : Hid (∀ w : World, Calls Try.prog 36 #[.string s1] w fun e w' => e = .returned (.int .i64 (id : Int)) ∧ w = w')) (g1 : ((s2.size : Int) == 2) = false) (h : ((s2.size : Int) % 2 != 0) = false) (h2 : (s2.size : Int) < 15) (HR : Hid (∀ w : World, Calls Try.prog 36 #[.string s2] w fun e w' => e = .returned (.int .i64 (-1)) ∧ w = w')) :
    Calls Try.prog 21 #[.string s] w fun e w' => e = .returned (.tuple #[Fr.zero.val, .int .i64 11]) ∧ Below w.heap.size w w' := by
  obtain ⟨h8, e8, e3⟩ := hv
  have a1 : (8 : Int) < (s.size : Int) := by omega
  have a2 := not35 e8
  have a3 := isnt35 e3
  have a4 : decide ((s.size : Int) ≤ 3) = false := by simp; omega
  have a5 : (4 : Int) ≤ (s.size : Int) := by omega
  have a6 : (3 : Int) ≤ (s.size : Int) := by omega
  have a7 : (3 : Int) < (s.size : Int) := by omega
  clear e8 e3
  have h3 : decide (16 < (s2.size : Int)) = false := by simp; omega
  go_enter Try.func21, Try.ntmps21
  go_wp2_with fail
  refine (HN.out _).mono ?_
  rintro e w' ⟨rfl, rfl⟩
  go_wp2_with fail
  refine (HR.out _).mono ?_
  rintro e w' ⟨rfl, rfl⟩
  go_wp2
  refine bodyPost_ret (v := .tuple #[Fr.zero.val, .int .i64 11]) (by rw [results_cell_tmp rfl]; go_simp; decide) rfl ⟨rfl, ?_⟩
  exact alloc2 w _ _

set_option maxHeartbeats 1600000 in
theorem rp_off_eq_3b (s s1 s2 : ByteArray) (id : Nat) (w : World) (hv : ∃ h : 8 < s.size, s[8] ≠ 35 ∧ s[3]'(by omega) = 35) (hx0 : s.extract 0 3 = s1) (hx1 : s.extract (3 + 1) s.size = s2) (hs : s.size ≤ 100) (HN : Hid (∀ w : World, Calls Try.prog 36 #[.string s1] w fun e w' => e = .returned (.int .i64 (id : Int)) ∧ w = w')) (g1 : (s2.size : Int) = 2) (g0 : 0 < s2.size) (g2 : ((s2[0].toNat : Int) == 82) = false) (HR : Hid (∀ w : World, Calls Try.prog 36 #[.string s2] w fun e w' => e = .returned (.int .i64 (-1)) ∧ w = w')) :
    Calls Try.prog 21 #[.string s] w fun e w' => e = .returned (.tuple #[Fr.zero.val, .int .i64 11]) ∧ Below w.heap.size w w' := by
  obtain ⟨h8, e8, e3⟩ := hv
  have a1 : (8 : Int) < (s.size : Int) := by omega
  have a2 := not35 e8
  have a3 := isnt35 e3
  have a4 : decide ((s.size : Int) ≤ 3) = false := by simp; omega
  have a5 : (4 : Int) ≤ (s.size : Int) := by omega
  have a6 : (3 : Int) ≤ (s.size : Int) := by omega
  have a7 : (3 : Int) < (s.size : Int) := by omega
  clear e8 e3
  go_enter Try.func21, Try.ntmps21
  go_wp2_with fail
  refine (HN.out _).mono ?_
  rintro e w' ⟨rfl, rfl⟩
  go_wp2_with fail
  refine (HR.out _).mono ?_
  rintro e w' ⟨rfl, rfl⟩
  go_wp2
  refine bodyPost_ret (v := .tuple #[Fr.zero.val, .int .i64 11]) (by rw [results_cell_tmp rfl]; go_simp; decide) rfl ⟨rfl, ?_⟩
  exact alloc2 w _ _
end Go.Proofs.Ytjjfkakjkkpgaaa
