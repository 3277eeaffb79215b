/- The reference's Come, as one contract. -/
import Derived.Test.YtmffiakdoklaaaaKR
import Derived.Test.YtmffiakdoklaaaaKD
namespace Go.Proofs.Ytmffiakdoklaaaa
open Go.RowKit

set_option maxHeartbeats 400000 in
theorem rcome_4 (c : Ct) (x : Int) (w : World) : Calls Try.prog 9 #[c.val, .int .i64 4, .int .i64 x] w fun e w' => e = .returned Ct.zero.val ∧ Below w.heap.size w w' := by
  obtain ⟨t, r, o⟩ := c
  go_enter Try.func9, Try.ntmps9
  go_wp2
  refine bodyPost_ret (v := Ct.zero.val) (by rw [results_cell1 rfl]; go_simp; decide) rfl ⟨rfl, below2 _ _ _⟩

set_option maxHeartbeats 800000 in
theorem rcome_not (c : Ct) (k x : Int) (w : World) (h : c.run = false) (h4 : k ≠ 4) : Calls Try.prog 9 #[c.val, .int .i64 k, .int .i64 x] w fun e w' => e = .returned c.val ∧ Below w.heap.size w w' := by
  have hk := fun w0 => rright_any c w0
  have k4 : (k == 4) = false := by simpa using h4
  have HN := Lib.hid (below2 w (.cells c.cells 26) (.cells Ct.zero.cells 26))
  have HC := Lib.hid (rb_first w c (.cells Ct.zero.cells 26))
  have HD := Lib.hid (rb_next w (.cells c.cells 26) Ct.zero)
  have hro : c.right = false ∨ c.o = true := by
    revert h
    unfold Ct.run
    cases c.right <;> cases c.o <;> simp
  clear h h4
  cases hr : c.right
  · rw [hr] at hk
    obtain ⟨t, r, o⟩ := c
    clear hro hr
    go_enter Try.func9, Try.ntmps9
    go_wp2_with fail
    refine (hk _).mono ?_
    rintro e w1 ⟨rfl, hb1⟩
    have HB1 := Lib.hid (nxt HN.out hb1)
    have HC1 := Lib.hid (HC.out.below hb1 (by simp; omega))
    have HD1 := Lib.hid (HD.out.below hb1 (by simp))
    obtain ⟨a0, a1, a2⟩ := HC1.out.cx
    obtain ⟨b0, b1, b2⟩ := HD1.out.cx
    have f0 := HD1.out.frozen 0
    have f1 := HD1.out.frozen 1
    have f2 := HD1.out.frozen 2
    clear hb1 HC HD HN
    simp only at a0 a1 a2
    go_wp2
    refine bodyPost_ret (v := Ct.val ⟨t, r, o⟩) (by rw [results_cell1 rfl]; go_simp) rfl ⟨rfl, set3 HB1.out (by omega) _ _ _⟩
  · rw [hr] at hk hro
    have ho : c.o = true := by simpa using hro
    obtain ⟨t, r, o⟩ := c
    simp only at ho
    subst ho
    clear hro hr
    go_enter Try.func9, Try.ntmps9
    go_wp2_with fail
    refine (hk _).mono ?_
    rintro e w1 ⟨rfl, hb1⟩
    have HB1 := Lib.hid (nxt HN.out hb1)
    have HC1 := Lib.hid (HC.out.below hb1 (by simp; omega))
    have HD1 := Lib.hid (HD.out.below hb1 (by simp))
    obtain ⟨a0, a1, a2⟩ := HC1.out.cx
    obtain ⟨b0, b1, b2⟩ := HD1.out.cx
    have f0 := HD1.out.frozen 0
    have f1 := HD1.out.frozen 1
    have f2 := HD1.out.frozen 2
    clear hb1 HC HD HN
    simp only at a0 a1 a2
    go_wp2
    refine bodyPost_ret (v := Ct.val ⟨t, r, true⟩) (by rw [results_cell1 rfl]; go_simp) rfl ⟨rfl, set3 HB1.out (by omega) _ _ _⟩

set_option maxHeartbeats 800000 in
theorem rcome_else (c : Ct) (k x : Int) (w : World) (h : c.run = true) (h0 : k ≠ 0) (h1 : k ≠ 1) (h2 : k ≠ 2) (h3 : k ≠ 3) (h4 : k ≠ 4) : Calls Try.prog 9 #[c.val, .int .i64 k, .int .i64 x] w fun e w' => e = .returned c.val ∧ Below w.heap.size w w' := by
  have hk := fun w0 => rright_any c w0
  have k0 : (k == 0) = false := by simpa using h0
  have k1 : (k == 1) = false := by simpa using h1
  have k2 : (k == 2) = false := by simpa using h2
  have k3 : (k == 3) = false := by simpa using h3
  have k4 : (k == 4) = false := by simpa using h4
  obtain ⟨ho, -⟩ := run_iff.1 h
  rw [show c.right = true by simp only [Ct.run, Bool.and_eq_true] at h; exact h.1] at hk
  clear h h0 h1 h2 h3 h4
  have HN := Lib.hid (below2 w (.cells c.cells 26) (.cells Ct.zero.cells 26))
  have HC := Lib.hid (rb_first w c (.cells Ct.zero.cells 26))
  have HD := Lib.hid (rb_next w (.cells c.cells 26) Ct.zero)
  obtain ⟨t, r, o⟩ := c
  simp only at ho
  subst ho
  go_enter Try.func9, Try.ntmps9
  go_wp2_with fail
  refine (hk _).mono ?_
  rintro e w1 ⟨rfl, hb1⟩
  have HB1 := Lib.hid (nxt HN.out hb1)
  have HC1 := Lib.hid (HC.out.below hb1 (by simp; omega))
  have HD1 := Lib.hid (HD.out.below hb1 (by simp))
  obtain ⟨a0, a1, a2⟩ := HC1.out.cx
  obtain ⟨b0, b1, b2⟩ := HD1.out.cx
  have f0 := HD1.out.frozen 0
  have f1 := HD1.out.frozen 1
  have f2 := HD1.out.frozen 2
  clear hb1 HC HD HN
  simp only at a0 a1 a2
  go_wp2
  refine bodyPost_ret (v := Ct.val ⟨t, r, false⟩) (by rw [results_cell1 rfl]; go_simp) rfl ⟨rfl, set3 HB1.out (by omega) _ _ _⟩

theorem snt_not {c : Ct} (h : c.run = false) : c.snt = c := by unfold Ct.snt; rw [h]; rfl
theorem rcv_not {c : Ct} (h : c.run = false) : c.rcv = c := by unfold Ct.rcv; rw [h]; rfl
theorem txx_not {c : Ct} (h : c.run = false) : c.txx = c := by unfold Ct.txx; rw [h]; rfl
theorem rxx_not {c : Ct} (h : c.run = false) (x : Int) : c.rxx x = c := by unfold Ct.rxx; rw [h]; rfl
theorem come_not {c : Ct} {k : Int} (h : c.run = false) (h4 : k ≠ 4) (x : Int) : c.come k x = c := by
  unfold Ct.come
  rw [snt_not h, rcv_not h, txx_not h, rxx_not h, if_neg h4]
  simp
theorem rcome_any (c : Ct) (k x : Int) (w : World) : Calls Try.prog 9 #[c.val, .int .i64 k, .int .i64 x] w fun e w' => e = .returned (c.come k x).val ∧ Below w.heap.size w w' := by
  by_cases h4 : k = 4
  · subst h4; exact rcome_4 c x w
  cases h : c.run
  · rw [come_not h h4]; exact rcome_not c k x w h h4
  by_cases h0 : k = 0
  · subst h0; exact rcome_0 c x w h
  by_cases h1 : k = 1
  · subst h1; exact rcome_1 c x w h
  by_cases h2 : k = 2
  · subst h2; exact rcome_2 c x w h
  by_cases h3 : k = 3
  · subst h3; exact rcome_3 c x w h
  rw [come_else h0 h1 h2 h3 h4]
  exact rcome_else c k x w h h0 h1 h2 h3 h4
end Go.Proofs.Ytmffiakdoklaaaa
