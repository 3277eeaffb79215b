/- The contracts of magnetolaw08's Behind and one, and of its awake. -/
import Derived.Test.YtmffiakdoklaaaaKC
namespace Go.Proofs.Ytmffiakdoklaaaa
open Go.RowKit

theorem come_0 (c : Ct) (x : Int) : c.come 0 x = c.snt := rfl
theorem come_1 (c : Ct) (x : Int) : c.come 1 x = c.rcv := rfl
theorem come_2 (c : Ct) (x : Int) : c.come 2 x = c.txx := rfl
theorem come_3 (c : Ct) (x : Int) : c.come 3 x = c.rxx x := rfl
theorem come_4 (c : Ct) (x : Int) : c.come 4 x = Ct.zero := rfl
theorem come_else {c : Ct} {k x : Int} (h0 : k ≠ 0) (h1 : k ≠ 1) (h2 : k ≠ 2) (h3 : k ≠ 3) (h4 : k ≠ 4) : c.come k x = c := by
  unfold Ct.come
  rw [if_neg h0, if_neg h1, if_neg h2, if_neg h3, if_neg h4]

set_option maxHeartbeats 400000 in
theorem behind_0 (c : Ct) (x : Int) (w : World) : Calls Try.prog 10 #[c.val, .agg #[.int .i64 0, .int .i64 x]] w fun e w' => e = .returned (c.snt).val ∧ Below w.heap.size w w' := by
  have ht := fun w0 => sent_any c w0
  have HN := Lib.hid (below3 w (.cells c.cells 23) (.cells #[.int .i64 0, .int .i64 x] 25) (.cells Ct.zero.cells 23))
  have HD := Lib.hid (cb_next2 w (.cells c.cells 23) (.cells #[.int .i64 0, .int .i64 x] 25) Ct.zero)
  generalize c.snt = d at *
  obtain ⟨t, r, o⟩ := c
  obtain ⟨t', r', o'⟩ := d
  go_enter Try.func10, Try.ntmps10
  go_wp2_with fail
  refine (ht _).mono ?_
  rintro e w1 ⟨rfl, hb1⟩
  have HB1 := Lib.hid (nxt HN.out hb1)
  have HD1 := Lib.hid (HD.out.below hb1 (by simp))
  obtain ⟨b0, b1, b2⟩ := HD1.out.cx
  have f0 := HD1.out.frozen 0
  have f1 := HD1.out.frozen 1
  have f2 := HD1.out.frozen 2
  clear hb1 HN HD ht
  go_wp2
  refine bodyPost_ret (v := Ct.val ⟨t', r', o'⟩) (by rw [results_cell1 rfl]; go_simp) rfl ⟨rfl, set3 HB1.out (by omega) _ _ _⟩
set_option maxHeartbeats 400000 in
theorem behind_1 (c : Ct) (x : Int) (w : World) : Calls Try.prog 10 #[c.val, .agg #[.int .i64 1, .int .i64 x]] w fun e w' => e = .returned (c.rcv).val ∧ Below w.heap.size w w' := by
  have ht := fun w0 => received_any c w0
  have HN := Lib.hid (below3 w (.cells c.cells 23) (.cells #[.int .i64 1, .int .i64 x] 25) (.cells Ct.zero.cells 23))
  have HD := Lib.hid (cb_next2 w (.cells c.cells 23) (.cells #[.int .i64 1, .int .i64 x] 25) Ct.zero)
  generalize c.rcv = d at *
  obtain ⟨t, r, o⟩ := c
  obtain ⟨t', r', o'⟩ := d
  go_enter Try.func10, Try.ntmps10
  go_wp2_with fail
  refine (ht _).mono ?_
  rintro e w1 ⟨rfl, hb1⟩
  have HB1 := Lib.hid (nxt HN.out hb1)
  have HD1 := Lib.hid (HD.out.below hb1 (by simp))
  obtain ⟨b0, b1, b2⟩ := HD1.out.cx
  have f0 := HD1.out.frozen 0
  have f1 := HD1.out.frozen 1
  have f2 := HD1.out.frozen 2
  clear hb1 HN HD ht
  go_wp2
  refine bodyPost_ret (v := Ct.val ⟨t', r', o'⟩) (by rw [results_cell1 rfl]; go_simp) rfl ⟨rfl, set3 HB1.out (by omega) _ _ _⟩
set_option maxHeartbeats 400000 in
theorem behind_2 (c : Ct) (x : Int) (w : World) : Calls Try.prog 10 #[c.val, .agg #[.int .i64 2, .int .i64 x]] w fun e w' => e = .returned (c.txx).val ∧ Below w.heap.size w w' := by
  have ht := fun w0 => tx_any c w0
  have HN := Lib.hid (below3 w (.cells c.cells 23) (.cells #[.int .i64 2, .int .i64 x] 25) (.cells Ct.zero.cells 23))
  have HD := Lib.hid (cb_next2 w (.cells c.cells 23) (.cells #[.int .i64 2, .int .i64 x] 25) Ct.zero)
  generalize c.txx = d at *
  obtain ⟨t, r, o⟩ := c
  obtain ⟨t', r', o'⟩ := d
  go_enter Try.func10, Try.ntmps10
  go_wp2_with fail
  refine (ht _).mono ?_
  rintro e w1 ⟨rfl, hb1⟩
  have HB1 := Lib.hid (nxt HN.out hb1)
  have HD1 := Lib.hid (HD.out.below hb1 (by simp))
  obtain ⟨b0, b1, b2⟩ := HD1.out.cx
  have f0 := HD1.out.frozen 0
  have f1 := HD1.out.frozen 1
  have f2 := HD1.out.frozen 2
  clear hb1 HN HD ht
  go_wp2
  refine bodyPost_ret (v := Ct.val ⟨t', r', o'⟩) (by rw [results_cell1 rfl]; go_simp) rfl ⟨rfl, set3 HB1.out (by omega) _ _ _⟩
set_option maxHeartbeats 400000 in
theorem behind_3 (c : Ct) (x : Int) (w : World) : Calls Try.prog 10 #[c.val, .agg #[.int .i64 3, .int .i64 x]] w fun e w' => e = .returned (c.rxx x).val ∧ Below w.heap.size w w' := by
  have ht := fun w0 => rx_any c x w0
  have HN := Lib.hid (below3 w (.cells c.cells 23) (.cells #[.int .i64 3, .int .i64 x] 25) (.cells Ct.zero.cells 23))
  have HD := Lib.hid (cb_next2 w (.cells c.cells 23) (.cells #[.int .i64 3, .int .i64 x] 25) Ct.zero)
  generalize c.rxx x = d at *
  obtain ⟨t, r, o⟩ := c
  obtain ⟨t', r', o'⟩ := d
  go_enter Try.func10, Try.ntmps10
  go_wp2_with fail
  refine (ht _).mono ?_
  rintro e w1 ⟨rfl, hb1⟩
  have HB1 := Lib.hid (nxt HN.out hb1)
  have HD1 := Lib.hid (HD.out.below hb1 (by simp))
  obtain ⟨b0, b1, b2⟩ := HD1.out.cx
  have f0 := HD1.out.frozen 0
  have f1 := HD1.out.frozen 1
  have f2 := HD1.out.frozen 2
  clear hb1 HN HD ht
  go_wp2
  refine bodyPost_ret (v := Ct.val ⟨t', r', o'⟩) (by rw [results_cell1 rfl]; go_simp) rfl ⟨rfl, set3 HB1.out (by omega) _ _ _⟩
set_option maxHeartbeats 400000 in
theorem behind_4 (c : Ct) (x : Int) (w : World) : Calls Try.prog 10 #[c.val, .agg #[.int .i64 4, .int .i64 x]] w fun e w' => e = .returned (Ct.zero).val ∧ Below w.heap.size w w' := by
  have ht := fun w0 => back_any c w0
  have HN := Lib.hid (below3 w (.cells c.cells 23) (.cells #[.int .i64 4, .int .i64 x] 25) (.cells Ct.zero.cells 23))
  have HD := Lib.hid (cb_next2 w (.cells c.cells 23) (.cells #[.int .i64 4, .int .i64 x] 25) Ct.zero)
  generalize Ct.zero = d at ht ⊢
  obtain ⟨t, r, o⟩ := c
  obtain ⟨t', r', o'⟩ := d
  go_enter Try.func10, Try.ntmps10
  go_wp2_with fail
  refine (ht _).mono ?_
  rintro e w1 ⟨rfl, hb1⟩
  have HB1 := Lib.hid (nxt HN.out hb1)
  have HD1 := Lib.hid (HD.out.below hb1 (by simp))
  obtain ⟨b0, b1, b2⟩ := HD1.out.cx
  have f0 := HD1.out.frozen 0
  have f1 := HD1.out.frozen 1
  have f2 := HD1.out.frozen 2
  clear hb1 HN HD ht
  go_wp2
  refine bodyPost_ret (v := Ct.val ⟨t', r', o'⟩) (by rw [results_cell1 rfl]; go_simp) rfl ⟨rfl, set3 HB1.out (by omega) _ _ _⟩
set_option maxHeartbeats 400000 in
theorem behind_else (c : Ct) (k x : Int) (w : World) (h0 : k ≠ 0) (h1 : k ≠ 1) (h2 : k ≠ 2) (h3 : k ≠ 3) (h4 : k ≠ 4) : Calls Try.prog 10 #[c.val, .agg #[.int .i64 k, .int .i64 x]] w fun e w' => e = .returned c.val ∧ Below w.heap.size w w' := by
  have g0 : (k == 0) = false := by simpa using h0
  have g1 : (k == 1) = false := by simpa using h1
  have g2 : (k == 2) = false := by simpa using h2
  have g3 : (k == 3) = false := by simpa using h3
  have g4 : (k == 4) = false := by simpa using h4
  obtain ⟨t, r, o⟩ := c
  clear h0 h1 h2 h3 h4
  go_enter Try.func10, Try.ntmps10
  go_wp2
  refine bodyPost_ret (v := Ct.val ⟨t, r, o⟩) (by rw [results_cell1 rfl]; go_simp) rfl ⟨rfl, below3 _ _ _ _⟩
theorem behind_any (c : Ct) (k x : Int) (w : World) : Calls Try.prog 10 #[c.val, .agg #[.int .i64 k, .int .i64 x]] w fun e w' => e = .returned (c.come k x).val ∧ Below w.heap.size w w' := by
  by_cases h0 : k = 0
  · subst h0; exact behind_0 c x w
  by_cases h1 : k = 1
  · subst h1; exact behind_1 c x w
  by_cases h2 : k = 2
  · subst h2; exact behind_2 c x w
  by_cases h3 : k = 3
  · subst h3; exact behind_3 c x w
  by_cases h4 : k = 4
  · subst h4; exact behind_4 c x w
  rw [come_else h0 h1 h2 h3 h4]
  exact behind_else c k x w h0 h1 h2 h3 h4

/-- What a send does, or an error as one sends. -/
def Ct.one (c : Ct) (b : Bool) : Ct := if b then c.txx else c.snt
set_option maxHeartbeats 400000 in
theorem one_any (c : Ct) (b : Bool) (w : World) : Calls Try.prog 21 #[c.val, .bool b] w fun e w' => e = .returned (c.one b).val ∧ Below w.heap.size w w' := by
  have HN := Lib.hid (below2 w (.cells c.cells 23) (.cells Ct.zero.cells 23))
  have HD := Lib.hid (cb_next w (.cells c.cells 23) Ct.zero)
  have ht := fun w0 => tx_any c w0
  have hs := fun w0 => sent_any c w0
  cases b
  · rw [show c.one false = c.snt from rfl]
    generalize c.snt = d at *
    obtain ⟨t, r, o⟩ := c
    obtain ⟨t', r', o'⟩ := d
    go_enter Try.func21, Try.ntmps21
    go_wp2_with fail
    refine (hs _).mono ?_
    rintro e w1 ⟨rfl, hb1⟩
    have HB1 := Lib.hid (nxt HN.out hb1)
    have HD1 := Lib.hid (HD.out.below hb1 (by simp))
    obtain ⟨b0, b1, b2⟩ := HD1.out.cx
    have f0 := HD1.out.frozen 0
    have f1 := HD1.out.frozen 1
    have f2 := HD1.out.frozen 2
    clear hb1 HN HD ht hs
    go_wp2
    refine bodyPost_ret (v := Ct.val ⟨t', r', o'⟩) (by rw [results_cell1 rfl]; go_simp) rfl ⟨rfl, set3 HB1.out (by omega) _ _ _⟩
  · rw [show c.one true = c.txx from rfl]
    generalize c.txx = d at *
    obtain ⟨t, r, o⟩ := c
    obtain ⟨t', r', o'⟩ := d
    go_enter Try.func21, Try.ntmps21
    go_wp2_with fail
    refine (ht _).mono ?_
    rintro e w1 ⟨rfl, hb1⟩
    have HB1 := Lib.hid (nxt HN.out hb1)
    have HD1 := Lib.hid (HD.out.below hb1 (by simp))
    obtain ⟨b0, b1, b2⟩ := HD1.out.cx
    have f0 := HD1.out.frozen 0
    have f1 := HD1.out.frozen 1
    have f2 := HD1.out.frozen 2
    clear hb1 HN HD ht hs
    go_wp2
    refine bodyPost_ret (v := Ct.val ⟨t', r', o'⟩) (by rw [results_cell1 rfl]; go_simp) rfl ⟨rfl, set3 HB1.out (by omega) _ _ _⟩

theorem aw_tx (w : World) : Calls Try.prog 16 #[.agg #[.int .i64 0, .int .i64 0, .bool false]] w fun e w' => e = .returned (.agg #[.int .i64 8, .int .i64 0, .bool false]) ∧ Below w.heap.size w w' := tx_any ⟨0, 0, false⟩ w
theorem aw_rc (w : World) : Calls Try.prog 19 #[.agg #[.int .i64 0, .int .i64 200, .bool false]] w fun e w' => e = .returned (.agg #[.int .i64 0, .int .i64 119, .bool false]) ∧ Below w.heap.size w w' := received_any ⟨0, 200, false⟩ w
theorem aw_rd (w : World) : Calls Try.prog 19 #[.agg #[.int .i64 0, .int .i64 127, .bool false]] w fun e w' => e = .returned (.agg #[.int .i64 0, .int .i64 126, .bool false]) ∧ Below w.heap.size w w' := received_any ⟨0, 127, false⟩ w
theorem aw_rx (w : World) : Calls Try.prog 17 #[.agg #[.int .i64 0, .int .i64 250, .bool false], .int .i64 8] w fun e w' => e = .returned (.agg #[.int .i64 0, .int .i64 255, .bool false]) ∧ Below w.heap.size w w' := rx_any ⟨0, 250, false⟩ 8 w
theorem aw_to (w : World) : Calls Try.prog 16 #[.agg #[.int .i64 248, .int .i64 0, .bool false]] w fun e w' => e = .returned (.agg #[.int .i64 256, .int .i64 0, .bool true]) ∧ Below w.heap.size w w' := tx_any ⟨248, 0, false⟩ w

set_option maxHeartbeats 800000 in
theorem awake8 (w : World) : Calls Try.prog 15 #[] w fun e w' => e = .returned (.bool true) ∧ Below w.heap.size w w' := by
  go_enter Try.func15, Try.ntmps15
  go_wp2_with fail
  refine (aw_tx _).mono ?_
  rintro e w1 ⟨rfl, hb1⟩
  have HB1 := Lib.hid hb1
  clear hb1
  go_wp2_with fail
  refine (aw_rc _).mono ?_
  rintro e w2 ⟨rfl, hb2⟩
  have HB2 := Lib.hid (nxt HB1.out hb2)
  clear hb2 HB1
  go_wp2_with fail
  refine (aw_rd _).mono ?_
  rintro e w3 ⟨rfl, hb3⟩
  have HB3 := Lib.hid (nxt HB2.out hb3)
  clear hb3 HB2
  go_wp2_with fail
  refine (aw_rx _).mono ?_
  rintro e w4 ⟨rfl, hb4⟩
  have HB4 := Lib.hid (nxt HB3.out hb4)
  clear hb4 HB3
  go_wp2_with fail
  refine (aw_to _).mono ?_
  rintro e w5 ⟨rfl, hb5⟩
  have HB5 := Lib.hid (nxt HB4.out hb5)
  clear hb5 HB4
  go_wp2
  go_ret
  exact ⟨rfl, HB5.out⟩
end Go.Proofs.Ytmffiakdoklaaaa
