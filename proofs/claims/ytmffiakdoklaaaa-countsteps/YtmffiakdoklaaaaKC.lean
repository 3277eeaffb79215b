/- The contracts of count's tell, Sent, Received, Tx, Rx and Back. -/
import Derived.Test.YtmffiakdoklaaaaKB
namespace Go.Proofs.Ytmffiakdoklaaaa
open Go.RowKit

theorem err_run {c : Ct} (h : c.run = true) : c.o = false ∧ (c.err != 0) = false := by
  obtain ⟨t, r, o⟩ := c
  simp only [Ct.run, Bool.and_eq_true, Bool.not_eq_true'] at h
  exact ⟨h.2, by unfold Ct.err; rw [h.1]; rfl⟩
theorem err_not {c : Ct} (h : c.run = false) : c.o = true ∨ c.o = false ∧ (c.err != 0) = true := by
  obtain ⟨t, r, o⟩ := c
  cases o
  · simp only [Ct.run, Bool.not_false, Bool.and_true] at h
    exact .inr ⟨rfl, by unfold Ct.err; rw [h]; rfl⟩
  · exact .inl rfl

set_option maxHeartbeats 400000 in
theorem tell_not (c : Ct) (fn : Fn) (vs us : Array Value) (w : World) (h : c.run = false) : Calls Try.prog 23 #[c.val, .func fn vs us] w fun e w' => e = .returned c.val ∧ Below w.heap.size w w' := by
  have HB := Lib.hid (below2 w (.cells c.cells 23) (.cells c.cells 23))
  have HN := Lib.hid (below2 w (.cells c.cells 23) (.cells Ct.zero.cells 23))
  have hk := fun w0 => check_any c w0
  rcases err_not h with h1 | ⟨h1, h2⟩
  · obtain ⟨t, r, o⟩ := c
    simp only at h1
    subst h1
    clear h hk
    go_enter Try.func23, Try.ntmps23
    go_wp2
    refine bodyPost_ret (v := Ct.val ⟨t, r, true⟩) (by rw [results_cell1 rfl]; go_simp) rfl ⟨rfl, below2 _ _ _⟩
  · generalize c.err = e at *
    obtain ⟨t, r, o⟩ := c
    simp only at h1
    subst h1
    have HC := Lib.hid (cb_first w ⟨t, r, false⟩ (.cells Ct.zero.cells 23))
    have HD := Lib.hid (cb_next w (.cells (Ct.cells ⟨t, r, false⟩) 23) Ct.zero)
    clear h
    go_enter Try.func23, Try.ntmps23
    go_wp2_with fail
    refine (hk _).mono ?_
    rintro e w1 ⟨rfl, hb1⟩
    have HB1 := Lib.hid (nxt HN.out hb1)
    have HC1 := Lib.hid (HC.out.below hb1 (by simp; omega))
    have HD1 := Lib.hid (HD.out.below hb1 (by simp))
    obtain ⟨a0, a1, a2⟩ := HC1.out.cx
    obtain ⟨b0, b1, b2⟩ := HD1.out.cx
    have f0 := HD1.out.frozen 0
    have f1 := HD1.out.frozen 1
    have f2 := HD1.out.frozen 2
    clear hb1 HB HC HD HN
    simp only at a0 a1 a2
    go_wp2
    refine bodyPost_ret (v := Ct.val ⟨t, r, false⟩) (by rw [results_cell1 rfl]; go_simp) rfl ⟨rfl, set3 HB1.out (by omega) _ _ _⟩

set_option maxHeartbeats 400000 in
theorem tell_sent (c d : Ct) (v : Value) (w : World) (h : c.run = true) (hf : ∀ w0, Calls Try.prog 26 #[v] w0 fun e w' => e = .returned d.val ∧ Below w0.heap.size w0 w') :
    Calls Try.prog 23 #[c.val, .func (.func 26) #[v] #[]] w fun e w' => e = .returned d.val ∧ Below w.heap.size w w' := by
  have hk := fun w0 => check_any c w0
  have HN := Lib.hid (below2 w (.cells c.cells 23) (.cells Ct.zero.cells 23))
  obtain ⟨h1, h2⟩ := err_run h
  generalize c.err = e at *
  obtain ⟨t, r, o⟩ := c
  obtain ⟨t', r', o'⟩ := d
  simp only at h1
  subst h1
  have HC := Lib.hid (cb_first w ⟨t, r, false⟩ (.cells Ct.zero.cells 23))
  have HD := Lib.hid (cb_next w (.cells (Ct.cells ⟨t, r, false⟩) 23) Ct.zero)
  clear h
  go_enter Try.func23, Try.ntmps23
  go_wp2_with fail
  refine (hk _).mono ?_
  rintro e w1 ⟨rfl, hb1⟩
  have HB1 := Lib.hid (nxt HN.out hb1)
  have HD1 := Lib.hid (HD.out.below hb1 (by simp))
  clear hb1 HC HD HN
  go_wp2_with fail
  refine (hf _).mono ?_
  rintro e w2 ⟨rfl, hb2⟩
  have HB2 := Lib.hid (nxt HB1.out hb2)
  have HD2 := Lib.hid (HD1.out.below hb2 HD1.out.lt)
  obtain ⟨b0, b1, b2⟩ := HD2.out.cx
  have f0 := HD2.out.frozen 0
  have f1 := HD2.out.frozen 1
  have f2 := HD2.out.frozen 2
  clear hb2 HB1 HD1
  go_wp2
  refine bodyPost_ret (v := Ct.val ⟨t', r', o'⟩) (by rw [results_cell1 rfl]; go_simp) rfl ⟨rfl, set3 HB2.out (by omega) _ _ _⟩

set_option maxHeartbeats 400000 in
theorem tell_received (c d : Ct) (v : Value) (w : World) (h : c.run = true) (hf : ∀ w0, Calls Try.prog 27 #[v] w0 fun e w' => e = .returned d.val ∧ Below w0.heap.size w0 w') :
    Calls Try.prog 23 #[c.val, .func (.func 27) #[v] #[]] w fun e w' => e = .returned d.val ∧ Below w.heap.size w w' := by
  have hk := fun w0 => check_any c w0
  have HN := Lib.hid (below2 w (.cells c.cells 23) (.cells Ct.zero.cells 23))
  obtain ⟨h1, h2⟩ := err_run h
  generalize c.err = e at *
  obtain ⟨t, r, o⟩ := c
  obtain ⟨t', r', o'⟩ := d
  simp only at h1
  subst h1
  have HC := Lib.hid (cb_first w ⟨t, r, false⟩ (.cells Ct.zero.cells 23))
  have HD := Lib.hid (cb_next w (.cells (Ct.cells ⟨t, r, false⟩) 23) Ct.zero)
  clear h
  go_enter Try.func23, Try.ntmps23
  go_wp2_with fail
  refine (hk _).mono ?_
  rintro e w1 ⟨rfl, hb1⟩
  have HB1 := Lib.hid (nxt HN.out hb1)
  have HD1 := Lib.hid (HD.out.below hb1 (by simp))
  clear hb1 HC HD HN
  go_wp2_with fail
  refine (hf _).mono ?_
  rintro e w2 ⟨rfl, hb2⟩
  have HB2 := Lib.hid (nxt HB1.out hb2)
  have HD2 := Lib.hid (HD1.out.below hb2 HD1.out.lt)
  obtain ⟨b0, b1, b2⟩ := HD2.out.cx
  have f0 := HD2.out.frozen 0
  have f1 := HD2.out.frozen 1
  have f2 := HD2.out.frozen 2
  clear hb2 HB1 HD1
  go_wp2
  refine bodyPost_ret (v := Ct.val ⟨t', r', o'⟩) (by rw [results_cell1 rfl]; go_simp) rfl ⟨rfl, set3 HB2.out (by omega) _ _ _⟩

set_option maxHeartbeats 400000 in
theorem tell_tx (c d : Ct) (v : Value) (w : World) (h : c.run = true) (hf : ∀ w0, Calls Try.prog 24 #[v] w0 fun e w' => e = .returned d.val ∧ Below w0.heap.size w0 w') :
    Calls Try.prog 23 #[c.val, .func (.func 24) #[v] #[]] w fun e w' => e = .returned d.val ∧ Below w.heap.size w w' := by
  have hk := fun w0 => check_any c w0
  have HN := Lib.hid (below2 w (.cells c.cells 23) (.cells Ct.zero.cells 23))
  obtain ⟨h1, h2⟩ := err_run h
  generalize c.err = e at *
  obtain ⟨t, r, o⟩ := c
  obtain ⟨t', r', o'⟩ := d
  simp only at h1
  subst h1
  have HC := Lib.hid (cb_first w ⟨t, r, false⟩ (.cells Ct.zero.cells 23))
  have HD := Lib.hid (cb_next w (.cells (Ct.cells ⟨t, r, false⟩) 23) Ct.zero)
  clear h
  go_enter Try.func23, Try.ntmps23
  go_wp2_with fail
  refine (hk _).mono ?_
  rintro e w1 ⟨rfl, hb1⟩
  have HB1 := Lib.hid (nxt HN.out hb1)
  have HD1 := Lib.hid (HD.out.below hb1 (by simp))
  clear hb1 HC HD HN
  go_wp2_with fail
  refine (hf _).mono ?_
  rintro e w2 ⟨rfl, hb2⟩
  have HB2 := Lib.hid (nxt HB1.out hb2)
  have HD2 := Lib.hid (HD1.out.below hb2 HD1.out.lt)
  obtain ⟨b0, b1, b2⟩ := HD2.out.cx
  have f0 := HD2.out.frozen 0
  have f1 := HD2.out.frozen 1
  have f2 := HD2.out.frozen 2
  clear hb2 HB1 HD1
  go_wp2
  refine bodyPost_ret (v := Ct.val ⟨t', r', o'⟩) (by rw [results_cell1 rfl]; go_simp) rfl ⟨rfl, set3 HB2.out (by omega) _ _ _⟩

set_option maxHeartbeats 400000 in
theorem tell_rx (c d : Ct) (v : Value) (w : World) (h : c.run = true) (hf : ∀ w0, Calls Try.prog 25 #[v] w0 fun e w' => e = .returned d.val ∧ Below w0.heap.size w0 w') :
    Calls Try.prog 23 #[c.val, .func (.func 25) #[v] #[]] w fun e w' => e = .returned d.val ∧ Below w.heap.size w w' := by
  have hk := fun w0 => check_any c w0
  have HN := Lib.hid (below2 w (.cells c.cells 23) (.cells Ct.zero.cells 23))
  obtain ⟨h1, h2⟩ := err_run h
  generalize c.err = e at *
  obtain ⟨t, r, o⟩ := c
  obtain ⟨t', r', o'⟩ := d
  simp only at h1
  subst h1
  have HC := Lib.hid (cb_first w ⟨t, r, false⟩ (.cells Ct.zero.cells 23))
  have HD := Lib.hid (cb_next w (.cells (Ct.cells ⟨t, r, false⟩) 23) Ct.zero)
  clear h
  go_enter Try.func23, Try.ntmps23
  go_wp2_with fail
  refine (hk _).mono ?_
  rintro e w1 ⟨rfl, hb1⟩
  have HB1 := Lib.hid (nxt HN.out hb1)
  have HD1 := Lib.hid (HD.out.below hb1 (by simp))
  clear hb1 HC HD HN
  go_wp2_with fail
  refine (hf _).mono ?_
  rintro e w2 ⟨rfl, hb2⟩
  have HB2 := Lib.hid (nxt HB1.out hb2)
  have HD2 := Lib.hid (HD1.out.below hb2 HD1.out.lt)
  obtain ⟨b0, b1, b2⟩ := HD2.out.cx
  have f0 := HD2.out.frozen 0
  have f1 := HD2.out.frozen 1
  have f2 := HD2.out.frozen 2
  clear hb2 HB1 HD1
  go_wp2
  refine bodyPost_ret (v := Ct.val ⟨t', r', o'⟩) (by rw [results_cell1 rfl]; go_simp) rfl ⟨rfl, set3 HB2.out (by omega) _ _ _⟩

set_option maxHeartbeats 400000 in
theorem sent_any (c : Ct) (w : World) : Calls Try.prog 18 #[c.val] w fun e w' => e = .returned (c.snt).val ∧ Below w.heap.size w w' := by
  have hmf : ∀ (fn : Fn) (first cap : Array Value) (w : World), (Instr.makeFunc fn first cap).run Try.prog w = .ok (.func fn first cap) w := fun _ _ _ _ => rfl
  have HN := Lib.hid (below2 w (.cells c.cells 23) (.cells Ct.zero.cells 23))
  have HD := Lib.hid (cb_next w (.cells c.cells 23) Ct.zero)
  have ht : ∀ w0, Calls Try.prog 23 #[c.val, .func (.func 26) #[.agg #[.int .i64 c.t, .int .i64 c.r, .bool c.o, .int .i64 0]] #[]] w0 fun e w' => e = .returned (c.snt).val ∧ Below w0.heap.size w0 w' := fun w0 => by
    cases h : c.run
    · rw [show c.snt = c by unfold Ct.snt; rw [h]; rfl]
      exact tell_not c _ _ _ w0 h
    · exact tell_sent c _ _ w0 h fun w1 => msent_any c 0 w1 h
  generalize c.snt = d at *
  obtain ⟨t, r, o⟩ := c
  obtain ⟨t', r', o'⟩ := d
  go_enter Try.func18, Try.ntmps18
  go_wp2_with fail
  refine (ht _).mono ?_
  rintro e w1 ⟨rfl, hb1⟩
  have HB1 := Lib.hid (nxt HN.out hb1)
  have HD1 := Lib.hid (HD.out.below hb1 (by simp))
  obtain ⟨b0, b1, b2⟩ := HD1.out.cx
  have f0 := HD1.out.frozen 0
  have f1 := HD1.out.frozen 1
  have f2 := HD1.out.frozen 2
  clear hb1 HN HD ht
  go_wp2
  refine bodyPost_ret (v := Ct.val ⟨t', r', o'⟩) (by rw [results_cell1 rfl]; go_simp) rfl ⟨rfl, set3 HB1.out (by omega) _ _ _⟩

set_option maxHeartbeats 400000 in
theorem received_any (c : Ct) (w : World) : Calls Try.prog 19 #[c.val] w fun e w' => e = .returned (c.rcv).val ∧ Below w.heap.size w w' := by
  have hmf : ∀ (fn : Fn) (first cap : Array Value) (w : World), (Instr.makeFunc fn first cap).run Try.prog w = .ok (.func fn first cap) w := fun _ _ _ _ => rfl
  have HN := Lib.hid (below2 w (.cells c.cells 23) (.cells Ct.zero.cells 23))
  have HD := Lib.hid (cb_next w (.cells c.cells 23) Ct.zero)
  have ht : ∀ w0, Calls Try.prog 23 #[c.val, .func (.func 27) #[.agg #[.int .i64 c.t, .int .i64 c.r, .bool c.o, .int .i64 0]] #[]] w0 fun e w' => e = .returned (c.rcv).val ∧ Below w0.heap.size w0 w' := fun w0 => by
    cases h : c.run
    · rw [show c.rcv = c by unfold Ct.rcv; rw [h]; rfl]
      exact tell_not c _ _ _ w0 h
    · exact tell_received c _ _ w0 h fun w1 => mreceived_any c 0 w1 h
  generalize c.rcv = d at *
  obtain ⟨t, r, o⟩ := c
  obtain ⟨t', r', o'⟩ := d
  go_enter Try.func19, Try.ntmps19
  go_wp2_with fail
  refine (ht _).mono ?_
  rintro e w1 ⟨rfl, hb1⟩
  have HB1 := Lib.hid (nxt HN.out hb1)
  have HD1 := Lib.hid (HD.out.below hb1 (by simp))
  obtain ⟨b0, b1, b2⟩ := HD1.out.cx
  have f0 := HD1.out.frozen 0
  have f1 := HD1.out.frozen 1
  have f2 := HD1.out.frozen 2
  clear hb1 HN HD ht
  go_wp2
  refine bodyPost_ret (v := Ct.val ⟨t', r', o'⟩) (by rw [results_cell1 rfl]; go_simp) rfl ⟨rfl, set3 HB1.out (by omega) _ _ _⟩

set_option maxHeartbeats 400000 in
theorem tx_any (c : Ct) (w : World) : Calls Try.prog 16 #[c.val] w fun e w' => e = .returned (c.txx).val ∧ Below w.heap.size w w' := by
  have hmf : ∀ (fn : Fn) (first cap : Array Value) (w : World), (Instr.makeFunc fn first cap).run Try.prog w = .ok (.func fn first cap) w := fun _ _ _ _ => rfl
  have HN := Lib.hid (below2 w (.cells c.cells 23) (.cells Ct.zero.cells 23))
  have HD := Lib.hid (cb_next w (.cells c.cells 23) Ct.zero)
  have ht : ∀ w0, Calls Try.prog 23 #[c.val, .func (.func 24) #[.agg #[.int .i64 c.t, .int .i64 c.r, .bool c.o, .int .i64 0]] #[]] w0 fun e w' => e = .returned (c.txx).val ∧ Below w0.heap.size w0 w' := fun w0 => by
    cases h : c.run
    · rw [show c.txx = c by unfold Ct.txx; rw [h]; rfl]
      exact tell_not c _ _ _ w0 h
    · exact tell_tx c _ _ w0 h fun w1 => mtx_any c 0 w1 h
  generalize c.txx = d at *
  obtain ⟨t, r, o⟩ := c
  obtain ⟨t', r', o'⟩ := d
  go_enter Try.func16, Try.ntmps16
  go_wp2_with fail
  refine (ht _).mono ?_
  rintro e w1 ⟨rfl, hb1⟩
  have HB1 := Lib.hid (nxt HN.out hb1)
  have HD1 := Lib.hid (HD.out.below hb1 (by simp))
  obtain ⟨b0, b1, b2⟩ := HD1.out.cx
  have f0 := HD1.out.frozen 0
  have f1 := HD1.out.frozen 1
  have f2 := HD1.out.frozen 2
  clear hb1 HN HD ht
  go_wp2
  refine bodyPost_ret (v := Ct.val ⟨t', r', o'⟩) (by rw [results_cell1 rfl]; go_simp) rfl ⟨rfl, set3 HB1.out (by omega) _ _ _⟩

set_option maxHeartbeats 400000 in
theorem rx_any (c : Ct) (x : Int) (w : World) : Calls Try.prog 17 #[c.val, .int .i64 x] w fun e w' => e = .returned (c.rxx x).val ∧ Below w.heap.size w w' := by
  have hmf : ∀ (fn : Fn) (first cap : Array Value) (w : World), (Instr.makeFunc fn first cap).run Try.prog w = .ok (.func fn first cap) w := fun _ _ _ _ => rfl
  have HN := Lib.hid (below2 w (.cells c.cells 23) (.cells Ct.zero.cells 23))
  have HD := Lib.hid (cb_next w (.cells c.cells 23) Ct.zero)
  have ht : ∀ w0, Calls Try.prog 23 #[c.val, .func (.func 25) #[.agg #[.int .i64 c.t, .int .i64 c.r, .bool c.o, .int .i64 x]] #[]] w0 fun e w' => e = .returned (c.rxx x).val ∧ Below w0.heap.size w0 w' := fun w0 => by
    cases h : c.run
    · rw [show c.rxx x = c by unfold Ct.rxx; rw [h]; rfl]
      exact tell_not c _ _ _ w0 h
    · exact tell_rx c _ _ w0 h fun w1 => mrx_any c x w1 h
  generalize c.rxx x = d at *
  obtain ⟨t, r, o⟩ := c
  obtain ⟨t', r', o'⟩ := d
  go_enter Try.func17, Try.ntmps17
  go_wp2_with fail
  refine (ht _).mono ?_
  rintro e w1 ⟨rfl, hb1⟩
  have HB1 := Lib.hid (nxt HN.out hb1)
  have HD1 := Lib.hid (HD.out.below hb1 (by simp))
  obtain ⟨b0, b1, b2⟩ := HD1.out.cx
  have f0 := HD1.out.frozen 0
  have f1 := HD1.out.frozen 1
  have f2 := HD1.out.frozen 2
  clear hb1 HN HD ht
  go_wp2
  refine bodyPost_ret (v := Ct.val ⟨t', r', o'⟩) (by rw [results_cell1 rfl]; go_simp) rfl ⟨rfl, set3 HB1.out (by omega) _ _ _⟩

theorem back_any (c : Ct) (w : World) : Calls Try.prog 20 #[c.val] w fun e w' => e = .returned Ct.zero.val ∧ Below w.heap.size w w' := by
  obtain ⟨t, r, o⟩ := c
  go_enter Try.func20, Try.ntmps20
  go_wp2
  refine bodyPost_ret (v := Ct.zero.val) (by rw [results_cell1 rfl]; go_simp; decide) rfl ⟨rfl, below2 _ _ _⟩
end Go.Proofs.Ytmffiakdoklaaaa
