/- The contracts of count's calls. -/
import Derived.Test.YtalpbnfebcafgaaGreatY1
import Derived.Lib.Overlaps
import Derived.Lib.AppendZerosOnto
import Derived.Laws.NewBlocks
import Derived.StillTailTactics
import Derived.Deep.DeepCutAuto
namespace Go.Proofs.YtalpbnfebcafgaaGreat
set_option maxRecDepth 20000
open Go.RowKit

theorem within_any (n : Int) (w : World) : Calls Tryz.prog 148 #[.int .i64 n] w fun e w' => e = .returned (.bool (wth n)) ∧ w' = w := by
  by_cases h0 : 0 ≤ n
  · by_cases h1 : n ≤ 255
    · go_enter Tryz.func148, Tryz.ntmps148
      go_wp2
      go_ret
      exact ⟨ret_boolK (by simp [wth]; omega), rfl⟩
    · go_enter Tryz.func148, Tryz.ntmps148
      go_wp2
      go_ret
      exact ⟨ret_boolK (by simp [wth]; omega), rfl⟩
  · go_enter Tryz.func148, Tryz.ntmps148
    go_wp2
    go_ret
    exact ⟨ret_boolK (by simp [wth]; omega), rfl⟩

set_option maxHeartbeats 800000 in
theorem kcheck_any (c : Ct) (w : World) : Calls Tryz.prog 144 #[c.val] w fun e w' => e = .returned (.int .i64 c.err) ∧ Below w.heap.size w w' := by
  have HB := Lib.hid (below1 w (.cells c.cells 54))
  obtain ⟨t, r, o⟩ := c
  have HE : Ct.err ⟨t, r, o⟩ = if (if o then t == 256 else decide (0 ≤ t) && decide (t ≤ 255)) && (decide (0 ≤ r) && decide (r ≤ 255)) then 0 else 10 := rfl
  rw [HE]
  clear HE
  generalize ha : decide (0 ≤ t) = a
  generalize hb : decide (t ≤ 255) = b
  generalize hc : decide (0 ≤ r) = c
  generalize hd : decide (r ≤ 255) = d
  generalize hz : (t == 256) = z
  cases a <;> cases b <;> cases c <;> cases d <;> cases z <;> cases o <;> (
    go_enter Tryz.func144, Tryz.ntmps144
    go_wp2
    go_ret
    exact ⟨rfl, HB.out⟩)

theorem state_any (c : Ct) (w : World) : Calls Tryz.prog 128 #[c.val] w fun e w' => e = .returned (.int .i64 c.st) ∧ Below w.heap.size w w' := by
  have HB := Lib.hid (below1 w (.cells c.cells 54))
  obtain ⟨t, r, o⟩ := c
  have HE : Ct.st ⟨t, r, o⟩ = if o then 2 else if (decide (127 < t) || decide (127 < r)) then 1 else 0 := by simp [Ct.st]
  rw [HE]
  clear HE
  generalize ha : decide (127 < t) = a
  generalize hb : decide (127 < r) = b
  cases o <;> cases a <;> cases b <;> (
    go_enter Tryz.func128, Tryz.ntmps128
    go_wp2
    go_ret
    exact ⟨rfl, HB.out⟩)
end Go.Proofs.YtalpbnfebcafgaaGreat

/- The contracts of what comes. -/
namespace Go.Proofs.YtalpbnfebcafgaaGreat
set_option maxRecDepth 20000
open Go.RowKit

set_option maxHeartbeats 400000 in
theorem msent_any (c : Ct) (x : Int) (w : World) (h : c.run = true) : Calls Tryz.prog 146 #[.agg #[.int .i64 c.t, .int .i64 c.r, .bool c.o, .int .i64 x]] w fun e w' => e = .returned (c.snt).val ∧ Below w.heap.size w w' := by
  obtain ⟨h0, h1, h2, h3, h4⟩ := run_iff.1 h
  have HE := Lib.hid (show (c.snt) = _ from if_pos h)
  have HR := Lib.hid h
  obtain ⟨t, r, o⟩ := c
  simp only at h0 h1 h2 h3 h4
  subst h0
  clear h
  by_cases g : t - 1 < 0
  · go_enter Tryz.func146, Tryz.ntmps146
    go_wp2
    refine bodyPost_ret (v := Ct.val ⟨0, r, false⟩) (by rw [results_cellK rfl]; go_simp) rfl ⟨ret_ct ?_, below2 _ _ _⟩
    rw [HE.out]; exact ct_ext (by simp; omega) rfl rfl
  · go_enter Tryz.func146, Tryz.ntmps146
    go_wp2
    refine bodyPost_ret (v := Ct.val ⟨t - 1, r, false⟩) (by rw [results_cellK rfl]; go_simp) rfl ⟨ret_ct ?_, below2 _ _ _⟩
    rw [HE.out]; exact ct_ext (by simp; omega) rfl rfl
set_option maxHeartbeats 400000 in
theorem mreceived_any (c : Ct) (x : Int) (w : World) (h : c.run = true) : Calls Tryz.prog 143 #[.agg #[.int .i64 c.t, .int .i64 c.r, .bool c.o, .int .i64 x]] w fun e w' => e = .returned (c.rcv).val ∧ Below w.heap.size w w' := by
  obtain ⟨h0, h1, h2, h3, h4⟩ := run_iff.1 h
  have HE := Lib.hid (show (c.rcv) = _ from if_pos h)
  have HR := Lib.hid h
  obtain ⟨t, r, o⟩ := c
  simp only at h0 h1 h2 h3 h4
  subst h0
  clear h
  by_cases q : 127 < r
  · go_enter Tryz.func143, Tryz.ntmps143
    go_wp2
    refine bodyPost_ret (v := Ct.val ⟨t, 119, false⟩) (by rw [results_cellK rfl]; go_simp) rfl ⟨ret_ct ?_, below2 _ _ _⟩
    rw [HE.out]; exact ct_ext rfl (by simp; omega) rfl
  by_cases g : r - 1 < 0
  · go_enter Tryz.func143, Tryz.ntmps143
    go_wp2
    refine bodyPost_ret (v := Ct.val ⟨t, 0, false⟩) (by rw [results_cellK rfl]; go_simp) rfl ⟨ret_ct ?_, below2 _ _ _⟩
    rw [HE.out]; exact ct_ext rfl (by simp; omega) rfl
  · go_enter Tryz.func143, Tryz.ntmps143
    go_wp2
    refine bodyPost_ret (v := Ct.val ⟨t, r - 1, false⟩) (by rw [results_cellK rfl]; go_simp) rfl ⟨ret_ct ?_, below2 _ _ _⟩
    rw [HE.out]; exact ct_ext rfl (by simp; omega) rfl
set_option maxHeartbeats 400000 in
theorem mtx_any (c : Ct) (x : Int) (w : World) (h : c.run = true) : Calls Tryz.prog 137 #[.agg #[.int .i64 c.t, .int .i64 c.r, .bool c.o, .int .i64 x]] w fun e w' => e = .returned (c.txx).val ∧ Below w.heap.size w w' := by
  obtain ⟨h0, h1, h2, h3, h4⟩ := run_iff.1 h
  have HE := Lib.hid (show (c.txx) = _ from if_pos h)
  have HR := Lib.hid h
  obtain ⟨t, r, o⟩ := c
  simp only at h0 h1 h2 h3 h4
  subst h0
  clear h
  by_cases q : 255 < t + 8
  · go_enter Tryz.func137, Tryz.ntmps137
    go_wp2
    refine bodyPost_ret (v := Ct.val ⟨256, r, true⟩) (by rw [results_cellK rfl]; go_simp) rfl ⟨ret_ct ?_, below2 _ _ _⟩
    rw [HE.out]; exact (if_pos (show 255 < t + 8 by omega)).symm
  · go_enter Tryz.func137, Tryz.ntmps137
    go_wp2
    refine bodyPost_ret (v := Ct.val ⟨t + 8, r, false⟩) (by rw [results_cellK rfl]; go_simp) rfl ⟨ret_ct ?_, below2 _ _ _⟩
    rw [HE.out]; exact (if_neg (show ¬ (255 < t + 8) by omega)).symm
set_option maxHeartbeats 400000 in
theorem mrx_any (c : Ct) (x : Int) (w : World) (h : c.run = true) : Calls Tryz.prog 138 #[.agg #[.int .i64 c.t, .int .i64 c.r, .bool c.o, .int .i64 x]] w fun e w' => e = .returned (c.rxx x).val ∧ Below w.heap.size w w' := by
  obtain ⟨h0, h1, h2, h3, h4⟩ := run_iff.1 h
  have HE := Lib.hid (show c.rxx x = if (x == 1 || x == 8) then ⟨c.t, min (c.r + x) 255, c.o⟩ else c by unfold Ct.rxx; rw [h]; rfl)
  obtain ⟨t, r, o⟩ := c
  simp only at h0 h1 h2 h3 h4
  subst h0
  clear h
  rw [HE.out]
  clear HE
  by_cases g1 : x = 1
  · subst g1
    by_cases q : ¬ (255 < r + 1)
    · go_enter Tryz.func138, Tryz.ntmps138
      go_wp2
      refine bodyPost_ret (v := Ct.val ⟨t, r + 1, false⟩) (by rw [results_cellK rfl]; go_simp) rfl ⟨ret_ct ?_, below2 _ _ _⟩
      exact ct_ext rfl (by simp; omega) rfl
    · go_enter Tryz.func138, Tryz.ntmps138
      go_wp2
      refine bodyPost_ret (v := Ct.val ⟨t, 255, false⟩) (by rw [results_cellK rfl]; go_simp) rfl ⟨ret_ct ?_, below2 _ _ _⟩
      exact ct_ext rfl (by simp; omega) rfl
  have k1 : (x == 1) = false := by simpa using g1
  by_cases g8 : x = 8
  · subst g8
    by_cases q : ¬ (255 < r + 8)
    · go_enter Tryz.func138, Tryz.ntmps138
      go_wp2
      refine bodyPost_ret (v := Ct.val ⟨t, r + 8, false⟩) (by rw [results_cellK rfl]; go_simp) rfl ⟨ret_ct ?_, below2 _ _ _⟩
      exact ct_ext rfl (by simp; omega) rfl
    · go_enter Tryz.func138, Tryz.ntmps138
      go_wp2
      refine bodyPost_ret (v := Ct.val ⟨t, 255, false⟩) (by rw [results_cellK rfl]; go_simp) rfl ⟨ret_ct ?_, below2 _ _ _⟩
      exact ct_ext rfl (by simp; omega) rfl
  have k8 : (x == 8) = false := by simpa using g8
  · rw [if_neg (by rw [k1, k8]; decide)]
    go_enter Tryz.func138, Tryz.ntmps138
    go_wp2
    refine bodyPost_ret (v := Ct.val ⟨t, r, false⟩) (by rw [results_cellK rfl]; go_simp) rfl ⟨ret_ct ?_, below2 _ _ _⟩
    rfl
end Go.Proofs.YtalpbnfebcafgaaGreat

/- The contracts of count's tell, Sent, Received, Tx, Rx and Back. -/
namespace Go.Proofs.YtalpbnfebcafgaaGreat
set_option maxRecDepth 20000
open Go.RowKit

theorem err_run {c : Ct} (h : c.run = true) : c.o = false ∧ (c.err != 0) = false := by
  obtain ⟨t, r, o⟩ := c
  simp only [Ct.run, Bool.and_eq_true, Bool.not_eq_true'] at h
  exact ⟨h.2, by unfold Ct.err; rw [h.1]; rfl⟩
theorem err_not {c : Ct} (h : c.run = false) : c.o = true ∨ c.o = false ∧ (c.err != 0) = true := by
  obtain ⟨t, r, o⟩ := c
  cases o
  · simp only [Ct.run, Bool.not_false, Bool.and_true] at h
    exact .inr ⟨rfl, by unfold Ct.err; rw [h]; rfl⟩
  · exact .inl rfl

set_option maxHeartbeats 400000 in
theorem tell_not (c : Ct) (fn : Fn) (vs us : Array Value) (w : World) (h : c.run = false) : Calls Tryz.prog 136 #[c.val, .func fn vs us] w fun e w' => e = .returned c.val ∧ Below w.heap.size w w' := by
  have HB := Lib.hid (below2 w (.cells c.cells 54) (.cells c.cells 54))
  have HN := Lib.hid (below2 w (.cells c.cells 54) (.cells Ct.zero.cells 54))
  have hk := fun w0 => kcheck_any c w0
  rcases err_not h with h1 | ⟨h1, h2⟩
  · obtain ⟨t, r, o⟩ := c
    simp only at h1
    subst h1
    clear h hk
    go_enter Tryz.func136, Tryz.ntmps136
    go_wp2
    refine bodyPost_ret (v := Ct.val ⟨t, r, true⟩) (by rw [results_cellK rfl]; go_simp) rfl ⟨rfl, below2 _ _ _⟩
  · generalize c.err = e at *
    obtain ⟨t, r, o⟩ := c
    simp only at h1
    subst h1
    have HC := Lib.hid (cb_first w ⟨t, r, false⟩ (.cells Ct.zero.cells 54))
    have HD := Lib.hid (cb_next w (.cells (Ct.cells ⟨t, r, false⟩) 54) Ct.zero)
    clear h
    go_enter Tryz.func136, Tryz.ntmps136
    go_wp2_with fail
    refine (hk _).mono ?_
    rintro e w1 ⟨rfl, hb1⟩
    have HB1 := Lib.hid (nxtK HN.out hb1)
    have HC1 := Lib.hid (HC.out.below hb1 (by simp; omega))
    have HD1 := Lib.hid (HD.out.below hb1 (by simp))
    obtain ⟨a0, a1, a2⟩ := HC1.out.cx
    obtain ⟨b0, b1, b2⟩ := HD1.out.cx
    have f0 := HD1.out.frozen 0
    have f1 := HD1.out.frozen 1
    have f2 := HD1.out.frozen 2
    clear hb1 HB HC HD HN
    simp only at a0 a1 a2
    go_wp2
    refine bodyPost_ret (v := Ct.val ⟨t, r, false⟩) (by rw [results_cellK rfl]; go_simp) rfl ⟨rfl, set3 HB1.out (by omega) _ _ _⟩

set_option maxHeartbeats 400000 in
theorem tell_sent (c d : Ct) (v : Value) (w : World) (h : c.run = true) (hf : ∀ w0, Calls Tryz.prog 146 #[v] w0 fun e w' => e = .returned d.val ∧ Below w0.heap.size w0 w') :
    Calls Tryz.prog 136 #[c.val, .func (.func 146) #[v] #[]] w fun e w' => e = .returned d.val ∧ Below w.heap.size w w' := by
  have hk := fun w0 => kcheck_any c w0
  have HN := Lib.hid (below2 w (.cells c.cells 54) (.cells Ct.zero.cells 54))
  obtain ⟨h1, h2⟩ := err_run h
  generalize c.err = e at *
  obtain ⟨t, r, o⟩ := c
  obtain ⟨t', r', o'⟩ := d
  simp only at h1
  subst h1
  have HC := Lib.hid (cb_first w ⟨t, r, false⟩ (.cells Ct.zero.cells 54))
  have HD := Lib.hid (cb_next w (.cells (Ct.cells ⟨t, r, false⟩) 54) Ct.zero)
  clear h
  go_enter Tryz.func136, Tryz.ntmps136
  go_wp2_with fail
  refine (hk _).mono ?_
  rintro e w1 ⟨rfl, hb1⟩
  have HB1 := Lib.hid (nxtK HN.out hb1)
  have HD1 := Lib.hid (HD.out.below hb1 (by simp))
  clear hb1 HC HD HN
  go_wp2_with fail
  refine (hf _).mono ?_
  rintro e w2 ⟨rfl, hb2⟩
  have HB2 := Lib.hid (nxtK HB1.out hb2)
  have HD2 := Lib.hid (HD1.out.below hb2 HD1.out.lt)
  obtain ⟨b0, b1, b2⟩ := HD2.out.cx
  have f0 := HD2.out.frozen 0
  have f1 := HD2.out.frozen 1
  have f2 := HD2.out.frozen 2
  clear hb2 HB1 HD1
  go_wp2
  refine bodyPost_ret (v := Ct.val ⟨t', r', o'⟩) (by rw [results_cellK rfl]; go_simp) rfl ⟨rfl, set3 HB2.out (by omega) _ _ _⟩

set_option maxHeartbeats 400000 in
theorem tell_received (c d : Ct) (v : Value) (w : World) (h : c.run = true) (hf : ∀ w0, Calls Tryz.prog 143 #[v] w0 fun e w' => e = .returned d.val ∧ Below w0.heap.size w0 w') :
    Calls Tryz.prog 136 #[c.val, .func (.func 143) #[v] #[]] w fun e w' => e = .returned d.val ∧ Below w.heap.size w w' := by
  have hk := fun w0 => kcheck_any c w0
  have HN := Lib.hid (below2 w (.cells c.cells 54) (.cells Ct.zero.cells 54))
  obtain ⟨h1, h2⟩ := err_run h
  generalize c.err = e at *
  obtain ⟨t, r, o⟩ := c
  obtain ⟨t', r', o'⟩ := d
  simp only at h1
  subst h1
  have HC := Lib.hid (cb_first w ⟨t, r, false⟩ (.cells Ct.zero.cells 54))
  have HD := Lib.hid (cb_next w (.cells (Ct.cells ⟨t, r, false⟩) 54) Ct.zero)
  clear h
  go_enter Tryz.func136, Tryz.ntmps136
  go_wp2_with fail
  refine (hk _).mono ?_
  rintro e w1 ⟨rfl, hb1⟩
  have HB1 := Lib.hid (nxtK HN.out hb1)
  have HD1 := Lib.hid (HD.out.below hb1 (by simp))
  clear hb1 HC HD HN
  go_wp2_with fail
  refine (hf _).mono ?_
  rintro e w2 ⟨rfl, hb2⟩
  have HB2 := Lib.hid (nxtK HB1.out hb2)
  have HD2 := Lib.hid (HD1.out.below hb2 HD1.out.lt)
  obtain ⟨b0, b1, b2⟩ := HD2.out.cx
  have f0 := HD2.out.frozen 0
  have f1 := HD2.out.frozen 1
  have f2 := HD2.out.frozen 2
  clear hb2 HB1 HD1
  go_wp2
  refine bodyPost_ret (v := Ct.val ⟨t', r', o'⟩) (by rw [results_cellK rfl]; go_simp) rfl ⟨rfl, set3 HB2.out (by omega) _ _ _⟩

set_option maxHeartbeats 400000 in
theorem tell_tx (c d : Ct) (v : Value) (w : World) (h : c.run = true) (hf : ∀ w0, Calls Tryz.prog 137 #[v] w0 fun e w' => e = .returned d.val ∧ Below w0.heap.size w0 w') :
    Calls Tryz.prog 136 #[c.val, .func (.func 137) #[v] #[]] w fun e w' => e = .returned d.val ∧ Below w.heap.size w w' := by
  have hk := fun w0 => kcheck_any c w0
  have HN := Lib.hid (below2 w (.cells c.cells 54) (.cells Ct.zero.cells 54))
  obtain ⟨h1, h2⟩ := err_run h
  generalize c.err = e at *
  obtain ⟨t, r, o⟩ := c
  obtain ⟨t', r', o'⟩ := d
  simp only at h1
  subst h1
  have HC := Lib.hid (cb_first w ⟨t, r, false⟩ (.cells Ct.zero.cells 54))
  have HD := Lib.hid (cb_next w (.cells (Ct.cells ⟨t, r, false⟩) 54) Ct.zero)
  clear h
  go_enter Tryz.func136, Tryz.ntmps136
  go_wp2_with fail
  refine (hk _).mono ?_
  rintro e w1 ⟨rfl, hb1⟩
  have HB1 := Lib.hid (nxtK HN.out hb1)
  have HD1 := Lib.hid (HD.out.below hb1 (by simp))
  clear hb1 HC HD HN
  go_wp2_with fail
  refine (hf _).mono ?_
  rintro e w2 ⟨rfl, hb2⟩
  have HB2 := Lib.hid (nxtK HB1.out hb2)
  have HD2 := Lib.hid (HD1.out.below hb2 HD1.out.lt)
  obtain ⟨b0, b1, b2⟩ := HD2.out.cx
  have f0 := HD2.out.frozen 0
  have f1 := HD2.out.frozen 1
  have f2 := HD2.out.frozen 2
  clear hb2 HB1 HD1
  go_wp2
  refine bodyPost_ret (v := Ct.val ⟨t', r', o'⟩) (by rw [results_cellK rfl]; go_simp) rfl ⟨rfl, set3 HB2.out (by omega) _ _ _⟩

set_option maxHeartbeats 400000 in
theorem tell_rx (c d : Ct) (v : Value) (w : World) (h : c.run = true) (hf : ∀ w0, Calls Tryz.prog 138 #[v] w0 fun e w' => e = .returned d.val ∧ Below w0.heap.size w0 w') :
    Calls Tryz.prog 136 #[c.val, .func (.func 138) #[v] #[]] w fun e w' => e = .returned d.val ∧ Below w.heap.size w w' := by
  have hk := fun w0 => kcheck_any c w0
  have HN := Lib.hid (below2 w (.cells c.cells 54) (.cells Ct.zero.cells 54))
  obtain ⟨h1, h2⟩ := err_run h
  generalize c.err = e at *
  obtain ⟨t, r, o⟩ := c
  obtain ⟨t', r', o'⟩ := d
  simp only at h1
  subst h1
  have HC := Lib.hid (cb_first w ⟨t, r, false⟩ (.cells Ct.zero.cells 54))
  have HD := Lib.hid (cb_next w (.cells (Ct.cells ⟨t, r, false⟩) 54) Ct.zero)
  clear h
  go_enter Tryz.func136, Tryz.ntmps136
  go_wp2_with fail
  refine (hk _).mono ?_
  rintro e w1 ⟨rfl, hb1⟩
  have HB1 := Lib.hid (nxtK HN.out hb1)
  have HD1 := Lib.hid (HD.out.below hb1 (by simp))
  clear hb1 HC HD HN
  go_wp2_with fail
  refine (hf _).mono ?_
  rintro e w2 ⟨rfl, hb2⟩
  have HB2 := Lib.hid (nxtK HB1.out hb2)
  have HD2 := Lib.hid (HD1.out.below hb2 HD1.out.lt)
  obtain ⟨b0, b1, b2⟩ := HD2.out.cx
  have f0 := HD2.out.frozen 0
  have f1 := HD2.out.frozen 1
  have f2 := HD2.out.frozen 2
  clear hb2 HB1 HD1
  go_wp2
  refine bodyPost_ret (v := Ct.val ⟨t', r', o'⟩) (by rw [results_cellK rfl]; go_simp) rfl ⟨rfl, set3 HB2.out (by omega) _ _ _⟩

set_option maxHeartbeats 400000 in
theorem sent_any (c : Ct) (w : World) : Calls Tryz.prog 141 #[c.val] w fun e w' => e = .returned (c.snt).val ∧ Below w.heap.size w w' := by
  have hmf : ∀ (fn : Fn) (first cap : Array Value) (w : World), (Instr.makeFunc fn first cap).run Tryz.prog w = .ok (.func fn first cap) w := fun _ _ _ _ => rfl
  have HN := Lib.hid (below2 w (.cells c.cells 54) (.cells Ct.zero.cells 54))
  have HD := Lib.hid (cb_next w (.cells c.cells 54) Ct.zero)
  have ht : ∀ w0, Calls Tryz.prog 136 #[c.val, .func (.func 146) #[.agg #[.int .i64 c.t, .int .i64 c.r, .bool c.o, .int .i64 0]] #[]] w0 fun e w' => e = .returned (c.snt).val ∧ Below w0.heap.size w0 w' := fun w0 => by
    cases h : c.run
    · rw [show c.snt = c by unfold Ct.snt; rw [h]; rfl]
      exact tell_not c _ _ _ w0 h
    · exact tell_sent c _ _ w0 h fun w1 => msent_any c 0 w1 h
  generalize c.snt = d at *
  obtain ⟨t, r, o⟩ := c
  obtain ⟨t', r', o'⟩ := d
  go_enter Tryz.func141, Tryz.ntmps141
  go_wp2_with fail
  refine (ht _).mono ?_
  rintro e w1 ⟨rfl, hb1⟩
  have HB1 := Lib.hid (nxtK HN.out hb1)
  have HD1 := Lib.hid (HD.out.below hb1 (by simp))
  obtain ⟨b0, b1, b2⟩ := HD1.out.cx
  have f0 := HD1.out.frozen 0
  have f1 := HD1.out.frozen 1
  have f2 := HD1.out.frozen 2
  clear hb1 HN HD ht
  go_wp2
  refine bodyPost_ret (v := Ct.val ⟨t', r', o'⟩) (by rw [results_cellK rfl]; go_simp) rfl ⟨rfl, set3 HB1.out (by omega) _ _ _⟩

set_option maxHeartbeats 400000 in
theorem received_any (c : Ct) (w : World) : Calls Tryz.prog 134 #[c.val] w fun e w' => e = .returned (c.rcv).val ∧ Below w.heap.size w w' := by
  have hmf : ∀ (fn : Fn) (first cap : Array Value) (w : World), (Instr.makeFunc fn first cap).run Tryz.prog w = .ok (.func fn first cap) w := fun _ _ _ _ => rfl
  have HN := Lib.hid (below2 w (.cells c.cells 54) (.cells Ct.zero.cells 54))
  have HD := Lib.hid (cb_next w (.cells c.cells 54) Ct.zero)
  have ht : ∀ w0, Calls Tryz.prog 136 #[c.val, .func (.func 143) #[.agg #[.int .i64 c.t, .int .i64 c.r, .bool c.o, .int .i64 0]] #[]] w0 fun e w' => e = .returned (c.rcv).val ∧ Below w0.heap.size w0 w' := fun w0 => by
    cases h : c.run
    · rw [show c.rcv = c by unfold Ct.rcv; rw [h]; rfl]
      exact tell_not c _ _ _ w0 h
    · exact tell_received c _ _ w0 h fun w1 => mreceived_any c 0 w1 h
  generalize c.rcv = d at *
  obtain ⟨t, r, o⟩ := c
  obtain ⟨t', r', o'⟩ := d
  go_enter Tryz.func134, Tryz.ntmps134
  go_wp2_with fail
  refine (ht _).mono ?_
  rintro e w1 ⟨rfl, hb1⟩
  have HB1 := Lib.hid (nxtK HN.out hb1)
  have HD1 := Lib.hid (HD.out.below hb1 (by simp))
  obtain ⟨b0, b1, b2⟩ := HD1.out.cx
  have f0 := HD1.out.frozen 0
  have f1 := HD1.out.frozen 1
  have f2 := HD1.out.frozen 2
  clear hb1 HN HD ht
  go_wp2
  refine bodyPost_ret (v := Ct.val ⟨t', r', o'⟩) (by rw [results_cellK rfl]; go_simp) rfl ⟨rfl, set3 HB1.out (by omega) _ _ _⟩

set_option maxHeartbeats 400000 in
theorem tx_any (c : Ct) (w : World) : Calls Tryz.prog 126 #[c.val] w fun e w' => e = .returned (c.txx).val ∧ Below w.heap.size w w' := by
  have hmf : ∀ (fn : Fn) (first cap : Array Value) (w : World), (Instr.makeFunc fn first cap).run Tryz.prog w = .ok (.func fn first cap) w := fun _ _ _ _ => rfl
  have HN := Lib.hid (below2 w (.cells c.cells 54) (.cells Ct.zero.cells 54))
  have HD := Lib.hid (cb_next w (.cells c.cells 54) Ct.zero)
  have ht : ∀ w0, Calls Tryz.prog 136 #[c.val, .func (.func 137) #[.agg #[.int .i64 c.t, .int .i64 c.r, .bool c.o, .int .i64 0]] #[]] w0 fun e w' => e = .returned (c.txx).val ∧ Below w0.heap.size w0 w' := fun w0 => by
    cases h : c.run
    · rw [show c.txx = c by unfold Ct.txx; rw [h]; rfl]
      exact tell_not c _ _ _ w0 h
    · exact tell_tx c _ _ w0 h fun w1 => mtx_any c 0 w1 h
  generalize c.txx = d at *
  obtain ⟨t, r, o⟩ := c
  obtain ⟨t', r', o'⟩ := d
  go_enter Tryz.func126, Tryz.ntmps126
  go_wp2_with fail
  refine (ht _).mono ?_
  rintro e w1 ⟨rfl, hb1⟩
  have HB1 := Lib.hid (nxtK HN.out hb1)
  have HD1 := Lib.hid (HD.out.below hb1 (by simp))
  obtain ⟨b0, b1, b2⟩ := HD1.out.cx
  have f0 := HD1.out.frozen 0
  have f1 := HD1.out.frozen 1
  have f2 := HD1.out.frozen 2
  clear hb1 HN HD ht
  go_wp2
  refine bodyPost_ret (v := Ct.val ⟨t', r', o'⟩) (by rw [results_cellK rfl]; go_simp) rfl ⟨rfl, set3 HB1.out (by omega) _ _ _⟩

set_option maxHeartbeats 400000 in
theorem rx_any (c : Ct) (x : Int) (w : World) : Calls Tryz.prog 127 #[c.val, .int .i64 x] w fun e w' => e = .returned (c.rxx x).val ∧ Below w.heap.size w w' := by
  have hmf : ∀ (fn : Fn) (first cap : Array Value) (w : World), (Instr.makeFunc fn first cap).run Tryz.prog w = .ok (.func fn first cap) w := fun _ _ _ _ => rfl
  have HN := Lib.hid (below2 w (.cells c.cells 54) (.cells Ct.zero.cells 54))
  have HD := Lib.hid (cb_next w (.cells c.cells 54) Ct.zero)
  have ht : ∀ w0, Calls Tryz.prog 136 #[c.val, .func (.func 138) #[.agg #[.int .i64 c.t, .int .i64 c.r, .bool c.o, .int .i64 x]] #[]] w0 fun e w' => e = .returned (c.rxx x).val ∧ Below w0.heap.size w0 w' := fun w0 => by
    cases h : c.run
    · rw [show c.rxx x = c by unfold Ct.rxx; rw [h]; rfl]
      exact tell_not c _ _ _ w0 h
    · exact tell_rx c _ _ w0 h fun w1 => mrx_any c x w1 h
  generalize c.rxx x = d at *
  obtain ⟨t, r, o⟩ := c
  obtain ⟨t', r', o'⟩ := d
  go_enter Tryz.func127, Tryz.ntmps127
  go_wp2_with fail
  refine (ht _).mono ?_
  rintro e w1 ⟨rfl, hb1⟩
  have HB1 := Lib.hid (nxtK HN.out hb1)
  have HD1 := Lib.hid (HD.out.below hb1 (by simp))
  obtain ⟨b0, b1, b2⟩ := HD1.out.cx
  have f0 := HD1.out.frozen 0
  have f1 := HD1.out.frozen 1
  have f2 := HD1.out.frozen 2
  clear hb1 HN HD ht
  go_wp2
  refine bodyPost_ret (v := Ct.val ⟨t', r', o'⟩) (by rw [results_cellK rfl]; go_simp) rfl ⟨rfl, set3 HB1.out (by omega) _ _ _⟩

theorem back_any (c : Ct) (w : World) : Calls Tryz.prog 115 #[c.val] w fun e w' => e = .returned Ct.zero.val ∧ Below w.heap.size w w' := by
  obtain ⟨t, r, o⟩ := c
  go_enter Tryz.func115, Tryz.ntmps115
  go_wp2
  refine bodyPost_ret (v := Ct.zero.val) (by rw [results_cellK rfl]; go_simp; decide) rfl ⟨rfl, below2 _ _ _⟩
end Go.Proofs.YtalpbnfebcafgaaGreat

/- Rows of frames as blocks: parts of a row, copy, clear and append within it, told by what they run to. -/
namespace Go.Proofs.YtalpbnfebcafgaaGreat
set_option maxRecDepth 20000
open Go.RowKit

theorem add0 (b p : Nat) : (⟨b, 0, none⟩ : Addr).add p = ⟨b, p, none⟩ := by rw [Addr.add_lit, Nat.zero_add]
theorem sF_to (b L cap p : Nat) (hp : p ≤ cap) : (∀ w : World, (Instr.sliceAt 22 (.slice (some ⟨b, 0, none⟩) L cap) none (some (.int .i64 (p : Int))) none).run Tryz.prog w = .ok (.slice (some ⟨b, 0, none⟩) p cap) w) ∧
    ∀ w : World, (Instr.slice 22 (.slice (some ⟨b, 0, none⟩) L cap) none (some (.int .i64 (p : Int))) none).run Tryz.prog w = .ok (.slice (some ⟨b, 0, none⟩) p cap) w := by
  obtain ⟨i, hi, -, hsz, -⟩ := info28
  have h : ∀ w : World, (Instr.slice 22 (.slice (some ⟨b, 0, none⟩) L cap) none (some (.int .i64 (p : Int))) none).run Tryz.prog w = .ok (.slice (some ⟨b, 0, none⟩) p cap) w := by
    intro w
    rw [run_slice_h _ _ _ _ _ Tryz.underlying22 _ _ (by omega) (by omega)]
    simp only [sliced, Int.toNat_natCast, Nat.sub_zero, Nat.zero_mul, Option.map, at_zero, ite_self]
    show ((sizeOf 31).run Tryz.prog w).andThen _ = _
    simp [sizeOf, typeInfo, hi]
  exact ⟨fun w => by rw [run_sliceAt_slice _ _ _ _ _ _ Tryz.underlying22]; exact h w, h⟩
theorem sF_from (b L cap p : Nat) (hp : p ≤ L) (q : Int) (hq : q = p) : (∀ w : World, (Instr.sliceAt 22 (.slice (some ⟨b, 0, none⟩) L cap) (some (.int .i64 q)) none none).run Tryz.prog w = .ok (.slice (some ⟨b, if cap = p then 0 else p * 12, none⟩) (L - p) (cap - p)) w) ∧
    ∀ w : World, (Instr.slice 22 (.slice (some ⟨b, 0, none⟩) L cap) (some (.int .i64 q)) none none).run Tryz.prog w = .ok (.slice (some ⟨b, if cap = p then 0 else p * 12, none⟩) (L - p) (cap - p)) w := by
  subst hq
  obtain ⟨i, hi, -, hsz, -⟩ := info28
  have h : ∀ w : World, (Instr.slice 22 (.slice (some ⟨b, 0, none⟩) L cap) (some (.int .i64 (p : Int))) none none).run Tryz.prog w = .ok (.slice (some ⟨b, if cap = p then 0 else p * 12, none⟩) (L - p) (cap - p)) w := by
    intro w
    rw [run_slice_l _ _ _ _ _ Tryz.underlying22 _ _ (by omega) (by omega)]
    show ((sizeOf 31).run Tryz.prog w).andThen _ = _
    simp only [sizeOf, typeInfo, sliced, Int.toNat_natCast, Option.map, add0]
    simp [hi, hsz]
    split <;> rfl
  exact ⟨fun w => by rw [run_sliceAt_slice _ _ _ _ _ _ Tryz.underlying22]; exact h w, h⟩
theorem sF_part (b L cap p q : Nat) (hp : p ≤ q) (hq : q ≤ cap) (hpc : p < cap) (x y : Int) (hx : x = p) (hy : y = q) : (∀ w : World, (Instr.sliceAt 22 (.slice (some ⟨b, 0, none⟩) L cap) (some (.int .i64 x)) (some (.int .i64 y)) none).run Tryz.prog w = .ok (.slice (some ⟨b, p * 12, none⟩) (q - p) (cap - p)) w) ∧
    ∀ w : World, (Instr.slice 22 (.slice (some ⟨b, 0, none⟩) L cap) (some (.int .i64 x)) (some (.int .i64 y)) none).run Tryz.prog w = .ok (.slice (some ⟨b, p * 12, none⟩) (q - p) (cap - p)) w := by
  subst hx; subst hy
  obtain ⟨i, hi, -, hsz, -⟩ := info28
  have h : ∀ w : World, (Instr.slice 22 (.slice (some ⟨b, 0, none⟩) L cap) (some (.int .i64 (p : Int))) (some (.int .i64 (q : Int))) none).run Tryz.prog w = .ok (.slice (some ⟨b, p * 12, none⟩) (q - p) (cap - p)) w := by
    intro w
    rw [run_slice_lh _ _ _ _ _ Tryz.underlying22 _ _ _ _ (by omega) (by omega) (by omega)]
    show ((sizeOf 31).run Tryz.prog w).andThen _ = _
    simp only [sizeOf, typeInfo, sliced, Int.toNat_natCast, Option.map, add0]
    simp [hi, hsz, show ¬ (cap = p) by omega]
  exact ⟨fun w => by rw [run_sliceAt_slice _ _ _ _ _ _ Tryz.underlying22]; exact h w, h⟩
theorem sF_three (b L cap p q : Nat) (hp : p ≤ q) (hq : q ≤ L) (hc : L ≤ cap) (x y : Int) (hx : x = p) (hy : y = q) : ∃ X, (∀ w : World, (Instr.sliceAt 22 (.slice (some ⟨b, 0, none⟩) L cap) (some (.int .i64 x)) (some (.int .i64 y)) (some (.int .i64 (L : Int)))).run Tryz.prog w = .ok X w) ∧
    ∀ w : World, (Instr.slice 22 (.slice (some ⟨b, 0, none⟩) L cap) (some (.int .i64 x)) (some (.int .i64 y)) (some (.int .i64 (L : Int)))).run Tryz.prog w = .ok X w := by
  subst hx; subst hy
  obtain ⟨i, hi, -, hsz, -⟩ := info28
  have h : ∀ w : World, (Instr.slice 22 (.slice (some ⟨b, 0, none⟩) L cap) (some (.int .i64 (p : Int))) (some (.int .i64 (q : Int))) (some (.int .i64 (L : Int)))).run Tryz.prog w = .ok (sliced (some ⟨b, 0, none⟩) p q L 12) w := by
    intro w
    rw [run_slice_lhm _ _ _ _ _ Tryz.underlying22 _ _ _ _ _ _ (by omega) (by omega) (by omega) (by omega)]
    show ((sizeOf 31).run Tryz.prog w).andThen _ = _
    simp [sizeOf, typeInfo, hi, hsz]
  exact ⟨_, fun w => by rw [run_sliceAt_slice _ _ _ _ _ _ Tryz.underlying22]; exact h w, h⟩

/-- A row with some cells laid anew. -/
def laid (cur : Array Value) (o : Nat) (cs : List Value) : Array Value := (cur.toList.take o ++ cs ++ cur.toList.drop (o + cs.length)).toArray
theorem laid_size {cur : Array Value} {o : Nat} {cs : List Value} (h : o + cs.length ≤ cur.size) : (laid cur o cs).size = cur.size := by
  unfold laid
  simp
  omega
theorem run_copyF (w : World) (ty : TypeId) (g o dLen dCap : Nat) (a : Addr) (sLen sCap m : Nat) (cur : Array Value) (t : TypeId) (cs : List Value)
    (hg : w.heap[g]? = some (.cells cur t (0, 0))) (hm : Nat.min sLen dLen = m) (hn : cs.length = m * 12)
    (hsrc : ∀ j v, cs[j]? = some v → w.cell? (a.add j) = some v) (hfit : o + cs.length ≤ cur.size) (h1 : ∀ v ∈ cs, v.oneCell' = true) :
    (Builtin.copy_ #[22, 22] ty #[.slice (some ⟨g, o, none⟩) dLen dCap, .slice (some a) sLen sCap]).run Tryz.prog w =
      .ok (goInt m) (w.setRow g (laid cur o cs)) := by
  have hl := run_loadCells_list (P := Tryz.prog) w a cs hsrc
  have hst := run_storeCells_at Tryz.prog g o t cs 0 cur w hg (by simpa using hfit) h1
  obtain ⟨i, hi, -, hsz, -⟩ := info28
  unfold laid
  simp [Builtin.copy_, run_underlying Tryz.underlying22, Builtin.lenOf, Builtin.firstCells, sizeOf, typeInfo, hi, hsz, hm, ← hn, hl, hst]
theorem zero_one : (Builtin.zeroCells Fr.zero.val.cells 1).toList = Fr.zero.cells.toList := by
  have h : (Builtin.zeroCells Fr.zero.val.cells 1) = Fr.zero.cells := by
    simp only [Builtin.zeroCells]
    apply Array.ext
    · simp; rfl
    · intro i h1 h2
      have : i < 12 := h2
      simp only [Array.getElem_map, Array.getElem_range]
      match i, this with
      | 0, _ | 1, _ | 2, _ | 3, _ | 4, _ | 5, _ | 6, _ | 7, _ | 8, _ | 9, _ | 10, _ | 11, _ => rfl
  rw [h]
theorem run_clearF (w : World) (ty : TypeId) (g o c : Nat) (cur : Array Value) (t : TypeId) (hg : w.heap[g]? = some (.cells cur t (0, 0))) (hfit : o + 12 ≤ cur.size) :
    (Builtin.clear_ #[22] ty #[.slice (some ⟨g, o, none⟩) 1 c]).run Tryz.prog w = .ok (.tuple #[]) (w.setRow g (laid cur o Fr.zero.cells.toList)) := by
  obtain ⟨i, hi, hz, hsz, -⟩ := info28
  have hv : (zeroValue 31).run Tryz.prog w = .ok Fr.zero.val w := by simp [zeroValue, typeInfo, hi, hz]
  obtain ⟨L, hL, hlen, hone⟩ : ∃ L : List Value, Fr.zero.cells.toList = L ∧ L.length = 12 ∧ ∀ v ∈ L, v.oneCell' = true := ⟨_, rfl, rfl, fcs_one [Fr.zero]⟩
  have hzc : (Builtin.zeroCells Fr.zero.val.cells 1).toList = L := zero_one.trans hL
  have hst := run_storeCells_at Tryz.prog g o t L 0 cur w hg (by rw [hlen]; simpa using hfit) hone
  rw [hL]
  simp only [Nat.add_zero] at hst
  unfold laid
  simp only [Builtin.clear_]
  simp [run_underlying Tryz.underlying22, hv, hzc, hst]
theorem run_appendF_room (w : World) (ty : TypeId) (g sLen sCap : Nat) (cur : Array Value) (hg : w.heap[g]? = some (.cells cur 31 (0, 0)))
    (a : Addr) (m c : Nat) (news : List Value) (hl : news.length = m * 12) (hnews : ∀ j u, news[j]? = some u → w.cell? (a.add j) = some u) (h1 : ∀ u ∈ news, u.oneCell' = true)
    (hroom : sLen + m ≤ sCap) (hfit : sLen * 12 + news.length ≤ cur.size) :
    (Builtin.append_ #[22, 22] ty #[.slice (some ⟨g, 0, none⟩) sLen sCap, .slice (some a) m c]).run Tryz.prog w =
      .ok (.slice (some ⟨g, 0, none⟩) (sLen + m) sCap) (w.setRow g (laid cur (sLen * 12) news)) := by
  obtain ⟨i, hi, -, hsz, -⟩ := info28
  have := run_append_room (P := Tryz.prog) w 22 ty 31 i Tryz.underlying22 hi g sLen sCap cur hg a m c news (by rw [hsz]; exact hl) hnews h1 hroom (by rw [hsz]; exact hfit)
  rw [this, hsz]
  rfl

/-- The block g is a row of frames' cells. -/
def Rw (w : World) (g : Nat) (cur : Array Value) : Prop := w.heap[g]? = some (.cells cur 31 (0, 0))
section
variable {w : World} {g : Nat} {cur : Array Value}
theorem Rw.lt (h : Rw w g cur) : g < w.heap.size := (Array.getElem?_eq_some_iff.1 h).1
theorem Rw.set (h : Rw w g cur) (cs : Array Value) : Rw (w.setRow g cs) g cs := setRow_heap w g cur cs _ _ h
theorem Rw.cell (h : Rw w g cur) {k : Nat} {u : Value} (hk : cur[k]? = some u) : w.cell? ⟨g, k, none⟩ = some u := by
  unfold Rw at h
  simp only [World.cell?, h]
  exact hk
theorem grown_set (w : World) (g : Nat) (cs : Array Value) : w.grownBy (w.setRow g cs) (some g) :=
  ⟨rfl, rfl, rfl, by simp [World.setRow], fun k hk hne => by
    simp only [World.setRow, Array.getElem?_modify]
    rw [if_neg (fun e => hne (by rw [e]))]⟩
end
end Go.Proofs.YtalpbnfebcafgaaGreat

/- The cells of rows of frames that are laid anew, and the contract of slices.Delete. -/
namespace Go.Proofs.YtalpbnfebcafgaaGreat
set_option maxRecDepth 20000
open Go.RowKit
set_option linter.unusedSimpArgs false

section
variable {cur : Array Value} {o k : Nat} {cs : List Value}
theorem laid_lo (hk : k ≤ o) (ho : o ≤ cur.size) : (laid cur o cs).toList.take k = cur.toList.take k := by
  have hl : k ≤ (cur.toList.take o).length := by rw [List.length_take]; simp; omega
  simp only [laid]
  rw [List.append_assoc, List.take_append_of_le_length hl, List.take_take, Nat.min_eq_left hk]
theorem laid_at (ho : o ≤ cur.size) (hk : k = o + cs.length) : (laid cur o cs).toList.take k = cur.toList.take o ++ cs := by
  have hl : k = (cur.toList.take o ++ cs).length := by rw [List.length_append, List.length_take]; simp; omega
  simp only [laid]
  rw [hl, List.take_left']
  rfl
theorem laid_hi (hk : o + cs.length ≤ k) (ho : o ≤ cur.size) : (laid cur o cs).toList.take k = cur.toList.take o ++ cs ++ (cur.toList.take k).drop (o + cs.length) := by
  have hl : (cur.toList.take o ++ cs).length = o + cs.length := by rw [List.length_append, List.length_take]; simp; omega
  simp only [laid]
  rw [List.take_append, hl, List.take_of_length_le (by omega), List.drop_take]
end
theorem fcs_take : ∀ (gs : List Fr) (i : Nat), fcs (gs.take i) = (fcs gs).take (i * 12)
  | [], i => by simp [fcs]
  | g :: gs, 0 => by simp [fcs]
  | g :: gs, i + 1 => by
    have h := fcs_take gs i
    unfold fcs at h ⊢
    have hl : g.cells.toList.length = 12 := rfl
    rw [List.take_succ_cons, List.flatMap_cons, List.flatMap_cons, h]
    generalize g.cells.toList = L at *
    rw [List.take_append, hl, show (i + 1) * 12 - 12 = i * 12 by omega, List.take_of_length_le (l := L) (by omega)]
theorem fcs_drop : ∀ (gs : List Fr) (i : Nat), fcs (gs.drop i) = (fcs gs).drop (i * 12)
  | [], i => by simp [fcs]
  | g :: gs, 0 => by simp
  | g :: gs, i + 1 => by
    have h := fcs_drop gs i
    unfold fcs at h ⊢
    have hl : g.cells.toList.length = 12 := rfl
    rw [List.drop_succ_cons, List.flatMap_cons, h]
    generalize g.cells.toList = L at *
    rw [List.drop_append, hl, show (i + 1) * 12 - 12 = i * 12 by omega, List.drop_of_length_le (l := L) (by omega), List.nil_append]
theorem fcs_one_ (f : Fr) : fcs [f] = f.cells.toList := by simp [fcs]

/-- A row of the call's own, opened. -/
theorem Fown.open_ {w : World} {B : Nat} {v : Value} {gs : List Fr} (h : Fown w B v gs) (h0 : gs ≠ []) : ∃ g cap cur, v = .slice (some ⟨g, 0, none⟩) gs.length cap ∧ B ≤ g ∧ Rw w g cur ∧ gs.length ≤ cap ∧ cap ≤ maxLen ∧ cur.size = cap * 12 ∧ cur.toList.take (gs.length * 12) = fcs gs := by
  rcases h.2 with ⟨_, hn⟩ | ⟨g, cap, cur, hv, h1, h2, h3, h4, h5, h6⟩
  · exact absurd (List.eq_nil_of_length_eq_zero hn) h0
  · exact ⟨g, cap, cur, hv, h1, h2, h3, h4, h5, h6⟩
theorem Fown.mk_ {w : World} {B g n cap : Nat} {cur : Array Value} {gs : List Fr} (hB : B ≤ g) (hw : Rw w g cur) (hn : gs.length = n) (hc : n ≤ cap) (hm : cap ≤ maxLen) (hs : cur.size = cap * 12) (ht : cur.toList.take (n * 12) = fcs gs) :
    Fown w B (.slice (some ⟨g, 0, none⟩) n cap) gs := by
  subst hn
  exact ⟨fcs_len gs, .inr ⟨g, cap, cur, rfl, hB, hw, hc, hm, hs, ht⟩⟩
theorem setRow_drew (w : World) (g : Nat) (cs : Array Value) : (w.setRow g cs).drew = w.drew.setRow g cs := rfl

theorem gundrew {w w' : World} {r : Option Nat} (h : w.drew.grownBy w' r) : w.grownBy w' r := ⟨h.os, h.tape, h.output, h.size, h.block⟩

/-- A step of a drawn region whose run is known. -/
theorem step_append_run {ops : Array Oper} {o : Oper} {a : Act} {w : World} {K : Act → World → Prop} {Q : Exit → Act → World → Prop} {E : Prop}
    (hg : o.guard = none) (d x : Operand) (dT sT : TypeId) (hop : o.op = Op.call { callee := Callee.builtin Builtin.append, args := #[d, x], argTypes := #[dT, sT] })
    (v u : Value) (hd : a.eval d = v) (hx : a.eval x = u) {v' : Value} {w' : World} (hr : (Builtin.append_ #[dT, sT] o.type #[v, u]).run Tryz.prog w = .ok v' w') (hK : K (a.put o.dst v') w') :
    if Region.wanted o (yielded ops a.tmps) = true then Oper.wp Tryz.prog o a w K Q else E := by
  have hw : Region.wanted o (yielded ops a.tmps) = true := by simp [Region.wanted, hg]
  rw [if_pos hw]
  unfold Oper.wp
  simp [execOp, hop, resolve, invoke, builtin, hd, hx, hr, Result.andThen]
  exact hK
theorem step_copy_run {ops : Array Oper} {o : Oper} {a : Act} {w : World} {K : Act → World → Prop} {Q : Exit → Act → World → Prop} {E : Prop}
    (hg : o.guard = none) (d x : Operand) (dT sT : TypeId) (hop : o.op = Op.call { callee := Callee.builtin Builtin.copy, args := #[d, x], argTypes := #[dT, sT] })
    (v u : Value) (hd : a.eval d = v) (hx : a.eval x = u) {v' : Value} {w' : World} (hr : (Builtin.copy_ #[dT, sT] o.type #[v, u]).run Tryz.prog w = .ok v' w') (hK : K (a.put o.dst v') w') :
    if Region.wanted o (yielded ops a.tmps) = true then Oper.wp Tryz.prog o a w K Q else E := by
  have hw : Region.wanted o (yielded ops a.tmps) = true := by simp [Region.wanted, hg]
  rw [if_pos hw]
  unfold Oper.wp
  simp [execOp, hop, resolve, invoke, builtin, hd, hx, hr, Result.andThen]
  exact hK
theorem wpl_copy_run (w : World) {ops : Array Oper} {rest : List Oper} {o : Oper} {a : Act} {Q : Exit → Act → World → Prop} (hgd : o.guard = none) (d s : Operand) (t t' : TypeId)
    (ho : o.op = .call { callee := .builtin .copy, args := #[d, s], argTypes := #[t, t'] }) (v u : Value) (hd : a.eval d = v) (hs : a.eval s = u) {v' : Value} {w' : World}
    (hr : (Builtin.copy_ #[t, t'] o.type #[v, u]).run Tryz.prog w = .ok v' w') (h : wpList Tryz.prog ops Q rest (a.put o.dst v') w') : wpList Tryz.prog ops Q (o :: rest) a w :=
  wpList_plain hgd fun _ hK => by
    unfold Oper.wp execOp
    simp only [ho, resolve, invoke, builtin, Sem.run_bind, Sem.run_pure, Result.andThen_ok, List.map_toArray, List.map_cons, List.map_nil, hd, hs, hr]
    exact hK _ _ h

theorem wpl_clear_run (w : World) {ops : Array Oper} {rest : List Oper} {o : Oper} {a : Act} {Q : Exit → Act → World → Prop} (hgd : o.guard = none) (d : Operand) (t : TypeId)
    (ho : o.op = .call { callee := .builtin .clear, args := #[d], argTypes := #[t] }) (v : Value) (hd : a.eval d = v) {v' : Value} {w' : World}
    (hr : (Builtin.clear_ #[t] o.type #[v]).run Tryz.prog w = .ok v' w') (h : wpList Tryz.prog ops Q rest (a.put o.dst v') w') : wpList Tryz.prog ops Q (o :: rest) a w :=
  wpList_plain hgd fun _ hK => by
    unfold Oper.wp execOp
    simp only [ho, resolve, invoke, builtin, Sem.run_bind, Sem.run_pure, Result.andThen_ok, List.map_toArray, List.map_cons, List.map_nil, hd, hr]
    exact hK _ _ h

theorem del_row {gs : List Fr} {cur : Array Value} {i cap : Nat} (hi : i < gs.length) (hs : cur.size = cap * 12) (hc : gs.length ≤ cap) (ht : cur.toList.take (gs.length * 12) = fcs gs) :
    (laid (laid cur (i * 12) (fcs (gs.drop (i + 1)))) ((gs.length - 1) * 12) Fr.zero.cells.toList).toList.take ((gs.length - 1) * 12) = fcs (gs.eraseIdx i) ∧
    (laid cur (i * 12) (fcs (gs.drop (i + 1)))).size = cap * 12 ∧ (laid (laid cur (i * 12) (fcs (gs.drop (i + 1)))) ((gs.length - 1) * 12) Fr.zero.cells.toList).size = cap * 12 := by
  have hl : (fcs (gs.drop (i + 1))).length = (gs.length - (i + 1)) * 12 := by rw [fcs_len, List.length_drop]
  have h1 : (laid cur (i * 12) (fcs (gs.drop (i + 1)))).size = cap * 12 := by rw [laid_size (by rw [hl, hs]; omega), hs]
  refine ⟨?_, h1, by rw [laid_size (by rw [h1]; simp; omega), h1]⟩
  rw [laid_lo (Nat.le_refl _) (by rw [h1]; omega), laid_at (by rw [hs]; omega) (by rw [hl]; omega), List.eraseIdx_eq_take_drop_succ, fcs_app, fcs_take, ← ht, List.take_take, Nat.min_eq_left (by omega)]

set_option maxHeartbeats 1600000 in
set_option maxRecDepth 100000 in
theorem delete_any {w : World} {B : Nat} {v : Value} {gs : List Fr} (i : Nat) (h : Fown w B v gs) (hi : i < gs.length) (hn : gs.length ≤ 1000000) :
    Calls Tryz.prog 150 #[v, .int .i64 i, .int .i64 ((i : Int) + 1)] w fun e w' => ∃ u, e = .returned u ∧ Fown w' B u (gs.eraseIdx i) ∧ w.grownBy w' v.ownBlock ∧ u.ownBlock = v.ownBlock := by
  obtain ⟨b, cap, cur, rfl, hB, hR, hc, hm, hs, ht⟩ := h.open_ (by intro e; rw [e] at hi; simp at hi)
  obtain ⟨D1, D2, D3⟩ := del_row hi hs hc ht
  have HD1 := Lib.hid D1; have HD3 := Lib.hid D3
  have HL := Lib.hid (show (gs.eraseIdx i).length = gs.length - 1 by rw [List.length_eraseIdx]; simp [hi])
  obtain ⟨X, x1, x2⟩ := sF_three b gs.length cap i (i + 1) (by omega) (by omega) hc (i : Int) ((i : Int) + 1) rfl (by simp)
  obtain ⟨y1, y2⟩ := sF_to b gs.length cap i (by omega)
  obtain ⟨z1, z2⟩ := sF_from b gs.length cap (i + 1) (by omega) ((i : Int) + 1) (by simp)
  have hnews : ∀ j u, (fcs (gs.drop (i + 1)))[j]? = some u → w.drew.cell? ((⟨b, if cap = i + 1 then 0 else (i + 1) * 12, none⟩ : Addr).add j) = some u := by
    intro j u hu
    have hj : j < (gs.length - (i + 1)) * 12 := by
      have := (List.getElem?_eq_some_iff.1 hu).1
      rwa [fcs_len, List.length_drop] at this
    rw [if_neg (by omega), Addr.add_lit]
    refine Rw.cell (w := w.drew) hR ?_
    rw [fcs_drop, List.getElem?_drop, ← ht, List.getElem?_take] at hu
    rw [if_pos (by omega)] at hu
    simpa using hu
  have happ := fun ty => run_appendF_room w.drew ty b i cap cur hR ⟨b, if cap = i + 1 then 0 else (i + 1) * 12, none⟩ (gs.length - (i + 1)) (cap - (i + 1)) (fcs (gs.drop (i + 1))) (by rw [fcs_len, List.length_drop]) hnews (fcs_one _) (by omega) (by rw [fcs_len, List.length_drop, hs]; omega)
  clear hnews D1 D3 ht
  obtain ⟨cur1, hcur1⟩ : ∃ c, laid cur (i * 12) (fcs (gs.drop (i + 1))) = c := ⟨_, rfl⟩
  rw [hcur1] at happ HD1 HD3 D2
  obtain ⟨w1, hw1⟩ : ∃ w1, w.drew.setRow b cur1 = w1 := ⟨_, rfl⟩
  rw [hw1] at happ
  have hR1 : Rw w1 b cur1 := by rw [← hw1]; exact Rw.set (w := w.drew) hR cur1
  have hcl := fun ty c => run_clearF w1 ty b ((gs.length - 1) * 12) c cur1 _ hR1 (by rw [D2]; omega)
  obtain ⟨u1, u2⟩ := sF_part b (gs.length - 1) cap (gs.length - 1) gs.length (by omega) hc (by omega) ((gs.length - 1 : Nat) : Int) (gs.length : Int) rfl rfl
  rw [show gs.length - (gs.length - 1) = 1 by omega] at u1 u2
  rw [show i + (gs.length - (i + 1)) = gs.length - 1 by omega] at happ
  have HW := Lib.hid hw1
  have HR1 := Lib.hid hR1
  have HB := Lib.hid hB
  have HM := Lib.hid hm
  have HC := Lib.hid hc
  clear hw1 hR1 hcur1 D2 hs hm hB h hR
  obtain ⟨n1, hn1⟩ : ∃ n1, gs.length = n1 + 1 := ⟨gs.length - 1, by omega⟩
  generalize gs.length = n at *
  subst hn1
  rw [Nat.add_sub_cancel] at *
  obtain ⟨z, hz⟩ : ∃ z, (if cap = i + 1 then 0 else (i + 1) * 12) = z := ⟨_, rfl⟩
  rw [hz] at z1 z2 happ
  clear hz
  have hi1 : (0 : Int) ≤ (i : Int) + 1 := by omega
  have hi2 : (i : Int) + 1 ≤ ((n1 + 1 : Nat) : Int) := by omega
  have hi3 : ¬ (n1 + 1 = i) := by omega
  have hi4 : ¬ ((i : Int) = (i : Int) + 1) := by omega
  go_enter Tryz.func150, Tryz.ntmps150
  go_wp2_with fail
  refine wp_region_held_drew (S := fun _ => True) (by kernel_rfl) (trivial) (fun hHeld => ?_)
  refine takeH (i := 0) (v := .slice (some ⟨b, 0, none⟩) (n1 + 1) cap) rfl (by kernel_rfl) (by kernel_rfl) (by kernel_rfl) (fun _ _ _ h => h) (Or.inl ⟨by rfl, fun w hSw => ?_⟩) hHeld ?_
  · (clear hSw; go_simp)
  simp only [Act.put, List.setIfInBounds_toArray, List.set_cons_zero, List.set_cons_succ]
  refine takeH (i := 1) (v := .int .i64 i) rfl (by kernel_rfl) (by kernel_rfl) (by kernel_rfl) (fun _ _ _ h => h) (Or.inl ⟨by rfl, fun w hSw => ?_⟩) hHeld ?_
  · (clear hSw; go_simp)
  simp only [Act.put, List.setIfInBounds_toArray, List.set_cons_zero, List.set_cons_succ]
  refine takeH (i := 2) (v := .slice (some ⟨b, 0, none⟩) i cap) rfl (by kernel_rfl) (by kernel_rfl) (by kernel_rfl) (fun _ _ _ h => h) (Or.inl ⟨by rfl, fun w hSw => ?_⟩) hHeld ?_
  · (clear hSw; go_simp)
  simp only [Act.put, List.setIfInBounds_toArray, List.set_cons_zero, List.set_cons_succ]
  refine takeH (i := 3) (v := .slice (some ⟨b, 0, none⟩) (n1 + 1) cap) rfl (by kernel_rfl) (by kernel_rfl) (by kernel_rfl) (fun _ _ _ h => h) (Or.inl ⟨by rfl, fun w hSw => ?_⟩) hHeld ?_
  · (clear hSw; go_simp)
  simp only [Act.put, List.setIfInBounds_toArray, List.set_cons_zero, List.set_cons_succ]
  refine takeH (i := 4) (v := .int .i64 ((i : Int) + 1)) rfl (by kernel_rfl) (by kernel_rfl) (by kernel_rfl) (fun _ _ _ h => h) (Or.inl ⟨by rfl, fun w hSw => ?_⟩) hHeld ?_
  · (clear hSw; go_simp)
  simp only [Act.put, List.setIfInBounds_toArray, List.set_cons_zero, List.set_cons_succ]
  refine takeH (i := 5) (v := .slice (some ⟨b, z, none⟩) (n1 + 1 - (i + 1)) (cap - (i + 1))) rfl (by kernel_rfl) (by kernel_rfl) (by kernel_rfl) (fun _ _ _ h => h) (Or.inl ⟨by rfl, fun w hSw => ?_⟩) hHeld ?_
  · (clear hSw; go_simp)
  simp only [Act.put, List.setIfInBounds_toArray, List.set_cons_zero, List.set_cons_succ]
  refine wpAnyH_ready (rs := [6]) (by kernel_rfl) (by simp) ?_
  refine AllReadyH.cons rfl (fun K hK => ?_) AllReadyH.nil
  refine step_append_run (by rfl) (.tmp 22) (.tmp 25) 22 22 (by rfl) _ _ (by rfl) (by rfl) (happ _) ?_
  clear hHeld
  refine hK.out _ _ trivial (fun hHeld => ?_)
  clear hK K
  simp only [Act.put, List.setIfInBounds_toArray, List.set_cons_zero, List.set_cons_succ]
  refine takeH (i := 7) (v := .slice (some ⟨b, 0, none⟩) n1 cap) rfl (by kernel_rfl) (by kernel_rfl) (by kernel_rfl) (fun _ _ _ h => h) (Or.inl ⟨by rfl, fun w hSw => ?_⟩) hHeld ?_
  · (clear hSw; go_simp)
  simp only [Act.put, List.setIfInBounds_toArray, List.set_cons_zero, List.set_cons_succ]
  refine wpAnyH_done (by kernel_rfl) ?_ _
  clear hHeld
  go_wp2_with (first | (at_builtin; refine wpl_clear_run _ (by rfl) _ _ rfl _ rfl (hcl _ _) ?_) | fail)
  go_wp2
  go_ret
  refine ⟨_, rfl, ?_, ?_, rfl⟩
  · exact Fown.mk_ HB.out (HR1.out.set _) HL.out (by omega) HM.out HD3.out HD1.out
  · rw [← HW.out, setRow_setRow]
    exact gundrew (grown_set w.drew b _)
end Go.Proofs.YtalpbnfebcafgaaGreat

/- The contract of slices.Insert of one frame into a row of the call's own. -/
namespace Go.Proofs.YtalpbnfebcafgaaGreat
set_option maxRecDepth 20000
open Go.RowKit
set_option linter.unusedSimpArgs false

theorem sF_to2 (b L cap p : Nat) (hp : p ≤ cap) (q : Int) (hq : q = p) : (∀ w : World, (Instr.sliceAt 22 (.slice (some ⟨b, 0, none⟩) L cap) none (some (.int .i64 q)) none).run Tryz.prog w = .ok (.slice (some ⟨b, 0, none⟩) p cap) w) ∧
    ∀ w : World, (Instr.slice 22 (.slice (some ⟨b, 0, none⟩) L cap) none (some (.int .i64 q)) none).run Tryz.prog w = .ok (.slice (some ⟨b, 0, none⟩) p cap) w := by
  subst hq; exact sF_to b L cap p hp
theorem sF_from2 (b L cap p : Nat) (hp : p ≤ L) (hpc : p < cap) (q : Int) (hq : q = p) : (∀ w : World, (Instr.sliceAt 22 (.slice (some ⟨b, 0, none⟩) L cap) (some (.int .i64 q)) none none).run Tryz.prog w = .ok (.slice (some ⟨b, p * 12, none⟩) (L - p) (cap - p)) w) ∧
    ∀ w : World, (Instr.slice 22 (.slice (some ⟨b, 0, none⟩) L cap) (some (.int .i64 q)) none none).run Tryz.prog w = .ok (.slice (some ⟨b, p * 12, none⟩) (L - p) (cap - p)) w := by
  have h := sF_from b L cap p hp q hq
  rw [if_neg (by omega)] at h
  exact h
theorem sF_any (A : Option Addr) (L cap p : Nat) (hp : p ≤ L) (_hc : L ≤ cap) : ∃ X, (∀ w : World, (Instr.sliceAt 22 (.slice A L cap) (some (.int .i64 (p : Int))) none none).run Tryz.prog w = .ok X w) ∧
    ∀ w : World, (Instr.slice 22 (.slice A L cap) (some (.int .i64 (p : Int))) none none).run Tryz.prog w = .ok X w := by
  obtain ⟨i, hi, -, hsz, -⟩ := info28
  have h : ∀ w : World, (Instr.slice 22 (.slice A L cap) (some (.int .i64 (p : Int))) none none).run Tryz.prog w = .ok (sliced A p L cap 12) w := by
    intro w
    rw [run_slice_l _ _ _ _ _ Tryz.underlying22 _ _ (by omega) (by omega)]
    show ((sizeOf 31).run Tryz.prog w).andThen _ = _
    simp [sizeOf, typeInfo, hi, hsz]
  exact ⟨_, fun w => by rw [run_sliceAt_slice _ _ _ _ _ _ Tryz.underlying22]; exact h w, h⟩
theorem over_ap (w : World) (a b : Addr) (la ca lb cb : Nat) (hne : a.block ≠ b.block) (ca' cb' : Array Value) (ha : Rw w a.block ca') (hb : Rw w b.block cb') (h0 : cb'.size ≠ 0) :
    (callFunc 85 #[.slice (some a) la ca, .slice (some b) lb cb]).run Tryz.prog w = .ok (.value (.bool false)) w := by
  have hsz : ∀ w : World, (sizeOf 31).run Tryz.prog w = .ok 12 w := fun w => by
    obtain ⟨i, hi, -, hsz, -⟩ := info28
    simp [sizeOf, typeInfo, hi, hsz]
  unfold Rw at ha hb
  rw [run_callFunc_extern Tryz.func85 (by kernel_rfl) (by kernel_rfl) (by kernel_rfl) (e := Extern.SlicesOverlaps.overlaps #[22, 22] #[4]) (by kernel_rfl),
    Lib.run_overlaps_apart w 22 4 31 Tryz.underlying22 12 hsz a b la ca lb cb hne 31 31 ca'.size cb'.size (by simp [World.shape?, ha]) (by simp [World.shape?, hb]) h0 (by simp [World.frozen?, ha]) (by simp [World.frozen?, ha])]
  rfl

theorem ins_len (gs : List Fr) (f : Fr) (i : Nat) (hi : i ≤ gs.length) : (gs.take i ++ f :: gs.drop i).length = gs.length + 1 := by
  rw [List.length_append, List.length_take, List.length_cons, List.length_drop]; omega
theorem ins_fcs (gs : List Fr) (f : Fr) (i : Nat) : fcs (gs.take i ++ f :: gs.drop i) = (fcs gs).take (i * 12) ++ (fcs [f] ++ (fcs gs).drop (i * 12)) := by
  rw [fcs_app, show f :: gs.drop i = [f] ++ gs.drop i from rfl, fcs_app, fcs_take, fcs_drop]
theorem ins_room {gs : List Fr} {f : Fr} {cur : Array Value} {i cap : Nat} (hi : i < gs.length) (hs : cur.size = cap * 12) (hc : gs.length + 1 ≤ cap) (ht : cur.toList.take (gs.length * 12) = fcs gs) :
    (laid (laid cur ((i + 1) * 12) (fcs (gs.drop i))) (i * 12) (fcs [f])).toList.take ((gs.length + 1) * 12) = fcs (gs.take i ++ f :: gs.drop i) ∧
    (laid cur ((i + 1) * 12) (fcs (gs.drop i))).size = cap * 12 ∧ (laid (laid cur ((i + 1) * 12) (fcs (gs.drop i))) (i * 12) (fcs [f])).size = cap * 12 := by
  have hl : (fcs (gs.drop i)).length = (gs.length - i) * 12 := by rw [fcs_len, List.length_drop]
  have hl1 : (fcs [f]).length = 12 := fcs_len [f]
  have h1 : (laid cur ((i + 1) * 12) (fcs (gs.drop i))).size = cap * 12 := by rw [laid_size (by rw [hl, hs]; omega), hs]
  refine ⟨?_, h1, by rw [laid_size (by rw [h1, hl1]; omega), h1]⟩
  have hk : (cur.toList.take ((i + 1) * 12)).length = (i + 1) * 12 := by rw [List.length_take]; simp; omega
  rw [laid_hi (by rw [hl1]; omega) (by rw [h1]; omega), hl1, laid_at (o := (i + 1) * 12) (k := (gs.length + 1) * 12) (by rw [hs]; omega) (by rw [hl]; omega), laid_lo (by omega) (by rw [hs]; omega),
    show i * 12 + 12 = (cur.toList.take ((i + 1) * 12)).length by rw [hk]; omega, List.drop_left, ins_fcs, ← ht, List.take_take, Nat.min_eq_left (by omega), List.append_assoc, fcs_drop, ← ht]
theorem ins_grow {gs : List Fr} {f : Fr} {cur : Array Value} {i cap : Nat} (hi : i < gs.length) (hs : cur.size = cap * 12) (hc : gs.length + 1 ≤ cap) (ht : cur.toList.take (i * 12) = fcs (gs.take i)) :
    (laid (laid cur (i * 12) (fcs [f])) ((i + 1) * 12) (fcs (gs.drop i))).toList.take ((gs.length + 1) * 12) = fcs (gs.take i ++ f :: gs.drop i) ∧
    (laid cur (i * 12) (fcs [f])).size = cap * 12 ∧ (laid (laid cur (i * 12) (fcs [f])) ((i + 1) * 12) (fcs (gs.drop i))).size = cap * 12 := by
  have hl : (fcs (gs.drop i)).length = (gs.length - i) * 12 := by rw [fcs_len, List.length_drop]
  have hl1 : (fcs [f]).length = 12 := fcs_len [f]
  have h1 : (laid cur (i * 12) (fcs [f])).size = cap * 12 := by rw [laid_size (by rw [hl1, hs]; omega), hs]
  refine ⟨?_, h1, by rw [laid_size (by rw [h1, hl]; omega), h1]⟩
  rw [laid_at (by rw [h1]; omega) (by rw [hl]; omega), laid_at (by rw [hs]; omega) (by rw [hl1]; omega), ht, ins_fcs, List.append_assoc, fcs_take, fcs_drop]

/-- What Insert's answer is. -/
def InsOk (w : World) (B : Nat) (v : Value) (gs : List Fr) (f : Fr) (i : Nat) (e : Ending) (w' : World) : Prop :=
  ∃ u, e = .returned u ∧ Fown w' B u (gs.take i ++ f :: gs.drop i) ∧ w.grownBy w' v.ownBlock ∧ Lies w v u

set_option maxHeartbeats 1600000 in
set_option maxRecDepth 100000 in
theorem insert_end {w : World} {B : Nat} {v : Value} {gs : List Fr} {f : Fr} {vb : Nat} (h : Fown w B v gs) (hn : gs.length ≤ 1000) (hB : B ≤ w.heap.size) (hf : Rw w vb (fcs [f]).toArray) :
    Calls Tryz.prog 78 #[v, .int .i64 gs.length, .slice (some ⟨vb, 0, none⟩) 1 1] w (InsOk w B v gs f gs.length) := by
  obtain ⟨A, cap, rfl, _, hc⟩ := h.fl
  obtain ⟨X, x1, x2⟩ := sF_any A gs.length cap gs.length (Nat.le_refl _) hc
  have HO := Lib.hid h
  have HBB := Lib.hid hB
  have HN := Lib.hid hn
  have HS := Lib.hid (show Fs w (some ⟨vb, 0, none⟩) 1 [f] from ⟨rfl, fun _ => ⟨_, rfl, fun j u hu => by
    rw [add0]; exact hf.cell (by simpa using hu)⟩⟩)
  have HE := Lib.hid (show gs.take gs.length ++ f :: gs.drop gs.length = gs ++ [f] by simp)
  clear h hB hf
  unfold InsOk
  rw [HE.out]
  obtain ⟨n, hgn⟩ : ∃ n, gs.length = n := ⟨_, rfl⟩
  have HG := Lib.hid hgn
  rw [hgn] at x1 x2 hc HO
  rw [hgn]
  clear hgn hn
  go_enter Tryz.func78, Tryz.ntmps78
  go_wp2_with (first | (at_builtin; refine append_F _ (by rfl) _ _ rfl B _ gs rfl HO.out _ _ _ [f] rfl HS.out (by have := HN.out; omega) HBB.out ?_; intro v' w' h1 h2 h3) | fail)
  go_wp2
  go_ret
  exact ⟨_, rfl, h1, h2, h3⟩

set_option maxHeartbeats 1600000 in
set_option maxRecDepth 100000 in
theorem insert_room {w : World} {B b i cap vb : Nat} {cur : Array Value} {gs : List Fr} {f : Fr} (hi : i < gs.length) (hn : gs.length ≤ 1000) (hbB : B ≤ b) (hR : Rw w b cur) (hc : gs.length + 1 ≤ cap) (hm : cap ≤ maxLen) (hs : cur.size = cap * 12) (ht : cur.toList.take (gs.length * 12) = fcs gs)
    (hf : Rw w vb (fcs [f]).toArray) (hne : vb ≠ b) :
    Calls Tryz.prog 78 #[.slice (some ⟨b, 0, none⟩) gs.length cap, .int .i64 i, .slice (some ⟨vb, 0, none⟩) 1 1] w (InsOk w B (.slice (some ⟨b, 0, none⟩) gs.length cap) gs f i) := by
  obtain ⟨D1, D2, D3⟩ := ins_room (f := f) hi hs hc ht
  have HD1 := Lib.hid D1; have HD3 := Lib.hid D3
  have HL := Lib.hid (ins_len gs f i (by omega))
  obtain ⟨X, x1, x2⟩ := sF_any (some ⟨b, 0, none⟩) gs.length cap i (by omega) (by omega)
  obtain ⟨y1, y2⟩ := sF_to2 b gs.length cap (gs.length + 1) hc ((gs.length : Int) + 1) (by simp)
  obtain ⟨z1, z2⟩ := sF_from2 b (gs.length + 1) cap (i + 1) (by omega) (by omega) ((i : Int) + 1) (by simp)
  obtain ⟨u1, u2⟩ := sF_from2 b (gs.length + 1) cap i (by omega) (by omega) (i : Int) rfl
  have hov := fun lb cb => over_ap w ⟨vb, 0, none⟩ ⟨b, (i + 1) * 12, none⟩ 1 1 lb cb hne _ _ hf hR (by omega)
  have hsrc : ∀ j u, (fcs (gs.drop i))[j]? = some u → w.drew.cell? ((⟨b, i * 12, none⟩ : Addr).add j) = some u := by
    intro j u hu
    rw [Addr.add_lit]
    refine Rw.cell (w := w.drew) hR ?_
    have hj : j < (gs.length - i) * 12 := by
      have := (List.getElem?_eq_some_iff.1 hu).1
      rwa [fcs_len, List.length_drop] at this
    rw [fcs_drop, List.getElem?_drop, ← ht, List.getElem?_take, if_pos (by omega)] at hu
    simpa using hu
  have hcp := fun ty => run_copyF w.drew ty b ((i + 1) * 12) (gs.length + 1 - (i + 1)) (cap - (i + 1)) ⟨b, i * 12, none⟩ (gs.length + 1 - i) (cap - i) (gs.length - i) cur _ (fcs (gs.drop i)) hR (by show min _ _ = _; omega) (by rw [fcs_len, List.length_drop]) hsrc (by rw [fcs_len, List.length_drop, hs]; omega) (fcs_one _)
  clear hsrc D1 D3 ht
  obtain ⟨cur1, hcur1⟩ : ∃ c, laid cur ((i + 1) * 12) (fcs (gs.drop i)) = c := ⟨_, rfl⟩
  rw [hcur1] at hcp HD1 HD3 D2
  obtain ⟨w1, hw1⟩ : ∃ w1, w.drew.setRow b cur1 = w1 := ⟨_, rfl⟩
  rw [hw1] at hcp
  have hR1 : Rw w1 b cur1 := by rw [← hw1]; exact Rw.set (w := w.drew) hR cur1
  have hf1 : Rw w1 vb (fcs [f]).toArray := by rw [← hw1]; exact (setRow_other w.drew b vb cur1 hne).trans hf
  have hcq := fun ty => run_copyF w1 ty b (i * 12) (gs.length + 1 - i) (cap - i) ⟨vb, 0, none⟩ 1 1 1 cur1 _ (fcs [f]) hR1 (by show min _ _ = _; omega) rfl (fun j u hu => by rw [add0]; exact hf1.cell (by simpa using hu)) (by rw [fcs_len, D2]; simp; omega) (fcs_one _)
  have HW := Lib.hid hw1
  have HR1 := Lib.hid hR1
  have HB := Lib.hid hbB
  have HM := Lib.hid hm
  have HC := Lib.hid hc
  clear hw1 hR1 hcur1 D2 hs hm hbB hR hf hf1 hne
  unfold InsOk
  generalize gs.take i ++ f :: gs.drop i = GS at *
  generalize gs.length = n at *
  generalize fcs [f] = FF at *
  have g0 : ¬ ((i : Int) = (n : Int)) := by omega
  have g1 : ¬ ((cap : Int) < (n : Int) + 1) := by omega
  have g2 : IntKind.i64.wrap ((i : Int) + 1) = (i : Int) + 1 := IntWalk.i64_in _ (by omega)
  have g3 : IntKind.i64.wrap ((n : Int) + 1) = (n : Int) + 1 := IntWalk.i64_in _ (by omega)
  go_enter Tryz.func78, Tryz.ntmps78
  go_wp2_with (simp only [hov])
  refine wp_region_held_drew (S := fun _ => True) (by kernel_rfl) (trivial) (fun hHeld => ?_)
  refine takeH (i := 0) (v := .slice (some ⟨b, 0, none⟩) (n + 1) cap) rfl (by kernel_rfl) (by kernel_rfl) (by kernel_rfl) (fun _ _ _ h => h) (Or.inl ⟨by rfl, fun w hSw => ?_⟩) hHeld ?_
  · (clear hSw; go_simp)
  simp only [Act.put, List.setIfInBounds_toArray, List.set_cons_zero, List.set_cons_succ]
  refine takeH (i := 1) (v := .int .i64 i) rfl (by kernel_rfl) (by kernel_rfl) (by kernel_rfl) (fun _ _ _ h => h) (Or.inl ⟨by rfl, fun w hSw => ?_⟩) hHeld ?_
  · (clear hSw; go_simp)
  simp only [Act.put, List.setIfInBounds_toArray, List.set_cons_zero, List.set_cons_succ]
  refine takeH (i := 2) (v := .int .i64 1) rfl (by kernel_rfl) (by kernel_rfl) (by kernel_rfl) (fun _ _ _ h => h) (Or.inl ⟨by rfl, fun w hSw => ?_⟩) hHeld ?_
  · (clear hSw; go_simp)
  simp only [Act.put, List.setIfInBounds_toArray, List.set_cons_zero, List.set_cons_succ]
  refine takeH (i := 3) (v := .int .i64 ((i : Int) + 1)) rfl (by kernel_rfl) (by kernel_rfl) (by kernel_rfl) (fun _ _ _ h => h) (Or.inl ⟨by rfl, fun w hSw => ?_⟩) hHeld ?_
  · (clear hSw; go_simp)
  simp only [Act.put, List.setIfInBounds_toArray, List.set_cons_zero, List.set_cons_succ]
  refine takeH (i := 4) (v := .slice (some ⟨b, (i + 1) * 12, none⟩) (n + 1 - (i + 1)) (cap - (i + 1))) rfl (by kernel_rfl) (by kernel_rfl) (by kernel_rfl) (fun _ _ _ h => h) (Or.inl ⟨by rfl, fun w hSw => ?_⟩) hHeld ?_
  · (clear hSw; go_simp)
  simp only [Act.put, List.setIfInBounds_toArray, List.set_cons_zero, List.set_cons_succ]
  refine takeH (i := 5) (v := .slice (some ⟨b, 0, none⟩) (n + 1) cap) rfl (by kernel_rfl) (by kernel_rfl) (by kernel_rfl) (fun _ _ _ h => h) (Or.inl ⟨by rfl, fun w hSw => ?_⟩) hHeld ?_
  · (clear hSw; go_simp)
  simp only [Act.put, List.setIfInBounds_toArray, List.set_cons_zero, List.set_cons_succ]
  refine takeH (i := 6) (v := .int .i64 i) rfl (by kernel_rfl) (by kernel_rfl) (by kernel_rfl) (fun _ _ _ h => h) (Or.inl ⟨by rfl, fun w hSw => ?_⟩) hHeld ?_
  · (clear hSw; go_simp)
  simp only [Act.put, List.setIfInBounds_toArray, List.set_cons_zero, List.set_cons_succ]
  refine takeH (i := 7) (v := .slice (some ⟨b, i * 12, none⟩) (n + 1 - i) (cap - i)) rfl (by kernel_rfl) (by kernel_rfl) (by kernel_rfl) (fun _ _ _ h => h) (Or.inl ⟨by rfl, fun w hSw => ?_⟩) hHeld ?_
  · (clear hSw; go_simp)
  simp only [Act.put, List.setIfInBounds_toArray, List.set_cons_zero, List.set_cons_succ]
  refine wpAnyH_ready (rs := [8]) (by kernel_rfl) (by simp) ?_
  refine AllReadyH.cons rfl (fun K hK => ?_) AllReadyH.nil
  refine step_copy_run (by rfl) (.tmp 73) (.tmp 76) 22 22 (by rfl) _ _ (by rfl) (by rfl) (hcp _) ?_
  clear hHeld
  refine hK.out _ _ trivial (fun hHeld => ?_)
  clear hK K
  simp only [Act.put, List.setIfInBounds_toArray, List.set_cons_zero, List.set_cons_succ]
  refine wpAnyH_done (by kernel_rfl) ?_ _
  clear hHeld
  go_wp2_with (first | (at_builtin; refine wpl_copy_run _ (by rfl) _ _ _ _ rfl _ _ rfl rfl (hcq _) ?_) | fail)
  go_wp2
  go_ret
  refine ⟨_, rfl, ?_, ?_, .inl rfl⟩
  · exact Fown.mk_ HB.out (HR1.out.set _) HL.out HC.out HM.out HD3.out HD1.out
  · rw [← HW.out, setRow_setRow]
    exact gundrew (grown_set w.drew b _)
end Go.Proofs.YtalpbnfebcafgaaGreat

/- The contract of slices.Insert of one frame into a row of the call's own that has no room; and of all. -/
namespace Go.Proofs.YtalpbnfebcafgaaGreat
set_option maxRecDepth 20000
open Go.RowKit
set_option linter.unusedSimpArgs false

theorem zeros_size (k : Nat) : (Builtin.zeroCells Fr.zero.val.cells k).size = k * 12 := by rw [size_zeroCells]; rfl
/-- append of a make onto a beginning of a row that has no room. -/
theorem run_appendF_zeros (w : World) (ty : TypeId) (b i n cap : Nat) (cur : Array Value) (gs : List Fr) (hR : Rw w b cur) (ht : cur.toList.take (gs.length * 12) = fcs gs) (hgn : gs.length = n) (hi : i < n) (hcap : cap < n + 1) (hn : n ≤ 1000) (x : Int) (hx : x = ((n + 1 - i : Nat) : Int)) :
    ∃ gc cur0, (Builtin.append_ #[22, 3] ty #[.slice (some ⟨b, 0, none⟩) i cap, .int .i64 x]).run Tryz.prog w = .ok (.slice (some ⟨w.heap.size, 0, none⟩) (n + 1) gc) (w.drew.alloc (.cells cur0 31)) ∧
      n + 1 ≤ gc ∧ gc ≤ maxLen ∧ cur0.size = gc * 12 ∧ cur0.toList.take (i * 12) = fcs (gs.take i) := by
  subst hx
  obtain ⟨ti, hti, hz, hsz, hby⟩ := info28
  have hl : (fcs (gs.take i)).length = i * 12 := by rw [fcs_len, List.length_take, hgn, Nat.min_eq_left (by omega)]
  have hold : (Builtin.firstCells ti.size i (.slice (some ⟨b, 0, none⟩) i cap)).run Tryz.prog w.drew = .ok (fcs (gs.take i)).toArray w.drew := by
    rw [hsz]
    refine run_firstCells_some (P := Tryz.prog) w.drew 12 i ⟨b, 0, none⟩ i cap _ hl fun j v hj => ?_
    rw [add0]
    refine Rw.cell (w := w.drew) hR ?_
    have hjl := (List.getElem?_eq_some_iff.1 hj).1
    rw [hl] at hjl
    rw [fcs_take, ← ht, List.take_take, Nat.min_eq_left (by omega), List.getElem?_take, if_pos hjl] at hj
    simpa using hj
  have e : i + (n + 1 - i) = n + 1 := by omega
  have hrun := Lib.run_append_grow_zeros (P := Tryz.prog) w 22 3 ty 31 ti Fr.zero.val .i64 .i64 Tryz.underlying22 Tryz.underlying3 hti hz (some ⟨b, 0, none⟩) i cap (fcs (gs.take i)) hold (n + 1 - i) (by omega) (by rw [hsz]; omega) (by omega) (by omega) (by rw [hby]; omega) (by rw [hby]; exact growslice_fits (by omega) (by omega))
  rw [e] at hrun
  have hg := grownCap_ge w (n + 1) cap 31
  refine ⟨_, _, hrun, hg, grownCap_le_maxLen w _ _ _ (by unfold maxLen; omega), ?_, ?_⟩
  · rw [Array.size_append, Array.size_append, zeros_size, zeros_size, List.size_toArray, hl]
    omega
  · rw [Array.toList_append, Array.toList_append, List.append_assoc, ← hl, List.take_left]

set_option maxHeartbeats 1600000 in
set_option maxRecDepth 100000 in
theorem insert_grow {w : World} {B b i cap vb : Nat} {cur : Array Value} {gs : List Fr} {f : Fr} (hi : i < gs.length) (hn : gs.length ≤ 1000) (hBw : B ≤ w.heap.size) (hR : Rw w b cur) (hc : gs.length ≤ cap) (hcap : cap < gs.length + 1) (ht : cur.toList.take (gs.length * 12) = fcs gs)
    (hf : Rw w vb (fcs [f]).toArray) :
    Calls Tryz.prog 78 #[.slice (some ⟨b, 0, none⟩) gs.length cap, .int .i64 i, .slice (some ⟨vb, 0, none⟩) 1 1] w (InsOk w B (.slice (some ⟨b, 0, none⟩) gs.length cap) gs f i) := by
  obtain ⟨gc, cur0, h0⟩ : ∃ gc cur0, (∀ ty, (Builtin.append_ #[22, 3] ty #[.slice (some ⟨b, 0, none⟩) i cap, .int .i64 ((gs.length : Int) + 1 - (i : Int))]).run Tryz.prog w = .ok (.slice (some ⟨w.heap.size, 0, none⟩) (gs.length + 1) gc) (w.drew.alloc (.cells cur0 31))) ∧
      gs.length + 1 ≤ gc ∧ gc ≤ maxLen ∧ cur0.size = gc * 12 ∧ cur0.toList.take (i * 12) = fcs (gs.take i) := by
    obtain ⟨gc, cur0, h1, h2⟩ := run_appendF_zeros w 0 b i gs.length cap cur gs hR ht rfl hi hcap hn ((gs.length : Int) + 1 - (i : Int)) (by omega)
    exact ⟨gc, cur0, fun ty => h1, h2⟩
  obtain ⟨happ, hgc, hgm, hgs, hgt⟩ := h0
  obtain ⟨D1, D2, D3⟩ := ins_grow (f := f) hi hgs hgc hgt
  have HD1 := Lib.hid D1; have HD3 := Lib.hid D3
  have HL := Lib.hid (ins_len gs f i (by omega))
  obtain ⟨y1, y2⟩ := sF_to2 b gs.length cap i (by omega) (i : Int) rfl
  obtain ⟨z1, z2⟩ := sF_from2 w.heap.size (gs.length + 1) gc (i + 1) (by omega) (by omega) ((i : Int) + 1) (by simp)
  obtain ⟨u1, u2⟩ := sF_from2 w.heap.size (gs.length + 1) gc i (by omega) (by omega) (i : Int) rfl
  obtain ⟨t1, t2⟩ := sF_from2 b gs.length cap i (by omega) (by omega) (i : Int) rfl
  have hbw := hR.lt
  have hvw := hf.lt
  obtain ⟨w1, hw1⟩ : ∃ w1, w.drew.alloc (.cells cur0 31) = w1 := ⟨_, rfl⟩
  rw [hw1] at happ
  have hR1 : Rw w1 w.heap.size cur0 := by rw [← hw1]; exact heap_alloc_new w.drew _
  have hRb : Rw w1 b cur := by rw [← hw1]; exact (heap_alloc_old w.drew _ (r := b) hbw).trans hR
  have hf1 : Rw w1 vb (fcs [f]).toArray := by rw [← hw1]; exact (heap_alloc_old w.drew _ (r := vb) hvw).trans hf
  have hcp := fun ty => run_copyF w1 ty w.heap.size (i * 12) (gs.length + 1 - i) (gc - i) ⟨vb, 0, none⟩ 1 1 1 cur0 _ (fcs [f]) hR1 (by show min _ _ = _; omega) rfl (fun j u hu => by rw [add0]; exact hf1.cell (by simpa using hu)) (by rw [fcs_len, hgs]; simp; omega) (fcs_one _)
  obtain ⟨cur1, hcur1⟩ : ∃ c, laid cur0 (i * 12) (fcs [f]) = c := ⟨_, rfl⟩
  rw [hcur1] at hcp HD1 HD3 D2
  obtain ⟨w2, hw2⟩ : ∃ w2, w1.setRow w.heap.size cur1 = w2 := ⟨_, rfl⟩
  rw [hw2] at hcp
  have hR2 : Rw w2 w.heap.size cur1 := by rw [← hw2]; exact Rw.set hR1 cur1
  have hRb2 : Rw w2 b cur := by rw [← hw2]; exact (setRow_other w1 w.heap.size b cur1 (by omega)).trans hRb
  have hsrc : ∀ j u, (fcs (gs.drop i))[j]? = some u → w2.drew.cell? ((⟨b, i * 12, none⟩ : Addr).add j) = some u := by
    intro j u hu
    rw [Addr.add_lit]
    refine Rw.cell (w := w2.drew) hRb2 ?_
    have hj : j < (gs.length - i) * 12 := by
      have := (List.getElem?_eq_some_iff.1 hu).1
      rwa [fcs_len, List.length_drop] at this
    rw [fcs_drop, List.getElem?_drop, ← ht, List.getElem?_take, if_pos (by omega)] at hu
    simpa using hu
  have hcq := fun ty => run_copyF w2.drew ty w.heap.size ((i + 1) * 12) (gs.length + 1 - (i + 1)) (gc - (i + 1)) ⟨b, i * 12, none⟩ (gs.length - i) (cap - i) (gs.length - i) cur1 _ (fcs (gs.drop i)) hR2 (by show min _ _ = _; omega) (by rw [fcs_len, List.length_drop]) hsrc (by rw [fcs_len, List.length_drop, D2]; omega) (fcs_one _)
  have HG := Lib.hid (show ∀ c, w.grownBy (w2.drew.setRow w.heap.size c) (some b) from fun c => by
    refine ⟨?_, ?_, ?_, ?_, fun k hk _ => ?_⟩
    · rw [← hw2, ← hw1]; rfl
    · rw [← hw2, ← hw1]; rfl
    · rw [← hw2, ← hw1]; rfl
    · rw [← hw2, ← hw1]; simp
    · rw [setRow_other _ _ _ _ (by omega)]
      show w2.heap[k]? = _
      rw [← hw2, setRow_other _ _ _ _ (by omega), ← hw1]
      exact heap_alloc_old w.drew _ (r := k) hk)
  have HR2 := Lib.hid hR2
  have HB := Lib.hid hBw
  have HM := Lib.hid hgm
  have HC := Lib.hid hgc
  have hgi : i < gc := by omega
  have hgi1 : i + 1 < gc := by omega
  clear hsrc D1 D2 D3 ht hw1 hw2 hR1 hRb hf1 hR2 hRb2 hcur1 hgm hgs hgt hBw hR hf hbw hvw
  unfold InsOk
  generalize gs.take i ++ f :: gs.drop i = GS at *
  generalize gs.length = n at *
  generalize fcs [f] = FF at *
  obtain ⟨G, hG⟩ : ∃ G, w.heap.size = G := ⟨_, rfl⟩
  have HGG := Lib.hid hG
  rw [hG] at z1 z2 u1 u2 happ hcp hcq HG HR2 HB
  clear hG
  have g0 : ¬ ((i : Int) = (n : Int)) := by omega
  have g1 : (cap : Int) < (n : Int) + 1 := by omega
  have g2 : IntKind.i64.wrap ((i : Int) + 1) = (i : Int) + 1 := IntWalk.i64_in _ (by omega)
  have g3 : IntKind.i64.wrap ((n : Int) + 1) = (n : Int) + 1 := IntWalk.i64_in _ (by omega)
  have g4 : IntKind.i64.wrap ((n : Int) + 1 - (i : Int)) = (n : Int) + 1 - (i : Int) := IntWalk.i64_in _ (by omega)
  go_enter Tryz.func78, Tryz.ntmps78
  go_wp2_with (first
    | (at_builtin; refine Lib.wpList_append_run _ (by rfl) _ _ _ _ rfl _ _ rfl rfl _ _ (happ _) ?_)
    | (at_builtin; refine wpl_copy_run _ (by rfl) _ _ _ _ rfl _ _ rfl rfl (hcp _) ?_)
    | fail)
  refine wp_region_held_drew (S := fun _ => True) (by kernel_rfl) (trivial) (fun hHeld => ?_)
  refine takeH (i := 0) (v := .slice (some ⟨G, 0, none⟩) (n + 1) gc) rfl (by kernel_rfl) (by kernel_rfl) (by kernel_rfl) (fun _ _ _ h => h) (Or.inl ⟨by rfl, fun w hSw => ?_⟩) hHeld ?_
  · (clear hSw; go_simp)
  simp only [Act.put, List.setIfInBounds_toArray, List.set_cons_zero, List.set_cons_succ]
  refine takeH (i := 1) (v := .int .i64 i) rfl (by kernel_rfl) (by kernel_rfl) (by kernel_rfl) (fun _ _ _ h => h) (Or.inl ⟨by rfl, fun w hSw => ?_⟩) hHeld ?_
  · (clear hSw; go_simp)
  simp only [Act.put, List.setIfInBounds_toArray, List.set_cons_zero, List.set_cons_succ]
  refine takeH (i := 2) (v := .int .i64 1) rfl (by kernel_rfl) (by kernel_rfl) (by kernel_rfl) (fun _ _ _ h => h) (Or.inl ⟨by rfl, fun w hSw => ?_⟩) hHeld ?_
  · (clear hSw; go_simp)
  simp only [Act.put, List.setIfInBounds_toArray, List.set_cons_zero, List.set_cons_succ]
  refine takeH (i := 3) (v := .int .i64 ((i : Int) + 1)) rfl (by kernel_rfl) (by kernel_rfl) (by kernel_rfl) (fun _ _ _ h => h) (Or.inl ⟨by rfl, fun w hSw => ?_⟩) hHeld ?_
  · (clear hSw; go_simp)
  simp only [Act.put, List.setIfInBounds_toArray, List.set_cons_zero, List.set_cons_succ]
  refine takeH (i := 4) (v := .slice (some ⟨G, (i + 1) * 12, none⟩) (n + 1 - (i + 1)) (gc - (i + 1))) rfl (by kernel_rfl) (by kernel_rfl) (by kernel_rfl) (fun _ _ _ h => h) (Or.inl ⟨by rfl, fun w hSw => ?_⟩) hHeld ?_
  · (clear hSw; go_simp)
  simp only [Act.put, List.setIfInBounds_toArray, List.set_cons_zero, List.set_cons_succ]
  refine takeH (i := 5) (v := .slice (some ⟨b, 0, none⟩) n cap) rfl (by kernel_rfl) (by kernel_rfl) (by kernel_rfl) (fun _ _ _ h => h) (Or.inl ⟨by rfl, fun w hSw => ?_⟩) hHeld ?_
  · (clear hSw; go_simp)
  simp only [Act.put, List.setIfInBounds_toArray, List.set_cons_zero, List.set_cons_succ]
  refine takeH (i := 6) (v := .int .i64 i) rfl (by kernel_rfl) (by kernel_rfl) (by kernel_rfl) (fun _ _ _ h => h) (Or.inl ⟨by rfl, fun w hSw => ?_⟩) hHeld ?_
  · (clear hSw; go_simp)
  simp only [Act.put, List.setIfInBounds_toArray, List.set_cons_zero, List.set_cons_succ]
  refine takeH (i := 7) (v := .slice (some ⟨b, i * 12, none⟩) (n - i) (cap - i)) rfl (by kernel_rfl) (by kernel_rfl) (by kernel_rfl) (fun _ _ _ h => h) (Or.inl ⟨by rfl, fun w hSw => ?_⟩) hHeld ?_
  · (clear hSw; go_simp)
  simp only [Act.put, List.setIfInBounds_toArray, List.set_cons_zero, List.set_cons_succ]
  refine wpAnyH_ready (rs := [8]) (by kernel_rfl) (by simp) ?_
  refine AllReadyH.cons rfl (fun K hK => ?_) AllReadyH.nil
  refine step_copy_run (by rfl) (.tmp 50) (.tmp 53) 22 22 (by rfl) _ _ (by rfl) (by rfl) (hcq _) ?_
  clear hHeld
  refine hK.out _ _ trivial (fun hHeld => ?_)
  clear hK K
  simp only [Act.put, List.setIfInBounds_toArray, List.set_cons_zero, List.set_cons_succ]
  refine wpAnyH_done (by kernel_rfl) ?_ _
  clear hHeld
  go_wp2
  go_ret
  refine ⟨_, rfl, ?_, HG.out _, .inr ?_⟩
  · exact Fown.mk_ HB.out (HR2.out.set _) HL.out HC.out HM.out HD3.out HD1.out
  · show some G = _
    rw [HGG.out]

/-- All ways together. -/
theorem insert_any {w : World} {B i : Nat} {v : Value} {gs : List Fr} {f : Fr} {vb : Nat} (h : Fown w B v gs) (hi : i ≤ gs.length) (hn : gs.length ≤ 1000) (hB : B ≤ w.heap.size) (hf : Rw w vb (fcs [f]).toArray) (hne : v.ownBlock ≠ some vb) :
    Calls Tryz.prog 78 #[v, .int .i64 i, .slice (some ⟨vb, 0, none⟩) 1 1] w (InsOk w B v gs f i) := by
  rcases Nat.lt_or_ge i gs.length with hlt | hge
  · obtain ⟨b, cap, cur, rfl, hbB, hR, hc, hm, hs, ht⟩ := h.open_ (by intro e; rw [e] at hlt; simp at hlt)
    rcases Nat.lt_or_ge cap (gs.length + 1) with hcap | hcap
    · exact insert_grow hlt hn hB hR hc hcap ht hf
    · exact insert_room hlt hn hbB hR hcap hm hs ht hf (fun e => hne (by rw [e]; rfl))
  · obtain rfl : i = gs.length := by omega
    exact insert_end h hn hB hf
end Go.Proofs.YtalpbnfebcafgaaGreat

/- The contracts of insert's closure, and of sort.Search with it. -/
namespace Go.Proofs.YtalpbnfebcafgaaGreat
set_option maxRecDepth 20000
open Go.RowKit
set_option linter.unusedSimpArgs false

/-- What insert's closure sees: the frame in block gf, the row's place in block gr, the row's frames. -/
structure Sees9 (w : World) (gf gr g : Nat) (f : Fr) (A : Option Addr) (n c : Nat) (m : Int) (fs : Nat → Fr) : Prop where
  fr : Fb w gf f
  rw_ : w.heap[gr]? = some (.cells #[.pointer (some ⟨g, 0, none⟩)] 139)
  q : Qb w g (.slice A n c) m
  fl : Fl w A n fs
section
variable {w w' : World} {gf gr g : Nat} {f : Fr} {A : Option Addr} {n c : Nat} {m : Int} {fs : Nat → Fr}
theorem Sees9.below (h : Sees9 w gf gr g f A n c m fs) (hb : Below w.heap.size w w') : Sees9 w' gf gr g f A n c m fs :=
  ⟨h.fr.below hb h.fr.lt, (hb.block gr (Array.getElem?_eq_some_iff.1 h.rw_).1).trans h.rw_, h.q.next hb, h.fl.below hb⟩
theorem Sees9.drew (h : Sees9 w gf gr g f A n c m fs) : Sees9 w.drew gf gr g f A n c m fs := ⟨h.fr, h.rw_, h.q, h.fl⟩
end

set_option maxHeartbeats 1600000 in
set_option maxRecDepth 100000 in
theorem closure_any {w : World} {gf gr g : Nat} {f : Fr} {A : Option Addr} {n c : Nat} {m : Int} {fs : Nat → Fr} {k : Nat} (h : Sees9 w gf gr g f A n c m fs) (hk : k < n) (hf : f.may = true) (hm : (fs k).may = true) :
    Calls Tryz.prog 77 #[.int .i64 k, .pointer (some ⟨gf, 0, none⟩), .pointer (some ⟨gr, 0, none⟩)] w fun e w' => e = .returned (.bool (decide (f.plc < (fs k).plc))) ∧ Below w.heap.size w w' := by
  have HF := Lib.hid hf; have HM := Lib.hid hm
  obtain ⟨c0, c1, c2, c3, c4, c5, c6, c7, c8, c9, c10, c11⟩ := h.fr.bx
  have r0 : w.cell? ⟨gr, 0, none⟩ = some (.pointer (some ⟨g, 0, none⟩)) := cell_of_row w gr 0 _ _ (0, 0) h.rw_
  have q0 := h.q.row
  obtain ⟨ad, rfl, hl, d0, d1, d2, d3, d4, d5, d6, d7, d8, d9, d10, d11⟩ := h.fl.at_ hk
  have hlt' : (k : Int) < (n : Int) := by omega
  clear h hf hm
  go_enter Tryz.func77, Tryz.ntmps77
  go_wp2_with fail
  go_still_tail 8, (by kernel_rfl)
  go_wp2_with fail
  refine (less_yes f (fs k) _ HF.out HM.out).mono ?_
  rintro e w1 ⟨rfl, hb1⟩
  go_wp2
  go_ret
  exact ⟨rfl, undrew hb1⟩

set_option maxHeartbeats 1600000 in
set_option maxRecDepth 100000 in
theorem search_any {w : World} {gf gr g : Nat} {f : Fr} {A : Option Addr} {n c : Nat} {m : Int} {fs : Nat → Fr} (h : Sees9 w gf gr g f A n c m fs) (hf : f.may = true) (hm : ∀ k, k < n → (fs k).may = true) (hup : ∀ a b, a ≤ b → b < n → (fs a).plc ≤ (fs b).plc) (hn : n ≤ 1000) :
    Calls Tryz.prog 76 #[.int .i64 n, .func (.func 77) #[] #[.pointer (some ⟨gf, 0, none⟩), .pointer (some ⟨gr, 0, none⟩)]] w fun e w' => ∃ r : Nat, e = .returned (.int .i64 r) ∧ r ≤ n ∧ (∀ j, j < r → (fs j).plc ≤ f.plc) ∧ (∀ j, r ≤ j → j < n → f.plc < (fs j).plc) ∧ Below w.heap.size w w' := by
  have HS := Lib.hid h
  have HF := Lib.hid hf; have HM := Lib.hid hm; have HU := Lib.hid hup
  clear h hf hm hup
  go_enter Tryz.func76, Tryz.ntmps76
  go_wp2
  go_loopw [5, 6] (fun vi vj wr => ∃ i j : Nat, i ≤ j ∧ j ≤ n ∧ vi = .int .i64 i ∧ vj = .int .i64 j ∧ (∀ a, a < i → (fs a).plc ≤ f.plc) ∧ (∀ a, j ≤ a → a < n → f.plc < (fs a).plc) ∧ Below w.heap.size w wr) (fun vi vj _ => (intOf vj).toNat - (intOf vi).toNat)
  case atStart => exact ⟨0, n, Nat.zero_le _, Nat.le_refl _, rfl, rfl, fun a ha => by omega, fun a h1 h2 => by omega, Below.refl _ _⟩
  case round =>
    obtain ⟨i, j, hij, hj, rfl, rfl, hlo, hhi, hb⟩ := hrel
    have HLO := Lib.hid hlo; have HHI := Lib.hid hhi; have HB := Lib.hid hb
    clear hlo hhi hb
    by_cases hlt : i < j
    · have hlt' : (i : Int) < (j : Int) := by omega
      obtain ⟨mid, hmid⟩ : ∃ mid, (i + j) / 2 = mid := ⟨_, rfl⟩
      have hm1 : i ≤ mid := by omega
      have hm2 : mid < j := by omega
      have hme : ((i : Int) + (j : Int)) / 2 = (mid : Int) := by omega
      cases hd : decide (f.plc < (fs mid).plc)
      · have HD := Lib.hid hd
        clear hd hmid
        go_wp2_with fail
        refine (closure_any (HS.out.below HB.out) (show mid < n by omega) HF.out (HM.out mid (by omega))).mono ?_
        rintro e w1 ⟨rfl, hb1⟩
        rw [HD.out]
        have HB1 := Lib.hid (nxt HB.out hb1)
        clear hb1
        go_wp2
        go_roundw
        case rel => exact ⟨mid + 1, j, by omega, hj, by go_num, rfl, fun a ha => by
          have h1 := HU.out a mid (by omega) (by omega)
          have h2 : ¬ f.plc < (fs mid).plc := by simpa using HD.out
          omega, HHI.out, HB1.out⟩
        case measure => simp [intOf]; omega
      · have HD := Lib.hid hd
        clear hd hmid
        go_wp2_with fail
        refine (closure_any (HS.out.below HB.out) (show mid < n by omega) HF.out (HM.out mid (by omega))).mono ?_
        rintro e w1 ⟨rfl, hb1⟩
        rw [HD.out]
        have HB1 := Lib.hid (nxt HB.out hb1)
        clear hb1
        go_wp2
        go_roundw
        case rel => exact ⟨i, mid, by omega, by omega, rfl, rfl, HLO.out, fun a h1 h2 => by
          have h3 := HU.out mid a h1 h2
          have h4 : f.plc < (fs mid).plc := by simpa using HD.out
          omega, HB1.out⟩
        case measure => simp [intOf]; omega
    · have hge : ¬ ((i : Int) < (j : Int)) := by omega
      go_wp2
      go_ret
      exact ⟨i, rfl, by omega, HLO.out, fun a h1 h2 => HHI.out a (by omega) h2, HB.out⟩
end Go.Proofs.YtalpbnfebcafgaaGreat

/- The contract of insert. -/
namespace Go.Proofs.YtalpbnfebcafgaaGreat
set_option maxRecDepth 20000
open Go.RowKit
set_option linter.unusedSimpArgs false

theorem Fown.setq {w : World} {B g : Nat} {u x : Value} {gs : List Fr} (h : Fown w B u gs) (hne : u.ownBlock ≠ some g) (k : Nat) : Fown (w.setCell ⟨g, k, none⟩ x) B u gs := by
  have hg : w.grownBy (w.setCell ⟨g, k, none⟩ x) (some g) := ⟨rfl, rfl, rfl, by simp [World.setCell], fun j _ hj => Below.heap_setCell w ⟨g, k, none⟩ x j (fun e => hj (by rw [e]))⟩
  exact World.ownsRow.kept h hg (.inr hne)
theorem Fown.lt2 {w : World} {B : Nat} {v : Value} {gs : List Fr} (h : Fown w B v gs) : ∀ k, v.ownBlock = some k → k < w.heap.size := fun k hk => (World.ownsRow.lt h k hk).2
/-- What insert's region sees beside the queue. -/
def Side9 (w : World) (gf gr g : Nat) (f : Fr) : Prop := Fb w gf f ∧ w.heap[gr]? = some (.cells #[.pointer (some ⟨g, 0, none⟩)] 139)
theorem Side9.keep {w w' : World} {gf gr g : Nat} {f : Fr} (h : Side9 w gf gr g f) (h1 : w'.heap[gf]? = w.heap[gf]?) (h2 : w'.heap[gr]? = w.heap[gr]?) : Side9 w' gf gr g f := ⟨h1.trans h.1, h2.trans h.2⟩
theorem Side9.lt {w : World} {gf gr g : Nat} {f : Fr} (h : Side9 w gf gr g f) : gf < w.heap.size ∧ gr < w.heap.size := ⟨h.1.lt, (Array.getElem?_eq_some_iff.1 h.2).1⟩
theorem Side9.alloc {w : World} {gf gr g : Nat} {f : Fr} (h : Side9 w gf gr g f) (o : Obj) : Side9 (w.alloc o) gf gr g f := h.keep (heap_alloc_old w o (r := gf) h.lt.1) (heap_alloc_old w o (r := gr) h.lt.2)

/-- Behind the last store. -/
theorem insert_last {w w3 w5 : World} {B g : Nat} {v u : Value} {m : Int} {gs ys : List Fr} {o : Obj} (hq : Que w B g v m gs) (hb3 : Below w.heap.size w w3) (hU : Fown w5 B u ys) (hG : (w3.alloc o).drew.grownBy w5 v.ownBlock) (hL : Lies (w3.alloc o).drew v u) :
    Que (w5.setCell ⟨g, 0, none⟩ u) B g u m ys ∧ Turn g v u w (w5.setCell ⟨g, 0, none⟩ u) := by
  have hgl := hq.lt
  have hsz : (w3.alloc o).drew.heap.size = w3.heap.size + 1 := by show (w3.alloc o).heap.size = _; simp
  have hle := hb3.size
  have hq5 : Qb w5 g v m := by
    refine (hG.block g (by omega) fun e => hq.own.notq hq.q e.symm).trans ?_
    refine (heap_alloc_old w3 o (r := g) (by omega)).trans ?_
    exact (hb3.block g hgl).trans hq.q
  have hnu := hU.notq hq5
  refine ⟨⟨hq5.put u, hU.setq hnu 0, hq.at_⟩, ⟨hG.os.trans hb3.os, hG.tape.trans hb3.tape, hG.output.trans hb3.output, ?_, fun k hk hne hkv => ?_, ?_⟩⟩
  · have h2 := hG.size
    have : (w5.setCell ⟨g, 0, none⟩ u).heap.size = w5.heap.size := by simp [World.setCell]
    omega
  · refine (Below.heap_setCell w5 ⟨g, 0, none⟩ u k hne).trans ?_
    refine (hG.block k (by omega) hkv).trans ?_
    refine (heap_alloc_old w3 o (r := k) (by omega)).trans ?_
    exact hb3.block k hk
  · rcases hL with e | e
    · exact .inl e
    · refine .inr fun k hk => ?_
      rw [e] at hk
      injection hk with hk
      omega

set_option maxHeartbeats 3200000 in
set_option maxRecDepth 100000 in
theorem insert_q {w : World} {B g : Nat} {v : Value} {m : Int} {gs : List Fr} {f : Fr} (hq : Que w B g v m gs) (hok : Okq gs) (hf : f.may = true) (hn : gs.length ≤ 1000) (hB : B ≤ w.heap.size) :
    Calls Tryz.prog 64 #[.pointer (some ⟨g, 0, none⟩), f.val] w fun e w' => ∃ u, e = .returned (.tuple #[]) ∧ Que w' B g u m (ins f gs) ∧ Turn g v u w w' := by
  obtain ⟨A, c, hv, hfl, hcap⟩ := hq.fl
  subst hv
  have hgl := hq.lt
  have hrl := hq.own.lt2
  have hbel2 : Below w.heap.size w ((w.alloc (.cells #[.pointer (some ⟨g, 0, none⟩)] 139)).alloc (.cells f.cells 31)) := alloc2 w _ _
  have HS2 := Lib.hid (show Sees9 ((w.alloc (.cells #[.pointer (some ⟨g, 0, none⟩)] 139)).alloc (.cells f.cells 31)) (w.heap.size + 1) w.heap.size g f A gs.length c m (fun j => gs.getD j Fr.zero) from
    ⟨by have := fb_new (w.alloc (.cells #[.pointer (some ⟨g, 0, none⟩)] 139)) f; simpa using this,
     (heap_alloc_old _ _ (by simp)).trans (heap_alloc_new w _), hq.q.next hbel2, hfl.below hbel2⟩)
  have HQ := Lib.hid hq; have HOK := Lib.hid hok; have HF := Lib.hid hf; have HN := Lib.hid hn; have HBW := Lib.hid hB; have HRL := Lib.hid hrl
  have HB2 := Lib.hid hbel2
  have HMAY := Lib.hid (show ∀ k, k < gs.length → (gs.getD k Fr.zero).may = true from fun k hk => by rw [getD_get hk]; exact hok.2 _ (List.getElem_mem hk))
  have HUP := Lib.hid (show ∀ a b, a ≤ b → b < gs.length → (gs.getD a Fr.zero).plc ≤ (gs.getD b Fr.zero).plc from fun a b h1 h2 => upq_get hok.1 h1 h2)
  have q2 := HS2.out.q.row
  have hmf : ∀ (fn : Fn) (first cap : Array Value) (w : World), (Instr.makeFunc fn first cap).run Tryz.prog w = .ok (.func fn first cap) w := fun _ _ _ _ => rfl
  clear hq hfl hok hf hn hB hbel2
  go_enter Tryz.func64, Tryz.ntmps64
  go_wp2_with fail
  refine (search_any HS2.out HF.out HMAY.out HUP.out HN.out).mono ?_
  rintro e w3 ⟨r, rfl, hr, hlo, hhi, hb3⟩
  have HI := Lib.hid (show ins f gs = gs.take r ++ f :: gs.drop r by unfold ins; rw [sits_of hr hlo hhi])
  have HS3 := Lib.hid (HS2.out.below hb3)
  have HB3 := Lib.hid (nxt HB2.out hb3)
  have HR := Lib.hid hr
  have hsz3 := hb3.size
  have HSZ := Lib.hid (show w.heap.size + 2 ≤ w3.heap.size by simp at hsz3; omega)
  clear hb3 hlo hhi hr q2 hsz3
  go_wp2_with fail
  refine wp_region_held_drew (S := fun w' => Side9 w' (w.heap.size + 1) w.heap.size g f) (by kernel_rfl) (show Side9 w3.drew _ _ _ _ from ⟨HS3.out.fr, HS3.out.rw_⟩) (fun hHeld => ?_)
  refine takeH (i := 0) (v := .pointer (some ⟨g, 0, none⟩)) rfl (by kernel_rfl) (by kernel_rfl) (by kernel_rfl) (fun _ _ _ h => h) (Or.inl ⟨by rfl, fun w' hSw => ?_⟩) hHeld ?_
  · (have r0 := cell_of_row _ _ 0 _ _ (0, 0) hSw.2; clear hSw; go_simp)
  simp only [Act.put, List.setIfInBounds_toArray, List.set_cons_zero, List.set_cons_succ]
  refine takeH (i := 1) (v := .pointer (some ⟨g, 0, none⟩)) rfl (by kernel_rfl) (by kernel_rfl) (by kernel_rfl) (fun _ _ _ h => h) (Or.inl ⟨by rfl, fun w' hSw => ?_⟩) hHeld ?_
  · (have r0 := cell_of_row _ _ 0 _ _ (0, 0) hSw.2; clear hSw; go_simp)
  simp only [Act.put, List.setIfInBounds_toArray, List.set_cons_zero, List.set_cons_succ]
  refine takeH (i := 2) (v := .pointer (some ⟨g, 0, none⟩)) rfl (by kernel_rfl) (by kernel_rfl) (by kernel_rfl) (fun _ _ _ h => h) (Or.inl ⟨by rfl, fun w' hSw => ?_⟩) hHeld ?_
  · (clear hSw; go_simp)
  simp only [Act.put, List.setIfInBounds_toArray, List.set_cons_zero, List.set_cons_succ]
  refine takeH (i := 3) (v := .pointer (some ⟨g, 0, none⟩)) rfl (by kernel_rfl) (by kernel_rfl) (by kernel_rfl) (fun _ _ _ h => h) (Or.inl ⟨by rfl, fun w' hSw => ?_⟩) hHeld ?_
  · (clear hSw; go_simp)
  simp only [Act.put, List.setIfInBounds_toArray, List.set_cons_zero, List.set_cons_succ]
  refine takeH (i := 5) (v := .int .i64 r) rfl (by kernel_rfl) (by kernel_rfl) (by kernel_rfl) (fun _ _ _ h => h) (Or.inl ⟨by rfl, fun w' hSw => ?_⟩) hHeld ?_
  · (clear hSw; go_simp)
  simp only [Act.put, List.setIfInBounds_toArray, List.set_cons_zero, List.set_cons_succ]
  refine takeH (i := 6) (v := f.val) rfl (by kernel_rfl) (by kernel_rfl) (by kernel_rfl) (fun _ _ _ h => h) (Or.inl ⟨by rfl, fun w' hSw => ?_⟩) hHeld ?_
  · (obtain ⟨c0, c1, c2, c3, c4, c5, c6, c7, c8, c9, c10, c11⟩ := hSw.1.bx; clear hSw; go_simp)
  simp only [Act.put, List.setIfInBounds_toArray, List.set_cons_zero, List.set_cons_succ]
  have q3 := HS3.out.drew.q.row
  refine wpAnyH_ready (rs := [4, 7]) (by kernel_rfl) (by simp) ?_
  have hW4 : (w3.alloc (.cells f.cells 31)).drew.heap.size = w3.heap.size + 1 := by show (w3.alloc _).heap.size = _; simp
  have HO4 := Lib.hid (show Fown (w3.alloc (.cells f.cells 31)).drew B (.slice A gs.length c) gs from Fown.drew (Fown.alloc (Fown.below HQ.out.own HB3.out) _))
  have HB4 := Lib.hid (show B ≤ (w3.alloc (.cells f.cells 31)).drew.heap.size by rw [hW4]; have := HBW.out; have := HSZ.out; omega)
  have HV4 := Lib.hid (show Rw (w3.alloc (.cells f.cells 31)).drew w3.heap.size (fcs [f]).toArray from by rw [fcs_one_]; exact heap_alloc_new w3 _)
  have HNE := Lib.hid (show (Value.slice A gs.length c).ownBlock ≠ some w3.heap.size from fun e => by have h1 := HRL.out _ e; have h2 := HSZ.out; omega)
  have HQ5 : ∀ w5 : World, (w3.alloc (.cells f.cells 31)).drew.grownBy w5 (Value.slice A gs.length c).ownBlock → Qb w5 g (.slice A gs.length c) m := fun w5 hG => by
    have h2 := HSZ.out
    refine (hG.block g (by rw [hW4]; omega) fun e => HQ.out.own.notq HQ.out.q e.symm).trans ?_
    refine (heap_alloc_old w3 _ (r := g) (by omega)).trans ?_
    exact (HB3.out.block g hgl).trans HQ.out.q
  refine AllReadyH.cons rfl (fun K hK => ?_) (AllReadyH.cons rfl (fun K hK => ?_) AllReadyH.nil)
  · go_simp
    refine hK.out _ _ hHeld (fun hHeld => ?_)
    clear hK K
    try simp only [Act.put, List.setIfInBounds_toArray, List.set_cons_zero, List.set_cons_succ]
    refine wpAnyH_ready (rs := [7]) (by kernel_rfl) (by simp) ?_
    refine AllReadyH.cons rfl (fun K hK => ?_) AllReadyH.nil
    go_simp
    refine hK.out _ _ (show Side9 (w3.alloc (.cells f.cells 31)) _ _ _ _ from Side9.alloc (w := w3) hHeld _) (fun hHeld => ?_)
    clear hK K
    try simp only [Act.put, List.setIfInBounds_toArray, List.set_cons_zero, List.set_cons_succ]
    have HSW := Lib.hid hHeld
    refine wpAnyH_ready (rs := [8]) (by kernel_rfl) (by simp) ?_
    refine AllReadyH.cons rfl (fun K hK => ?_) AllReadyH.nil
    go_simp
    refine (insert_any (f := f) (vb := w3.heap.size) (i := r) (gs := gs) (B := B) (v := .slice A gs.length c) HO4.out HR.out HN.out HB4.out HV4.out HNE.out).mono ?_
    rintro e w5 ⟨u, rfl, hu, hg5, hl5⟩
    rw [← HI.out] at hu
    have HU := Lib.hid hu; have HG5 := Lib.hid hg5; have HL5 := Lib.hid hl5
    clear hu hg5 hl5
    have HFIN := Lib.hid (insert_last HQ.out HB3.out HU.out HG5.out HL5.out)
    clear hHeld
    dsimp only
    refine hK.out _ _ (HSW.out.keep (HG5.out.block _ (by have := HSW.out.lt.1; omega) (fun e => by have := HRL.out _ e.symm; omega)) (HG5.out.block _ (by have := HSW.out.lt.2; omega) (fun e => by have := HRL.out _ e.symm; omega))) (fun hHeld => ?_)
    clear hK K
    try simp only [Act.put, List.setIfInBounds_toArray, List.set_cons_zero, List.set_cons_succ]
    obtain ⟨A5, n5, c5, rfl⟩ : ∃ A5 n5 c5, u = .slice A5 n5 c5 := by obtain ⟨A5, c5, e5, _⟩ := HU.out.fl; exact ⟨A5, _, c5, e5⟩
    have hq5 := HFIN.out.1.q
    have k5 : w5.cell? ⟨g, 0, none⟩ = some (.slice A gs.length c) := cell_of_row w5 g 0 _ _ (0, 0) (HQ5 w5 HG5.out)
    have f5 : w5.frozen? ⟨g, 0, none⟩ = false := (show Qb w5 g (.slice A gs.length c) m from HQ5 w5 HG5.out).frozen 0
    refine takeH (i := 9) (v := .pointer (some ⟨g, 0, none⟩)) rfl (by kernel_rfl) (by kernel_rfl) (by kernel_rfl) (fun _ _ _ h => h) (Or.inl ⟨by rfl, fun w' hSw => ?_⟩) hHeld ?_
    · (clear hSw; go_simp)
    simp only [Act.put, List.setIfInBounds_toArray, List.set_cons_zero, List.set_cons_succ]
    refine takeH (i := 10) (v := .pointer (some ⟨g, 0, none⟩)) rfl (by kernel_rfl) (by kernel_rfl) (by kernel_rfl) (fun _ _ _ h => h) (Or.inl ⟨by rfl, fun w' hSw => ?_⟩) hHeld ?_
    · (clear hSw; go_simp)
    simp only [Act.put, List.setIfInBounds_toArray, List.set_cons_zero, List.set_cons_succ]
    have HSV := Lib.hid hHeld
    refine wpAnyH_ready (rs := [11]) (by kernel_rfl) (by simp) ?_
    refine AllReadyH.cons rfl (fun K hK => ?_) AllReadyH.nil
    clear hHeld hq5
    go_simp
    refine hK.out _ _ (HSV.out.keep (Below.heap_setCell w5 ⟨g, 0, none⟩ _ _ (by show w.heap.size + 1 ≠ g; omega)) (Below.heap_setCell w5 ⟨g, 0, none⟩ _ _ (by show w.heap.size ≠ g; omega))) (fun hHeld => ?_)
    clear hK K
    try simp only [Act.put, List.setIfInBounds_toArray, List.set_cons_zero, List.set_cons_succ]
    refine wpAnyH_done (by kernel_rfl) ?_ _
    clear hHeld
    go_wp2
    go_end0
    exact ⟨_, rfl, HFIN.out.1, HFIN.out.2⟩
  · go_simp
    refine hK.out _ _ (show Side9 (w3.alloc (.cells f.cells 31)) _ _ _ _ from Side9.alloc (w := w3) hHeld _) (fun hHeld => ?_)
    clear hK K
    try simp only [Act.put, List.setIfInBounds_toArray, List.set_cons_zero, List.set_cons_succ]
    have q4 : (w3.alloc (.cells f.cells 31)).drew.cell? ⟨g, 0, none⟩ = some (.slice A gs.length c) := (World.cell?_alloc_some w3 _ _ (by rw [show w3.cell? _ = _ from q3]; rfl)).trans q3
    refine wpAnyH_ready (rs := [4]) (by kernel_rfl) (by simp) ?_
    refine AllReadyH.cons rfl (fun K hK => ?_) AllReadyH.nil
    go_simp
    refine hK.out _ _ hHeld (fun hHeld => ?_)
    clear hK K
    try simp only [Act.put, List.setIfInBounds_toArray, List.set_cons_zero, List.set_cons_succ]
    have HSW := Lib.hid hHeld
    refine wpAnyH_ready (rs := [8]) (by kernel_rfl) (by simp) ?_
    refine AllReadyH.cons rfl (fun K hK => ?_) AllReadyH.nil
    go_simp
    refine (insert_any (f := f) (vb := w3.heap.size) (i := r) (gs := gs) (B := B) (v := .slice A gs.length c) HO4.out HR.out HN.out HB4.out HV4.out HNE.out).mono ?_
    rintro e w5 ⟨u, rfl, hu, hg5, hl5⟩
    rw [← HI.out] at hu
    have HU := Lib.hid hu; have HG5 := Lib.hid hg5; have HL5 := Lib.hid hl5
    clear hu hg5 hl5
    have HFIN := Lib.hid (insert_last HQ.out HB3.out HU.out HG5.out HL5.out)
    clear hHeld
    dsimp only
    refine hK.out _ _ (HSW.out.keep (HG5.out.block _ (by have := HSW.out.lt.1; omega) (fun e => by have := HRL.out _ e.symm; omega)) (HG5.out.block _ (by have := HSW.out.lt.2; omega) (fun e => by have := HRL.out _ e.symm; omega))) (fun hHeld => ?_)
    clear hK K
    try simp only [Act.put, List.setIfInBounds_toArray, List.set_cons_zero, List.set_cons_succ]
    obtain ⟨A5, n5, c5, rfl⟩ : ∃ A5 n5 c5, u = .slice A5 n5 c5 := by obtain ⟨A5, c5, e5, _⟩ := HU.out.fl; exact ⟨A5, _, c5, e5⟩
    have hq5 := HFIN.out.1.q
    have k5 : w5.cell? ⟨g, 0, none⟩ = some (.slice A gs.length c) := cell_of_row w5 g 0 _ _ (0, 0) (HQ5 w5 HG5.out)
    have f5 : w5.frozen? ⟨g, 0, none⟩ = false := (show Qb w5 g (.slice A gs.length c) m from HQ5 w5 HG5.out).frozen 0
    refine takeH (i := 9) (v := .pointer (some ⟨g, 0, none⟩)) rfl (by kernel_rfl) (by kernel_rfl) (by kernel_rfl) (fun _ _ _ h => h) (Or.inl ⟨by rfl, fun w' hSw => ?_⟩) hHeld ?_
    · (clear hSw; go_simp)
    simp only [Act.put, List.setIfInBounds_toArray, List.set_cons_zero, List.set_cons_succ]
    refine takeH (i := 10) (v := .pointer (some ⟨g, 0, none⟩)) rfl (by kernel_rfl) (by kernel_rfl) (by kernel_rfl) (fun _ _ _ h => h) (Or.inl ⟨by rfl, fun w' hSw => ?_⟩) hHeld ?_
    · (clear hSw; go_simp)
    simp only [Act.put, List.setIfInBounds_toArray, List.set_cons_zero, List.set_cons_succ]
    have HSV := Lib.hid hHeld
    refine wpAnyH_ready (rs := [11]) (by kernel_rfl) (by simp) ?_
    refine AllReadyH.cons rfl (fun K hK => ?_) AllReadyH.nil
    clear hHeld hq5
    go_simp
    refine hK.out _ _ (HSV.out.keep (Below.heap_setCell w5 ⟨g, 0, none⟩ _ _ (by show w.heap.size + 1 ≠ g; omega)) (Below.heap_setCell w5 ⟨g, 0, none⟩ _ _ (by show w.heap.size ≠ g; omega))) (fun hHeld => ?_)
    clear hK K
    try simp only [Act.put, List.setIfInBounds_toArray, List.set_cons_zero, List.set_cons_succ]
    refine wpAnyH_done (by kernel_rfl) ?_ _
    clear hHeld
    go_wp2
    go_end0
    exact ⟨_, rfl, HFIN.out.1, HFIN.out.2⟩
end Go.Proofs.YtalpbnfebcafgaaGreat

/- The contracts of remove, Put and Drop. -/
namespace Go.Proofs.YtalpbnfebcafgaaGreat
set_option maxRecDepth 20000
open Go.RowKit
set_option linter.unusedSimpArgs false

/-- Behind remove's store. -/
theorem remove_last {w w1 w2 : World} {B g : Nat} {v u : Value} {m : Int} {gs ys : List Fr} (hq : Que w B g v m gs) (hb1 : Below w.heap.size w w1) (hU : Fown w2 B u ys) (hG : w1.grownBy w2 v.ownBlock) (hL : u.ownBlock = v.ownBlock) :
    Qb w2 g v m ∧ Que (w2.setCell ⟨g, 0, none⟩ u) B g u m ys ∧ Turn g v u w (w2.setCell ⟨g, 0, none⟩ u) := by
  have hgl := hq.lt
  have hle := hb1.size
  have hq2 : Qb w2 g v m := (hG.block g (by omega) fun e => hq.own.notq hq.q e.symm).trans ((hb1.block g hgl).trans hq.q)
  have hnu := hU.notq hq2
  refine ⟨hq2, ⟨hq2.put u, hU.setq hnu 0, hq.at_⟩, ⟨hG.os.trans hb1.os, hG.tape.trans hb1.tape, hG.output.trans hb1.output, ?_, fun k hk hne hkv => ?_, .inl hL⟩⟩
  · have h2 := hG.size
    have : (w2.setCell ⟨g, 0, none⟩ u).heap.size = w2.heap.size := by simp [World.setCell]
    omega
  · exact (Below.heap_setCell w2 ⟨g, 0, none⟩ u k hne).trans ((hG.block k (by omega) hkv).trans (hb1.block k hk))

set_option maxHeartbeats 1600000 in
set_option maxRecDepth 100000 in
theorem remove_q {w : World} {B g : Nat} {v : Value} {m : Int} {gs : List Fr} {f : Fr} (hq : Que w B g v m gs) (hn : gs.length ≤ 1000) :
    Calls Tryz.prog 147 #[.pointer (some ⟨g, 0, none⟩), f.val] w fun e w' => ∃ u, e = .returned (.bool (dropE f gs == 0)) ∧ Que w' B g u m (drp f gs) ∧ Turn g v u w w' := by
  obtain ⟨A, c, hv, hfl, hcap⟩ := hq.fl
  subst hv
  have HQ := Lib.hid hq; have HN := Lib.hid hn
  have HB := Lib.hid (boxed f w)
  have HF1 := Lib.hid (hfl.below (boxed f w))
  clear hq hn hfl
  go_enter Tryz.func147, Tryz.ntmps147
  go_wp2_with fail
  have hq1 := HQ.out.next (boxed f w)
  have hx := bx_new w f
  obtain ⟨W, hW⟩ : ∃ W, w.alloc (.cells f.cells 31) = W := ⟨_, rfl⟩
  rw [hW] at hq1 HF1 HB hx ⊢
  clear hW
  obtain ⟨c0, c1, c2, c3, c4, c5, c6, c7, c8, c9, c10, c11⟩ := hx
  have q0 := hq1.q.row
  clear hq1
  go_still_tail 5, (by kernel_rfl)
  go_wp2_with fail
  refine (index_any f A gs.length c _ _ (show Fl W.drew A gs.length _ from HF1.out) (by have := HN.out; omega)).mono ?_
  rintro e w1 ⟨r, rfl, hfd, hb1⟩
  have HB1 := Lib.hid (nxt HB.out (undrew hb1))
  clear hb1 q0 c0 c1 c2 c3 c4 c5 c6 c7 c8 c9 c10 c11
  rcases found_drp hfd with ⟨k, hr, hk, he, hd⟩ | ⟨hr, he, hd⟩
  · subst hr
    have HE := Lib.hid he
    have HD := Lib.hid hd
    have hq1 := HQ.out.next HB1.out
    have q1 := hq1.q.row
    have HO := Lib.hid hq1.own
    have HK := Lib.hid hk
    have hk' : IntKind.i64.wrap ((k : Int) + 1) = (k : Int) + 1 := IntWalk.i64_in _ (by have := HN.out; omega)
    clear hfd he hd hq1
    go_wp2_with fail
    refine (delete_any k HO.out HK.out (by have := HN.out; omega)).mono ?_
    rintro e w2 ⟨u, rfl, hu, hg2, hl2⟩
    rw [HD.out] at hu
    have HFIN := Lib.hid (remove_last HQ.out HB1.out hu hg2 hl2)
    obtain ⟨A5, n5, c5, rfl⟩ : ∃ A5 n5 c5, u = .slice A5 n5 c5 := by obtain ⟨A5, c5, e5, _⟩ := hu.fl; exact ⟨A5, _, c5, e5⟩
    have k5 := HFIN.out.1.row
    have f5 := HFIN.out.1.frozen 0
    clear hu hg2 hl2 q1
    go_wp2
    go_ret
    exact ⟨_, by rw [HE.out]; rfl, HFIN.out.2.1, HFIN.out.2.2⟩
  · subst hr
    have HE := Lib.hid he
    have HD := Lib.hid hd
    clear hfd he hd
    go_wp2
    go_ret
    exact ⟨_, by rw [HE.out]; rfl, by rw [HD.out]; exact HQ.out.next HB1.out, Turn.of_below HB1.out⟩

theorem drop_nil (f : Fr) (w : World) : Calls Tryz.prog 142 #[.pointer none, f.val] w fun e w' => e = .returned (.int .i64 2) ∧ Below w.heap.size w w' := by
  go_enter Tryz.func142, Tryz.ntmps142
  go_wp2
  go_ret
  exact ⟨rfl, boxed f w⟩
theorem put_nil (f : Fr) (w : World) : Calls Tryz.prog 46 #[.pointer none, f.val] w fun e w' => e = .returned (.int .i64 2) ∧ Below w.heap.size w w' := by
  go_enter Tryz.func46, Tryz.ntmps46
  go_wp2
  go_ret
  exact ⟨rfl, boxed f w⟩

theorem dE_cases (f : Fr) (gs : List Fr) : dropE f gs = 0 ∨ dropE f gs = 16 := by unfold dropE; split <;> simp
set_option maxHeartbeats 1600000 in
set_option maxRecDepth 100000 in
theorem drop_q {w : World} {B g : Nat} {v : Value} {m : Int} {gs : List Fr} {f : Fr} (hq : Que w B g v m gs) (hn : gs.length ≤ 1000) :
    Calls Tryz.prog 142 #[.pointer (some ⟨g, 0, none⟩), f.val] w fun e w' => ∃ u, e = .returned (.int .i64 (dropE f gs)) ∧ Que w' B g u m (drp f gs) ∧ Turn g v u w w' := by
  have HN := Lib.hid hn
  have HB := Lib.hid (boxed f w)
  have HQ := Lib.hid hq
  clear hq hn
  rcases dE_cases f gs with he | he
  · rw [he]
    have HE := Lib.hid he
    clear he
    go_enter Tryz.func142, Tryz.ntmps142
    go_wp2_with fail
    have hq1 := HQ.out.next (boxed f w)
    have hx := bx_new w f
    obtain ⟨W, hW⟩ : ∃ W, w.alloc (.cells f.cells 31) = W := ⟨_, rfl⟩
    rw [hW] at hq1 HB hx ⊢
    clear hW
    obtain ⟨c0, c1, c2, c3, c4, c5, c6, c7, c8, c9, c10, c11⟩ := hx
    have HQ1 := Lib.hid hq1.drew
    clear hq1
    go_still_tail 4, (by kernel_rfl)
    go_wp2_with fail
    refine (remove_q HQ1.out HN.out).mono ?_
    rintro e w1 ⟨u, rfl, hq2, ht⟩
    rw [HE.out]
    have HF := Lib.hid (And.intro hq2 ((Turn.of_below (g := g) (v := v) HB.out.drew).trans ht))
    clear hq2 ht
    go_wp2
    go_ret
    exact ⟨u, rfl, HF.out.1, HF.out.2⟩
  · rw [he]
    have HE := Lib.hid he
    clear he
    go_enter Tryz.func142, Tryz.ntmps142
    go_wp2_with fail
    have hq1 := HQ.out.next (boxed f w)
    have hx := bx_new w f
    obtain ⟨W, hW⟩ : ∃ W, w.alloc (.cells f.cells 31) = W := ⟨_, rfl⟩
    rw [hW] at hq1 HB hx ⊢
    clear hW
    obtain ⟨c0, c1, c2, c3, c4, c5, c6, c7, c8, c9, c10, c11⟩ := hx
    have HQ1 := Lib.hid hq1.drew
    clear hq1
    go_still_tail 4, (by kernel_rfl)
    go_wp2_with fail
    refine (remove_q HQ1.out HN.out).mono ?_
    rintro e w1 ⟨u, rfl, hq2, ht⟩
    rw [HE.out]
    have HF := Lib.hid (And.intro hq2 ((Turn.of_below (g := g) (v := v) HB.out.drew).trans ht))
    clear hq2 ht
    go_wp2
    go_ret
    exact ⟨u, rfl, HF.out.1, HF.out.2⟩

set_option maxHeartbeats 1600000 in
set_option maxRecDepth 100000 in
theorem put_q {w : World} {B g : Nat} {v : Value} {m : Int} {gs : List Fr} {f : Fr} (hq : Que w B g v m gs) (hok : Okq gs) (hn : gs.length ≤ 1000) (hB : B ≤ w.heap.size) :
    Calls Tryz.prog 46 #[.pointer (some ⟨g, 0, none⟩), f.val] w fun e w' => ∃ u, e = .returned (.int .i64 (pE m f gs)) ∧ Que w' B g u m (pL m f gs) ∧ Turn g v u w w' := by
  have HQ := Lib.hid hq; have HN := Lib.hid hn; have HOK := Lib.hid hok; have HBW := Lib.hid hB
  have HB := Lib.hid (boxed f w)
  clear hq hn hok hB
  cases hm : f.may
  · have HM := Lib.hid hm
    rw [show pE m f gs = 14 by unfold pE; rw [if_pos hm], show pL m f gs = gs by unfold pL; rw [if_pos (.inl hm)]]
    clear hm
    go_enter Tryz.func46, Tryz.ntmps46
    go_wp2_with fail
    refine (fcheck_any f _).mono ?_
    rintro e w1 ⟨rfl, hb1⟩
    rw [err_no HM.out]
    have HB1 := Lib.hid (nxt HB.out hb1)
    clear hb1
    go_wp2
    go_ret
    exact ⟨v, rfl, HQ.out.next HB1.out, Turn.of_below HB1.out⟩
  · have HM := Lib.hid hm
    obtain ⟨A, c, hv, -, -⟩ := HQ.out.fl
    subst hv
    have hE : pE m f gs = if m ≤ gs.length then 15 else 0 := by unfold pE; rw [if_neg (by rw [hm]; simp)]
    have hL : pL m f gs = if m ≤ gs.length then gs else ins f gs := by
      unfold pL
      by_cases h : m ≤ (gs.length : Int)
      · rw [if_pos (.inr h), if_pos h]
      · rw [if_neg (by rw [hm]; simpa using h), if_neg h]
    rw [hE, hL]
    clear hm hE hL
    by_cases hful : m ≤ (gs.length : Int)
    · rw [if_pos hful, if_pos hful]
      go_enter Tryz.func46, Tryz.ntmps46
      go_wp2_with fail
      refine (fcheck_any f _).mono ?_
      rintro e w1 ⟨rfl, hb1⟩
      rw [err_ok HM.out]
      have HB1 := Lib.hid (nxt HB.out hb1)
      have HQ1 := Lib.hid (HQ.out.next HB1.out).drew
      clear hb1
      go_wp2_with fail
      refine wp_region_held_drew (S := fun w' => Qb w' g (.slice A gs.length c) m) (by kernel_rfl) (HQ1.out.q) (fun hHeld => ?_)
      refine takeH (i := 0) (v := .pointer (some ⟨g, 0, none⟩)) rfl (by kernel_rfl) (by kernel_rfl) (by kernel_rfl) (fun _ _ _ h => h) (Or.inl ⟨by rfl, fun w hSw => ?_⟩) hHeld ?_
      · (clear hSw; go_simp)
      simp only [Act.put, List.setIfInBounds_toArray, List.set_cons_zero, List.set_cons_succ]
      refine takeH (i := 2) (v := .pointer (some ⟨g, 0, none⟩)) rfl (by kernel_rfl) (by kernel_rfl) (by kernel_rfl) (fun _ _ _ h => h) (Or.inl ⟨by rfl, fun w hSw => ?_⟩) hHeld ?_
      · (clear hSw; go_simp)
      simp only [Act.put, List.setIfInBounds_toArray, List.set_cons_zero, List.set_cons_succ]
      refine takeH (i := 3) (v := .pointer (some ⟨g, 0, none⟩)) rfl (by kernel_rfl) (by kernel_rfl) (by kernel_rfl) (fun _ _ _ h => h) (Or.inl ⟨by rfl, fun w hSw => ?_⟩) hHeld ?_
      · (clear hSw; go_simp)
      simp only [Act.put, List.setIfInBounds_toArray, List.set_cons_zero, List.set_cons_succ]
      refine takeH (i := 4) (v := .pointer (some ⟨g, 1, none⟩)) rfl (by kernel_rfl) (by kernel_rfl) (by kernel_rfl) (fun _ _ _ h => h) (Or.inl ⟨by rfl, fun w hSw => ?_⟩) hHeld ?_
      · (clear hSw; go_simp)
      simp only [Act.put, List.setIfInBounds_toArray, List.set_cons_zero, List.set_cons_succ]
      refine takeH (i := 5) (v := .int .i64 m) rfl (by kernel_rfl) (by kernel_rfl) (by kernel_rfl) (fun _ _ _ h => h) (Or.inl ⟨by rfl, fun w hSw => ?_⟩) hHeld ?_
      · (have q1 := hSw.most; clear hSw; go_simp)
      simp only [Act.put, List.setIfInBounds_toArray, List.set_cons_zero, List.set_cons_succ]
      refine wpAnyH_ready (rs := [1]) (by kernel_rfl) (by simp) ?_
      refine AllReadyH.cons rfl (fun K hK => ?_) AllReadyH.nil
      go_simp
      refine (len_b g A gs.length c m _ hHeld).mono ?_
      rintro e w2 ⟨rfl, hw2⟩
      subst hw2
      have HH := Lib.hid hHeld
      clear hHeld
      dsimp only
      refine hK.out _ _ (HH.out) (fun hHeld => ?_)
      clear hK K
      try simp only [Act.put, List.setIfInBounds_toArray, List.set_cons_zero, List.set_cons_succ]
      refine takeH (i := 6) (v := .bool true) rfl (by kernel_rfl) (by kernel_rfl) (by kernel_rfl) (fun _ _ _ h => h) (Or.inl ⟨by rfl, fun w hSw => ?_⟩) hHeld ?_
      · (clear hSw; go_simp)
      simp only [Act.put, List.setIfInBounds_toArray, List.set_cons_zero, List.set_cons_succ]
      refine wpAnyH_done (by kernel_rfl) ?_ _
      clear hHeld
      have HF := Lib.hid (HB1.out.drew)
      go_wp2
      go_ret
      exact ⟨_, rfl, HQ1.out, Turn.of_below HF.out⟩
    · rw [if_neg hful, if_neg hful]
      have hful' : ¬ (m ≤ (gs.length : Int)) := hful
      go_enter Tryz.func46, Tryz.ntmps46
      go_wp2_with fail
      refine (fcheck_any f _).mono ?_
      rintro e w1 ⟨rfl, hb1⟩
      rw [err_ok HM.out]
      have HB1 := Lib.hid (nxt HB.out hb1)
      have HQ1 := Lib.hid (HQ.out.next HB1.out).drew
      have HX := Lib.hid (bx_past hb1)
      clear hb1
      go_wp2_with fail
      refine wp_region_held_drew (S := fun w' => Qb w' g (.slice A gs.length c) m) (by kernel_rfl) (HQ1.out.q) (fun hHeld => ?_)
      refine takeH (i := 0) (v := .pointer (some ⟨g, 0, none⟩)) rfl (by kernel_rfl) (by kernel_rfl) (by kernel_rfl) (fun _ _ _ h => h) (Or.inl ⟨by rfl, fun w hSw => ?_⟩) hHeld ?_
      · (clear hSw; go_simp)
      simp only [Act.put, List.setIfInBounds_toArray, List.set_cons_zero, List.set_cons_succ]
      refine takeH (i := 2) (v := .pointer (some ⟨g, 0, none⟩)) rfl (by kernel_rfl) (by kernel_rfl) (by kernel_rfl) (fun _ _ _ h => h) (Or.inl ⟨by rfl, fun w hSw => ?_⟩) hHeld ?_
      · (clear hSw; go_simp)
      simp only [Act.put, List.setIfInBounds_toArray, List.set_cons_zero, List.set_cons_succ]
      refine takeH (i := 3) (v := .pointer (some ⟨g, 0, none⟩)) rfl (by kernel_rfl) (by kernel_rfl) (by kernel_rfl) (fun _ _ _ h => h) (Or.inl ⟨by rfl, fun w hSw => ?_⟩) hHeld ?_
      · (clear hSw; go_simp)
      simp only [Act.put, List.setIfInBounds_toArray, List.set_cons_zero, List.set_cons_succ]
      refine takeH (i := 4) (v := .pointer (some ⟨g, 1, none⟩)) rfl (by kernel_rfl) (by kernel_rfl) (by kernel_rfl) (fun _ _ _ h => h) (Or.inl ⟨by rfl, fun w hSw => ?_⟩) hHeld ?_
      · (clear hSw; go_simp)
      simp only [Act.put, List.setIfInBounds_toArray, List.set_cons_zero, List.set_cons_succ]
      refine takeH (i := 5) (v := .int .i64 m) rfl (by kernel_rfl) (by kernel_rfl) (by kernel_rfl) (fun _ _ _ h => h) (Or.inl ⟨by rfl, fun w hSw => ?_⟩) hHeld ?_
      · (have q1 := hSw.most; clear hSw; go_simp)
      simp only [Act.put, List.setIfInBounds_toArray, List.set_cons_zero, List.set_cons_succ]
      refine wpAnyH_ready (rs := [1]) (by kernel_rfl) (by simp) ?_
      refine AllReadyH.cons rfl (fun K hK => ?_) AllReadyH.nil
      go_simp
      refine (len_b g A gs.length c m _ hHeld).mono ?_
      rintro e w2 ⟨rfl, hw2⟩
      subst hw2
      have HH := Lib.hid hHeld
      clear hHeld
      dsimp only
      refine hK.out _ _ (HH.out) (fun hHeld => ?_)
      clear hK K
      try simp only [Act.put, List.setIfInBounds_toArray, List.set_cons_zero, List.set_cons_succ]
      refine takeH (i := 6) (v := .bool false) rfl (by kernel_rfl) (by kernel_rfl) (by kernel_rfl) (fun _ _ _ h => h) (Or.inl ⟨by rfl, fun w hSw => ?_⟩) hHeld ?_
      · (clear hSw; go_simp)
      simp only [Act.put, List.setIfInBounds_toArray, List.set_cons_zero, List.set_cons_succ]
      refine wpAnyH_done (by kernel_rfl) ?_ _
      clear hHeld
      have hx : Bx w1.drew w.heap.size f := HX.out
      have hb : Below w.heap.size w w1.drew := HB1.out.drew
      have hq1 := HQ1.out
      go_wp2_with fail
      obtain ⟨W1, hW1⟩ : ∃ W1, w1.drew = W1 := ⟨_, rfl⟩
      rw [hW1] at hx hb hq1 ⊢
      clear hW1
      obtain ⟨c0, c1, c2, c3, c4, c5, c6, c7, c8, c9, c10, c11⟩ := hx
      have HQ2 := Lib.hid hq1; have HB3 := Lib.hid hb
      clear hq1 hb
      go_still_tail 4, (by kernel_rfl)
      go_wp2_with fail
      have HS := Lib.hid HB3.out.size
      refine (insert_q (HQ2.out).drew HOK.out HM.out HN.out (show B ≤ W1.heap.size by have := HS.out; have := HBW.out; omega)).mono ?_
      rintro e w3 ⟨u, rfl, hq3, ht3⟩
      have HF := Lib.hid (And.intro hq3 ((Turn.of_below (g := g) (v := .slice A gs.length c) (HB3.out.drew)).trans ht3))
      clear hq3 ht3
      go_wp2
      go_ret
      exact ⟨u, rfl, HF.out.1, HF.out.2⟩
end Go.Proofs.YtalpbnfebcafgaaGreat

/- A node in memory, what a call may turn of it, and rows of events. -/
namespace Go.Proofs.YtalpbnfebcafgaaGreat
set_option maxRecDepth 20000
open Go.RowKit

/-- A node's cells: its rows are vo and vl, its queue is at gq. -/
abbrev Nd.cells (n : Nd) (vo vl : Value) (gq : Nat) : Array Value := #[.int .i64 n.mode, .int .i64 n.sl, .int .i64 n.sn, .int .i64 n.rows, .bool n.owed, .bool n.erred, vo, .int .i64 n.kind, .int .i64 n.nth, .int .i64 n.bl, .int .i64 n.bn, .int .i64 n.outF.id, .bool n.outF.ext, .bool n.outF.rtr, .int .i64 n.outF.len, .int .u8 (n.outF.d 0), .int .u8 (n.outF.d 1), .int .u8 (n.outF.d 2), .int .u8 (n.outF.d 3), .int .u8 (n.outF.d 4), .int .u8 (n.outF.d 5), .int .u8 (n.outF.d 6), .int .u8 (n.outF.d 7), vl, .bool n.tx, .int .i64 n.ct.t, .int .i64 n.ct.r, .bool n.ct.o, .pointer (some ⟨gq, 0, none⟩)]

theorem cells_set {w : World} {g i : Nat} {v : Value} {a : Array Value} {T : TypeId} (h : w.heap[g]? = some (.cells a T)) : (w.setCell ⟨g, i, none⟩ v).heap[g]? = some (.cells (a.setIfInBounds i v) T) := by
  simp [World.setCell, Array.getElem?_modify, h]
theorem cells_to {w : World} {g : Nat} {a b : Array Value} {T : TypeId} (h : w.heap[g]? = some (.cells a T)) (e : a = b) : w.heap[g]? = some (.cells b T) := e ▸ h
theorem size_set (w : World) (g i : Nat) (v : Value) : (w.setCell ⟨g, i, none⟩ v).heap.size = w.heap.size := by simp [World.setCell]
theorem typed_frozen {w : World} {g : Nat} {a : Array Value} {T : TypeId} (h : w.heap[g]? = some (.cells a T)) (i : Nat) : w.frozen? ⟨g, i, none⟩ = false := by simp [World.frozen?, h]
theorem typed_lt {w : World} {g : Nat} {o : Obj} (h : w.heap[g]? = some o) : g < w.heap.size := (Array.getElem?_eq_some_iff.1 h).1
theorem owns_ne {w : World} {B n size g : Nat} {e T : TypeId} {v : Value} {xs : List Value} {a : Array Value} (h : w.ownsRow B e size v n xs) (hg : w.heap[g]? = some (.cells a T)) (hT : T ≠ e) : v.ownBlock ≠ some g := by
  intro k
  rcases h.2 with ⟨rfl, _⟩ | ⟨b, cap, cur, rfl, _, hh, _⟩
  · cases k
  · injection k with k
    have k : b = g := k
    subst k
    rw [hh] at hg
    injection hg with hg
    injection hg with _ ht
    exact hT ht.symm
theorem owns_move {w w' : World} {B n size : Nat} {e : TypeId} {v : Value} {xs : List Value} (h : w.ownsRow B e size v n xs) (hk : ∀ k, v.ownBlock = some k → w'.heap[k]? = w.heap[k]?) : w'.ownsRow B e size v n xs := by
  refine ⟨h.1, ?_⟩
  rcases h.2 with hn | ⟨g, cap, cur, rfl, hbg, hgg, rest⟩
  · exact .inl hn
  · exact .inr ⟨g, cap, cur, rfl, hbg, (hk g rfl).trans hgg, rest⟩

/-- Only block g differs. -/
structure Only (g : Nat) (w w' : World) : Prop where
  os : w'.os = w.os
  tape : w'.tape = w.tape
  output : w'.output = w.output
  size : w'.heap.size = w.heap.size
  block : ∀ k, k ≠ g → w'.heap[k]? = w.heap[k]?
theorem Only.refl (g : Nat) (w : World) : Only g w w := ⟨rfl, rfl, rfl, rfl, fun _ _ => rfl⟩
theorem Only.set {g i : Nat} {w w' : World} {v : Value} (h : Only g w w') : Only g w (w'.setCell ⟨g, i, none⟩ v) := by
  refine ⟨h.os, h.tape, h.output, (size_set _ _ _ _).trans h.size, fun k hk => ?_⟩
  rw [← h.block k hk]
  simp [World.setCell, Array.getElem?_modify, Ne.symm hk]
theorem Only.drew {g : Nat} {w w' : World} (h : Only g w w') : Only g w w'.drew := ⟨h.os, h.tape, h.output, h.size, h.block⟩
theorem Only.trans {g : Nat} {w w' w2 : World} (h : Only g w w') (h2 : Only g w' w2) : Only g w w2 :=
  ⟨h2.os.trans h.os, h2.tape.trans h.tape, h2.output.trans h.output, h2.size.trans h.size, fun k hk => (h2.block k hk).trans (h.block k hk)⟩

/-- What a call turns that may turn the blocks F, which are then F'. -/
structure Moves (F F' : Nat → Prop) (w w' : World) : Prop where
  os : w'.os = w.os
  tape : w'.tape = w.tape
  output : w'.output = w.output
  size : w.heap.size ≤ w'.heap.size
  block : ∀ k, k < w.heap.size → ¬ F k → w'.heap[k]? = w.heap[k]?
  new : ∀ k, F' k → F k ∨ w.heap.size ≤ k
section
variable {F F' F2 : Nat → Prop} {w w' w2 : World} {B g : Nat}
theorem Moves.refl (F : Nat → Prop) (w : World) : Moves F F w w := ⟨rfl, rfl, rfl, Nat.le_refl _, fun _ _ _ => rfl, fun _ h => .inl h⟩
theorem Moves.of_below (h : Below w.heap.size w w') (F : Nat → Prop) : Moves F F w w' := ⟨h.os, h.tape, h.output, h.size, fun k hk _ => h.block k hk, fun _ h => .inl h⟩
theorem Moves.trans (h : Moves F F' w w') (h2 : Moves F' F2 w' w2) : Moves F F2 w w2 := by
  refine ⟨h2.os.trans h.os, h2.tape.trans h.tape, h2.output.trans h.output, Nat.le_trans h.size h2.size, fun k hk hn => ?_, fun k hk => ?_⟩
  · refine (h2.block k (Nat.lt_of_lt_of_le hk h.size) fun hf => ?_).trans (h.block k hk hn)
    rcases h.new k hf with h3 | h3
    · exact hn h3
    · omega
  · rcases h2.new k hk with h3 | h3
    · exact h.new k h3
    · exact .inr (Nat.le_trans h.size h3)
theorem Moves.less (h : Moves F F' w w') (hs : ∀ k, F2 k → F' k) : Moves F F2 w w' := ⟨h.os, h.tape, h.output, h.size, h.block, fun k hk => h.new k (hs k hk)⟩
theorem Moves.more (h : Moves F F' w w') (hs : ∀ k, F k → F2 k) : Moves F2 F' w w' := ⟨h.os, h.tape, h.output, h.size, fun k hk hn => h.block k hk fun hf => hn (hs k hf), fun k hk => (h.new k hk).imp (hs k) id⟩
theorem Moves.drew (h : Moves F F' w w') : Moves F F' w w'.drew := ⟨h.os, h.tape, h.output, h.size, h.block, h.new⟩
theorem Moves.undrew (h : Moves F F' w.drew w') : Moves F F' w w' := ⟨h.os, h.tape, h.output, h.size, h.block, h.new⟩
theorem Moves.next (h : Moves F F' w w') (hb : Below w'.heap.size w' w2) : Moves F F' w w2 := h.trans (.of_below hb _)
theorem Moves.only (h : Only g w w') (hg : F g) : Moves F F w w' := ⟨h.os, h.tape, h.output, Nat.le_of_eq h.size.symm, fun k _ hn => h.block k fun e => hn (e ▸ hg), fun _ h => .inl h⟩
theorem Moves.below (h : Moves F F' w w') (hF : ∀ k, F k → B ≤ k) (hB : B ≤ w.heap.size) : Below B w w' :=
  ⟨h.os, h.tape, h.output, h.size, fun k hk => h.block k (by omega) fun hf => by have := hF k hf; omega⟩
/-- A row that lies apart stays, and stays apart. -/
theorem Moves.owns {n size : Nat} {e : TypeId} {v : Value} {xs : List Value} (h : Moves F F' w w') (ho : w.ownsRow B e size v n xs) (ha : ∀ k, v.ownBlock = some k → ¬ F k) : w'.ownsRow B e size v n xs ∧ ∀ k, v.ownBlock = some k → ¬ F' k := by
  refine ⟨owns_move ho fun k hk => h.block k (World.ownsRow.lt ho k hk).2 (ha k hk), fun k hk hf => ?_⟩
  rcases h.new k hf with h1 | h1
  · exact ha k hk h1
  · have := (World.ownsRow.lt ho k hk).2; omega
/-- A block that lies apart stays. -/
theorem Moves.blk {o : Obj} (h : Moves F F' w w') (ho : w.heap[g]? = some o) (ha : ¬ F g) : w'.heap[g]? = some o ∧ ¬ F' g := by
  refine ⟨(h.block g (typed_lt ho) ha).trans ho, fun hf => ?_⟩
  rcases h.new g hf with h1 | h1
  · exact ha h1
  · have := typed_lt ho; omega
end

/-- Where a node lies. -/
structure NP where
  g : Nat
  gq : Nat
  vo : Value
  vl : Value
  vq : Value
/-- The blocks of a node. -/
def NP.fp (p : NP) (k : Nat) : Prop := k = p.g ∨ k = p.gq ∨ p.vo.ownBlock = some k ∨ p.vl.ownBlock = some k ∨ p.vq.ownBlock = some k
/-- A node lies there. -/
structure Lay (w : World) (B : Nat) (p : NP) (n : Nd) : Prop where
  blk : w.heap[p.g]? = some (.cells (n.cells p.vo p.vl p.gq) 109)
  own : Own w B p.vo n.own
  lev : Own w B p.vl n.outL
  que : Que w B p.gq p.vq 16 n.q
  sep : Sep p.vo p.vl
  at_ : B ≤ p.g
section
variable {w w' : World} {B B' : Nat} {p : NP} {n n' : Nd}
theorem Lay.c0 (h : Lay w B p n) : w.cell? ⟨p.g, 0, none⟩ = some (.int .i64 n.mode) := cell_of_row w p.g 0 _ _ (0, 0) h.blk
theorem Lay.c1 (h : Lay w B p n) : w.cell? ⟨p.g, 1, none⟩ = some (.int .i64 n.sl) := cell_of_row w p.g 1 _ _ (0, 0) h.blk
theorem Lay.c2 (h : Lay w B p n) : w.cell? ⟨p.g, 2, none⟩ = some (.int .i64 n.sn) := cell_of_row w p.g 2 _ _ (0, 0) h.blk
theorem Lay.c3 (h : Lay w B p n) : w.cell? ⟨p.g, 3, none⟩ = some (.int .i64 n.rows) := cell_of_row w p.g 3 _ _ (0, 0) h.blk
theorem Lay.c4 (h : Lay w B p n) : w.cell? ⟨p.g, 4, none⟩ = some (.bool n.owed) := cell_of_row w p.g 4 _ _ (0, 0) h.blk
theorem Lay.c5 (h : Lay w B p n) : w.cell? ⟨p.g, 5, none⟩ = some (.bool n.erred) := cell_of_row w p.g 5 _ _ (0, 0) h.blk
theorem Lay.c6 (h : Lay w B p n) : w.cell? ⟨p.g, 6, none⟩ = some (p.vo) := cell_of_row w p.g 6 _ _ (0, 0) h.blk
theorem Lay.c7 (h : Lay w B p n) : w.cell? ⟨p.g, 7, none⟩ = some (.int .i64 n.kind) := cell_of_row w p.g 7 _ _ (0, 0) h.blk
theorem Lay.c8 (h : Lay w B p n) : w.cell? ⟨p.g, 8, none⟩ = some (.int .i64 n.nth) := cell_of_row w p.g 8 _ _ (0, 0) h.blk
theorem Lay.c9 (h : Lay w B p n) : w.cell? ⟨p.g, 9, none⟩ = some (.int .i64 n.bl) := cell_of_row w p.g 9 _ _ (0, 0) h.blk
theorem Lay.c10 (h : Lay w B p n) : w.cell? ⟨p.g, 10, none⟩ = some (.int .i64 n.bn) := cell_of_row w p.g 10 _ _ (0, 0) h.blk
theorem Lay.c11 (h : Lay w B p n) : w.cell? ⟨p.g, 11, none⟩ = some (.int .i64 n.outF.id) := cell_of_row w p.g 11 _ _ (0, 0) h.blk
theorem Lay.c12 (h : Lay w B p n) : w.cell? ⟨p.g, 12, none⟩ = some (.bool n.outF.ext) := cell_of_row w p.g 12 _ _ (0, 0) h.blk
theorem Lay.c13 (h : Lay w B p n) : w.cell? ⟨p.g, 13, none⟩ = some (.bool n.outF.rtr) := cell_of_row w p.g 13 _ _ (0, 0) h.blk
theorem Lay.c14 (h : Lay w B p n) : w.cell? ⟨p.g, 14, none⟩ = some (.int .i64 n.outF.len) := cell_of_row w p.g 14 _ _ (0, 0) h.blk
theorem Lay.c15 (h : Lay w B p n) : w.cell? ⟨p.g, 15, none⟩ = some (.int .u8 (n.outF.d 0)) := cell_of_row w p.g 15 _ _ (0, 0) h.blk
theorem Lay.c16 (h : Lay w B p n) : w.cell? ⟨p.g, 16, none⟩ = some (.int .u8 (n.outF.d 1)) := cell_of_row w p.g 16 _ _ (0, 0) h.blk
theorem Lay.c17 (h : Lay w B p n) : w.cell? ⟨p.g, 17, none⟩ = some (.int .u8 (n.outF.d 2)) := cell_of_row w p.g 17 _ _ (0, 0) h.blk
theorem Lay.c18 (h : Lay w B p n) : w.cell? ⟨p.g, 18, none⟩ = some (.int .u8 (n.outF.d 3)) := cell_of_row w p.g 18 _ _ (0, 0) h.blk
theorem Lay.c19 (h : Lay w B p n) : w.cell? ⟨p.g, 19, none⟩ = some (.int .u8 (n.outF.d 4)) := cell_of_row w p.g 19 _ _ (0, 0) h.blk
theorem Lay.c20 (h : Lay w B p n) : w.cell? ⟨p.g, 20, none⟩ = some (.int .u8 (n.outF.d 5)) := cell_of_row w p.g 20 _ _ (0, 0) h.blk
theorem Lay.c21 (h : Lay w B p n) : w.cell? ⟨p.g, 21, none⟩ = some (.int .u8 (n.outF.d 6)) := cell_of_row w p.g 21 _ _ (0, 0) h.blk
theorem Lay.c22 (h : Lay w B p n) : w.cell? ⟨p.g, 22, none⟩ = some (.int .u8 (n.outF.d 7)) := cell_of_row w p.g 22 _ _ (0, 0) h.blk
theorem Lay.c23 (h : Lay w B p n) : w.cell? ⟨p.g, 23, none⟩ = some (p.vl) := cell_of_row w p.g 23 _ _ (0, 0) h.blk
theorem Lay.c24 (h : Lay w B p n) : w.cell? ⟨p.g, 24, none⟩ = some (.bool n.tx) := cell_of_row w p.g 24 _ _ (0, 0) h.blk
theorem Lay.c25 (h : Lay w B p n) : w.cell? ⟨p.g, 25, none⟩ = some (.int .i64 n.ct.t) := cell_of_row w p.g 25 _ _ (0, 0) h.blk
theorem Lay.c26 (h : Lay w B p n) : w.cell? ⟨p.g, 26, none⟩ = some (.int .i64 n.ct.r) := cell_of_row w p.g 26 _ _ (0, 0) h.blk
theorem Lay.c27 (h : Lay w B p n) : w.cell? ⟨p.g, 27, none⟩ = some (.bool n.ct.o) := cell_of_row w p.g 27 _ _ (0, 0) h.blk
theorem Lay.c28 (h : Lay w B p n) : w.cell? ⟨p.g, 28, none⟩ = some (.pointer (some ⟨p.gq, 0, none⟩)) := cell_of_row w p.g 28 _ _ (0, 0) h.blk
theorem Lay.fz (h : Lay w B p n) (i : Nat) : w.frozen? ⟨p.g, i, none⟩ = false := typed_frozen h.blk i
theorem Lay.lt (h : Lay w B p n) : p.g < w.heap.size := typed_lt h.blk
theorem Lay.size (h : Lay w B p n) : B ≤ w.heap.size := by have := h.lt; have := h.at_; omega
theorem Lay.drew (h : Lay w B p n) : Lay w.drew B p n := ⟨h.blk, h.own, h.lev, h.que.drew, h.sep, h.at_⟩
theorem Lay.undrew (h : Lay w.drew B p n) : Lay w B p n := ⟨h.blk, h.own, h.lev, ⟨h.que.q, h.que.own, h.que.at_⟩, h.sep, h.at_⟩
theorem Lay.base (h : Lay w B p n) (hB : B' ≤ B) : Lay w B' p n := ⟨h.blk, h.own.mono hB, h.lev.mono hB, h.que.base hB, h.sep, Nat.le_trans hB h.at_⟩
theorem Lay.next (h : Lay w B p n) (hb : Below w.heap.size w w') : Lay w' B p n := ⟨(hb.block _ h.lt).trans h.blk, h.own.below hb, h.lev.below hb, h.que.next hb, h.sep, h.at_⟩
theorem Lay.fp_ge (h : Lay w B p n) (k : Nat) (hk : p.fp k) : B ≤ k := by
  rcases hk with rfl | rfl | hk | hk | hk
  · exact h.at_
  · exact h.que.at_
  · exact h.own.row k hk
  · exact h.lev.row k hk
  · exact h.que.own.row k hk
theorem Lay.fp_lt (h : Lay w B p n) (k : Nat) (hk : p.fp k) : k < w.heap.size := by
  rcases hk with rfl | rfl | hk | hk | hk
  · exact h.lt
  · exact h.que.lt
  · exact (World.ownsRow.lt h.own k hk).2
  · exact (World.ownsRow.lt h.lev k hk).2
  · exact (World.ownsRow.lt h.que.own k hk).2
theorem Lay.below {p' : NP} (h : Lay w B p n) (hm : Moves p.fp p'.fp w w') : Below B w w' := hm.below h.fp_ge h.size
theorem Lay.no (h : Lay w B p n) : p.vo.ownBlock ≠ some p.g := owns_ne h.own h.blk (by decide)
theorem Lay.nl (h : Lay w B p n) : p.vl.ownBlock ≠ some p.g := owns_ne h.lev h.blk (by decide)
theorem Lay.nqv (h : Lay w B p n) : p.vq.ownBlock ≠ some p.g := owns_ne h.que.own h.blk (by decide)
theorem Lay.nq (h : Lay w B p n) : p.gq ≠ p.g := by
  intro e
  have h1 := h.que.q
  unfold Qb at h1
  rw [e, h.blk] at h1
  injection h1 with h1
  injection h1 with _ ht
  exact absurd ht (by decide)
/-- A row with another type is no block of the node's. -/
theorem Lay.typed {m size : Nat} {e : TypeId} {v : Value} {xs : List Value} (h : Lay w B p n) (ho : w.ownsRow B' e size v m xs) (h1 : 109 ≠ e) (h2 : 130 ≠ e) (h3 : 3 ≠ e) (h4 : 31 ≠ e) : ∀ k, v.ownBlock = some k → ¬ p.fp k := by
  rintro k hk (rfl | rfl | hf | hf | hf)
  · exact owns_ne ho h.blk h1 hk
  · exact owns_ne ho h.que.q h2 hk
  · rcases h.own.2 with ⟨e0, _⟩ | ⟨b, cap, cur, e0, _, hh, _⟩
    · rw [e0] at hf; cases hf
    · rw [e0] at hf; injection hf with hf; have hf : b = k := hf; subst hf; exact owns_ne ho hh h3 hk
  · rcases h.lev.2 with ⟨e0, _⟩ | ⟨b, cap, cur, e0, _, hh, _⟩
    · rw [e0] at hf; cases hf
    · rw [e0] at hf; injection hf with hf; have hf : b = k := hf; subst hf; exact owns_ne ho hh h3 hk
  · rcases h.que.own.2 with ⟨e0, _⟩ | ⟨b, cap, cur, e0, _, hh, _⟩
    · rw [e0] at hf; cases hf
    · rw [e0] at hf; injection hf with hf; have hf : b = k := hf; subst hf; exact owns_ne ho hh h4 hk
/-- Its own block alone was turned. -/
theorem Lay.turn (h : Lay w B p n) (ho : Only p.g w w') (hb : w'.heap[p.g]? = some (.cells (n'.cells p.vo p.vl p.gq) 109)) (e1 : n'.own = n.own) (e2 : n'.outL = n.outL) (e3 : n'.q = n.q) : Lay w' B p n' := by
  refine ⟨hb, ?_, ?_, ?_, h.sep, h.at_⟩
  · rw [e1]; exact owns_move h.own fun k hk => ho.block k fun e => h.no (e ▸ hk)
  · rw [e2]; exact owns_move h.lev fun k hk => ho.block k fun e => h.nl (e ▸ hk)
  · rw [e3]; exact ⟨(ho.block _ h.nq).trans h.que.q, owns_move h.que.own fun k hk => ho.block k fun e => h.nqv (e ▸ hk), h.que.at_⟩
theorem NP.moves (p : NP) (ho : Only p.g w w') : Moves p.fp p.fp w w' := .only ho (.inl rfl)
/-- .. and its rows are gone. -/
theorem Lay.clear (h : Lay w B p n) (ho : Only p.g w w') (hb : w'.heap[p.g]? = some (.cells (n'.cells (.slice none 0 0) (.slice none 0 0) p.gq) 109)) (e1 : n'.own = []) (e2 : n'.outL = []) (e3 : n'.q = n.q) : Lay w' B { p with vo := .slice none 0 0, vl := .slice none 0 0 } n' := by
  refine ⟨hb, ?_, ?_, ?_, .inl rfl, h.at_⟩
  · rw [e1]; exact Own.nil _ _
  · rw [e2]; exact Own.nil _ _
  · rw [e3]; exact ⟨(ho.block _ h.nq).trans h.que.q, owns_move h.que.own fun k hk => ho.block k fun e => h.nqv (e ▸ hk), h.que.at_⟩
theorem NP.fp_clear (p : NP) (k : Nat) (h : NP.fp { p with vo := .slice none 0 0, vl := .slice none 0 0 } k) : p.fp k := by
  rcases h with h | h | h | h | h
  · exact .inl h
  · exact .inr (.inl h)
  · cases h
  · cases h
  · exact .inr (.inr (.inr (.inr h)))
end

/-- Events' cells, one behind the other. -/
abbrev evcs (e : Ev) : List Value := [.int .i64 0, .int .i64 0, .int .i64 e.1, .int .i64 e.2.id, .bool e.2.ext, .bool e.2.rtr, .int .i64 e.2.len, .int .u8 (e.2.d 0), .int .u8 (e.2.d 1), .int .u8 (e.2.d 2), .int .u8 (e.2.d 3), .int .u8 (e.2.d 4), .int .u8 (e.2.d 5), .int .u8 (e.2.d 6), .int .u8 (e.2.d 7)]
abbrev evV (e : Ev) : Value := .agg (evcs e).toArray
def ecs (es : List Ev) : List Value := es.flatMap evcs
theorem ecs_nil : ecs [] = [] := rfl
theorem ecs_one (e : Ev) : ecs [e] = evcs e := rfl
theorem ecs_app (a b : List Ev) : ecs (a ++ b) = ecs a ++ ecs b := by simp [ecs]
theorem ecs_len : ∀ es : List Ev, (ecs es).length = es.length * 15 := by
  intro es
  induction es with
  | nil => rfl
  | cons e es ih => rw [ecs, List.flatMap_cons, List.length_append, List.length_cons]; unfold ecs at ih; rw [ih]; simp; omega
theorem ecs_plain (es : List Ev) : ∀ u ∈ ecs es, u.oneCell' = true := by
  intro u hu
  obtain ⟨f, _, hf⟩ := List.mem_flatMap.1 hu
  simp only [List.mem_cons, List.not_mem_nil, or_false] at hf
  rcases hf with rfl | rfl | rfl | rfl | rfl | rfl | rfl | rfl | rfl | rfl | rfl | rfl | rfl | rfl | rfl <;> rfl
/-- The slice value v is the call's own row of events. -/
def Eown (w : World) (base : Nat) (v : Value) (es : List Ev) : Prop := w.ownsRow base 41 15 v es.length (ecs es)
section
variable {w w' : World} {B B' : Nat} {v : Value} {es : List Ev} {p : NP} {n : Nd}
theorem Eown.nil (w : World) (B : Nat) : Eown w B (.slice none 0 0) [] := World.ownsRow_nil _ _ _ _
theorem Eown.below (h : Eown w B v es) (hb : Below w.heap.size w w') : Eown w' B v es := owns_move h fun k hk => hb.block k (World.ownsRow.lt h k hk).2
theorem Eown.base (h : Eown w B v es) (hB : B' ≤ B) : Eown w B' v es := by
  refine ⟨h.1, ?_⟩
  rcases h.2 with hn | ⟨g, cap, cur, rfl, hbg, rest⟩
  · exact .inl hn
  · exact .inr ⟨g, cap, cur, rfl, Nat.le_trans hB hbg, rest⟩
theorem Eown.lit (w : World) (B : Nat) (es : List Ev) (hB : B ≤ w.heap.size) (hl : es.length ≤ 1000) : Eown (w.alloc (.cells (ecs es).toArray 41)) B (.slice (some ⟨w.heap.size, 0, none⟩) es.length es.length) es := by
  refine ⟨by rw [ecs_len], .inr ⟨w.heap.size, es.length, _, rfl, hB, heap_alloc_new w _, Nat.le_refl _, by unfold maxLen; omega, by simp [ecs_len], by simp [List.take_of_length_le, ecs_len]⟩⟩
theorem Eown.len (h : Eown w B v es) : ∃ A cap, v = .slice A es.length cap ∧ es.length ≤ cap := by
  rcases h.2 with ⟨rfl, h0⟩ | ⟨g, cap, cur, rfl, _, _, hnc, _⟩
  · exact ⟨none, 0, by rw [h0], by omega⟩
  · exact ⟨_, cap, rfl, hnc⟩
theorem Eown.apart (h : Eown w B v es) (hl : Lay w B' p n) : ∀ k, v.ownBlock = some k → ¬ p.fp k := hl.typed h (by decide) (by decide) (by decide) (by decide)
theorem Eown.moves {F F' : Nat → Prop} (h : Eown w B v es) (hm : Moves F F' w w') (ha : ∀ k, v.ownBlock = some k → ¬ F k) : Eown w' B v es := (hm.owns h ha).1
end
/-- A slice value holds events, as cells one behind the other. -/
def Es (w : World) (A : Option Addr) (m : Nat) (hs : List Ev) : Prop := hs.length = m ∧ (0 < m → ∃ ad, A = some ad ∧ ∀ j u, (ecs hs)[j]? = some u → w.cell? (ad.add j) = some u)
theorem Eown.es {w : World} {B : Nat} {A : Option Addr} {n c : Nat} {es : List Ev} (h : Eown w B (.slice A n c) es) : Es w A es.length es := by
  refine ⟨rfl, fun hn => ?_⟩
  rcases h.2 with ⟨_, h0⟩ | ⟨g, cap, cur, e, _⟩
  · omega
  · injection e with e1 e2 e3
    subst e1
    exact ⟨_, rfl, fun j u hu => World.ownsRow.cells h (g := g) rfl j u hu⟩
theorem infoE : ∃ i, Tryz.prog.info? 41 = some i ∧ i.zero = some (evV (0, Fr.zero)) ∧ i.size = 15 ∧ i.bytes = 56 := info_parts (by kernel_rfl)
theorem append_runE (w : World) (ty : TypeId) (base : Nat) (v : Value) (gs : List Ev) (hown : Eown w base v gs) (A : Option Addr) (m c : Nat) (hs : List Ev) (hr : Es w A m hs) (hlen : gs.length + m ≤ 1000000) (hbase : base ≤ w.heap.size) :
    ∃ v' w', (Builtin.append_ #[37, 37] ty #[v, .slice A m c]).run Tryz.prog w = .ok v' w' ∧ Eown w' base v' (gs ++ hs) ∧ w.grownBy w' v.ownBlock ∧ Lies w v v' := by
  obtain ⟨i, hi, hz, hsz, hb⟩ := infoE
  unfold Eown
  rw [List.length_append, ecs_app, hr.1]
  rcases A with _ | ad
  · have h0 : m = 0 := by
      rcases Nat.eq_zero_or_pos m with h | h
      · exact h
      · obtain ⟨ad, e, _⟩ := hr.2 h; cases e
    subst h0
    have hy : hs = [] := List.eq_nil_of_length_eq_zero hr.1
    subst hy
    exact ⟨v, w, append_runG0 w Tryz.underlying37 hi base v _ _ hown c, by rw [ecs_nil, List.append_nil, Nat.add_zero]; exact hown, World.grownBy.refl w _, .inl rfl⟩
  · refine append_runG w Tryz.underlying37 hi hz hsz hb rfl (by omega) base v _ _ hown ad m c (ecs hs) (by rw [ecs_len, hr.1]) ?_ (ecs_plain hs) hlen (by omega) hbase
    intro j u hu
    have hm : 0 < m := by
      rcases Nat.eq_zero_or_pos m with h | h
      · have hy : hs = [] := List.eq_nil_of_length_eq_zero (by rw [hr.1, h])
        subst hy
        simp [ecs] at hu
      · exact h
    obtain ⟨ad', e, hc⟩ := hr.2 hm
    injection e with e
    subst e
    exact hc j u hu
theorem append_E (w : World) {ops : Array Oper} {rest : List Oper} {o : Oper} {a : Act} {Q : Exit → Act → World → Prop} (hgd : Region.wanted o (yielded ops a.tmps) = true) (s x : Operand)
    (ho : o.op = .call { callee := .builtin .append, args := #[s, x], argTypes := #[37, 37] })
    (base : Nat) (v : Value) (gs : List Ev) (hs : a.eval s = v) (hown : Eown w base v gs) (A : Option Addr) (m c : Nat) (ys : List Ev) (hx : a.eval x = .slice A m c) (hr : Es w A m ys)
    (hlen : gs.length + m ≤ 1000000) (hbase : base ≤ w.heap.size)
    (h : ∀ v' w', Eown w' base v' (gs ++ ys) → w.grownBy w' v.ownBlock → Lies w v v' → wpList Tryz.prog ops Q rest (a.put o.dst v') w') : wpList Tryz.prog ops Q (o :: rest) a w :=
  BigFrame.wpList_want hgd fun _ hK => by
    obtain ⟨v', w', hrun, h1, h2, h3⟩ := append_runE w o.type base v gs hown A m c ys hr hlen hbase
    unfold Oper.wp execOp
    simp only [ho, resolve, invoke, builtin, Sem.run_bind, Sem.run_pure, Result.andThen_ok, List.map_toArray, List.map_cons, List.map_nil, hs, hx, hrun]
    exact hK _ _ (h v' w' h1 h2 h3)
end Go.Proofs.YtalpbnfebcafgaaGreat

