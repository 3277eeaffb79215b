/- The contracts of what comes. -/
import Derived.Test.YtmffiakdoklaaaaKA
namespace Go.Proofs.Ytmffiakdoklaaaa
open Go.RowKit

set_option maxHeartbeats 400000 in
theorem msent_any (c : Ct) (x : Int) (w : World) (h : c.run = true) : Calls Try.prog 26 #[.agg #[.int .i64 c.t, .int .i64 c.r, .bool c.o, .int .i64 x]] w fun e w' => e = .returned (c.snt).val ∧ Below w.heap.size w w' := by
  obtain ⟨h0, h1, h2, h3, h4⟩ := run_iff.1 h
  have HE := Lib.hid (show (c.snt) = _ from if_pos h)
  have HR := Lib.hid h
  obtain ⟨t, r, o⟩ := c
  simp only at h0 h1 h2 h3 h4
  subst h0
  clear h
  by_cases g : t - 1 < 0
  · go_enter Try.func26, Try.ntmps26
    go_wp2
    refine bodyPost_ret (v := Ct.val ⟨0, r, false⟩) (by rw [results_cell1 rfl]; go_simp) rfl ⟨ret_ct ?_, below2 _ _ _⟩
    rw [HE.out]; exact ct_ext (by simp; omega) rfl rfl
  · go_enter Try.func26, Try.ntmps26
    go_wp2
    refine bodyPost_ret (v := Ct.val ⟨t - 1, r, false⟩) (by rw [results_cell1 rfl]; go_simp) rfl ⟨ret_ct ?_, below2 _ _ _⟩
    rw [HE.out]; exact ct_ext (by simp; omega) rfl rfl
set_option maxHeartbeats 400000 in
theorem mreceived_any (c : Ct) (x : Int) (w : World) (h : c.run = true) : Calls Try.prog 27 #[.agg #[.int .i64 c.t, .int .i64 c.r, .bool c.o, .int .i64 x]] w fun e w' => e = .returned (c.rcv).val ∧ Below w.heap.size w w' := by
  obtain ⟨h0, h1, h2, h3, h4⟩ := run_iff.1 h
  have HE := Lib.hid (show (c.rcv) = _ from if_pos h)
  have HR := Lib.hid h
  obtain ⟨t, r, o⟩ := c
  simp only at h0 h1 h2 h3 h4
  subst h0
  clear h
  by_cases q : 127 < r
  · go_enter Try.func27, Try.ntmps27
    go_wp2
    refine bodyPost_ret (v := Ct.val ⟨t, 119, false⟩) (by rw [results_cell1 rfl]; go_simp) rfl ⟨ret_ct ?_, below2 _ _ _⟩
    rw [HE.out]; exact ct_ext rfl (by simp; omega) rfl
  by_cases g : r - 1 < 0
  · go_enter Try.func27, Try.ntmps27
    go_wp2
    refine bodyPost_ret (v := Ct.val ⟨t, 0, false⟩) (by rw [results_cell1 rfl]; go_simp) rfl ⟨ret_ct ?_, below2 _ _ _⟩
    rw [HE.out]; exact ct_ext rfl (by simp; omega) rfl
  · go_enter Try.func27, Try.ntmps27
    go_wp2
    refine bodyPost_ret (v := Ct.val ⟨t, r - 1, false⟩) (by rw [results_cell1 rfl]; go_simp) rfl ⟨ret_ct ?_, below2 _ _ _⟩
    rw [HE.out]; exact ct_ext rfl (by simp; omega) rfl
set_option maxHeartbeats 400000 in
theorem mtx_any (c : Ct) (x : Int) (w : World) (h : c.run = true) : Calls Try.prog 24 #[.agg #[.int .i64 c.t, .int .i64 c.r, .bool c.o, .int .i64 x]] w fun e w' => e = .returned (c.txx).val ∧ Below w.heap.size w w' := by
  obtain ⟨h0, h1, h2, h3, h4⟩ := run_iff.1 h
  have HE := Lib.hid (show (c.txx) = _ from if_pos h)
  have HR := Lib.hid h
  obtain ⟨t, r, o⟩ := c
  simp only at h0 h1 h2 h3 h4
  subst h0
  clear h
  by_cases q : 255 < t + 8
  · go_enter Try.func24, Try.ntmps24
    go_wp2
    refine bodyPost_ret (v := Ct.val ⟨256, r, true⟩) (by rw [results_cell1 rfl]; go_simp) rfl ⟨ret_ct ?_, below2 _ _ _⟩
    rw [HE.out]; exact (if_pos (show 255 < t + 8 by omega)).symm
  · go_enter Try.func24, Try.ntmps24
    go_wp2
    refine bodyPost_ret (v := Ct.val ⟨t + 8, r, false⟩) (by rw [results_cell1 rfl]; go_simp) rfl ⟨ret_ct ?_, below2 _ _ _⟩
    rw [HE.out]; exact (if_neg (show ¬ (255 < t + 8) by omega)).symm
set_option maxHeartbeats 400000 in
theorem mrx_any (c : Ct) (x : Int) (w : World) (h : c.run = true) : Calls Try.prog 25 #[.agg #[.int .i64 c.t, .int .i64 c.r, .bool c.o, .int .i64 x]] w fun e w' => e = .returned (c.rxx x).val ∧ Below w.heap.size w w' := by
  obtain ⟨h0, h1, h2, h3, h4⟩ := run_iff.1 h
  have HE := Lib.hid (show c.rxx x = if (x == 1 || x == 8) then ⟨c.t, min (c.r + x) 255, c.o⟩ else c by unfold Ct.rxx; rw [h]; rfl)
  obtain ⟨t, r, o⟩ := c
  simp only at h0 h1 h2 h3 h4
  subst h0
  clear h
  rw [HE.out]
  clear HE
  by_cases g1 : x = 1
  · subst g1
    by_cases q : ¬ (255 < r + 1)
    · go_enter Try.func25, Try.ntmps25
      go_wp2
      refine bodyPost_ret (v := Ct.val ⟨t, r + 1, false⟩) (by rw [results_cell1 rfl]; go_simp) rfl ⟨ret_ct ?_, below2 _ _ _⟩
      exact ct_ext rfl (by simp; omega) rfl
    · go_enter Try.func25, Try.ntmps25
      go_wp2
      refine bodyPost_ret (v := Ct.val ⟨t, 255, false⟩) (by rw [results_cell1 rfl]; go_simp) rfl ⟨ret_ct ?_, below2 _ _ _⟩
      exact ct_ext rfl (by simp; omega) rfl
  have k1 : (x == 1) = false := by simpa using g1
  by_cases g8 : x = 8
  · subst g8
    by_cases q : ¬ (255 < r + 8)
    · go_enter Try.func25, Try.ntmps25
      go_wp2
      refine bodyPost_ret (v := Ct.val ⟨t, r + 8, false⟩) (by rw [results_cell1 rfl]; go_simp) rfl ⟨ret_ct ?_, below2 _ _ _⟩
      exact ct_ext rfl (by simp; omega) rfl
    · go_enter Try.func25, Try.ntmps25
      go_wp2
      refine bodyPost_ret (v := Ct.val ⟨t, 255, false⟩) (by rw [results_cell1 rfl]; go_simp) rfl ⟨ret_ct ?_, below2 _ _ _⟩
      exact ct_ext rfl (by simp; omega) rfl
  have k8 : (x == 8) = false := by simpa using g8
  · rw [if_neg (by rw [k1, k8]; decide)]
    go_enter Try.func25, Try.ntmps25
    go_wp2
    refine bodyPost_ret (v := Ct.val ⟨t, r, false⟩) (by rw [results_cell1 rfl]; go_simp) rfl ⟨ret_ct ?_, below2 _ _ _⟩
    rfl
end Go.Proofs.Ytmffiakdoklaaaa
