/- The contracts of slices.Clone, copied, All, First. -/
import Derived.Test.YtldhnbohpnkcpaaQB
namespace Go.Proofs.Ytldhnbohpnkcpaa
open Go.RowKit

theorem first_none (w : World) : Calls Try.prog 17 #[.pointer none] w fun e w' => e = .returned (.tuple #[Fr.zero.val, .bool false]) ∧ Below w.heap.size w w' := by
  go_enter Try.func17, Try.ntmps17
  go_wp2_with fail
  refine (len_nil _).mono ?_
  rintro e w1 ⟨rfl, rfl⟩
  go_wp2
  refine bodyPost_ret (v := .tuple #[.agg #[.int .i64 0, .bool false, .bool false, .int .i64 0, .int .u8 0, .int .u8 0, .int .u8 0, .int .u8 0, .int .u8 0, .int .u8 0, .int .u8 0, .int .u8 0], .bool false]) (by rw [results_cell_tmp rfl]; go_simp) rfl ⟨rfl, ?_⟩
  exact boxed Fr.zero w
set_option maxHeartbeats 800000 in
theorem first_empty {w : World} {B g : Nat} {v : Value} {m : Int} (hq : Que w B g v m []) : Calls Try.prog 17 #[.pointer (some ⟨g, 0, none⟩)] w fun e w' => e = .returned (.tuple #[Fr.zero.val, .bool false]) ∧ Below w.heap.size w w' := by
  have HQ := Lib.hid hq
  clear hq
  go_enter Try.func17, Try.ntmps17
  go_wp2_with fail
  refine (len_q (HQ.out.next (boxed Fr.zero w))).mono ?_
  rintro e w1 ⟨rfl, rfl⟩
  go_wp2
  refine bodyPost_ret (v := .tuple #[.agg #[.int .i64 0, .bool false, .bool false, .int .i64 0, .int .u8 0, .int .u8 0, .int .u8 0, .int .u8 0, .int .u8 0, .int .u8 0, .int .u8 0, .int .u8 0], .bool false]) (by rw [results_cell_tmp rfl]; go_simp) rfl ⟨rfl, ?_⟩
  exact boxed Fr.zero w
theorem fl_head {w : World} {A : Option Addr} {n : Nat} {fs : Nat → Fr} (h : Fl w A n fs) (hn : 0 < n) : ∃ ad, A = some ad ∧ ad.block < w.heap.size ∧ Bxa w ad (fs 0) := by
  obtain ⟨ad, e, hl, hb⟩ := h.at_ hn
  rw [Nat.zero_mul, at_zero] at hb
  exact ⟨ad, e, hl, hb⟩
set_option maxHeartbeats 800000 in
theorem first_q {w : World} {B g : Nat} {v : Value} {m : Int} {f : Fr} {gs : List Fr} (hq : Que w B g v m (f :: gs)) : Calls Try.prog 17 #[.pointer (some ⟨g, 0, none⟩)] w fun e w' => e = .returned (.tuple #[f.val, .bool true]) ∧ Below w.heap.size w w' := by
  have HQ := Lib.hid hq
  obtain ⟨A, c, rfl, hf, _⟩ := hq.fl
  have hl := hq.lt
  have hq' := hq.next (boxed Fr.zero w)
  obtain ⟨ad, rfl, hlt, hb⟩ := fl_head (hf.below (boxed Fr.zero w)) (by simp)
  simp only [List.getD_cons_zero] at hb
  obtain ⟨c0, c1, c2, c3, c4, c5, c6, c7, c8, c9, c10, c11⟩ := hb
  have q0 := hq'.q.row
  have HQ' := Lib.hid hq'
  have hn : (((f :: gs).length : Int) == 0) = false := by
    simp only [List.length_cons, beq_eq_false_iff_ne]; omega
  have hn0 : 0 < (f :: gs).length := by simp
  have hne : ¬ (((f :: gs).length : Int) = 0) := by simpa using hn
  clear hq hq' hf
  generalize (f :: gs).length = n at *
  go_enter Try.func17, Try.ntmps17
  go_wp2_with fail
  refine (len_b g _ n c m _ HQ'.out.q).mono ?_
  rintro e w1 ⟨rfl, rfl⟩
  go_wp2
  refine bodyPost_ret (v := .tuple #[f.val, .bool true]) (by rw [results_cell_tmp rfl]; go_simp) rfl ⟨rfl, ?_⟩
  exact boxed f w
end Go.Proofs.Ytldhnbohpnkcpaa
