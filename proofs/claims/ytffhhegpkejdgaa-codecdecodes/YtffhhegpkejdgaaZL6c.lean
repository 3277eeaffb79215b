/- The walk of the law CodecDecodes. -/
import Derived.Test.YtffhhegpkejdgaaZCI
namespace Go.Proofs.Ytffhhegpkejdgaa
open Go.RowKit

set_option maxRecDepth 100000 in
set_option maxHeartbeats 3200000 in
theorem cdec_far (A : Option Addr) (n cap : Nat) (w : World) (hn : 200 < n) :
    Calls Try.prog 4 #[.slice A n cap] w fun e w' => e = .returned (.bool true) ∧ Below w.heap.size w w' := by
  have g0 : decide ((200 : Int) < (n : Int)) = true := by simp; omega
  go_enter Try.func4, Try.ntmps4
  go_wp2_with (go_at_call 14; (refine (awake6 _).mono ?_); rintro e w1 ⟨rfl, hb1⟩)
  go_ret
  exact ⟨rfl, hb1⟩

set_option maxRecDepth 100000 in
set_option maxHeartbeats 3200000 in
theorem cdec_in (A : Option Addr) (n cap : Nat) (zs : List Int) (w : World) (hr : Il w A n zs) (hn : n ≤ 200) :
    Calls Try.prog 4 #[.slice A n cap] w fun e w' => e = .returned (.bool true) ∧ Below w.heap.size w w' := by
  have h22 := eq22
  have g0 : decide ((200 : Int) < (n : Int)) = false := by simp; omega
  have HR := Lib.hid hr
  obtain ⟨f, k, er, hd⟩ : ∃ (f : Fr) (k : Nat) (er : Int), dV zs = .tuple #[f.val, .int .i64 (k : Nat), .int .i64 er] := ⟨_, _, _, rfl⟩
  have HD := Lib.hid hd
  clear hr hd
  go_enter Try.func4, Try.ntmps4
  go_wp2_with fail
  refine (decode_any _ n cap _ _ HR.out (by omega)).mono ?_
  rintro e w1 ⟨rfl, hb1⟩
  rw [HD.out]
  have HB1 := Lib.hid (hb1.alloc hb1.size (.cells f.cells 24))
  have HF1 := Lib.hid (fb_new w1 f)
  clear hb1
  go_wp2_with fail
  refine (rdec_any _ n cap _ _ (HR.out.below HB1.out) (by omega)).mono ?_
  rintro e w2 ⟨rfl, hb2⟩
  rw [HD.out]
  have F2 := HF1.out.below hb2 HF1.out.lt
  have HB2 := Lib.hid ((nxt HB1.out hb2).alloc (nxt HB1.out hb2).size (.cells f.cells 24))
  obtain ⟨c0, c1, c2, c3, c4, c5, c6, c7, c8, c9, c10, c11⟩ := F2.bx
  have hl2 := F2.lt
  have hne : w2.heap.size ≠ w1.heap.size := by omega
  have s1 := beq_self_eq_true [f.d 0, f.d 1, f.d 2, f.d 3, f.d 4, f.d 5, f.d 6, f.d 7]
  clear hb2 F2
  go_wp2_with fail
  refine (awake6 _).mono ?_
  rintro e w3 ⟨rfl, hb3⟩
  go_wp2
  go_ret
  exact ⟨rfl, nxt HB2.out hb3⟩

theorem cdec_any (A : Option Addr) (n cap : Nat) (zs : List Int) (w : World) (hr : Il w A n zs) :
    Calls Try.prog 4 #[.slice A n cap] w fun e w' => e = .returned (.bool true) ∧ Below w.heap.size w w' := by
  rcases Nat.lt_or_ge 200 n with hn | hn
  · exact cdec_far A n cap w hn
  · exact cdec_in A n cap zs w hr hn
end Go.Proofs.Ytffhhegpkejdgaa
