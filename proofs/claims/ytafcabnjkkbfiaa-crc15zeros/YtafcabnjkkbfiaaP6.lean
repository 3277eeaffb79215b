/- For every row of ints, every int and every two ints, magnetolaw02.Crc15Zeros returns true and leaves its arguments as they were; no condition. -/
import Derived.Test.YtafcabnjkkbfiaaRows
import Derived.Test.YtafcabnjkkbfiaaQ9
import Derived.Test.YtafcabnjkkbfiaaOpn
namespace Go.Proofs.Ytafcabnjkkbfiaa.crc15Zeros
open Go.ChangeShapes Go.WideShapes Go.ChangeAt Go.RowKit
open Go.ChangeMaps (open_string shut_string)
set_option linter.unusedVariables false

set_option maxRecDepth 100000 in
theorem lifted (os : Os) (started : os.Started) (H : Type) (enc : TypeId × Value → H) :
    ReturnsInHanded {} Try.checked os 8 .any (Rows.crc15ZerosSpec.pre6 enc Try.prog Try.f8 Rows.crc15ZerosRow.domain false) (Rows.crc15ZerosSpec.post enc Try.prog Try.f8 false true false false) := by
  refine returnsInHanded_of_change (C := Try.checked) ownKn started (by kernel_rfl) Try.func8
    (ChangeSpec.witness6 (enc := enc) (C := Try.checked) false ⟨#[], #[.slice none 0 0, .int .i64 0, .agg #[.int .i64 0, .int .i64 0]], []⟩ 8 (by kernel_rfl) (by kernel_rfl) (by kernel_rfl) (by kernel_rfl)) ?_
  intro W base args ds gs before hval0 hW hcnd _
  have hval : ∀ (j : Nat) t v, Try.f8.params[j]? = some t → args[j]? = some v → Value.okWide Try.prog W .any base t v := hval0
  have hW' := hW
  obtain ⟨p, q, hA0, hV, rfl, hfz, hnd⟩ := hW
  have hA : DataW.TrodAll enc Try.prog W 0 (fun _ => true) true Try.f8.params.toList args.toList ds p := hA0
  rw [Try.params8] at hA hval
  obtain ⟨v0, vs0, d0, ds0, p0, q0', hargs, rfl, rfl, h0, r0'⟩ := trodAll_cons hA
  obtain ⟨v1, vs1, d1, ds1, p1, q1', rfl, rfl, rfl, h1, r1'⟩ := trodAll_cons r0'
  obtain ⟨v2, vs2, d2, ds2, p2, q2', rfl, rfl, rfl, h2, r2'⟩ := trodAll_cons r1'
  obtain ⟨rfl, rfl, rfl⟩ := trodAll_nil r2'
  obtain rfl : args = #[v0, v1, v2] := by cases args; simp_all
  obtain ⟨rfl, rfl⟩ := trodVars_none hV
  have k0 := h0
  have lt0 : ∀ x ∈ p0, x.block < W.heap.size := by obtain ⟨m, hm⟩ := k0; exact DataW.trod_lt m _ _ _ hm
  obtain ⟨aa0, ll0, cc0, rfl⟩ := okWide_slice Try.underlying25 (hval 0 25 v0 rfl rfl)
  obtain ⟨a0, n0, c0, z0, e0, r0⟩ : ∃ a n c zs, Value.slice aa0 ll0 cc0 = .slice a n c ∧ InRow W a n c zs := by
    obtain ⟨fuel, hf⟩ := h0
    exact row_in hf
  rw [e0] at k0 hW' ⊢
  obtain ⟨a1, rfl, rfl, rfl, w1⟩ := open_int Try.underlying3 (hval 1 3 v1 rfl rfl) h1
  have b1 := bounds_i64 w1
  have k2 := h2
  have lt2 : ∀ x ∈ p2, x.block < W.heap.size := by obtain ⟨m, hm⟩ := k2; exact DataW.trod_lt m _ _ _ hm
  obtain ⟨cs2, rfl⟩ := agg_in Try.underlying42 (hval 2 42 v2 rfl rfl)
  obtain ⟨z2, e2, l2⟩ : ∃ zs : List Int, cs2.toList = zs.map (Value.int .i64) ∧ zs.length = 2 := by
    obtain ⟨fuel, hf⟩ := h2
    exact ints_in Try.underlying42 (by kernel_rfl) hf
  obtain rfl : cs2 = (z2.map (Value.int .i64)).toArray := by rw [← e2]
  clear hA0 hval0
  refine (law26l a0 n0 c0 z0 a1 z2 W r0.1 r0.2.1 l2).mono fun e W' ⟨he, bel⟩ => ?_
  subst he
  exact ⟨_, rfl, _, _, _, [], _, [], hW', trodAll_mk1 (shut_bool Try.underlying4 _), (trodAll_cons_mk (Below.trod laidOut (by kernel_rfl) (of_decide_eq_true (by kernel_rfl)) k0 bel lt0) (trodAll_cons_mk (shut_int Try.underlying3 w1) (trodAll_cons_mk (Below.trod laidOut (by kernel_rfl) (of_decide_eq_true (by kernel_rfl)) k2 bel lt2) trodAll_mk0))), rfl, bel.frame _, fun h => by cases h⟩

theorem over : Rows.crc15ZerosRow.holds Try.pinned (OpenSpec.ofChange Rows.crc15ZerosSpec) :=
  OpenClaim.holds_of_wide 8 Try.f8 rfl rfl rfl rfl rfl rfl rfl ⟨rfl, rfl, rfl, rfl, rfl⟩ rfl rfl rfl rfl rfl (by kernel_rfl) Try.func8 (by kernel_rfl)
    (of_decide_eq_true (by kernel_rfl)) (by unfold Func.isWrapper; first | (rw [if_pos (by decide +kernel)]; kernel_rfl) | (rw [if_neg (by decide +kernel)]; exact ⟨rfl, rfl⟩))
    (fun os started H enc _ => lifted os started H enc)

/-- The statement. -/
theorem proved : Rows.Crc15ZerosSaid := over
end Go.Proofs.Ytafcabnjkkbfiaa.crc15Zeros

namespace Go.Proofs.Ytafcabnjkkbfiaa
/-- The statement. -/
theorem crc15Zeros_holds : Rows.Crc15ZerosSaid := crc15Zeros.proved
#print axioms crc15Zeros_holds
end Go.Proofs.Ytafcabnjkkbfiaa
