/- For all acts, every size and every two numbers magnetolaw11.BusAlike returns true and leaves its arguments as they were; no condition. -/
import Derived.Test.YtalpbnfebcafgaaGreatRows
import Derived.Test.YtalpbnfebcafgaaGreatZL11a
import Derived.Test.YtalpbnfebcafgaaGreatY10
namespace Go.Proofs.YtalpbnfebcafgaaGreat.busAlike
set_option maxRecDepth 20000
open Go.ChangeShapes Go.WideShapes Go.ChangeAt Go.RowKit
open Go.ChangeMaps (open_string shut_string)
set_option linter.unusedVariables false

theorem pair_of (z : List Int) (h : z.length = 2) : ∃ x y, z = [x, y] := by
  match z, h with
  | [x, y], _ => exact ⟨x, y, rfl⟩

set_option maxRecDepth 100000 in
theorem lifted (os : Os) (started : os.Started) (H : Type) (enc : TypeId × Value → H) :
    ReturnsInHanded {} Tryz.checked os 4 .any (Rows.busAlikeSpec.pre6 enc Tryz.prog Tryz.f4 Rows.busAlikeRow.domain false) (Rows.busAlikeSpec.post enc Tryz.prog Tryz.f4 false true false false) := by
  refine returnsInHanded_of_change (C := Tryz.checked) ownKn started (by kernel_rfl) Tryz.func4
    (ChangeSpec.witness6 (enc := enc) (C := Tryz.checked) false ⟨#[], #[.slice none 0 0, .agg #[.int .i64 0, .int .i64 0], .agg #[.int .i64 0, .int .i64 0]], []⟩ 8 (by kernel_rfl) (by kernel_rfl) (by kernel_rfl) (by kernel_rfl)) ?_
  intro W base args ds gs before hval0 hW hcnd _
  have hval : ∀ (j : Nat) t v, Tryz.f4.params[j]? = some t → args[j]? = some v → Value.okWide Tryz.prog W .any base t v := hval0
  have hW' := hW
  obtain ⟨p, q, hA0, hV, rfl, hfz, hnd⟩ := hW
  have hA : DataW.TrodAll enc Tryz.prog W 0 (fun _ => true) true Tryz.f4.params.toList args.toList ds p := hA0
  rw [Tryz.params4] at hA hval
  obtain ⟨v0, vs0, d0, ds0, p0, q0', hargs, rfl, rfl, h0, r0'⟩ := trodAll_cons hA
  obtain ⟨v1, vs1, d1, ds1, p1, q1', rfl, rfl, rfl, h1, r1'⟩ := trodAll_cons r0'
  obtain ⟨v2, vs2, d2, ds2, p2, q2', rfl, rfl, rfl, h2, r2'⟩ := trodAll_cons r1'
  obtain ⟨rfl, rfl, rfl⟩ := trodAll_nil r2'
  obtain rfl : args = #[v0, v1, v2] := by cases args; simp_all
  obtain ⟨rfl, rfl⟩ := trodVars_none hV
  have k0 := h0
  have lt0 : ∀ x ∈ p0, x.block < W.heap.size := by obtain ⟨m, hm⟩ := k0; exact DataW.trod_lt m _ _ _ hm
  obtain ⟨aa0, ll0, cc0, rfl⟩ := okWide_slice Tryz.underlying25 (hval 0 25 v0 rfl rfl)
  obtain ⟨a0, n0, c0, f0, e0, r0⟩ : ∃ a n c f, Value.slice aa0 ll0 cc0 = .slice a n c ∧ (Gs acT W a n f ∧ ∀ y ∈ f, y.f.wf ∧ (Lit.int .i64 y.t).wf = true) := by
    obtain ⟨fuel, hf⟩ := h0
    obtain ⟨a, n, c, f, h1, h2, h3⟩ := acs_in hf
    exact ⟨a, n, c, f, h1, h2, h3⟩
  rw [e0] at k0 hW' ⊢
  have k1 := h1
  have lt1 : ∀ x ∈ p1, x.block < W.heap.size := by obtain ⟨m, hm⟩ := k1; exact DataW.trod_lt m _ _ _ hm
  obtain ⟨zn1, zt1, rfl⟩ := size_in (hval 1 61 v1 rfl rfl) h1
  have k2 := h2
  have lt2 : ∀ x ∈ p2, x.block < W.heap.size := by obtain ⟨m, hm⟩ := k2; exact DataW.trod_lt m _ _ _ hm
  obtain ⟨cs2, rfl⟩ := agg_in Tryz.underlying62 (hval 2 62 v2 rfl rfl)
  obtain ⟨z2, e2, l2⟩ : ∃ zs : List Int, cs2.toList = zs.map (Value.int .i64) ∧ zs.length = 2 := by
    obtain ⟨fuel, hf⟩ := h2
    exact ints_in Tryz.underlying62 (by kernel_rfl) hf
  obtain rfl : cs2 = (z2.map (Value.int .i64)).toArray := by rw [← e2]
  obtain ⟨x2, y2, rfl⟩ := pair_of z2 l2
  simp only [List.map_cons, List.map_nil] at k2 hW' ⊢
  clear hA0 hval0
  refine (alike_any a0 n0 c0 f0 zn1 zt1 x2 y2 W r0.1 r0.2).mono fun e W' ⟨he, bel⟩ => ?_
  subst he
  exact ⟨_, rfl, _, _, _, [], _, [], hW', trodAll_mk1 (shut_bool Tryz.underlying4 _), (trodAll_cons_mk (Below.trod laidOut (by kernel_rfl) (of_decide_eq_true (by kernel_rfl)) k0 bel lt0) (trodAll_cons_mk (Below.trod laidOut (by kernel_rfl) (of_decide_eq_true (by kernel_rfl)) k1 bel lt1) (trodAll_cons_mk (Below.trod laidOut (by kernel_rfl) (of_decide_eq_true (by kernel_rfl)) k2 bel lt2) trodAll_mk0))), rfl, bel.frame _, fun h => by cases h⟩

theorem over : Rows.busAlikeRow.holds Tryz.pinned (OpenSpec.ofChange Rows.busAlikeSpec) :=
  OpenClaim.holds_of_wide 4 Tryz.f4 rfl rfl rfl rfl rfl rfl rfl ⟨rfl, rfl, rfl, rfl, rfl⟩ rfl rfl rfl rfl rfl (by kernel_rfl) Tryz.func4 (by kernel_rfl)
    (of_decide_eq_true (by kernel_rfl)) (by unfold Func.isWrapper; first | (rw [if_pos (by decide +kernel)]; kernel_rfl) | (rw [if_neg (by decide +kernel)]; exact ⟨rfl, rfl⟩))
    (fun os started H enc _ => lifted os started H enc)

/-- The statement. -/
theorem proved : Rows.BusAlikeSaid := over
end Go.Proofs.YtalpbnfebcafgaaGreat.busAlike

namespace Go.Proofs.YtalpbnfebcafgaaGreat
/-- The statement. -/
theorem busAlike_holds : Rows.BusAlikeSaid := busAlike.proved
#print axioms busAlike_holds
end Go.Proofs.YtalpbnfebcafgaaGreat
