/- For every row of turns magnetolaw10.CtlKeeps returns true and leaves its arguments as they were; no condition. -/
import Derived.Test.YtenfcbmeokenaaaGreatRows
import Derived.Test.YtenfcbmeokenaaaGreatZL10e
import Derived.Test.YtenfcbmeokenaaaGreatY5
namespace Go.Proofs.YtenfcbmeokenaaaGreat.ctlKeeps
set_option maxRecDepth 20000
open Go.ChangeShapes Go.WideShapes Go.ChangeAt Go.RowKit
open Go.ChangeMaps (open_string shut_string)
set_option linter.unusedVariables false

set_option maxRecDepth 100000 in
theorem lifted (os : Os) (started : os.Started) (H : Type) (enc : TypeId × Value → H) :
    ReturnsInHanded {} Tryz.checked os 7 .any (Rows.ctlKeepsSpec.pre6 enc Tryz.prog Tryz.f7 Rows.ctlKeepsRow.domain false) (Rows.ctlKeepsSpec.post enc Tryz.prog Tryz.f7 false true false false) := by
  refine returnsInHanded_of_change (C := Tryz.checked) ownKn started (by kernel_rfl) Tryz.func7
    (ChangeSpec.witness6 (enc := enc) (C := Tryz.checked) false ⟨#[], #[.slice none 0 0], []⟩ 8 (by kernel_rfl) (by kernel_rfl) (by kernel_rfl) (by kernel_rfl)) ?_
  intro W base args ds gs before hval0 hW hcnd _
  have hval : ∀ (j : Nat) t v, Tryz.f7.params[j]? = some t → args[j]? = some v → Value.okWide Tryz.prog W .any base t v := hval0
  have hW' := hW
  obtain ⟨p, q, hA0, hV, rfl, hfz, hnd⟩ := hW
  have hA : DataW.TrodAll enc Tryz.prog W 0 (fun _ => true) true Tryz.f7.params.toList args.toList ds p := hA0
  rw [Tryz.params7] at hA hval
  obtain ⟨v0, vs0, d0, ds0, p0, q0', hargs, rfl, rfl, h0, r0'⟩ := trodAll_cons hA
  obtain ⟨rfl, rfl, rfl⟩ := trodAll_nil r0'
  obtain rfl : args = #[v0] := by cases args; simp_all
  obtain ⟨rfl, rfl⟩ := trodVars_none hV
  have k0 := h0
  have lt0 : ∀ x ∈ p0, x.block < W.heap.size := by obtain ⟨m, hm⟩ := k0; exact DataW.trod_lt m _ _ _ hm
  obtain ⟨aa0, ll0, cc0, rfl⟩ := okWide_slice Tryz.underlying48 (hval 0 48 v0 rfl rfl)
  obtain ⟨a0, n0, c0, f0, e0, r0⟩ : ∃ a n c f, Value.slice aa0 ll0 cc0 = .slice a n c ∧ (Tl W a n f ∧ ∀ i, i < n → (f i).f.wf) := by
    obtain ⟨fuel, hf⟩ := h0
    obtain ⟨a, n, c, f, h1, h2, h3⟩ := turns_in hf
    exact ⟨a, n, c, f, h1, h2, h3⟩
  rw [e0] at k0 hW' ⊢
  clear hA0 hval0
  refine (keeps_any a0 n0 c0 f0 W r0.1 r0.2).mono fun e W' ⟨he, bel⟩ => ?_
  subst he
  exact ⟨_, rfl, _, _, _, [], _, [], hW', trodAll_mk1 (shut_bool Tryz.underlying4 _), (trodAll_cons_mk (Below.trod laidOut (by kernel_rfl) (of_decide_eq_true (by kernel_rfl)) k0 bel lt0) trodAll_mk0), rfl, bel.frame _, fun h => by cases h⟩

theorem over : Rows.ctlKeepsRow.holds Tryz.pinned (OpenSpec.ofChange Rows.ctlKeepsSpec) :=
  OpenClaim.holds_of_wide 7 Tryz.f7 rfl rfl rfl rfl rfl rfl rfl ⟨rfl, rfl, rfl, rfl, rfl⟩ rfl rfl rfl rfl rfl (by kernel_rfl) Tryz.func7 (by kernel_rfl)
    (of_decide_eq_true (by kernel_rfl)) (by unfold Func.isWrapper; first | (rw [if_pos (by decide +kernel)]; kernel_rfl) | (rw [if_neg (by decide +kernel)]; exact ⟨rfl, rfl⟩))
    (fun os started H enc _ => lifted os started H enc)

/-- The statement. -/
theorem proved : Rows.CtlKeepsSaid := over
end Go.Proofs.YtenfcbmeokenaaaGreat.ctlKeeps

namespace Go.Proofs.YtenfcbmeokenaaaGreat
/-- The statement. -/
theorem ctlKeeps_holds : Rows.CtlKeepsSaid := ctlKeeps.proved
#print axioms ctlKeeps_holds
end Go.Proofs.YtenfcbmeokenaaaGreat
