/-
  No cell of these rows narrows 'for every input' (looked for: loops, veiled, ifaces, maps, wideKeys, modest, calm, conditions, laid).
  DERIVED. THE GIVEN ROWS OF THIS SEAT. 6 by the template 'for every input the law returns true; each argument reads behind the call as it read before'; 0 by the template 'total and deterministic' (their statements: YtjbbneagikogbaaTotals.lean).
  GIVEN WITH THE SEED: the statements are not yours to turn. If you find one false, say at which input.
  Laid BY PROGRAM, IN A SANDBOX (cutbox-rows.mjs): the forced cells as the released guide's own fill.sh prints them over the translation 37bbe8a208a86a26… (all of the seat's roots in one cut). By AI agents, Wed Nov 11 2026. No macro, syntax, notation, axiom, sorry.
-/
import Derived.Test.YtjbbneagikogbaaChecked
import GoSem.Claim
import GoSem.ClaimJoined
import GoSem.ClaimMapViews
import Derived.JoinedTies
import Derived.KernelRfl
namespace Go.Proofs.Ytjbbneagikogbaa
/- THE CELL 'sum', in the pinned program and in every row, IS THE sha256 OF THE DUMP (.gsa) THAT YtjbbneagikogbaaProg.lean LOADS. Nothing in Lean hashes anything: it is a label: what it is worth is what the hold of that sum in a sandbox is worth. -/
noncomputable def Try.pinned : Pinned := { name := "ytjbbneagikogbaa", sum := "37bbe8a208a86a264fa1eec893771ebba2671c57a46d97fe1984f56591c779fc", checked := Try.checked }
namespace Rows
def none {H : Type} : Left H := { results := [], args := [] }

/-- 'magnetolaw07.ArbWired': WHATEVER THE INPUT: true; the input reads as it did. -/
def arbWiredSpec : ChangeSpec := { name := "arbWired", fn := fun _ => fun
  | [d] => { results := [.lit (.bool true)], args := [d] }
  | _ => none }
def arbWiredRow : OpenClaim := { program := "ytjbbneagikogbaa", sum := "37bbe8a208a86a264fa1eec893771ebba2671c57a46d97fe1984f56591c779fc", func := "magneto/magnetolaw07.ArbWired", spec := "arbWired", unfollowed := true, recurses := true, apart := false }
def ArbWiredSaid : Prop := arbWiredRow.holds Try.pinned (OpenSpec.ofChange arbWiredSpec)

/-- ITS FALSE NEIGHBOUR: 'it returns false'. Refute it at one input. -/
def arbWiredWrong : ChangeSpec := { name := "arbWired", fn := fun _ => fun
  | [d] => { results := [.lit (.bool false)], args := [d] }
  | _ => none }
def ArbWiredWrongFalsely : Prop := arbWiredRow.holds Try.pinned (OpenSpec.ofChange arbWiredWrong)

/-- 'magnetolaw07.ArbLoses': WHATEVER THE INPUT: true; the input reads as it did. -/
def arbLosesSpec : ChangeSpec := { name := "arbLoses", fn := fun _ => fun
  | [d1, d2] => { results := [.lit (.bool true)], args := [d1, d2] }
  | _ => none }
def arbLosesRow : OpenClaim := { program := "ytjbbneagikogbaa", sum := "37bbe8a208a86a264fa1eec893771ebba2671c57a46d97fe1984f56591c779fc", func := "magneto/magnetolaw07.ArbLoses", spec := "arbLoses", unfollowed := true, recurses := true, apart := false }
def ArbLosesSaid : Prop := arbLosesRow.holds Try.pinned (OpenSpec.ofChange arbLosesSpec)

/-- ITS FALSE NEIGHBOUR: 'it returns false'. Refute it at one input. -/
def arbLosesWrong : ChangeSpec := { name := "arbLoses", fn := fun _ => fun
  | [d1, d2] => { results := [.lit (.bool false)], args := [d1, d2] }
  | _ => none }
def ArbLosesWrongFalsely : Prop := arbLosesRow.holds Try.pinned (OpenSpec.ofChange arbLosesWrong)

/-- 'magnetolaw07.ArbOrders': WHATEVER THE INPUT: true; the input reads as it did. -/
def arbOrdersSpec : ChangeSpec := { name := "arbOrders", fn := fun _ => fun
  | [d] => { results := [.lit (.bool true)], args := [d] }
  | _ => none }
def arbOrdersRow : OpenClaim := { program := "ytjbbneagikogbaa", sum := "37bbe8a208a86a264fa1eec893771ebba2671c57a46d97fe1984f56591c779fc", func := "magneto/magnetolaw07.ArbOrders", spec := "arbOrders", unfollowed := true, recurses := true, apart := false }
def ArbOrdersSaid : Prop := arbOrdersRow.holds Try.pinned (OpenSpec.ofChange arbOrdersSpec)

/-- ITS FALSE NEIGHBOUR: 'it returns false'. Refute it at one input. -/
def arbOrdersWrong : ChangeSpec := { name := "arbOrders", fn := fun _ => fun
  | [d] => { results := [.lit (.bool false)], args := [d] }
  | _ => none }
def ArbOrdersWrongFalsely : Prop := arbOrdersRow.holds Try.pinned (OpenSpec.ofChange arbOrdersWrong)

/-- 'magnetolaw07.ArbWire': WHATEVER THE INPUT: true; the input reads as it did. -/
def arbWireSpec : ChangeSpec := { name := "arbWire", fn := fun _ => fun
  | [d] => { results := [.lit (.bool true)], args := [d] }
  | _ => none }
def arbWireRow : OpenClaim := { program := "ytjbbneagikogbaa", sum := "37bbe8a208a86a264fa1eec893771ebba2671c57a46d97fe1984f56591c779fc", func := "magneto/magnetolaw07.ArbWire", spec := "arbWire", unfollowed := true, recurses := true, apart := false }
def ArbWireSaid : Prop := arbWireRow.holds Try.pinned (OpenSpec.ofChange arbWireSpec)

/-- ITS FALSE NEIGHBOUR: 'it returns false'. Refute it at one input. -/
def arbWireWrong : ChangeSpec := { name := "arbWire", fn := fun _ => fun
  | [d] => { results := [.lit (.bool false)], args := [d] }
  | _ => none }
def ArbWireWrongFalsely : Prop := arbWireRow.holds Try.pinned (OpenSpec.ofChange arbWireWrong)

/-- 'magnetolaw07.ArbTwo': WHATEVER THE INPUT: true; the input reads as it did. -/
def arbTwoSpec : ChangeSpec := { name := "arbTwo", fn := fun _ => fun
  | [d1, d2, d3] => { results := [.lit (.bool true)], args := [d1, d2, d3] }
  | _ => none }
def arbTwoRow : OpenClaim := { program := "ytjbbneagikogbaa", sum := "37bbe8a208a86a264fa1eec893771ebba2671c57a46d97fe1984f56591c779fc", func := "magneto/magnetolaw07.ArbTwo", spec := "arbTwo", unfollowed := true, recurses := true, apart := false }
def ArbTwoSaid : Prop := arbTwoRow.holds Try.pinned (OpenSpec.ofChange arbTwoSpec)

/-- ITS FALSE NEIGHBOUR: 'it returns false'. Refute it at one input. -/
def arbTwoWrong : ChangeSpec := { name := "arbTwo", fn := fun _ => fun
  | [d1, d2, d3] => { results := [.lit (.bool false)], args := [d1, d2, d3] }
  | _ => none }
def ArbTwoWrongFalsely : Prop := arbTwoRow.holds Try.pinned (OpenSpec.ofChange arbTwoWrong)

/-- 'magnetolaw07.ArbPlaces': WHATEVER THE INPUT: true; the input reads as it did. -/
def arbPlacesSpec : ChangeSpec := { name := "arbPlaces", fn := fun _ => fun
  | [d1, d2] => { results := [.lit (.bool true)], args := [d1, d2] }
  | _ => none }
def arbPlacesRow : OpenClaim := { program := "ytjbbneagikogbaa", sum := "37bbe8a208a86a264fa1eec893771ebba2671c57a46d97fe1984f56591c779fc", func := "magneto/magnetolaw07.ArbPlaces", spec := "arbPlaces", unfollowed := true, recurses := true, apart := false }
def ArbPlacesSaid : Prop := arbPlacesRow.holds Try.pinned (OpenSpec.ofChange arbPlacesSpec)

/-- ITS FALSE NEIGHBOUR: 'it returns false'. Refute it at one input. -/
def arbPlacesWrong : ChangeSpec := { name := "arbPlaces", fn := fun _ => fun
  | [d1, d2] => { results := [.lit (.bool false)], args := [d1, d2] }
  | _ => none }
def ArbPlacesWrongFalsely : Prop := arbPlacesRow.holds Try.pinned (OpenSpec.ofChange arbPlacesWrong)

/- THE SECOND FORM. 'bulk': how many values and letters a reading holds, each counted each time it is reached (what is shared counts as often as it is met; a slice's spare places count too). A statement '..UptoSaid' is the law's where the arguments, and the package variables that the reading takes, are together of bulk at most 1048576: NARROWER than '..Said'. Prove '..Said' where nothing that the law and all that it calls make is longer than what came in: it says more and counts as full. Else prove '..UptoSaid'. A law counts once. -/
mutual
def uptoBulk {H : Type} : DataW H → Nat
  | .lit (.string bytes) => bytes.length + 1
  | .lit _ => 1
  | .nil => 1
  | .ptr d => uptoBulk d + 1
  | .slice elems spare => uptoBulkAll elems + uptoBulkAll spare + 1
  | .agg parts => uptoBulkAll parts + 1
  | .iface _ d => uptoBulk d + 1
  | .map entries => uptoBulkEntries entries + 1
  | .held _ => 1
def uptoBulkAll {H : Type} : List (DataW H) → Nat
  | [] => 0
  | d :: r => uptoBulk d + uptoBulkAll r
def uptoBulkEntries {H : Type} : List (Lit × DataW H) → Nat
  | [] => 0
  | x :: r => uptoBulkEntry x + uptoBulkEntries r
def uptoBulkEntry {H : Type} : Lit × DataW H → Nat
  | (.string bytes, d) => bytes.length + uptoBulk d + 1
  | (_, d) => uptoBulk d + 1
 end
def uptoSmall : (H : Type) → List (DataW H) → Bool := fun _ ds => decide (uptoBulkAll ds ≤ 1048576)
def OpenSpec.upto (s : _root_.Go.ChangeSpec) : _root_.Go.OpenSpec := { _root_.Go.OpenSpec.ofChange s with cond := some uptoSmall }

/-- 'magnetolaw07.ArbWired', WHERE WHAT IT READS IS OF BULK AT MOST 1048576: true; the input reads as it did. -/
def arbWiredUptoRow : OpenClaim := { program := "ytjbbneagikogbaa", sum := "37bbe8a208a86a264fa1eec893771ebba2671c57a46d97fe1984f56591c779fc", func := "magneto/magnetolaw07.ArbWired", spec := "arbWired", unfollowed := true, recurses := true, apart := false, narrowed := true }
def ArbWiredUptoSaid : Prop := arbWiredUptoRow.holds Try.pinned (OpenSpec.upto arbWiredSpec)

/-- 'magnetolaw07.ArbLoses', WHERE WHAT IT READS IS OF BULK AT MOST 1048576: true; the input reads as it did. -/
def arbLosesUptoRow : OpenClaim := { program := "ytjbbneagikogbaa", sum := "37bbe8a208a86a264fa1eec893771ebba2671c57a46d97fe1984f56591c779fc", func := "magneto/magnetolaw07.ArbLoses", spec := "arbLoses", unfollowed := true, recurses := true, apart := false, narrowed := true }
def ArbLosesUptoSaid : Prop := arbLosesUptoRow.holds Try.pinned (OpenSpec.upto arbLosesSpec)

/-- 'magnetolaw07.ArbOrders', WHERE WHAT IT READS IS OF BULK AT MOST 1048576: true; the input reads as it did. -/
def arbOrdersUptoRow : OpenClaim := { program := "ytjbbneagikogbaa", sum := "37bbe8a208a86a264fa1eec893771ebba2671c57a46d97fe1984f56591c779fc", func := "magneto/magnetolaw07.ArbOrders", spec := "arbOrders", unfollowed := true, recurses := true, apart := false, narrowed := true }
def ArbOrdersUptoSaid : Prop := arbOrdersUptoRow.holds Try.pinned (OpenSpec.upto arbOrdersSpec)

/-- 'magnetolaw07.ArbWire', WHERE WHAT IT READS IS OF BULK AT MOST 1048576: true; the input reads as it did. -/
def arbWireUptoRow : OpenClaim := { program := "ytjbbneagikogbaa", sum := "37bbe8a208a86a264fa1eec893771ebba2671c57a46d97fe1984f56591c779fc", func := "magneto/magnetolaw07.ArbWire", spec := "arbWire", unfollowed := true, recurses := true, apart := false, narrowed := true }
def ArbWireUptoSaid : Prop := arbWireUptoRow.holds Try.pinned (OpenSpec.upto arbWireSpec)

/-- 'magnetolaw07.ArbTwo', WHERE WHAT IT READS IS OF BULK AT MOST 1048576: true; the input reads as it did. -/
def arbTwoUptoRow : OpenClaim := { program := "ytjbbneagikogbaa", sum := "37bbe8a208a86a264fa1eec893771ebba2671c57a46d97fe1984f56591c779fc", func := "magneto/magnetolaw07.ArbTwo", spec := "arbTwo", unfollowed := true, recurses := true, apart := false, narrowed := true }
def ArbTwoUptoSaid : Prop := arbTwoUptoRow.holds Try.pinned (OpenSpec.upto arbTwoSpec)

/-- 'magnetolaw07.ArbPlaces', WHERE WHAT IT READS IS OF BULK AT MOST 1048576: true; the input reads as it did. -/
def arbPlacesUptoRow : OpenClaim := { program := "ytjbbneagikogbaa", sum := "37bbe8a208a86a264fa1eec893771ebba2671c57a46d97fe1984f56591c779fc", func := "magneto/magnetolaw07.ArbPlaces", spec := "arbPlaces", unfollowed := true, recurses := true, apart := false, narrowed := true }
def ArbPlacesUptoSaid : Prop := arbPlacesUptoRow.holds Try.pinned (OpenSpec.upto arbPlacesSpec)

end Rows
end Go.Proofs.Ytjbbneagikogbaa
