/-
  No cell of these rows narrows 'for every input' (looked for: loops, veiled, ifaces, maps, wideKeys, modest, calm, conditions, laid).
  DERIVED. THE GIVEN ROWS OF THIS SEAT. 6 by the template 'for every input the law returns true; each argument reads behind the call as it read before'; 0 by the template 'total and deterministic' (their statements: YtclinogamfpooaaTotals.lean).
  GIVEN WITH THE SEED: the statements are not yours to turn. If you find one false, say at which input.
  Laid BY PROGRAM, IN A SANDBOX (cutbox-rows.mjs): the forced cells as the released guide's own fill.sh prints them over the translation 10ab83b3a7234239… (all of the seat's roots in one cut). By AI agents, Wed Nov 11 2026. No macro, syntax, notation, axiom, sorry.
-/
import Derived.Test.YtclinogamfpooaaChecked
import GoSem.Claim
import GoSem.ClaimJoined
import GoSem.ClaimMapViews
import Derived.JoinedTies
import Derived.KernelRfl
namespace Go.Proofs.Ytclinogamfpooaa
/- THE CELL 'sum', in the pinned program and in every row, IS THE sha256 OF THE DUMP (.gsa) THAT YtclinogamfpooaaProg.lean LOADS. Nothing in Lean hashes anything: it is a label: what it is worth is what the hold of that sum in a sandbox is worth. -/
noncomputable def Try.pinned : Pinned := { name := "ytclinogamfpooaa", sum := "10ab83b3a7234239209cd6f430d9c84056bb763520b0213cd2dd060068ff5378", checked := Try.checked }
namespace Rows
def none {H : Type} : Left H := { results := [], args := [] }

/-- 'magnetolaw04.FieldBits': WHATEVER THE INPUT: true; the input reads as it did. -/
def fieldBitsSpec : ChangeSpec := { name := "fieldBits", fn := fun _ => fun
  | [d] => { results := [.lit (.bool true)], args := [d] }
  | _ => none }
def fieldBitsRow : OpenClaim := { program := "ytclinogamfpooaa", sum := "10ab83b3a7234239209cd6f430d9c84056bb763520b0213cd2dd060068ff5378", func := "magneto/magnetolaw04.FieldBits", spec := "fieldBits", unfollowed := true, recurses := true, apart := false }
def FieldBitsSaid : Prop := fieldBitsRow.holds Try.pinned (OpenSpec.ofChange fieldBitsSpec)

/-- ITS FALSE NEIGHBOUR: 'it returns false'. Refute it at one input. -/
def fieldBitsWrong : ChangeSpec := { name := "fieldBits", fn := fun _ => fun
  | [d] => { results := [.lit (.bool false)], args := [d] }
  | _ => none }
def FieldBitsWrongFalsely : Prop := fieldBitsRow.holds Try.pinned (OpenSpec.ofChange fieldBitsWrong)

/-- 'magnetolaw04.FieldNexts': WHATEVER THE INPUT: true; the input reads as it did. -/
def fieldNextsSpec : ChangeSpec := { name := "fieldNexts", fn := fun _ => fun
  | [d] => { results := [.lit (.bool true)], args := [d] }
  | _ => none }
def fieldNextsRow : OpenClaim := { program := "ytclinogamfpooaa", sum := "10ab83b3a7234239209cd6f430d9c84056bb763520b0213cd2dd060068ff5378", func := "magneto/magnetolaw04.FieldNexts", spec := "fieldNexts", unfollowed := true, recurses := true, apart := false }
def FieldNextsSaid : Prop := fieldNextsRow.holds Try.pinned (OpenSpec.ofChange fieldNextsSpec)

/-- ITS FALSE NEIGHBOUR: 'it returns false'. Refute it at one input. -/
def fieldNextsWrong : ChangeSpec := { name := "fieldNexts", fn := fun _ => fun
  | [d] => { results := [.lit (.bool false)], args := [d] }
  | _ => none }
def FieldNextsWrongFalsely : Prop := fieldNextsRow.holds Try.pinned (OpenSpec.ofChange fieldNextsWrong)

/-- 'magnetolaw04.FieldFrames': WHATEVER THE INPUT: true; the input reads as it did. -/
def fieldFramesSpec : ChangeSpec := { name := "fieldFrames", fn := fun _ => fun
  | [d] => { results := [.lit (.bool true)], args := [d] }
  | _ => none }
def fieldFramesRow : OpenClaim := { program := "ytclinogamfpooaa", sum := "10ab83b3a7234239209cd6f430d9c84056bb763520b0213cd2dd060068ff5378", func := "magneto/magnetolaw04.FieldFrames", spec := "fieldFrames", unfollowed := true, recurses := true, apart := false }
def FieldFramesSaid : Prop := fieldFramesRow.holds Try.pinned (OpenSpec.ofChange fieldFramesSpec)

/-- ITS FALSE NEIGHBOUR: 'it returns false'. Refute it at one input. -/
def fieldFramesWrong : ChangeSpec := { name := "fieldFrames", fn := fun _ => fun
  | [d] => { results := [.lit (.bool false)], args := [d] }
  | _ => none }
def FieldFramesWrongFalsely : Prop := fieldFramesRow.holds Try.pinned (OpenSpec.ofChange fieldFramesWrong)

/-- 'magnetolaw04.FieldBack': WHATEVER THE INPUT: true; the input reads as it did. -/
def fieldBackSpec : ChangeSpec := { name := "fieldBack", fn := fun _ => fun
  | [d1, d2, d3] => { results := [.lit (.bool true)], args := [d1, d2, d3] }
  | _ => none }
def fieldBackRow : OpenClaim := { program := "ytclinogamfpooaa", sum := "10ab83b3a7234239209cd6f430d9c84056bb763520b0213cd2dd060068ff5378", func := "magneto/magnetolaw04.FieldBack", spec := "fieldBack", unfollowed := true, recurses := true, apart := false }
def FieldBackSaid : Prop := fieldBackRow.holds Try.pinned (OpenSpec.ofChange fieldBackSpec)

/-- ITS FALSE NEIGHBOUR: 'it returns false'. Refute it at one input. -/
def fieldBackWrong : ChangeSpec := { name := "fieldBack", fn := fun _ => fun
  | [d1, d2, d3] => { results := [.lit (.bool false)], args := [d1, d2, d3] }
  | _ => none }
def FieldBackWrongFalsely : Prop := fieldBackRow.holds Try.pinned (OpenSpec.ofChange fieldBackWrong)

/-- 'magnetolaw04.FieldGoes': WHATEVER THE INPUT: true; the input reads as it did. -/
def fieldGoesSpec : ChangeSpec := { name := "fieldGoes", fn := fun _ => fun
  | [d] => { results := [.lit (.bool true)], args := [d] }
  | _ => none }
def fieldGoesRow : OpenClaim := { program := "ytclinogamfpooaa", sum := "10ab83b3a7234239209cd6f430d9c84056bb763520b0213cd2dd060068ff5378", func := "magneto/magnetolaw04.FieldGoes", spec := "fieldGoes", unfollowed := true, recurses := true, apart := false }
def FieldGoesSaid : Prop := fieldGoesRow.holds Try.pinned (OpenSpec.ofChange fieldGoesSpec)

/-- ITS FALSE NEIGHBOUR: 'it returns false'. Refute it at one input. -/
def fieldGoesWrong : ChangeSpec := { name := "fieldGoes", fn := fun _ => fun
  | [d] => { results := [.lit (.bool false)], args := [d] }
  | _ => none }
def FieldGoesWrongFalsely : Prop := fieldGoesRow.holds Try.pinned (OpenSpec.ofChange fieldGoesWrong)

/-- 'magnetolaw04.FieldLong': WHATEVER THE INPUT: true; the input reads as it did. -/
def fieldLongSpec : ChangeSpec := { name := "fieldLong", fn := fun _ => fun
  | [d1, d2, d3] => { results := [.lit (.bool true)], args := [d1, d2, d3] }
  | _ => none }
def fieldLongRow : OpenClaim := { program := "ytclinogamfpooaa", sum := "10ab83b3a7234239209cd6f430d9c84056bb763520b0213cd2dd060068ff5378", func := "magneto/magnetolaw04.FieldLong", spec := "fieldLong", unfollowed := true, recurses := true, apart := false }
def FieldLongSaid : Prop := fieldLongRow.holds Try.pinned (OpenSpec.ofChange fieldLongSpec)

/-- ITS FALSE NEIGHBOUR: 'it returns false'. Refute it at one input. -/
def fieldLongWrong : ChangeSpec := { name := "fieldLong", fn := fun _ => fun
  | [d1, d2, d3] => { results := [.lit (.bool false)], args := [d1, d2, d3] }
  | _ => none }
def FieldLongWrongFalsely : Prop := fieldLongRow.holds Try.pinned (OpenSpec.ofChange fieldLongWrong)

/- THE SECOND FORM. 'bulk': how many values and letters a reading holds, each counted each time it is reached (what is shared counts as often as it is met; a slice's spare places count too). A statement '..UptoSaid' is the law's where the arguments, and the package variables that the reading takes, are together of bulk at most 1048576: NARROWER than '..Said'. Prove '..Said' where nothing that the law and all that it calls make is longer than what came in: it says more and counts as full. Else prove '..UptoSaid'. A law counts once. -/
mutual
def uptoBulk {H : Type} : DataW H → Nat
  | .lit (.string bytes) => bytes.length + 1
  | .lit _ => 1
  | .nil => 1
  | .ptr d => uptoBulk d + 1
  | .slice elems spare => uptoBulkAll elems + uptoBulkAll spare + 1
  | .agg parts => uptoBulkAll parts + 1
  | .iface _ d => uptoBulk d + 1
  | .map entries => uptoBulkEntries entries + 1
  | .held _ => 1
def uptoBulkAll {H : Type} : List (DataW H) → Nat
  | [] => 0
  | d :: r => uptoBulk d + uptoBulkAll r
def uptoBulkEntries {H : Type} : List (Lit × DataW H) → Nat
  | [] => 0
  | x :: r => uptoBulkEntry x + uptoBulkEntries r
def uptoBulkEntry {H : Type} : Lit × DataW H → Nat
  | (.string bytes, d) => bytes.length + uptoBulk d + 1
  | (_, d) => uptoBulk d + 1
 end
def uptoSmall : (H : Type) → List (DataW H) → Bool := fun _ ds => decide (uptoBulkAll ds ≤ 1048576)
def OpenSpec.upto (s : _root_.Go.ChangeSpec) : _root_.Go.OpenSpec := { _root_.Go.OpenSpec.ofChange s with cond := some uptoSmall }

/-- 'magnetolaw04.FieldBits', WHERE WHAT IT READS IS OF BULK AT MOST 1048576: true; the input reads as it did. -/
def fieldBitsUptoRow : OpenClaim := { program := "ytclinogamfpooaa", sum := "10ab83b3a7234239209cd6f430d9c84056bb763520b0213cd2dd060068ff5378", func := "magneto/magnetolaw04.FieldBits", spec := "fieldBits", unfollowed := true, recurses := true, apart := false, narrowed := true }
def FieldBitsUptoSaid : Prop := fieldBitsUptoRow.holds Try.pinned (OpenSpec.upto fieldBitsSpec)

/-- 'magnetolaw04.FieldNexts', WHERE WHAT IT READS IS OF BULK AT MOST 1048576: true; the input reads as it did. -/
def fieldNextsUptoRow : OpenClaim := { program := "ytclinogamfpooaa", sum := "10ab83b3a7234239209cd6f430d9c84056bb763520b0213cd2dd060068ff5378", func := "magneto/magnetolaw04.FieldNexts", spec := "fieldNexts", unfollowed := true, recurses := true, apart := false, narrowed := true }
def FieldNextsUptoSaid : Prop := fieldNextsUptoRow.holds Try.pinned (OpenSpec.upto fieldNextsSpec)

/-- 'magnetolaw04.FieldFrames', WHERE WHAT IT READS IS OF BULK AT MOST 1048576: true; the input reads as it did. -/
def fieldFramesUptoRow : OpenClaim := { program := "ytclinogamfpooaa", sum := "10ab83b3a7234239209cd6f430d9c84056bb763520b0213cd2dd060068ff5378", func := "magneto/magnetolaw04.FieldFrames", spec := "fieldFrames", unfollowed := true, recurses := true, apart := false, narrowed := true }
def FieldFramesUptoSaid : Prop := fieldFramesUptoRow.holds Try.pinned (OpenSpec.upto fieldFramesSpec)

/-- 'magnetolaw04.FieldBack', WHERE WHAT IT READS IS OF BULK AT MOST 1048576: true; the input reads as it did. -/
def fieldBackUptoRow : OpenClaim := { program := "ytclinogamfpooaa", sum := "10ab83b3a7234239209cd6f430d9c84056bb763520b0213cd2dd060068ff5378", func := "magneto/magnetolaw04.FieldBack", spec := "fieldBack", unfollowed := true, recurses := true, apart := false, narrowed := true }
def FieldBackUptoSaid : Prop := fieldBackUptoRow.holds Try.pinned (OpenSpec.upto fieldBackSpec)

/-- 'magnetolaw04.FieldGoes', WHERE WHAT IT READS IS OF BULK AT MOST 1048576: true; the input reads as it did. -/
def fieldGoesUptoRow : OpenClaim := { program := "ytclinogamfpooaa", sum := "10ab83b3a7234239209cd6f430d9c84056bb763520b0213cd2dd060068ff5378", func := "magneto/magnetolaw04.FieldGoes", spec := "fieldGoes", unfollowed := true, recurses := true, apart := false, narrowed := true }
def FieldGoesUptoSaid : Prop := fieldGoesUptoRow.holds Try.pinned (OpenSpec.upto fieldGoesSpec)

/-- 'magnetolaw04.FieldLong', WHERE WHAT IT READS IS OF BULK AT MOST 1048576: true; the input reads as it did. -/
def fieldLongUptoRow : OpenClaim := { program := "ytclinogamfpooaa", sum := "10ab83b3a7234239209cd6f430d9c84056bb763520b0213cd2dd060068ff5378", func := "magneto/magnetolaw04.FieldLong", spec := "fieldLong", unfollowed := true, recurses := true, apart := false, narrowed := true }
def FieldLongUptoSaid : Prop := fieldLongUptoRow.holds Try.pinned (OpenSpec.upto fieldLongSpec)

end Rows
end Go.Proofs.Ytclinogamfpooaa
