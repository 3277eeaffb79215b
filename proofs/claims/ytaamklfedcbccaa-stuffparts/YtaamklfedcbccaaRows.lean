/-
  No cell of these rows narrows 'for every input' (looked for: loops, veiled, ifaces, maps, wideKeys, modest, calm, conditions, laid).
  DERIVED. THE GIVEN ROWS OF THIS SEAT. 6 by the template 'for every input the law returns true; each argument reads behind the call as it read before'; 0 by the template 'total and deterministic' (their statements: YtaamklfedcbccaaTotals.lean).
  GIVEN WITH THE SEED: the statements are not yours to turn. If you find one false, say at which input.
  Laid BY PROGRAM, IN A SANDBOX (cutbox-rows.mjs): the forced cells as the released guide's own fill.sh prints them over the translation 29a76b19ae04c521… (all of the seat's roots in one cut). By AI agents, Wed Nov 11 2026. No macro, syntax, notation, axiom, sorry.
-/
import Derived.Test.YtaamklfedcbccaaChecked
import GoSem.Claim
import GoSem.ClaimJoined
import GoSem.ClaimMapViews
import Derived.JoinedTies
import Derived.KernelRfl
namespace Go.Proofs.Ytaamklfedcbccaa
/- THE CELL 'sum', in the pinned program and in every row, IS THE sha256 OF THE DUMP (.gsa) THAT YtaamklfedcbccaaProg.lean LOADS. Nothing in Lean hashes anything: it is a label: what it is worth is what the hold of that sum in a sandbox is worth. -/
noncomputable def Try.pinned : Pinned := { name := "ytaamklfedcbccaa", sum := "29a76b19ae04c5219e020e7a3bbea78823d7803488c49a2371bc00bfe332f164", checked := Try.checked }
namespace Rows
def none {H : Type} : Left H := { results := [], args := [] }

/-- 'magnetolaw05.StuffAdds': WHATEVER THE INPUT: true; the input reads as it did. -/
def stuffAddsSpec : ChangeSpec := { name := "stuffAdds", fn := fun _ => fun
  | [d1, d2] => { results := [.lit (.bool true)], args := [d1, d2] }
  | _ => none }
def stuffAddsRow : OpenClaim := { program := "ytaamklfedcbccaa", sum := "29a76b19ae04c5219e020e7a3bbea78823d7803488c49a2371bc00bfe332f164", func := "magneto/magnetolaw05.StuffAdds", spec := "stuffAdds", unfollowed := true, recurses := true, apart := false }
def StuffAddsSaid : Prop := stuffAddsRow.holds Try.pinned (OpenSpec.ofChange stuffAddsSpec)

/-- ITS FALSE NEIGHBOUR: 'it returns false'. Refute it at one input. -/
def stuffAddsWrong : ChangeSpec := { name := "stuffAdds", fn := fun _ => fun
  | [d1, d2] => { results := [.lit (.bool false)], args := [d1, d2] }
  | _ => none }
def StuffAddsWrongFalsely : Prop := stuffAddsRow.holds Try.pinned (OpenSpec.ofChange stuffAddsWrong)

/-- 'magnetolaw05.StuffTakes': WHATEVER THE INPUT: true; the input reads as it did. -/
def stuffTakesSpec : ChangeSpec := { name := "stuffTakes", fn := fun _ => fun
  | [d] => { results := [.lit (.bool true)], args := [d] }
  | _ => none }
def stuffTakesRow : OpenClaim := { program := "ytaamklfedcbccaa", sum := "29a76b19ae04c5219e020e7a3bbea78823d7803488c49a2371bc00bfe332f164", func := "magneto/magnetolaw05.StuffTakes", spec := "stuffTakes", unfollowed := true, recurses := true, apart := false }
def StuffTakesSaid : Prop := stuffTakesRow.holds Try.pinned (OpenSpec.ofChange stuffTakesSpec)

/-- ITS FALSE NEIGHBOUR: 'it returns false'. Refute it at one input. -/
def stuffTakesWrong : ChangeSpec := { name := "stuffTakes", fn := fun _ => fun
  | [d] => { results := [.lit (.bool false)], args := [d] }
  | _ => none }
def StuffTakesWrongFalsely : Prop := stuffTakesRow.holds Try.pinned (OpenSpec.ofChange stuffTakesWrong)

/-- 'magnetolaw05.StuffBack': WHATEVER THE INPUT: true; the input reads as it did. -/
def stuffBackSpec : ChangeSpec := { name := "stuffBack", fn := fun _ => fun
  | [d1, d2] => { results := [.lit (.bool true)], args := [d1, d2] }
  | _ => none }
def stuffBackRow : OpenClaim := { program := "ytaamklfedcbccaa", sum := "29a76b19ae04c5219e020e7a3bbea78823d7803488c49a2371bc00bfe332f164", func := "magneto/magnetolaw05.StuffBack", spec := "stuffBack", unfollowed := true, recurses := true, apart := false }
def StuffBackSaid : Prop := stuffBackRow.holds Try.pinned (OpenSpec.ofChange stuffBackSpec)

/-- ITS FALSE NEIGHBOUR: 'it returns false'. Refute it at one input. -/
def stuffBackWrong : ChangeSpec := { name := "stuffBack", fn := fun _ => fun
  | [d1, d2] => { results := [.lit (.bool false)], args := [d1, d2] }
  | _ => none }
def StuffBackWrongFalsely : Prop := stuffBackRow.holds Try.pinned (OpenSpec.ofChange stuffBackWrong)

/-- 'magnetolaw05.StuffNext': WHATEVER THE INPUT: true; the input reads as it did. -/
def stuffNextSpec : ChangeSpec := { name := "stuffNext", fn := fun _ => fun
  | [d] => { results := [.lit (.bool true)], args := [d] }
  | _ => none }
def stuffNextRow : OpenClaim := { program := "ytaamklfedcbccaa", sum := "29a76b19ae04c5219e020e7a3bbea78823d7803488c49a2371bc00bfe332f164", func := "magneto/magnetolaw05.StuffNext", spec := "stuffNext", unfollowed := true, recurses := true, apart := false }
def StuffNextSaid : Prop := stuffNextRow.holds Try.pinned (OpenSpec.ofChange stuffNextSpec)

/-- ITS FALSE NEIGHBOUR: 'it returns false'. Refute it at one input. -/
def stuffNextWrong : ChangeSpec := { name := "stuffNext", fn := fun _ => fun
  | [d] => { results := [.lit (.bool false)], args := [d] }
  | _ => none }
def StuffNextWrongFalsely : Prop := stuffNextRow.holds Try.pinned (OpenSpec.ofChange stuffNextWrong)

/-- 'magnetolaw05.StuffParts': WHATEVER THE INPUT: true; the input reads as it did. -/
def stuffPartsSpec : ChangeSpec := { name := "stuffParts", fn := fun _ => fun
  | [d1, d2] => { results := [.lit (.bool true)], args := [d1, d2] }
  | _ => none }
def stuffPartsRow : OpenClaim := { program := "ytaamklfedcbccaa", sum := "29a76b19ae04c5219e020e7a3bbea78823d7803488c49a2371bc00bfe332f164", func := "magneto/magnetolaw05.StuffParts", spec := "stuffParts", unfollowed := true, recurses := true, apart := false }
def StuffPartsSaid : Prop := stuffPartsRow.holds Try.pinned (OpenSpec.ofChange stuffPartsSpec)

/-- ITS FALSE NEIGHBOUR: 'it returns false'. Refute it at one input. -/
def stuffPartsWrong : ChangeSpec := { name := "stuffParts", fn := fun _ => fun
  | [d1, d2] => { results := [.lit (.bool false)], args := [d1, d2] }
  | _ => none }
def StuffPartsWrongFalsely : Prop := stuffPartsRow.holds Try.pinned (OpenSpec.ofChange stuffPartsWrong)

/-- 'magnetolaw05.StuffTurned': WHATEVER THE INPUT: true; the input reads as it did. -/
def stuffTurnedSpec : ChangeSpec := { name := "stuffTurned", fn := fun _ => fun
  | [d1, d2, d3] => { results := [.lit (.bool true)], args := [d1, d2, d3] }
  | _ => none }
def stuffTurnedRow : OpenClaim := { program := "ytaamklfedcbccaa", sum := "29a76b19ae04c5219e020e7a3bbea78823d7803488c49a2371bc00bfe332f164", func := "magneto/magnetolaw05.StuffTurned", spec := "stuffTurned", unfollowed := true, recurses := true, apart := false }
def StuffTurnedSaid : Prop := stuffTurnedRow.holds Try.pinned (OpenSpec.ofChange stuffTurnedSpec)

/-- ITS FALSE NEIGHBOUR: 'it returns false'. Refute it at one input. -/
def stuffTurnedWrong : ChangeSpec := { name := "stuffTurned", fn := fun _ => fun
  | [d1, d2, d3] => { results := [.lit (.bool false)], args := [d1, d2, d3] }
  | _ => none }
def StuffTurnedWrongFalsely : Prop := stuffTurnedRow.holds Try.pinned (OpenSpec.ofChange stuffTurnedWrong)

/- THE SECOND FORM. 'bulk': how many values and letters a reading holds, each counted each time it is reached (what is shared counts as often as it is met; a slice's spare places count too). A statement '..UptoSaid' is the law's where the arguments, and the package variables that the reading takes, are together of bulk at most 1048576: NARROWER than '..Said'. Prove '..Said' where nothing that the law and all that it calls make is longer than what came in: it says more and counts as full. Else prove '..UptoSaid'. A law counts once. -/
mutual
def uptoBulk {H : Type} : DataW H → Nat
  | .lit (.string bytes) => bytes.length + 1
  | .lit _ => 1
  | .nil => 1
  | .ptr d => uptoBulk d + 1
  | .slice elems spare => uptoBulkAll elems + uptoBulkAll spare + 1
  | .agg parts => uptoBulkAll parts + 1
  | .iface _ d => uptoBulk d + 1
  | .map entries => uptoBulkEntries entries + 1
  | .held _ => 1
def uptoBulkAll {H : Type} : List (DataW H) → Nat
  | [] => 0
  | d :: r => uptoBulk d + uptoBulkAll r
def uptoBulkEntries {H : Type} : List (Lit × DataW H) → Nat
  | [] => 0
  | x :: r => uptoBulkEntry x + uptoBulkEntries r
def uptoBulkEntry {H : Type} : Lit × DataW H → Nat
  | (.string bytes, d) => bytes.length + uptoBulk d + 1
  | (_, d) => uptoBulk d + 1
 end
def uptoSmall : (H : Type) → List (DataW H) → Bool := fun _ ds => decide (uptoBulkAll ds ≤ 1048576)
def OpenSpec.upto (s : _root_.Go.ChangeSpec) : _root_.Go.OpenSpec := { _root_.Go.OpenSpec.ofChange s with cond := some uptoSmall }

/-- 'magnetolaw05.StuffAdds', WHERE WHAT IT READS IS OF BULK AT MOST 1048576: true; the input reads as it did. -/
def stuffAddsUptoRow : OpenClaim := { program := "ytaamklfedcbccaa", sum := "29a76b19ae04c5219e020e7a3bbea78823d7803488c49a2371bc00bfe332f164", func := "magneto/magnetolaw05.StuffAdds", spec := "stuffAdds", unfollowed := true, recurses := true, apart := false, narrowed := true }
def StuffAddsUptoSaid : Prop := stuffAddsUptoRow.holds Try.pinned (OpenSpec.upto stuffAddsSpec)

/-- 'magnetolaw05.StuffTakes', WHERE WHAT IT READS IS OF BULK AT MOST 1048576: true; the input reads as it did. -/
def stuffTakesUptoRow : OpenClaim := { program := "ytaamklfedcbccaa", sum := "29a76b19ae04c5219e020e7a3bbea78823d7803488c49a2371bc00bfe332f164", func := "magneto/magnetolaw05.StuffTakes", spec := "stuffTakes", unfollowed := true, recurses := true, apart := false, narrowed := true }
def StuffTakesUptoSaid : Prop := stuffTakesUptoRow.holds Try.pinned (OpenSpec.upto stuffTakesSpec)

/-- 'magnetolaw05.StuffBack', WHERE WHAT IT READS IS OF BULK AT MOST 1048576: true; the input reads as it did. -/
def stuffBackUptoRow : OpenClaim := { program := "ytaamklfedcbccaa", sum := "29a76b19ae04c5219e020e7a3bbea78823d7803488c49a2371bc00bfe332f164", func := "magneto/magnetolaw05.StuffBack", spec := "stuffBack", unfollowed := true, recurses := true, apart := false, narrowed := true }
def StuffBackUptoSaid : Prop := stuffBackUptoRow.holds Try.pinned (OpenSpec.upto stuffBackSpec)

/-- 'magnetolaw05.StuffNext', WHERE WHAT IT READS IS OF BULK AT MOST 1048576: true; the input reads as it did. -/
def stuffNextUptoRow : OpenClaim := { program := "ytaamklfedcbccaa", sum := "29a76b19ae04c5219e020e7a3bbea78823d7803488c49a2371bc00bfe332f164", func := "magneto/magnetolaw05.StuffNext", spec := "stuffNext", unfollowed := true, recurses := true, apart := false, narrowed := true }
def StuffNextUptoSaid : Prop := stuffNextUptoRow.holds Try.pinned (OpenSpec.upto stuffNextSpec)

/-- 'magnetolaw05.StuffParts', WHERE WHAT IT READS IS OF BULK AT MOST 1048576: true; the input reads as it did. -/
def stuffPartsUptoRow : OpenClaim := { program := "ytaamklfedcbccaa", sum := "29a76b19ae04c5219e020e7a3bbea78823d7803488c49a2371bc00bfe332f164", func := "magneto/magnetolaw05.StuffParts", spec := "stuffParts", unfollowed := true, recurses := true, apart := false, narrowed := true }
def StuffPartsUptoSaid : Prop := stuffPartsUptoRow.holds Try.pinned (OpenSpec.upto stuffPartsSpec)

/-- 'magnetolaw05.StuffTurned', WHERE WHAT IT READS IS OF BULK AT MOST 1048576: true; the input reads as it did. -/
def stuffTurnedUptoRow : OpenClaim := { program := "ytaamklfedcbccaa", sum := "29a76b19ae04c5219e020e7a3bbea78823d7803488c49a2371bc00bfe332f164", func := "magneto/magnetolaw05.StuffTurned", spec := "stuffTurned", unfollowed := true, recurses := true, apart := false, narrowed := true }
def StuffTurnedUptoSaid : Prop := stuffTurnedUptoRow.holds Try.pinned (OpenSpec.upto stuffTurnedSpec)

end Rows
end Go.Proofs.Ytaamklfedcbccaa
