/-
  No cell of these rows narrows 'for every input' (looked for: loops, veiled, ifaces, maps, wideKeys, modest, calm, conditions, laid).
  DERIVED. THE GIVEN ROWS OF THIS SEAT. 6 by the template 'for every input the law returns true; each argument reads behind the call as it read before'; 0 by the template 'total and deterministic' (their statements: YtafcabnjkkbfiaaTotals.lean).
  GIVEN WITH THE SEED: the statements are not yours to turn. If you find one false, say at which input.
  Laid BY PROGRAM, IN A SANDBOX (cutbox-rows.mjs): the forced cells as the released guide's own fill.sh prints them over the translation 66a87ff78610c489… (all of the seat's roots in one cut). By AI agents, Wed Nov 11 2026. No macro, syntax, notation, axiom, sorry.
-/
import Derived.Test.YtafcabnjkkbfiaaChecked
import GoSem.Claim
import GoSem.ClaimJoined
import GoSem.ClaimMapViews
import Derived.JoinedTies
import Derived.KernelRfl
namespace Go.Proofs.Ytafcabnjkkbfiaa
/- THE CELL 'sum', in the pinned program and in every row, IS THE sha256 OF THE DUMP (.gsa) THAT YtafcabnjkkbfiaaProg.lean LOADS. Nothing in Lean hashes anything: it is a label: what it is worth is what the hold of that sum in a sandbox is worth. -/
noncomputable def Try.pinned : Pinned := { name := "ytafcabnjkkbfiaa", sum := "66a87ff78610c4893cb20b2059ed108262147297db305d3ff307f6961adf665f", checked := Try.checked }
namespace Rows
def none {H : Type} : Left H := { results := [], args := [] }

/-- 'magnetolaw02.Crc15Steps': WHATEVER THE INPUT: true; the input reads as it did. -/
def crc15StepsSpec : ChangeSpec := { name := "crc15Steps", fn := fun _ => fun
  | [d1, d2] => { results := [.lit (.bool true)], args := [d1, d2] }
  | _ => none }
def crc15StepsRow : OpenClaim := { program := "ytafcabnjkkbfiaa", sum := "66a87ff78610c4893cb20b2059ed108262147297db305d3ff307f6961adf665f", func := "magneto/magnetolaw02.Crc15Steps", spec := "crc15Steps", unfollowed := true, recurses := true, apart := false }
def Crc15StepsSaid : Prop := crc15StepsRow.holds Try.pinned (OpenSpec.ofChange crc15StepsSpec)

/-- ITS FALSE NEIGHBOUR: 'it returns false'. Refute it at one input. -/
def crc15StepsWrong : ChangeSpec := { name := "crc15Steps", fn := fun _ => fun
  | [d1, d2] => { results := [.lit (.bool false)], args := [d1, d2] }
  | _ => none }
def Crc15StepsWrongFalsely : Prop := crc15StepsRow.holds Try.pinned (OpenSpec.ofChange crc15StepsWrong)

/-- 'magnetolaw02.Crc15Sums': WHATEVER THE INPUT: true; the input reads as it did. -/
def crc15SumsSpec : ChangeSpec := { name := "crc15Sums", fn := fun _ => fun
  | [d] => { results := [.lit (.bool true)], args := [d] }
  | _ => none }
def crc15SumsRow : OpenClaim := { program := "ytafcabnjkkbfiaa", sum := "66a87ff78610c4893cb20b2059ed108262147297db305d3ff307f6961adf665f", func := "magneto/magnetolaw02.Crc15Sums", spec := "crc15Sums", unfollowed := true, recurses := true, apart := false }
def Crc15SumsSaid : Prop := crc15SumsRow.holds Try.pinned (OpenSpec.ofChange crc15SumsSpec)

/-- ITS FALSE NEIGHBOUR: 'it returns false'. Refute it at one input. -/
def crc15SumsWrong : ChangeSpec := { name := "crc15Sums", fn := fun _ => fun
  | [d] => { results := [.lit (.bool false)], args := [d] }
  | _ => none }
def Crc15SumsWrongFalsely : Prop := crc15SumsRow.holds Try.pinned (OpenSpec.ofChange crc15SumsWrong)

/-- 'magnetolaw02.Crc15Right': WHATEVER THE INPUT: true; the input reads as it did. -/
def crc15RightSpec : ChangeSpec := { name := "crc15Right", fn := fun _ => fun
  | [d1, d2] => { results := [.lit (.bool true)], args := [d1, d2] }
  | _ => none }
def crc15RightRow : OpenClaim := { program := "ytafcabnjkkbfiaa", sum := "66a87ff78610c4893cb20b2059ed108262147297db305d3ff307f6961adf665f", func := "magneto/magnetolaw02.Crc15Right", spec := "crc15Right", unfollowed := true, recurses := true, apart := false }
def Crc15RightSaid : Prop := crc15RightRow.holds Try.pinned (OpenSpec.ofChange crc15RightSpec)

/-- ITS FALSE NEIGHBOUR: 'it returns false'. Refute it at one input. -/
def crc15RightWrong : ChangeSpec := { name := "crc15Right", fn := fun _ => fun
  | [d1, d2] => { results := [.lit (.bool false)], args := [d1, d2] }
  | _ => none }
def Crc15RightWrongFalsely : Prop := crc15RightRow.holds Try.pinned (OpenSpec.ofChange crc15RightWrong)

/-- 'magnetolaw02.Crc15Turns': WHATEVER THE INPUT: true; the input reads as it did. -/
def crc15TurnsSpec : ChangeSpec := { name := "crc15Turns", fn := fun _ => fun
  | [d1, d2, d3] => { results := [.lit (.bool true)], args := [d1, d2, d3] }
  | _ => none }
def crc15TurnsRow : OpenClaim := { program := "ytafcabnjkkbfiaa", sum := "66a87ff78610c4893cb20b2059ed108262147297db305d3ff307f6961adf665f", func := "magneto/magnetolaw02.Crc15Turns", spec := "crc15Turns", unfollowed := true, recurses := true, apart := false }
def Crc15TurnsSaid : Prop := crc15TurnsRow.holds Try.pinned (OpenSpec.ofChange crc15TurnsSpec)

/-- ITS FALSE NEIGHBOUR: 'it returns false'. Refute it at one input. -/
def crc15TurnsWrong : ChangeSpec := { name := "crc15Turns", fn := fun _ => fun
  | [d1, d2, d3] => { results := [.lit (.bool false)], args := [d1, d2, d3] }
  | _ => none }
def Crc15TurnsWrongFalsely : Prop := crc15TurnsRow.holds Try.pinned (OpenSpec.ofChange crc15TurnsWrong)

/-- 'magnetolaw02.Crc15Xors': WHATEVER THE INPUT: true; the input reads as it did. -/
def crc15XorsSpec : ChangeSpec := { name := "crc15Xors", fn := fun _ => fun
  | [d] => { results := [.lit (.bool true)], args := [d] }
  | _ => none }
def crc15XorsRow : OpenClaim := { program := "ytafcabnjkkbfiaa", sum := "66a87ff78610c4893cb20b2059ed108262147297db305d3ff307f6961adf665f", func := "magneto/magnetolaw02.Crc15Xors", spec := "crc15Xors", unfollowed := true, recurses := true, apart := false }
def Crc15XorsSaid : Prop := crc15XorsRow.holds Try.pinned (OpenSpec.ofChange crc15XorsSpec)

/-- ITS FALSE NEIGHBOUR: 'it returns false'. Refute it at one input. -/
def crc15XorsWrong : ChangeSpec := { name := "crc15Xors", fn := fun _ => fun
  | [d] => { results := [.lit (.bool false)], args := [d] }
  | _ => none }
def Crc15XorsWrongFalsely : Prop := crc15XorsRow.holds Try.pinned (OpenSpec.ofChange crc15XorsWrong)

/-- 'magnetolaw02.Crc15Zeros': WHATEVER THE INPUT: true; the input reads as it did. -/
def crc15ZerosSpec : ChangeSpec := { name := "crc15Zeros", fn := fun _ => fun
  | [d1, d2, d3] => { results := [.lit (.bool true)], args := [d1, d2, d3] }
  | _ => none }
def crc15ZerosRow : OpenClaim := { program := "ytafcabnjkkbfiaa", sum := "66a87ff78610c4893cb20b2059ed108262147297db305d3ff307f6961adf665f", func := "magneto/magnetolaw02.Crc15Zeros", spec := "crc15Zeros", unfollowed := true, recurses := true, apart := false }
def Crc15ZerosSaid : Prop := crc15ZerosRow.holds Try.pinned (OpenSpec.ofChange crc15ZerosSpec)

/-- ITS FALSE NEIGHBOUR: 'it returns false'. Refute it at one input. -/
def crc15ZerosWrong : ChangeSpec := { name := "crc15Zeros", fn := fun _ => fun
  | [d1, d2, d3] => { results := [.lit (.bool false)], args := [d1, d2, d3] }
  | _ => none }
def Crc15ZerosWrongFalsely : Prop := crc15ZerosRow.holds Try.pinned (OpenSpec.ofChange crc15ZerosWrong)

/- THE SECOND FORM. 'bulk': how many values and letters a reading holds, each counted each time it is reached (what is shared counts as often as it is met; a slice's spare places count too). A statement '..UptoSaid' is the law's where the arguments, and the package variables that the reading takes, are together of bulk at most 1048576: NARROWER than '..Said'. Prove '..Said' where nothing that the law and all that it calls make is longer than what came in: it says more and counts as full. Else prove '..UptoSaid'. A law counts once. -/
mutual
def uptoBulk {H : Type} : DataW H → Nat
  | .lit (.string bytes) => bytes.length + 1
  | .lit _ => 1
  | .nil => 1
  | .ptr d => uptoBulk d + 1
  | .slice elems spare => uptoBulkAll elems + uptoBulkAll spare + 1
  | .agg parts => uptoBulkAll parts + 1
  | .iface _ d => uptoBulk d + 1
  | .map entries => uptoBulkEntries entries + 1
  | .held _ => 1
def uptoBulkAll {H : Type} : List (DataW H) → Nat
  | [] => 0
  | d :: r => uptoBulk d + uptoBulkAll r
def uptoBulkEntries {H : Type} : List (Lit × DataW H) → Nat
  | [] => 0
  | x :: r => uptoBulkEntry x + uptoBulkEntries r
def uptoBulkEntry {H : Type} : Lit × DataW H → Nat
  | (.string bytes, d) => bytes.length + uptoBulk d + 1
  | (_, d) => uptoBulk d + 1
 end
def uptoSmall : (H : Type) → List (DataW H) → Bool := fun _ ds => decide (uptoBulkAll ds ≤ 1048576)
def OpenSpec.upto (s : _root_.Go.ChangeSpec) : _root_.Go.OpenSpec := { _root_.Go.OpenSpec.ofChange s with cond := some uptoSmall }

/-- 'magnetolaw02.Crc15Steps', WHERE WHAT IT READS IS OF BULK AT MOST 1048576: true; the input reads as it did. -/
def crc15StepsUptoRow : OpenClaim := { program := "ytafcabnjkkbfiaa", sum := "66a87ff78610c4893cb20b2059ed108262147297db305d3ff307f6961adf665f", func := "magneto/magnetolaw02.Crc15Steps", spec := "crc15Steps", unfollowed := true, recurses := true, apart := false, narrowed := true }
def Crc15StepsUptoSaid : Prop := crc15StepsUptoRow.holds Try.pinned (OpenSpec.upto crc15StepsSpec)

/-- 'magnetolaw02.Crc15Sums', WHERE WHAT IT READS IS OF BULK AT MOST 1048576: true; the input reads as it did. -/
def crc15SumsUptoRow : OpenClaim := { program := "ytafcabnjkkbfiaa", sum := "66a87ff78610c4893cb20b2059ed108262147297db305d3ff307f6961adf665f", func := "magneto/magnetolaw02.Crc15Sums", spec := "crc15Sums", unfollowed := true, recurses := true, apart := false, narrowed := true }
def Crc15SumsUptoSaid : Prop := crc15SumsUptoRow.holds Try.pinned (OpenSpec.upto crc15SumsSpec)

/-- 'magnetolaw02.Crc15Right', WHERE WHAT IT READS IS OF BULK AT MOST 1048576: true; the input reads as it did. -/
def crc15RightUptoRow : OpenClaim := { program := "ytafcabnjkkbfiaa", sum := "66a87ff78610c4893cb20b2059ed108262147297db305d3ff307f6961adf665f", func := "magneto/magnetolaw02.Crc15Right", spec := "crc15Right", unfollowed := true, recurses := true, apart := false, narrowed := true }
def Crc15RightUptoSaid : Prop := crc15RightUptoRow.holds Try.pinned (OpenSpec.upto crc15RightSpec)

/-- 'magnetolaw02.Crc15Turns', WHERE WHAT IT READS IS OF BULK AT MOST 1048576: true; the input reads as it did. -/
def crc15TurnsUptoRow : OpenClaim := { program := "ytafcabnjkkbfiaa", sum := "66a87ff78610c4893cb20b2059ed108262147297db305d3ff307f6961adf665f", func := "magneto/magnetolaw02.Crc15Turns", spec := "crc15Turns", unfollowed := true, recurses := true, apart := false, narrowed := true }
def Crc15TurnsUptoSaid : Prop := crc15TurnsUptoRow.holds Try.pinned (OpenSpec.upto crc15TurnsSpec)

/-- 'magnetolaw02.Crc15Xors', WHERE WHAT IT READS IS OF BULK AT MOST 1048576: true; the input reads as it did. -/
def crc15XorsUptoRow : OpenClaim := { program := "ytafcabnjkkbfiaa", sum := "66a87ff78610c4893cb20b2059ed108262147297db305d3ff307f6961adf665f", func := "magneto/magnetolaw02.Crc15Xors", spec := "crc15Xors", unfollowed := true, recurses := true, apart := false, narrowed := true }
def Crc15XorsUptoSaid : Prop := crc15XorsUptoRow.holds Try.pinned (OpenSpec.upto crc15XorsSpec)

/-- 'magnetolaw02.Crc15Zeros', WHERE WHAT IT READS IS OF BULK AT MOST 1048576: true; the input reads as it did. -/
def crc15ZerosUptoRow : OpenClaim := { program := "ytafcabnjkkbfiaa", sum := "66a87ff78610c4893cb20b2059ed108262147297db305d3ff307f6961adf665f", func := "magneto/magnetolaw02.Crc15Zeros", spec := "crc15Zeros", unfollowed := true, recurses := true, apart := false, narrowed := true }
def Crc15ZerosUptoSaid : Prop := crc15ZerosUptoRow.holds Try.pinned (OpenSpec.upto crc15ZerosSpec)

end Rows
end Go.Proofs.Ytafcabnjkkbfiaa
