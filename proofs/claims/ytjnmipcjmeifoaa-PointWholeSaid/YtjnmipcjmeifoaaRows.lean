/-
  No cell of these rows narrows 'for every input' (looked for: loops, veiled, ifaces, maps, wideKeys, modest, calm, conditions, laid).
  DERIVED. THE GIVEN ROWS OF THIS SEAT. 5 by the template 'for every input the law returns true; each argument reads behind the call as it read before'; 0 by the template 'total and deterministic' (their statements: YtjnmipcjmeifoaaTotals.lean).
  GIVEN WITH THE SEED: the statements are not yours to turn. If you find one false, say at which input.
  Laid BY PROGRAM, IN A SANDBOX (cutbox-rows.mjs): the forced cells as the released guide's own fill.sh prints them over the translation 9270cc6590407de2… (all of the seat's roots in one cut). By AI agents, Wed Nov 11 2026. No macro, syntax, notation, axiom, sorry.
-/
import Derived.Test.YtjnmipcjmeifoaaChecked
import GoSem.Claim
import GoSem.ClaimJoined
import GoSem.ClaimMapViews
import Derived.JoinedTies
import Derived.KernelRfl
namespace Go.Proofs.Ytjnmipcjmeifoaa
/- THE CELL 'sum', in the pinned program and in every row, IS THE sha256 OF THE DUMP (.gsa) THAT YtjnmipcjmeifoaaProg.lean LOADS. Nothing in Lean hashes anything: it is a label: what it is worth is what the hold of that sum in a sandbox is worth. -/
noncomputable def Try.pinned : Pinned := { name := "ytjnmipcjmeifoaa", sum := "9270cc6590407de2aa87794630b37a39edeb8500fae5818c32371528f4431554", checked := Try.checked }
namespace Rows
def none {H : Type} : Left H := { results := [], args := [] }

/-- 'lookasidelaw08.PointPointers': WHATEVER THE INPUT: true; the input reads as it did. -/
def pointPointersSpec : ChangeSpec := { name := "pointPointers", fn := fun _ => fun
  | [d1, d2, d3] => { results := [.lit (.bool true)], args := [d1, d2, d3] }
  | _ => none }
def pointPointersRow : OpenClaim := { program := "ytjnmipcjmeifoaa", sum := "9270cc6590407de2aa87794630b37a39edeb8500fae5818c32371528f4431554", func := "lookaside/lookasidelaw08.PointPointers", spec := "pointPointers", unfollowed := true, recurses := true, apart := false }
def PointPointersSaid : Prop := pointPointersRow.holds Try.pinned (OpenSpec.ofChange pointPointersSpec)

/-- ITS FALSE NEIGHBOUR: 'it returns false'. Refute it at one input. -/
def pointPointersWrong : ChangeSpec := { name := "pointPointers", fn := fun _ => fun
  | [d1, d2, d3] => { results := [.lit (.bool false)], args := [d1, d2, d3] }
  | _ => none }
def PointPointersWrongFalsely : Prop := pointPointersRow.holds Try.pinned (OpenSpec.ofChange pointPointersWrong)

/-- 'lookasidelaw08.PointIn': WHATEVER THE INPUT: true; the input reads as it did. -/
def pointInSpec : ChangeSpec := { name := "pointIn", fn := fun _ => fun
  | [d1, d2, d3] => { results := [.lit (.bool true)], args := [d1, d2, d3] }
  | _ => none }
def pointInRow : OpenClaim := { program := "ytjnmipcjmeifoaa", sum := "9270cc6590407de2aa87794630b37a39edeb8500fae5818c32371528f4431554", func := "lookaside/lookasidelaw08.PointIn", spec := "pointIn", unfollowed := true, recurses := true, apart := false }
def PointInSaid : Prop := pointInRow.holds Try.pinned (OpenSpec.ofChange pointInSpec)

/-- ITS FALSE NEIGHBOUR: 'it returns false'. Refute it at one input. -/
def pointInWrong : ChangeSpec := { name := "pointIn", fn := fun _ => fun
  | [d1, d2, d3] => { results := [.lit (.bool false)], args := [d1, d2, d3] }
  | _ => none }
def PointInWrongFalsely : Prop := pointInRow.holds Try.pinned (OpenSpec.ofChange pointInWrong)

/-- 'lookasidelaw08.PointSlots': WHATEVER THE INPUT: true; the input reads as it did. -/
def pointSlotsSpec : ChangeSpec := { name := "pointSlots", fn := fun _ => fun
  | [d1, d2, d3, d4, d5] => { results := [.lit (.bool true)], args := [d1, d2, d3, d4, d5] }
  | _ => none }
def pointSlotsRow : OpenClaim := { program := "ytjnmipcjmeifoaa", sum := "9270cc6590407de2aa87794630b37a39edeb8500fae5818c32371528f4431554", func := "lookaside/lookasidelaw08.PointSlots", spec := "pointSlots", unfollowed := true, recurses := true, apart := false }
def PointSlotsSaid : Prop := pointSlotsRow.holds Try.pinned (OpenSpec.ofChange pointSlotsSpec)

/-- ITS FALSE NEIGHBOUR: 'it returns false'. Refute it at one input. -/
def pointSlotsWrong : ChangeSpec := { name := "pointSlots", fn := fun _ => fun
  | [d1, d2, d3, d4, d5] => { results := [.lit (.bool false)], args := [d1, d2, d3, d4, d5] }
  | _ => none }
def PointSlotsWrongFalsely : Prop := pointSlotsRow.holds Try.pinned (OpenSpec.ofChange pointSlotsWrong)

/-- 'lookasidelaw08.PointNext': WHATEVER THE INPUT: true; the input reads as it did. -/
def pointNextSpec : ChangeSpec := { name := "pointNext", fn := fun _ => fun
  | [d1, d2, d3] => { results := [.lit (.bool true)], args := [d1, d2, d3] }
  | _ => none }
def pointNextRow : OpenClaim := { program := "ytjnmipcjmeifoaa", sum := "9270cc6590407de2aa87794630b37a39edeb8500fae5818c32371528f4431554", func := "lookaside/lookasidelaw08.PointNext", spec := "pointNext", unfollowed := true, recurses := true, apart := false }
def PointNextSaid : Prop := pointNextRow.holds Try.pinned (OpenSpec.ofChange pointNextSpec)

/-- ITS FALSE NEIGHBOUR: 'it returns false'. Refute it at one input. -/
def pointNextWrong : ChangeSpec := { name := "pointNext", fn := fun _ => fun
  | [d1, d2, d3] => { results := [.lit (.bool false)], args := [d1, d2, d3] }
  | _ => none }
def PointNextWrongFalsely : Prop := pointNextRow.holds Try.pinned (OpenSpec.ofChange pointNextWrong)

/-- 'lookasidelaw08.PointWhole': WHATEVER THE INPUT: true; the input reads as it did. -/
def pointWholeSpec : ChangeSpec := { name := "pointWhole", fn := fun _ => fun
  | [d1, d2, d3] => { results := [.lit (.bool true)], args := [d1, d2, d3] }
  | _ => none }
def pointWholeRow : OpenClaim := { program := "ytjnmipcjmeifoaa", sum := "9270cc6590407de2aa87794630b37a39edeb8500fae5818c32371528f4431554", func := "lookaside/lookasidelaw08.PointWhole", spec := "pointWhole", unfollowed := true, recurses := true, apart := false }
def PointWholeSaid : Prop := pointWholeRow.holds Try.pinned (OpenSpec.ofChange pointWholeSpec)

/-- ITS FALSE NEIGHBOUR: 'it returns false'. Refute it at one input. -/
def pointWholeWrong : ChangeSpec := { name := "pointWhole", fn := fun _ => fun
  | [d1, d2, d3] => { results := [.lit (.bool false)], args := [d1, d2, d3] }
  | _ => none }
def PointWholeWrongFalsely : Prop := pointWholeRow.holds Try.pinned (OpenSpec.ofChange pointWholeWrong)

/- THE SECOND FORM. 'bulk': how many values and letters a reading holds, each counted each time it is reached (what is shared counts as often as it is met; a slice's spare places count too). A statement '..UptoSaid' is the law's where the arguments, and the package variables that the reading takes, are together of bulk at most 1048576: NARROWER than '..Said'. Prove '..Said' where nothing that the law and all that it calls make is longer than what came in: it says more and counts as full. Else prove '..UptoSaid'. A law counts once. -/
mutual
def uptoBulk {H : Type} : DataW H → Nat
  | .lit (.string bytes) => bytes.length + 1
  | .lit _ => 1
  | .nil => 1
  | .ptr d => uptoBulk d + 1
  | .slice elems spare => uptoBulkAll elems + uptoBulkAll spare + 1
  | .agg parts => uptoBulkAll parts + 1
  | .iface _ d => uptoBulk d + 1
  | .map entries => uptoBulkEntries entries + 1
  | .held _ => 1
def uptoBulkAll {H : Type} : List (DataW H) → Nat
  | [] => 0
  | d :: r => uptoBulk d + uptoBulkAll r
def uptoBulkEntries {H : Type} : List (Lit × DataW H) → Nat
  | [] => 0
  | x :: r => uptoBulkEntry x + uptoBulkEntries r
def uptoBulkEntry {H : Type} : Lit × DataW H → Nat
  | (.string bytes, d) => bytes.length + uptoBulk d + 1
  | (_, d) => uptoBulk d + 1
 end
def uptoSmall : (H : Type) → List (DataW H) → Bool := fun _ ds => decide (uptoBulkAll ds ≤ 1048576)
def OpenSpec.upto (s : _root_.Go.ChangeSpec) : _root_.Go.OpenSpec := { _root_.Go.OpenSpec.ofChange s with cond := some uptoSmall }

/-- 'lookasidelaw08.PointPointers', WHERE WHAT IT READS IS OF BULK AT MOST 1048576: true; the input reads as it did. -/
def pointPointersUptoRow : OpenClaim := { program := "ytjnmipcjmeifoaa", sum := "9270cc6590407de2aa87794630b37a39edeb8500fae5818c32371528f4431554", func := "lookaside/lookasidelaw08.PointPointers", spec := "pointPointers", unfollowed := true, recurses := true, apart := false, narrowed := true }
def PointPointersUptoSaid : Prop := pointPointersUptoRow.holds Try.pinned (OpenSpec.upto pointPointersSpec)

/-- 'lookasidelaw08.PointIn', WHERE WHAT IT READS IS OF BULK AT MOST 1048576: true; the input reads as it did. -/
def pointInUptoRow : OpenClaim := { program := "ytjnmipcjmeifoaa", sum := "9270cc6590407de2aa87794630b37a39edeb8500fae5818c32371528f4431554", func := "lookaside/lookasidelaw08.PointIn", spec := "pointIn", unfollowed := true, recurses := true, apart := false, narrowed := true }
def PointInUptoSaid : Prop := pointInUptoRow.holds Try.pinned (OpenSpec.upto pointInSpec)

/-- 'lookasidelaw08.PointSlots', WHERE WHAT IT READS IS OF BULK AT MOST 1048576: true; the input reads as it did. -/
def pointSlotsUptoRow : OpenClaim := { program := "ytjnmipcjmeifoaa", sum := "9270cc6590407de2aa87794630b37a39edeb8500fae5818c32371528f4431554", func := "lookaside/lookasidelaw08.PointSlots", spec := "pointSlots", unfollowed := true, recurses := true, apart := false, narrowed := true }
def PointSlotsUptoSaid : Prop := pointSlotsUptoRow.holds Try.pinned (OpenSpec.upto pointSlotsSpec)

/-- 'lookasidelaw08.PointNext', WHERE WHAT IT READS IS OF BULK AT MOST 1048576: true; the input reads as it did. -/
def pointNextUptoRow : OpenClaim := { program := "ytjnmipcjmeifoaa", sum := "9270cc6590407de2aa87794630b37a39edeb8500fae5818c32371528f4431554", func := "lookaside/lookasidelaw08.PointNext", spec := "pointNext", unfollowed := true, recurses := true, apart := false, narrowed := true }
def PointNextUptoSaid : Prop := pointNextUptoRow.holds Try.pinned (OpenSpec.upto pointNextSpec)

/-- 'lookasidelaw08.PointWhole', WHERE WHAT IT READS IS OF BULK AT MOST 1048576: true; the input reads as it did. -/
def pointWholeUptoRow : OpenClaim := { program := "ytjnmipcjmeifoaa", sum := "9270cc6590407de2aa87794630b37a39edeb8500fae5818c32371528f4431554", func := "lookaside/lookasidelaw08.PointWhole", spec := "pointWhole", unfollowed := true, recurses := true, apart := false, narrowed := true }
def PointWholeUptoSaid : Prop := pointWholeUptoRow.holds Try.pinned (OpenSpec.upto pointWholeSpec)

end Rows
end Go.Proofs.Ytjnmipcjmeifoaa
