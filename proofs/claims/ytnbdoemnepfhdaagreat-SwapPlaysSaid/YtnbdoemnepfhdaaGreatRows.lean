/-
  No cell of these rows narrows 'for every input' (looked for: loops, veiled, ifaces, maps, wideKeys, modest, calm, conditions, laid).
  DERIVED. THE GIVEN ROWS OF THIS SEAT. 3 by the template 'for every input the law returns true; each argument reads behind the call as it read before'; 0 by the template 'total and deterministic' (their statements: YtnbdoemnepfhdaaGreatTotals.lean).
  GIVEN WITH THE SEED: the statements are not yours to turn. If you find one false, say at which input.
  Laid BY PROGRAM, IN A SANDBOX (cutbox-rows.mjs): the forced cells as the released guide's own fill.sh prints them over the translation 22167c4954e3c453… (all of the seat's roots in one cut). By AI agents, Wed Nov 11 2026. No macro, syntax, notation, axiom, sorry.
-/
import Derived.Test.YtnbdoemnepfhdaaGreatChecked
import GoSem.Claim
import GoSem.ClaimJoined
import GoSem.ClaimMapViews
import Derived.JoinedTies
import Derived.KernelRfl
namespace Go.Proofs.YtnbdoemnepfhdaaGreat
/- THE CELL 'sum', in the pinned program and in every row, IS THE sha256 OF THE DUMP (.gsa) THAT YtnbdoemnepfhdaaGreatProg.lean LOADS. Nothing in Lean hashes anything: it is a label: what it is worth is what the hold of that sum in a sandbox is worth. -/
noncomputable def Tryz.pinned : Pinned := { name := "ytnbdoemnepfhdaagreat", sum := "22167c4954e3c453ca5db87c13252316df21901f6b0e21d2d2d626501c745b2b", checked := Tryz.checked }
namespace Rows
def none {H : Type} : Left H := { results := [], args := [] }

/-- 'lookasidelaw13.SwapPlays': WHATEVER THE INPUT: true; the input reads as it did. -/
def swapPlaysSpec : ChangeSpec := { name := "swapPlays", fn := fun _ => fun
  | [d1, d2] => { results := [.lit (.bool true)], args := [d1, d2] }
  | _ => none }
def swapPlaysRow : OpenClaim := { program := "ytnbdoemnepfhdaagreat", sum := "22167c4954e3c453ca5db87c13252316df21901f6b0e21d2d2d626501c745b2b", func := "lookaside/lookasidelaw13.SwapPlays", spec := "swapPlays", unfollowed := true, recurses := true, apart := false }
def SwapPlaysSaid : Prop := swapPlaysRow.holds Tryz.pinned (OpenSpec.ofChange swapPlaysSpec)

/-- ITS FALSE NEIGHBOUR: 'it returns false'. Refute it at one input. -/
def swapPlaysWrong : ChangeSpec := { name := "swapPlays", fn := fun _ => fun
  | [d1, d2] => { results := [.lit (.bool false)], args := [d1, d2] }
  | _ => none }
def SwapPlaysWrongFalsely : Prop := swapPlaysRow.holds Tryz.pinned (OpenSpec.ofChange swapPlaysWrong)

/-- 'lookasidelaw13.SwapFails': WHATEVER THE INPUT: true; the input reads as it did. -/
def swapFailsSpec : ChangeSpec := { name := "swapFails", fn := fun _ => fun
  | [d1, d2, d3, d4] => { results := [.lit (.bool true)], args := [d1, d2, d3, d4] }
  | _ => none }
def swapFailsRow : OpenClaim := { program := "ytnbdoemnepfhdaagreat", sum := "22167c4954e3c453ca5db87c13252316df21901f6b0e21d2d2d626501c745b2b", func := "lookaside/lookasidelaw13.SwapFails", spec := "swapFails", unfollowed := true, recurses := true, apart := false }
def SwapFailsSaid : Prop := swapFailsRow.holds Tryz.pinned (OpenSpec.ofChange swapFailsSpec)

/-- ITS FALSE NEIGHBOUR: 'it returns false'. Refute it at one input. -/
def swapFailsWrong : ChangeSpec := { name := "swapFails", fn := fun _ => fun
  | [d1, d2, d3, d4] => { results := [.lit (.bool false)], args := [d1, d2, d3, d4] }
  | _ => none }
def SwapFailsWrongFalsely : Prop := swapFailsRow.holds Tryz.pinned (OpenSpec.ofChange swapFailsWrong)

/-- 'lookasidelaw13.SwapKeeps': WHATEVER THE INPUT: true; the input reads as it did. -/
def swapKeepsSpec : ChangeSpec := { name := "swapKeeps", fn := fun _ => fun
  | [d1, d2, d3, d4] => { results := [.lit (.bool true)], args := [d1, d2, d3, d4] }
  | _ => none }
def swapKeepsRow : OpenClaim := { program := "ytnbdoemnepfhdaagreat", sum := "22167c4954e3c453ca5db87c13252316df21901f6b0e21d2d2d626501c745b2b", func := "lookaside/lookasidelaw13.SwapKeeps", spec := "swapKeeps", unfollowed := true, recurses := true, apart := false }
def SwapKeepsSaid : Prop := swapKeepsRow.holds Tryz.pinned (OpenSpec.ofChange swapKeepsSpec)

/-- ITS FALSE NEIGHBOUR: 'it returns false'. Refute it at one input. -/
def swapKeepsWrong : ChangeSpec := { name := "swapKeeps", fn := fun _ => fun
  | [d1, d2, d3, d4] => { results := [.lit (.bool false)], args := [d1, d2, d3, d4] }
  | _ => none }
def SwapKeepsWrongFalsely : Prop := swapKeepsRow.holds Tryz.pinned (OpenSpec.ofChange swapKeepsWrong)

/- THE SECOND FORM. 'bulk': how many values and letters a reading holds, each counted each time it is reached (what is shared counts as often as it is met; a slice's spare places count too). A statement '..UptoSaid' is the law's where the arguments, and the package variables that the reading takes, are together of bulk at most 1048576: NARROWER than '..Said'. Prove '..Said' where nothing that the law and all that it calls make is longer than what came in: it says more and counts as full. Else prove '..UptoSaid'. A law counts once. -/
mutual
def uptoBulk {H : Type} : DataW H → Nat
  | .lit (.string bytes) => bytes.length + 1
  | .lit _ => 1
  | .nil => 1
  | .ptr d => uptoBulk d + 1
  | .slice elems spare => uptoBulkAll elems + uptoBulkAll spare + 1
  | .agg parts => uptoBulkAll parts + 1
  | .iface _ d => uptoBulk d + 1
  | .map entries => uptoBulkEntries entries + 1
  | .held _ => 1
def uptoBulkAll {H : Type} : List (DataW H) → Nat
  | [] => 0
  | d :: r => uptoBulk d + uptoBulkAll r
def uptoBulkEntries {H : Type} : List (Lit × DataW H) → Nat
  | [] => 0
  | x :: r => uptoBulkEntry x + uptoBulkEntries r
def uptoBulkEntry {H : Type} : Lit × DataW H → Nat
  | (.string bytes, d) => bytes.length + uptoBulk d + 1
  | (_, d) => uptoBulk d + 1
 end
def uptoSmall : (H : Type) → List (DataW H) → Bool := fun _ ds => decide (uptoBulkAll ds ≤ 1048576)
def OpenSpec.upto (s : _root_.Go.ChangeSpec) : _root_.Go.OpenSpec := { _root_.Go.OpenSpec.ofChange s with cond := some uptoSmall }

/-- 'lookasidelaw13.SwapPlays', WHERE WHAT IT READS IS OF BULK AT MOST 1048576: true; the input reads as it did. -/
def swapPlaysUptoRow : OpenClaim := { program := "ytnbdoemnepfhdaagreat", sum := "22167c4954e3c453ca5db87c13252316df21901f6b0e21d2d2d626501c745b2b", func := "lookaside/lookasidelaw13.SwapPlays", spec := "swapPlays", unfollowed := true, recurses := true, apart := false, narrowed := true }
def SwapPlaysUptoSaid : Prop := swapPlaysUptoRow.holds Tryz.pinned (OpenSpec.upto swapPlaysSpec)

/-- 'lookasidelaw13.SwapFails', WHERE WHAT IT READS IS OF BULK AT MOST 1048576: true; the input reads as it did. -/
def swapFailsUptoRow : OpenClaim := { program := "ytnbdoemnepfhdaagreat", sum := "22167c4954e3c453ca5db87c13252316df21901f6b0e21d2d2d626501c745b2b", func := "lookaside/lookasidelaw13.SwapFails", spec := "swapFails", unfollowed := true, recurses := true, apart := false, narrowed := true }
def SwapFailsUptoSaid : Prop := swapFailsUptoRow.holds Tryz.pinned (OpenSpec.upto swapFailsSpec)

/-- 'lookasidelaw13.SwapKeeps', WHERE WHAT IT READS IS OF BULK AT MOST 1048576: true; the input reads as it did. -/
def swapKeepsUptoRow : OpenClaim := { program := "ytnbdoemnepfhdaagreat", sum := "22167c4954e3c453ca5db87c13252316df21901f6b0e21d2d2d626501c745b2b", func := "lookaside/lookasidelaw13.SwapKeeps", spec := "swapKeeps", unfollowed := true, recurses := true, apart := false, narrowed := true }
def SwapKeepsUptoSaid : Prop := swapKeepsUptoRow.holds Tryz.pinned (OpenSpec.upto swapKeepsSpec)

end Rows
end Go.Proofs.YtnbdoemnepfhdaaGreat
