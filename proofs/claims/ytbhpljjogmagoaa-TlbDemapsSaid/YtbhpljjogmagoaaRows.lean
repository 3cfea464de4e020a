/-
  No cell of these rows narrows 'for every input' (looked for: loops, veiled, ifaces, maps, wideKeys, modest, calm, conditions, laid).
  DERIVED. THE GIVEN ROWS OF THIS SEAT. 7 by the template 'for every input the law returns true; each argument reads behind the call as it read before'; 0 by the template 'total and deterministic' (their statements: YtbhpljjogmagoaaTotals.lean).
  GIVEN WITH THE SEED: the statements are not yours to turn. If you find one false, say at which input.
  Laid BY PROGRAM, IN A SANDBOX (cutbox-rows.mjs): the forced cells as the released guide's own fill.sh prints them over the translation bbdc24657eec4e5b… (all of the seat's roots in one cut). By AI agents, Wed Nov 11 2026. No macro, syntax, notation, axiom, sorry.
-/
import Derived.Test.YtbhpljjogmagoaaChecked
import GoSem.Claim
import GoSem.ClaimJoined
import GoSem.ClaimMapViews
import Derived.JoinedTies
import Derived.KernelRfl
namespace Go.Proofs.Ytbhpljjogmagoaa
/- THE CELL 'sum', in the pinned program and in every row, IS THE sha256 OF THE DUMP (.gsa) THAT YtbhpljjogmagoaaProg.lean LOADS. Nothing in Lean hashes anything: it is a label: what it is worth is what the hold of that sum in a sandbox is worth. -/
noncomputable def Try.pinned : Pinned := { name := "ytbhpljjogmagoaa", sum := "bbdc24657eec4e5b2af60add85ba5f360e03d213c9a3f03955afab59c638973e", checked := Try.checked }
namespace Rows
def none {H : Type} : Left H := { results := [], args := [] }

/-- 'lookasidelaw06.TlbPlays': WHATEVER THE INPUT: true; the input reads as it did. -/
def tlbPlaysSpec : ChangeSpec := { name := "tlbPlays", fn := fun _ => fun
  | [d1, d2] => { results := [.lit (.bool true)], args := [d1, d2] }
  | _ => none }
def tlbPlaysRow : OpenClaim := { program := "ytbhpljjogmagoaa", sum := "bbdc24657eec4e5b2af60add85ba5f360e03d213c9a3f03955afab59c638973e", func := "lookaside/lookasidelaw06.TlbPlays", spec := "tlbPlays", unfollowed := true, recurses := true, apart := false }
def TlbPlaysSaid : Prop := tlbPlaysRow.holds Try.pinned (OpenSpec.ofChange tlbPlaysSpec)

/-- ITS FALSE NEIGHBOUR: 'it returns false'. Refute it at one input. -/
def tlbPlaysWrong : ChangeSpec := { name := "tlbPlays", fn := fun _ => fun
  | [d1, d2] => { results := [.lit (.bool false)], args := [d1, d2] }
  | _ => none }
def TlbPlaysWrongFalsely : Prop := tlbPlaysRow.holds Try.pinned (OpenSpec.ofChange tlbPlaysWrong)

/-- 'lookasidelaw06.TlbOnce': WHATEVER THE INPUT: true; the input reads as it did. -/
def tlbOnceSpec : ChangeSpec := { name := "tlbOnce", fn := fun _ => fun
  | [d1, d2, d3, d4] => { results := [.lit (.bool true)], args := [d1, d2, d3, d4] }
  | _ => none }
def tlbOnceRow : OpenClaim := { program := "ytbhpljjogmagoaa", sum := "bbdc24657eec4e5b2af60add85ba5f360e03d213c9a3f03955afab59c638973e", func := "lookaside/lookasidelaw06.TlbOnce", spec := "tlbOnce", unfollowed := true, recurses := true, apart := false }
def TlbOnceSaid : Prop := tlbOnceRow.holds Try.pinned (OpenSpec.ofChange tlbOnceSpec)

/-- ITS FALSE NEIGHBOUR: 'it returns false'. Refute it at one input. -/
def tlbOnceWrong : ChangeSpec := { name := "tlbOnce", fn := fun _ => fun
  | [d1, d2, d3, d4] => { results := [.lit (.bool false)], args := [d1, d2, d3, d4] }
  | _ => none }
def TlbOnceWrongFalsely : Prop := tlbOnceRow.holds Try.pinned (OpenSpec.ofChange tlbOnceWrong)

/-- 'lookasidelaw06.TlbParts': WHATEVER THE INPUT: true; the input reads as it did. -/
def tlbPartsSpec : ChangeSpec := { name := "tlbParts", fn := fun _ => fun
  | [d1, d2] => { results := [.lit (.bool true)], args := [d1, d2] }
  | _ => none }
def tlbPartsRow : OpenClaim := { program := "ytbhpljjogmagoaa", sum := "bbdc24657eec4e5b2af60add85ba5f360e03d213c9a3f03955afab59c638973e", func := "lookaside/lookasidelaw06.TlbParts", spec := "tlbParts", unfollowed := true, recurses := true, apart := false }
def TlbPartsSaid : Prop := tlbPartsRow.holds Try.pinned (OpenSpec.ofChange tlbPartsSpec)

/-- ITS FALSE NEIGHBOUR: 'it returns false'. Refute it at one input. -/
def tlbPartsWrong : ChangeSpec := { name := "tlbParts", fn := fun _ => fun
  | [d1, d2] => { results := [.lit (.bool false)], args := [d1, d2] }
  | _ => none }
def TlbPartsWrongFalsely : Prop := tlbPartsRow.holds Try.pinned (OpenSpec.ofChange tlbPartsWrong)

/-- 'lookasidelaw06.TlbLocks': WHATEVER THE INPUT: true; the input reads as it did. -/
def tlbLocksSpec : ChangeSpec := { name := "tlbLocks", fn := fun _ => fun
  | [d1, d2, d3, d4] => { results := [.lit (.bool true)], args := [d1, d2, d3, d4] }
  | _ => none }
def tlbLocksRow : OpenClaim := { program := "ytbhpljjogmagoaa", sum := "bbdc24657eec4e5b2af60add85ba5f360e03d213c9a3f03955afab59c638973e", func := "lookaside/lookasidelaw06.TlbLocks", spec := "tlbLocks", unfollowed := true, recurses := true, apart := false }
def TlbLocksSaid : Prop := tlbLocksRow.holds Try.pinned (OpenSpec.ofChange tlbLocksSpec)

/-- ITS FALSE NEIGHBOUR: 'it returns false'. Refute it at one input. -/
def tlbLocksWrong : ChangeSpec := { name := "tlbLocks", fn := fun _ => fun
  | [d1, d2, d3, d4] => { results := [.lit (.bool false)], args := [d1, d2, d3, d4] }
  | _ => none }
def TlbLocksWrongFalsely : Prop := tlbLocksRow.holds Try.pinned (OpenSpec.ofChange tlbLocksWrong)

/-- 'lookasidelaw06.TlbFinds': WHATEVER THE INPUT: true; the input reads as it did. -/
def tlbFindsSpec : ChangeSpec := { name := "tlbFinds", fn := fun _ => fun
  | [d1, d2, d3, d4] => { results := [.lit (.bool true)], args := [d1, d2, d3, d4] }
  | _ => none }
def tlbFindsRow : OpenClaim := { program := "ytbhpljjogmagoaa", sum := "bbdc24657eec4e5b2af60add85ba5f360e03d213c9a3f03955afab59c638973e", func := "lookaside/lookasidelaw06.TlbFinds", spec := "tlbFinds", unfollowed := true, recurses := true, apart := false }
def TlbFindsSaid : Prop := tlbFindsRow.holds Try.pinned (OpenSpec.ofChange tlbFindsSpec)

/-- ITS FALSE NEIGHBOUR: 'it returns false'. Refute it at one input. -/
def tlbFindsWrong : ChangeSpec := { name := "tlbFinds", fn := fun _ => fun
  | [d1, d2, d3, d4] => { results := [.lit (.bool false)], args := [d1, d2, d3, d4] }
  | _ => none }
def TlbFindsWrongFalsely : Prop := tlbFindsRow.holds Try.pinned (OpenSpec.ofChange tlbFindsWrong)

/-- 'lookasidelaw06.TlbDemaps': WHATEVER THE INPUT: true; the input reads as it did. -/
def tlbDemapsSpec : ChangeSpec := { name := "tlbDemaps", fn := fun _ => fun
  | [d1, d2, d3, d4] => { results := [.lit (.bool true)], args := [d1, d2, d3, d4] }
  | _ => none }
def tlbDemapsRow : OpenClaim := { program := "ytbhpljjogmagoaa", sum := "bbdc24657eec4e5b2af60add85ba5f360e03d213c9a3f03955afab59c638973e", func := "lookaside/lookasidelaw06.TlbDemaps", spec := "tlbDemaps", unfollowed := true, recurses := true, apart := false }
def TlbDemapsSaid : Prop := tlbDemapsRow.holds Try.pinned (OpenSpec.ofChange tlbDemapsSpec)

/-- ITS FALSE NEIGHBOUR: 'it returns false'. Refute it at one input. -/
def tlbDemapsWrong : ChangeSpec := { name := "tlbDemaps", fn := fun _ => fun
  | [d1, d2, d3, d4] => { results := [.lit (.bool false)], args := [d1, d2, d3, d4] }
  | _ => none }
def TlbDemapsWrongFalsely : Prop := tlbDemapsRow.holds Try.pinned (OpenSpec.ofChange tlbDemapsWrong)

/-- 'lookasidelaw06.TlbClears': WHATEVER THE INPUT: true; the input reads as it did. -/
def tlbClearsSpec : ChangeSpec := { name := "tlbClears", fn := fun _ => fun
  | [d1, d2, d3] => { results := [.lit (.bool true)], args := [d1, d2, d3] }
  | _ => none }
def tlbClearsRow : OpenClaim := { program := "ytbhpljjogmagoaa", sum := "bbdc24657eec4e5b2af60add85ba5f360e03d213c9a3f03955afab59c638973e", func := "lookaside/lookasidelaw06.TlbClears", spec := "tlbClears", unfollowed := true, recurses := true, apart := false }
def TlbClearsSaid : Prop := tlbClearsRow.holds Try.pinned (OpenSpec.ofChange tlbClearsSpec)

/-- ITS FALSE NEIGHBOUR: 'it returns false'. Refute it at one input. -/
def tlbClearsWrong : ChangeSpec := { name := "tlbClears", fn := fun _ => fun
  | [d1, d2, d3] => { results := [.lit (.bool false)], args := [d1, d2, d3] }
  | _ => none }
def TlbClearsWrongFalsely : Prop := tlbClearsRow.holds Try.pinned (OpenSpec.ofChange tlbClearsWrong)

/- THE SECOND FORM. 'bulk': how many values and letters a reading holds, each counted each time it is reached (what is shared counts as often as it is met; a slice's spare places count too). A statement '..UptoSaid' is the law's where the arguments, and the package variables that the reading takes, are together of bulk at most 1048576: NARROWER than '..Said'. Prove '..Said' where nothing that the law and all that it calls make is longer than what came in: it says more and counts as full. Else prove '..UptoSaid'. A law counts once. -/
mutual
def uptoBulk {H : Type} : DataW H → Nat
  | .lit (.string bytes) => bytes.length + 1
  | .lit _ => 1
  | .nil => 1
  | .ptr d => uptoBulk d + 1
  | .slice elems spare => uptoBulkAll elems + uptoBulkAll spare + 1
  | .agg parts => uptoBulkAll parts + 1
  | .iface _ d => uptoBulk d + 1
  | .map entries => uptoBulkEntries entries + 1
  | .held _ => 1
def uptoBulkAll {H : Type} : List (DataW H) → Nat
  | [] => 0
  | d :: r => uptoBulk d + uptoBulkAll r
def uptoBulkEntries {H : Type} : List (Lit × DataW H) → Nat
  | [] => 0
  | x :: r => uptoBulkEntry x + uptoBulkEntries r
def uptoBulkEntry {H : Type} : Lit × DataW H → Nat
  | (.string bytes, d) => bytes.length + uptoBulk d + 1
  | (_, d) => uptoBulk d + 1
 end
def uptoSmall : (H : Type) → List (DataW H) → Bool := fun _ ds => decide (uptoBulkAll ds ≤ 1048576)
def OpenSpec.upto (s : _root_.Go.ChangeSpec) : _root_.Go.OpenSpec := { _root_.Go.OpenSpec.ofChange s with cond := some uptoSmall }

/-- 'lookasidelaw06.TlbPlays', WHERE WHAT IT READS IS OF BULK AT MOST 1048576: true; the input reads as it did. -/
def tlbPlaysUptoRow : OpenClaim := { program := "ytbhpljjogmagoaa", sum := "bbdc24657eec4e5b2af60add85ba5f360e03d213c9a3f03955afab59c638973e", func := "lookaside/lookasidelaw06.TlbPlays", spec := "tlbPlays", unfollowed := true, recurses := true, apart := false, narrowed := true }
def TlbPlaysUptoSaid : Prop := tlbPlaysUptoRow.holds Try.pinned (OpenSpec.upto tlbPlaysSpec)

/-- 'lookasidelaw06.TlbOnce', WHERE WHAT IT READS IS OF BULK AT MOST 1048576: true; the input reads as it did. -/
def tlbOnceUptoRow : OpenClaim := { program := "ytbhpljjogmagoaa", sum := "bbdc24657eec4e5b2af60add85ba5f360e03d213c9a3f03955afab59c638973e", func := "lookaside/lookasidelaw06.TlbOnce", spec := "tlbOnce", unfollowed := true, recurses := true, apart := false, narrowed := true }
def TlbOnceUptoSaid : Prop := tlbOnceUptoRow.holds Try.pinned (OpenSpec.upto tlbOnceSpec)

/-- 'lookasidelaw06.TlbParts', WHERE WHAT IT READS IS OF BULK AT MOST 1048576: true; the input reads as it did. -/
def tlbPartsUptoRow : OpenClaim := { program := "ytbhpljjogmagoaa", sum := "bbdc24657eec4e5b2af60add85ba5f360e03d213c9a3f03955afab59c638973e", func := "lookaside/lookasidelaw06.TlbParts", spec := "tlbParts", unfollowed := true, recurses := true, apart := false, narrowed := true }
def TlbPartsUptoSaid : Prop := tlbPartsUptoRow.holds Try.pinned (OpenSpec.upto tlbPartsSpec)

/-- 'lookasidelaw06.TlbLocks', WHERE WHAT IT READS IS OF BULK AT MOST 1048576: true; the input reads as it did. -/
def tlbLocksUptoRow : OpenClaim := { program := "ytbhpljjogmagoaa", sum := "bbdc24657eec4e5b2af60add85ba5f360e03d213c9a3f03955afab59c638973e", func := "lookaside/lookasidelaw06.TlbLocks", spec := "tlbLocks", unfollowed := true, recurses := true, apart := false, narrowed := true }
def TlbLocksUptoSaid : Prop := tlbLocksUptoRow.holds Try.pinned (OpenSpec.upto tlbLocksSpec)

/-- 'lookasidelaw06.TlbFinds', WHERE WHAT IT READS IS OF BULK AT MOST 1048576: true; the input reads as it did. -/
def tlbFindsUptoRow : OpenClaim := { program := "ytbhpljjogmagoaa", sum := "bbdc24657eec4e5b2af60add85ba5f360e03d213c9a3f03955afab59c638973e", func := "lookaside/lookasidelaw06.TlbFinds", spec := "tlbFinds", unfollowed := true, recurses := true, apart := false, narrowed := true }
def TlbFindsUptoSaid : Prop := tlbFindsUptoRow.holds Try.pinned (OpenSpec.upto tlbFindsSpec)

/-- 'lookasidelaw06.TlbDemaps', WHERE WHAT IT READS IS OF BULK AT MOST 1048576: true; the input reads as it did. -/
def tlbDemapsUptoRow : OpenClaim := { program := "ytbhpljjogmagoaa", sum := "bbdc24657eec4e5b2af60add85ba5f360e03d213c9a3f03955afab59c638973e", func := "lookaside/lookasidelaw06.TlbDemaps", spec := "tlbDemaps", unfollowed := true, recurses := true, apart := false, narrowed := true }
def TlbDemapsUptoSaid : Prop := tlbDemapsUptoRow.holds Try.pinned (OpenSpec.upto tlbDemapsSpec)

/-- 'lookasidelaw06.TlbClears', WHERE WHAT IT READS IS OF BULK AT MOST 1048576: true; the input reads as it did. -/
def tlbClearsUptoRow : OpenClaim := { program := "ytbhpljjogmagoaa", sum := "bbdc24657eec4e5b2af60add85ba5f360e03d213c9a3f03955afab59c638973e", func := "lookaside/lookasidelaw06.TlbClears", spec := "tlbClears", unfollowed := true, recurses := true, apart := false, narrowed := true }
def TlbClearsUptoSaid : Prop := tlbClearsUptoRow.holds Try.pinned (OpenSpec.upto tlbClearsSpec)

end Rows
end Go.Proofs.Ytbhpljjogmagoaa
