/-
  No cell of these rows narrows 'for every input' (looked for: loops, veiled, ifaces, maps, wideKeys, modest, calm, conditions, laid).
  DERIVED. THE GIVEN ROWS OF THIS SEAT. 8 by the template 'for every input the law returns true; each argument reads behind the call as it read before'; 0 by the template 'total and deterministic' (their statements: YtambpmbgepgkdaaTotals.lean).
  GIVEN WITH THE SEED: the statements are not yours to turn. If you find one false, say at which input.
  Laid BY PROGRAM, IN A SANDBOX (cutbox-rows.mjs): the forced cells as the released guide's own fill.sh prints them over the translation d3fdade5ac7106bd… (all of the seat's roots in one cut). By AI agents, Wed Nov 11 2026. No macro, syntax, notation, axiom, sorry.
-/
import Derived.Test.YtambpmbgepgkdaaChecked
import GoSem.Claim
import GoSem.ClaimJoined
import GoSem.ClaimMapViews
import Derived.JoinedTies
import Derived.KernelRfl
namespace Go.Proofs.Ytambpmbgepgkdaa
/- THE CELL 'sum', in the pinned program and in every row, IS THE sha256 OF THE DUMP (.gsa) THAT YtambpmbgepgkdaaProg.lean LOADS. Nothing in Lean hashes anything: it is a label: what it is worth is what the hold of that sum in a sandbox is worth. -/
noncomputable def Try.pinned : Pinned := { name := "ytambpmbgepgkdaa", sum := "d3fdade5ac7106bdb048be7e51946eded30c6b23022bcac4091795cf66f1bae2", checked := Try.checked }
namespace Rows
def none {H : Type} : Left H := { results := [], args := [] }

/-- 'lookasidelaw03.TteWords': WHATEVER THE INPUT: true; the input reads as it did. -/
def tteWordsSpec : ChangeSpec := { name := "tteWords", fn := fun _ => fun
  | [d] => { results := [.lit (.bool true)], args := [d] }
  | _ => none }
def tteWordsRow : OpenClaim := { program := "ytambpmbgepgkdaa", sum := "d3fdade5ac7106bdb048be7e51946eded30c6b23022bcac4091795cf66f1bae2", func := "lookaside/lookasidelaw03.TteWords", spec := "tteWords", apart := false }
def TteWordsSaid : Prop := tteWordsRow.holds Try.pinned (OpenSpec.ofChange tteWordsSpec)

/-- ITS FALSE NEIGHBOUR: 'it returns false'. Refute it at one input. -/
def tteWordsWrong : ChangeSpec := { name := "tteWords", fn := fun _ => fun
  | [d] => { results := [.lit (.bool false)], args := [d] }
  | _ => none }
def TteWordsWrongFalsely : Prop := tteWordsRow.holds Try.pinned (OpenSpec.ofChange tteWordsWrong)

/-- 'lookasidelaw03.TteRound': WHATEVER THE INPUT: true; the input reads as it did. -/
def tteRoundSpec : ChangeSpec := { name := "tteRound", fn := fun _ => fun
  | [d1, d2, d3] => { results := [.lit (.bool true)], args := [d1, d2, d3] }
  | _ => none }
def tteRoundRow : OpenClaim := { program := "ytambpmbgepgkdaa", sum := "d3fdade5ac7106bdb048be7e51946eded30c6b23022bcac4091795cf66f1bae2", func := "lookaside/lookasidelaw03.TteRound", spec := "tteRound", apart := false }
def TteRoundSaid : Prop := tteRoundRow.holds Try.pinned (OpenSpec.ofChange tteRoundSpec)

/-- ITS FALSE NEIGHBOUR: 'it returns false'. Refute it at one input. -/
def tteRoundWrong : ChangeSpec := { name := "tteRound", fn := fun _ => fun
  | [d1, d2, d3] => { results := [.lit (.bool false)], args := [d1, d2, d3] }
  | _ => none }
def TteRoundWrongFalsely : Prop := tteRoundRow.holds Try.pinned (OpenSpec.ofChange tteRoundWrong)

/-- 'lookasidelaw03.TteReads': WHATEVER THE INPUT: true; the input reads as it did. -/
def tteReadsSpec : ChangeSpec := { name := "tteReads", fn := fun _ => fun
  | [d1, d2, d3, d4, d5] => { results := [.lit (.bool true)], args := [d1, d2, d3, d4, d5] }
  | _ => none }
def tteReadsRow : OpenClaim := { program := "ytambpmbgepgkdaa", sum := "d3fdade5ac7106bdb048be7e51946eded30c6b23022bcac4091795cf66f1bae2", func := "lookaside/lookasidelaw03.TteReads", spec := "tteReads", apart := false }
def TteReadsSaid : Prop := tteReadsRow.holds Try.pinned (OpenSpec.ofChange tteReadsSpec)

/-- ITS FALSE NEIGHBOUR: 'it returns false'. Refute it at one input. -/
def tteReadsWrong : ChangeSpec := { name := "tteReads", fn := fun _ => fun
  | [d1, d2, d3, d4, d5] => { results := [.lit (.bool false)], args := [d1, d2, d3, d4, d5] }
  | _ => none }
def TteReadsWrongFalsely : Prop := tteReadsRow.holds Try.pinned (OpenSpec.ofChange tteReadsWrong)

/-- 'lookasidelaw03.TteHits': WHATEVER THE INPUT: true; the input reads as it did. -/
def tteHitsSpec : ChangeSpec := { name := "tteHits", fn := fun _ => fun
  | [d1, d2, d3] => { results := [.lit (.bool true)], args := [d1, d2, d3] }
  | _ => none }
def tteHitsRow : OpenClaim := { program := "ytambpmbgepgkdaa", sum := "d3fdade5ac7106bdb048be7e51946eded30c6b23022bcac4091795cf66f1bae2", func := "lookaside/lookasidelaw03.TteHits", spec := "tteHits", apart := false }
def TteHitsSaid : Prop := tteHitsRow.holds Try.pinned (OpenSpec.ofChange tteHitsSpec)

/-- ITS FALSE NEIGHBOUR: 'it returns false'. Refute it at one input. -/
def tteHitsWrong : ChangeSpec := { name := "tteHits", fn := fun _ => fun
  | [d1, d2, d3] => { results := [.lit (.bool false)], args := [d1, d2, d3] }
  | _ => none }
def TteHitsWrongFalsely : Prop := tteHitsRow.holds Try.pinned (OpenSpec.ofChange tteHitsWrong)

/-- 'lookasidelaw03.TteTargets': WHATEVER THE INPUT: true; the input reads as it did. -/
def tteTargetsSpec : ChangeSpec := { name := "tteTargets", fn := fun _ => fun
  | [d1, d2] => { results := [.lit (.bool true)], args := [d1, d2] }
  | _ => none }
def tteTargetsRow : OpenClaim := { program := "ytambpmbgepgkdaa", sum := "d3fdade5ac7106bdb048be7e51946eded30c6b23022bcac4091795cf66f1bae2", func := "lookaside/lookasidelaw03.TteTargets", spec := "tteTargets", apart := false }
def TteTargetsSaid : Prop := tteTargetsRow.holds Try.pinned (OpenSpec.ofChange tteTargetsSpec)

/-- ITS FALSE NEIGHBOUR: 'it returns false'. Refute it at one input. -/
def tteTargetsWrong : ChangeSpec := { name := "tteTargets", fn := fun _ => fun
  | [d1, d2] => { results := [.lit (.bool false)], args := [d1, d2] }
  | _ => none }
def TteTargetsWrongFalsely : Prop := tteTargetsRow.holds Try.pinned (OpenSpec.ofChange tteTargetsWrong)

/-- 'lookasidelaw03.TteApart': WHATEVER THE INPUT: true; the input reads as it did. -/
def tteApartSpec : ChangeSpec := { name := "tteApart", fn := fun _ => fun
  | [d1, d2] => { results := [.lit (.bool true)], args := [d1, d2] }
  | _ => none }
def tteApartRow : OpenClaim := { program := "ytambpmbgepgkdaa", sum := "d3fdade5ac7106bdb048be7e51946eded30c6b23022bcac4091795cf66f1bae2", func := "lookaside/lookasidelaw03.TteApart", spec := "tteApart", apart := false }
def TteApartSaid : Prop := tteApartRow.holds Try.pinned (OpenSpec.ofChange tteApartSpec)

/-- ITS FALSE NEIGHBOUR: 'it returns false'. Refute it at one input. -/
def tteApartWrong : ChangeSpec := { name := "tteApart", fn := fun _ => fun
  | [d1, d2] => { results := [.lit (.bool false)], args := [d1, d2] }
  | _ => none }
def TteApartWrongFalsely : Prop := tteApartRow.holds Try.pinned (OpenSpec.ofChange tteApartWrong)

/-- 'lookasidelaw03.TteBits': WHATEVER THE INPUT: true; the input reads as it did. -/
def tteBitsSpec : ChangeSpec := { name := "tteBits", fn := fun _ => fun
  | [d] => { results := [.lit (.bool true)], args := [d] }
  | _ => none }
def tteBitsRow : OpenClaim := { program := "ytambpmbgepgkdaa", sum := "d3fdade5ac7106bdb048be7e51946eded30c6b23022bcac4091795cf66f1bae2", func := "lookaside/lookasidelaw03.TteBits", spec := "tteBits", apart := false }
def TteBitsSaid : Prop := tteBitsRow.holds Try.pinned (OpenSpec.ofChange tteBitsSpec)

/-- ITS FALSE NEIGHBOUR: 'it returns false'. Refute it at one input. -/
def tteBitsWrong : ChangeSpec := { name := "tteBits", fn := fun _ => fun
  | [d] => { results := [.lit (.bool false)], args := [d] }
  | _ => none }
def TteBitsWrongFalsely : Prop := tteBitsRow.holds Try.pinned (OpenSpec.ofChange tteBitsWrong)

/-- 'lookasidelaw03.TteFrames': WHATEVER THE INPUT: true; the input reads as it did. -/
def tteFramesSpec : ChangeSpec := { name := "tteFrames", fn := fun _ => fun
  | [d1, d2, d3] => { results := [.lit (.bool true)], args := [d1, d2, d3] }
  | _ => none }
def tteFramesRow : OpenClaim := { program := "ytambpmbgepgkdaa", sum := "d3fdade5ac7106bdb048be7e51946eded30c6b23022bcac4091795cf66f1bae2", func := "lookaside/lookasidelaw03.TteFrames", spec := "tteFrames", apart := false }
def TteFramesSaid : Prop := tteFramesRow.holds Try.pinned (OpenSpec.ofChange tteFramesSpec)

/-- ITS FALSE NEIGHBOUR: 'it returns false'. Refute it at one input. -/
def tteFramesWrong : ChangeSpec := { name := "tteFrames", fn := fun _ => fun
  | [d1, d2, d3] => { results := [.lit (.bool false)], args := [d1, d2, d3] }
  | _ => none }
def TteFramesWrongFalsely : Prop := tteFramesRow.holds Try.pinned (OpenSpec.ofChange tteFramesWrong)

/- THE SECOND FORM. 'bulk': how many values and letters a reading holds, each counted each time it is reached (what is shared counts as often as it is met; a slice's spare places count too). A statement '..UptoSaid' is the law's where the arguments, and the package variables that the reading takes, are together of bulk at most 1048576: NARROWER than '..Said'. Prove '..Said' where nothing that the law and all that it calls make is longer than what came in: it says more and counts as full. Else prove '..UptoSaid'. A law counts once. -/
mutual
def uptoBulk {H : Type} : DataW H → Nat
  | .lit (.string bytes) => bytes.length + 1
  | .lit _ => 1
  | .nil => 1
  | .ptr d => uptoBulk d + 1
  | .slice elems spare => uptoBulkAll elems + uptoBulkAll spare + 1
  | .agg parts => uptoBulkAll parts + 1
  | .iface _ d => uptoBulk d + 1
  | .map entries => uptoBulkEntries entries + 1
  | .held _ => 1
def uptoBulkAll {H : Type} : List (DataW H) → Nat
  | [] => 0
  | d :: r => uptoBulk d + uptoBulkAll r
def uptoBulkEntries {H : Type} : List (Lit × DataW H) → Nat
  | [] => 0
  | x :: r => uptoBulkEntry x + uptoBulkEntries r
def uptoBulkEntry {H : Type} : Lit × DataW H → Nat
  | (.string bytes, d) => bytes.length + uptoBulk d + 1
  | (_, d) => uptoBulk d + 1
 end
def uptoSmall : (H : Type) → List (DataW H) → Bool := fun _ ds => decide (uptoBulkAll ds ≤ 1048576)
def OpenSpec.upto (s : _root_.Go.ChangeSpec) : _root_.Go.OpenSpec := { _root_.Go.OpenSpec.ofChange s with cond := some uptoSmall }

/-- 'lookasidelaw03.TteWords', WHERE WHAT IT READS IS OF BULK AT MOST 1048576: true; the input reads as it did. -/
def tteWordsUptoRow : OpenClaim := { program := "ytambpmbgepgkdaa", sum := "d3fdade5ac7106bdb048be7e51946eded30c6b23022bcac4091795cf66f1bae2", func := "lookaside/lookasidelaw03.TteWords", spec := "tteWords", apart := false, narrowed := true }
def TteWordsUptoSaid : Prop := tteWordsUptoRow.holds Try.pinned (OpenSpec.upto tteWordsSpec)

/-- 'lookasidelaw03.TteRound', WHERE WHAT IT READS IS OF BULK AT MOST 1048576: true; the input reads as it did. -/
def tteRoundUptoRow : OpenClaim := { program := "ytambpmbgepgkdaa", sum := "d3fdade5ac7106bdb048be7e51946eded30c6b23022bcac4091795cf66f1bae2", func := "lookaside/lookasidelaw03.TteRound", spec := "tteRound", apart := false, narrowed := true }
def TteRoundUptoSaid : Prop := tteRoundUptoRow.holds Try.pinned (OpenSpec.upto tteRoundSpec)

/-- 'lookasidelaw03.TteReads', WHERE WHAT IT READS IS OF BULK AT MOST 1048576: true; the input reads as it did. -/
def tteReadsUptoRow : OpenClaim := { program := "ytambpmbgepgkdaa", sum := "d3fdade5ac7106bdb048be7e51946eded30c6b23022bcac4091795cf66f1bae2", func := "lookaside/lookasidelaw03.TteReads", spec := "tteReads", apart := false, narrowed := true }
def TteReadsUptoSaid : Prop := tteReadsUptoRow.holds Try.pinned (OpenSpec.upto tteReadsSpec)

/-- 'lookasidelaw03.TteHits', WHERE WHAT IT READS IS OF BULK AT MOST 1048576: true; the input reads as it did. -/
def tteHitsUptoRow : OpenClaim := { program := "ytambpmbgepgkdaa", sum := "d3fdade5ac7106bdb048be7e51946eded30c6b23022bcac4091795cf66f1bae2", func := "lookaside/lookasidelaw03.TteHits", spec := "tteHits", apart := false, narrowed := true }
def TteHitsUptoSaid : Prop := tteHitsUptoRow.holds Try.pinned (OpenSpec.upto tteHitsSpec)

/-- 'lookasidelaw03.TteTargets', WHERE WHAT IT READS IS OF BULK AT MOST 1048576: true; the input reads as it did. -/
def tteTargetsUptoRow : OpenClaim := { program := "ytambpmbgepgkdaa", sum := "d3fdade5ac7106bdb048be7e51946eded30c6b23022bcac4091795cf66f1bae2", func := "lookaside/lookasidelaw03.TteTargets", spec := "tteTargets", apart := false, narrowed := true }
def TteTargetsUptoSaid : Prop := tteTargetsUptoRow.holds Try.pinned (OpenSpec.upto tteTargetsSpec)

/-- 'lookasidelaw03.TteApart', WHERE WHAT IT READS IS OF BULK AT MOST 1048576: true; the input reads as it did. -/
def tteApartUptoRow : OpenClaim := { program := "ytambpmbgepgkdaa", sum := "d3fdade5ac7106bdb048be7e51946eded30c6b23022bcac4091795cf66f1bae2", func := "lookaside/lookasidelaw03.TteApart", spec := "tteApart", apart := false, narrowed := true }
def TteApartUptoSaid : Prop := tteApartUptoRow.holds Try.pinned (OpenSpec.upto tteApartSpec)

/-- 'lookasidelaw03.TteBits', WHERE WHAT IT READS IS OF BULK AT MOST 1048576: true; the input reads as it did. -/
def tteBitsUptoRow : OpenClaim := { program := "ytambpmbgepgkdaa", sum := "d3fdade5ac7106bdb048be7e51946eded30c6b23022bcac4091795cf66f1bae2", func := "lookaside/lookasidelaw03.TteBits", spec := "tteBits", apart := false, narrowed := true }
def TteBitsUptoSaid : Prop := tteBitsUptoRow.holds Try.pinned (OpenSpec.upto tteBitsSpec)

/-- 'lookasidelaw03.TteFrames', WHERE WHAT IT READS IS OF BULK AT MOST 1048576: true; the input reads as it did. -/
def tteFramesUptoRow : OpenClaim := { program := "ytambpmbgepgkdaa", sum := "d3fdade5ac7106bdb048be7e51946eded30c6b23022bcac4091795cf66f1bae2", func := "lookaside/lookasidelaw03.TteFrames", spec := "tteFrames", apart := false, narrowed := true }
def TteFramesUptoSaid : Prop := tteFramesUptoRow.holds Try.pinned (OpenSpec.upto tteFramesSpec)

end Rows
end Go.Proofs.Ytambpmbgepgkdaa
