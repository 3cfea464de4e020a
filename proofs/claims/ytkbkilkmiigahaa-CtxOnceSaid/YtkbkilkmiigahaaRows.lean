/-
  No cell of these rows narrows 'for every input' (looked for: loops, veiled, ifaces, maps, wideKeys, modest, calm, conditions, laid).
  DERIVED. THE GIVEN ROWS OF THIS SEAT. 5 by the template 'for every input the law returns true; each argument reads behind the call as it read before'; 0 by the template 'total and deterministic' (their statements: YtkbkilkmiigahaaTotals.lean).
  GIVEN WITH THE SEED: the statements are not yours to turn. If you find one false, say at which input.
  Laid BY PROGRAM, IN A SANDBOX (cutbox-rows.mjs): the forced cells as the released guide's own fill.sh prints them over the translation 823b1773d8af7207… (all of the seat's roots in one cut). By AI agents, Wed Nov 11 2026. No macro, syntax, notation, axiom, sorry.
-/
import Derived.Test.YtkbkilkmiigahaaChecked
import GoSem.Claim
import GoSem.ClaimJoined
import GoSem.ClaimMapViews
import Derived.JoinedTies
import Derived.KernelRfl
namespace Go.Proofs.Ytkbkilkmiigahaa
/- THE CELL 'sum', in the pinned program and in every row, IS THE sha256 OF THE DUMP (.gsa) THAT YtkbkilkmiigahaaProg.lean LOADS. Nothing in Lean hashes anything: it is a label: what it is worth is what the hold of that sum in a sandbox is worth. -/
noncomputable def Try.pinned : Pinned := { name := "ytkbkilkmiigahaa", sum := "823b1773d8af72074c1d988c41d126ec51fee001379babde31971398c1b7bd5f", checked := Try.checked }
namespace Rows
def none {H : Type} : Left H := { results := [], args := [] }

/-- 'lookasidelaw14.CtxPlays': WHATEVER THE INPUT: true; the input reads as it did. -/
def ctxPlaysSpec : ChangeSpec := { name := "ctxPlays", fn := fun _ => fun
  | [d1, d2] => { results := [.lit (.bool true)], args := [d1, d2] }
  | _ => none }
def ctxPlaysRow : OpenClaim := { program := "ytkbkilkmiigahaa", sum := "823b1773d8af72074c1d988c41d126ec51fee001379babde31971398c1b7bd5f", func := "lookaside/lookasidelaw14.CtxPlays", spec := "ctxPlays", unfollowed := true, recurses := true, apart := false }
def CtxPlaysSaid : Prop := ctxPlaysRow.holds Try.pinned (OpenSpec.ofChange ctxPlaysSpec)

/-- ITS FALSE NEIGHBOUR: 'it returns false'. Refute it at one input. -/
def ctxPlaysWrong : ChangeSpec := { name := "ctxPlays", fn := fun _ => fun
  | [d1, d2] => { results := [.lit (.bool false)], args := [d1, d2] }
  | _ => none }
def CtxPlaysWrongFalsely : Prop := ctxPlaysRow.holds Try.pinned (OpenSpec.ofChange ctxPlaysWrong)

/-- 'lookasidelaw14.CtxOnce': WHATEVER THE INPUT: true; the input reads as it did. -/
def ctxOnceSpec : ChangeSpec := { name := "ctxOnce", fn := fun _ => fun
  | [d1, d2] => { results := [.lit (.bool true)], args := [d1, d2] }
  | _ => none }
def ctxOnceRow : OpenClaim := { program := "ytkbkilkmiigahaa", sum := "823b1773d8af72074c1d988c41d126ec51fee001379babde31971398c1b7bd5f", func := "lookaside/lookasidelaw14.CtxOnce", spec := "ctxOnce", unfollowed := true, recurses := true, apart := false }
def CtxOnceSaid : Prop := ctxOnceRow.holds Try.pinned (OpenSpec.ofChange ctxOnceSpec)

/-- ITS FALSE NEIGHBOUR: 'it returns false'. Refute it at one input. -/
def ctxOnceWrong : ChangeSpec := { name := "ctxOnce", fn := fun _ => fun
  | [d1, d2] => { results := [.lit (.bool false)], args := [d1, d2] }
  | _ => none }
def CtxOnceWrongFalsely : Prop := ctxOnceRow.holds Try.pinned (OpenSpec.ofChange ctxOnceWrong)

/-- 'lookasidelaw14.CtxRounds': WHATEVER THE INPUT: true; the input reads as it did. -/
def ctxRoundsSpec : ChangeSpec := { name := "ctxRounds", fn := fun _ => fun
  | [d1, d2] => { results := [.lit (.bool true)], args := [d1, d2] }
  | _ => none }
def ctxRoundsRow : OpenClaim := { program := "ytkbkilkmiigahaa", sum := "823b1773d8af72074c1d988c41d126ec51fee001379babde31971398c1b7bd5f", func := "lookaside/lookasidelaw14.CtxRounds", spec := "ctxRounds", unfollowed := true, recurses := true, apart := false }
def CtxRoundsSaid : Prop := ctxRoundsRow.holds Try.pinned (OpenSpec.ofChange ctxRoundsSpec)

/-- ITS FALSE NEIGHBOUR: 'it returns false'. Refute it at one input. -/
def ctxRoundsWrong : ChangeSpec := { name := "ctxRounds", fn := fun _ => fun
  | [d1, d2] => { results := [.lit (.bool false)], args := [d1, d2] }
  | _ => none }
def CtxRoundsWrongFalsely : Prop := ctxRoundsRow.holds Try.pinned (OpenSpec.ofChange ctxRoundsWrong)

/-- 'lookasidelaw14.CtxGives': WHATEVER THE INPUT: true; the input reads as it did. -/
def ctxGivesSpec : ChangeSpec := { name := "ctxGives", fn := fun _ => fun
  | [d1, d2] => { results := [.lit (.bool true)], args := [d1, d2] }
  | _ => none }
def ctxGivesRow : OpenClaim := { program := "ytkbkilkmiigahaa", sum := "823b1773d8af72074c1d988c41d126ec51fee001379babde31971398c1b7bd5f", func := "lookaside/lookasidelaw14.CtxGives", spec := "ctxGives", unfollowed := true, recurses := true, apart := false }
def CtxGivesSaid : Prop := ctxGivesRow.holds Try.pinned (OpenSpec.ofChange ctxGivesSpec)

/-- ITS FALSE NEIGHBOUR: 'it returns false'. Refute it at one input. -/
def ctxGivesWrong : ChangeSpec := { name := "ctxGives", fn := fun _ => fun
  | [d1, d2] => { results := [.lit (.bool false)], args := [d1, d2] }
  | _ => none }
def CtxGivesWrongFalsely : Prop := ctxGivesRow.holds Try.pinned (OpenSpec.ofChange ctxGivesWrong)

/-- 'lookasidelaw14.CtxTakes': WHATEVER THE INPUT: true; the input reads as it did. -/
def ctxTakesSpec : ChangeSpec := { name := "ctxTakes", fn := fun _ => fun
  | [d1, d2, d3] => { results := [.lit (.bool true)], args := [d1, d2, d3] }
  | _ => none }
def ctxTakesRow : OpenClaim := { program := "ytkbkilkmiigahaa", sum := "823b1773d8af72074c1d988c41d126ec51fee001379babde31971398c1b7bd5f", func := "lookaside/lookasidelaw14.CtxTakes", spec := "ctxTakes", unfollowed := true, recurses := true, apart := false }
def CtxTakesSaid : Prop := ctxTakesRow.holds Try.pinned (OpenSpec.ofChange ctxTakesSpec)

/-- ITS FALSE NEIGHBOUR: 'it returns false'. Refute it at one input. -/
def ctxTakesWrong : ChangeSpec := { name := "ctxTakes", fn := fun _ => fun
  | [d1, d2, d3] => { results := [.lit (.bool false)], args := [d1, d2, d3] }
  | _ => none }
def CtxTakesWrongFalsely : Prop := ctxTakesRow.holds Try.pinned (OpenSpec.ofChange ctxTakesWrong)

/- THE SECOND FORM. 'bulk': how many values and letters a reading holds, each counted each time it is reached (what is shared counts as often as it is met; a slice's spare places count too). A statement '..UptoSaid' is the law's where the arguments, and the package variables that the reading takes, are together of bulk at most 1048576: NARROWER than '..Said'. Prove '..Said' where nothing that the law and all that it calls make is longer than what came in: it says more and counts as full. Else prove '..UptoSaid'. A law counts once. -/
mutual
def uptoBulk {H : Type} : DataW H → Nat
  | .lit (.string bytes) => bytes.length + 1
  | .lit _ => 1
  | .nil => 1
  | .ptr d => uptoBulk d + 1
  | .slice elems spare => uptoBulkAll elems + uptoBulkAll spare + 1
  | .agg parts => uptoBulkAll parts + 1
  | .iface _ d => uptoBulk d + 1
  | .map entries => uptoBulkEntries entries + 1
  | .held _ => 1
def uptoBulkAll {H : Type} : List (DataW H) → Nat
  | [] => 0
  | d :: r => uptoBulk d + uptoBulkAll r
def uptoBulkEntries {H : Type} : List (Lit × DataW H) → Nat
  | [] => 0
  | x :: r => uptoBulkEntry x + uptoBulkEntries r
def uptoBulkEntry {H : Type} : Lit × DataW H → Nat
  | (.string bytes, d) => bytes.length + uptoBulk d + 1
  | (_, d) => uptoBulk d + 1
 end
def uptoSmall : (H : Type) → List (DataW H) → Bool := fun _ ds => decide (uptoBulkAll ds ≤ 1048576)
def OpenSpec.upto (s : _root_.Go.ChangeSpec) : _root_.Go.OpenSpec := { _root_.Go.OpenSpec.ofChange s with cond := some uptoSmall }

/-- 'lookasidelaw14.CtxPlays', WHERE WHAT IT READS IS OF BULK AT MOST 1048576: true; the input reads as it did. -/
def ctxPlaysUptoRow : OpenClaim := { program := "ytkbkilkmiigahaa", sum := "823b1773d8af72074c1d988c41d126ec51fee001379babde31971398c1b7bd5f", func := "lookaside/lookasidelaw14.CtxPlays", spec := "ctxPlays", unfollowed := true, recurses := true, apart := false, narrowed := true }
def CtxPlaysUptoSaid : Prop := ctxPlaysUptoRow.holds Try.pinned (OpenSpec.upto ctxPlaysSpec)

/-- 'lookasidelaw14.CtxOnce', WHERE WHAT IT READS IS OF BULK AT MOST 1048576: true; the input reads as it did. -/
def ctxOnceUptoRow : OpenClaim := { program := "ytkbkilkmiigahaa", sum := "823b1773d8af72074c1d988c41d126ec51fee001379babde31971398c1b7bd5f", func := "lookaside/lookasidelaw14.CtxOnce", spec := "ctxOnce", unfollowed := true, recurses := true, apart := false, narrowed := true }
def CtxOnceUptoSaid : Prop := ctxOnceUptoRow.holds Try.pinned (OpenSpec.upto ctxOnceSpec)

/-- 'lookasidelaw14.CtxRounds', WHERE WHAT IT READS IS OF BULK AT MOST 1048576: true; the input reads as it did. -/
def ctxRoundsUptoRow : OpenClaim := { program := "ytkbkilkmiigahaa", sum := "823b1773d8af72074c1d988c41d126ec51fee001379babde31971398c1b7bd5f", func := "lookaside/lookasidelaw14.CtxRounds", spec := "ctxRounds", unfollowed := true, recurses := true, apart := false, narrowed := true }
def CtxRoundsUptoSaid : Prop := ctxRoundsUptoRow.holds Try.pinned (OpenSpec.upto ctxRoundsSpec)

/-- 'lookasidelaw14.CtxGives', WHERE WHAT IT READS IS OF BULK AT MOST 1048576: true; the input reads as it did. -/
def ctxGivesUptoRow : OpenClaim := { program := "ytkbkilkmiigahaa", sum := "823b1773d8af72074c1d988c41d126ec51fee001379babde31971398c1b7bd5f", func := "lookaside/lookasidelaw14.CtxGives", spec := "ctxGives", unfollowed := true, recurses := true, apart := false, narrowed := true }
def CtxGivesUptoSaid : Prop := ctxGivesUptoRow.holds Try.pinned (OpenSpec.upto ctxGivesSpec)

/-- 'lookasidelaw14.CtxTakes', WHERE WHAT IT READS IS OF BULK AT MOST 1048576: true; the input reads as it did. -/
def ctxTakesUptoRow : OpenClaim := { program := "ytkbkilkmiigahaa", sum := "823b1773d8af72074c1d988c41d126ec51fee001379babde31971398c1b7bd5f", func := "lookaside/lookasidelaw14.CtxTakes", spec := "ctxTakes", unfollowed := true, recurses := true, apart := false, narrowed := true }
def CtxTakesUptoSaid : Prop := ctxTakesUptoRow.holds Try.pinned (OpenSpec.upto ctxTakesSpec)

end Rows
end Go.Proofs.Ytkbkilkmiigahaa
