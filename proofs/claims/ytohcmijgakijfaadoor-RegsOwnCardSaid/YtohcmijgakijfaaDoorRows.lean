/-
  NARROWER THAN 'FOR EVERY INPUT', by the rows' own cells (each row's printed sentence says how): RegsPlays: laid · RegsTwice: laid · RegsOwn: laid · RegsMisses: laid · RegsBits: laid.
  DERIVED. THE GIVEN ROWS OF THIS SEAT. 5 by the template 'for every input the law returns true; each argument reads behind the call as it read before'; 0 by the template 'total and deterministic' (their statements: YtohcmijgakijfaaDoorTotals.lean).
  GIVEN WITH THE SEED: the statements are not yours to turn. If you find one false, say at which input.
  Laid BY PROGRAM, IN A SANDBOX (cutbox-rows.mjs): the forced cells as the released guide's own fill.sh prints them over the translation 0b8bd92b63683a34… (all of the seat's roots in one cut). By AI agents, Wed Nov 11 2026. No macro, syntax, notation, axiom, sorry.
-/
import Derived.Test.YtohcmijgakijfaaDoorChecked
import GoSem.Claim
import GoSem.ClaimJoined
import GoSem.ClaimMapViews
import Derived.JoinedTies
import Derived.KernelRfl
namespace Go.Proofs.YtohcmijgakijfaaDoor
/- THE CELL 'sum', in the pinned program and in every row, IS THE sha256 OF THE DUMP (.gsa) THAT YtohcmijgakijfaaDoorProg.lean LOADS. Nothing in Lean hashes anything: it is a label: what it is worth is what the hold of that sum in a sandbox is worth. -/
noncomputable def Tryd.pinned : Pinned := { name := "ytohcmijgakijfaadoor", sum := "0b8bd92b63683a34023c2dfca7ec3e55dd13349ae073b1d26972d101b66ae454", checked := Tryd.checked }
namespace Rows
def none {H : Type} : Left H := { results := [], args := [] }

/- WHAT THE LISTED PACKAGE-LEVEL VARIABLES READ AS WHEN THE CALL BEGINS. Each datum BY PROGRAM (the guide's laid-datum.mjs) off the statement by which the dump's own 'gosem.cut.vars' lays the variable. In a bare row this is a premise. The card (YtohcmijgakijfaaDoorCards.lean) ties it to the program's text. -/
def laid_lookaside_regs_rows {H : Type} : DataW H := .agg [.agg [.lit (.int .u64 0), .lit (.int .u64 0), .lit (.bool true)], .agg [.lit (.int .u64 8), .lit (.int .u64 8191), .lit (.bool false)], .agg [.lit (.int .u64 16), .lit (.int .u64 8191), .lit (.bool false)], .agg [.lit (.int .u64 24), .lit (.int .u64 16728063), .lit (.bool true)], .agg [.lit (.int .u64 32), .lit (.int .u64 0), .lit (.bool false)], .agg [.lit (.int .u64 40), .lit (.int .u64 18446744073709547527), .lit (.bool true)], .agg [.lit (.int .u64 48), .lit (.int .u64 18446744073709551615), .lit (.bool true)]]

/-- 'lookasidelaw07.RegsPlays': WHATEVER THE INPUT: true; the input reads as it did. -/
def regsPlaysSpec : ChangeSpec := { name := "regsPlays", fn := fun _ => fun
  | [d] => { results := [.lit (.bool true)], args := [d] }
  | _ => none }
def regsPlaysRow : OpenClaim := { program := "ytohcmijgakijfaadoor", sum := "0b8bd92b63683a34023c2dfca7ec3e55dd13349ae073b1d26972d101b66ae454", func := "lookaside/lookasidelaw07.RegsPlays", spec := "regsPlays", named := ["lookaside/regs.rows"], plainKeys := false, apart := false, laid := [("lookaside/regs.rows", laid_lookaside_regs_rows)] }
def RegsPlaysSaid : Prop := regsPlaysRow.holds Tryd.pinned (OpenSpec.ofChange regsPlaysSpec)

/-- ITS FALSE NEIGHBOUR: 'it returns false'. Refute it at one input. -/
def regsPlaysWrong : ChangeSpec := { name := "regsPlays", fn := fun _ => fun
  | [d] => { results := [.lit (.bool false)], args := [d] }
  | _ => none }
def RegsPlaysWrongFalsely : Prop := regsPlaysRow.holds Tryd.pinned (OpenSpec.ofChange regsPlaysWrong)

/-- 'lookasidelaw07.RegsTwice': WHATEVER THE INPUT: true; the input reads as it did. -/
def regsTwiceSpec : ChangeSpec := { name := "regsTwice", fn := fun _ => fun
  | [d1, d2, d3, d4, d5] => { results := [.lit (.bool true)], args := [d1, d2, d3, d4, d5] }
  | _ => none }
def regsTwiceRow : OpenClaim := { program := "ytohcmijgakijfaadoor", sum := "0b8bd92b63683a34023c2dfca7ec3e55dd13349ae073b1d26972d101b66ae454", func := "lookaside/lookasidelaw07.RegsTwice", spec := "regsTwice", named := ["lookaside/regs.rows"], plainKeys := false, apart := false, laid := [("lookaside/regs.rows", laid_lookaside_regs_rows)] }
def RegsTwiceSaid : Prop := regsTwiceRow.holds Tryd.pinned (OpenSpec.ofChange regsTwiceSpec)

/-- ITS FALSE NEIGHBOUR: 'it returns false'. Refute it at one input. -/
def regsTwiceWrong : ChangeSpec := { name := "regsTwice", fn := fun _ => fun
  | [d1, d2, d3, d4, d5] => { results := [.lit (.bool false)], args := [d1, d2, d3, d4, d5] }
  | _ => none }
def RegsTwiceWrongFalsely : Prop := regsTwiceRow.holds Tryd.pinned (OpenSpec.ofChange regsTwiceWrong)

/-- 'lookasidelaw07.RegsOwn': WHATEVER THE INPUT: true; the input reads as it did. -/
def regsOwnSpec : ChangeSpec := { name := "regsOwn", fn := fun _ => fun
  | [d1, d2, d3, d4] => { results := [.lit (.bool true)], args := [d1, d2, d3, d4] }
  | _ => none }
def regsOwnRow : OpenClaim := { program := "ytohcmijgakijfaadoor", sum := "0b8bd92b63683a34023c2dfca7ec3e55dd13349ae073b1d26972d101b66ae454", func := "lookaside/lookasidelaw07.RegsOwn", spec := "regsOwn", named := ["lookaside/regs.rows"], plainKeys := false, apart := false, laid := [("lookaside/regs.rows", laid_lookaside_regs_rows)] }
def RegsOwnSaid : Prop := regsOwnRow.holds Tryd.pinned (OpenSpec.ofChange regsOwnSpec)

/-- ITS FALSE NEIGHBOUR: 'it returns false'. Refute it at one input. -/
def regsOwnWrong : ChangeSpec := { name := "regsOwn", fn := fun _ => fun
  | [d1, d2, d3, d4] => { results := [.lit (.bool false)], args := [d1, d2, d3, d4] }
  | _ => none }
def RegsOwnWrongFalsely : Prop := regsOwnRow.holds Tryd.pinned (OpenSpec.ofChange regsOwnWrong)

/-- 'lookasidelaw07.RegsMisses': WHATEVER THE INPUT: true; the input reads as it did. -/
def regsMissesSpec : ChangeSpec := { name := "regsMisses", fn := fun _ => fun
  | [d1, d2, d3, d4] => { results := [.lit (.bool true)], args := [d1, d2, d3, d4] }
  | _ => none }
def regsMissesRow : OpenClaim := { program := "ytohcmijgakijfaadoor", sum := "0b8bd92b63683a34023c2dfca7ec3e55dd13349ae073b1d26972d101b66ae454", func := "lookaside/lookasidelaw07.RegsMisses", spec := "regsMisses", named := ["lookaside/regs.rows"], plainKeys := false, apart := false, laid := [("lookaside/regs.rows", laid_lookaside_regs_rows)] }
def RegsMissesSaid : Prop := regsMissesRow.holds Tryd.pinned (OpenSpec.ofChange regsMissesSpec)

/-- ITS FALSE NEIGHBOUR: 'it returns false'. Refute it at one input. -/
def regsMissesWrong : ChangeSpec := { name := "regsMisses", fn := fun _ => fun
  | [d1, d2, d3, d4] => { results := [.lit (.bool false)], args := [d1, d2, d3, d4] }
  | _ => none }
def RegsMissesWrongFalsely : Prop := regsMissesRow.holds Tryd.pinned (OpenSpec.ofChange regsMissesWrong)

/-- 'lookasidelaw07.RegsBits': WHATEVER THE INPUT: true; the input reads as it did. -/
def regsBitsSpec : ChangeSpec := { name := "regsBits", fn := fun _ => fun
  | [d1, d2] => { results := [.lit (.bool true)], args := [d1, d2] }
  | _ => none }
def regsBitsRow : OpenClaim := { program := "ytohcmijgakijfaadoor", sum := "0b8bd92b63683a34023c2dfca7ec3e55dd13349ae073b1d26972d101b66ae454", func := "lookaside/lookasidelaw07.RegsBits", spec := "regsBits", named := ["lookaside/regs.rows"], plainKeys := false, apart := false, laid := [("lookaside/regs.rows", laid_lookaside_regs_rows)] }
def RegsBitsSaid : Prop := regsBitsRow.holds Tryd.pinned (OpenSpec.ofChange regsBitsSpec)

/-- ITS FALSE NEIGHBOUR: 'it returns false'. Refute it at one input. -/
def regsBitsWrong : ChangeSpec := { name := "regsBits", fn := fun _ => fun
  | [d1, d2] => { results := [.lit (.bool false)], args := [d1, d2] }
  | _ => none }
def RegsBitsWrongFalsely : Prop := regsBitsRow.holds Tryd.pinned (OpenSpec.ofChange regsBitsWrong)

/- THE SECOND FORM. 'bulk': how many values and letters a reading holds, each counted each time it is reached (what is shared counts as often as it is met; a slice's spare places count too). A statement '..UptoSaid' is the law's where the arguments, and the package variables that the reading takes, are together of bulk at most 1048576: NARROWER than '..Said'. Prove '..Said' where nothing that the law and all that it calls make is longer than what came in: it says more and counts as full. Else prove '..UptoSaid'. A law counts once. -/
mutual
def uptoBulk {H : Type} : DataW H → Nat
  | .lit (.string bytes) => bytes.length + 1
  | .lit _ => 1
  | .nil => 1
  | .ptr d => uptoBulk d + 1
  | .slice elems spare => uptoBulkAll elems + uptoBulkAll spare + 1
  | .agg parts => uptoBulkAll parts + 1
  | .iface _ d => uptoBulk d + 1
  | .map entries => uptoBulkEntries entries + 1
  | .held _ => 1
def uptoBulkAll {H : Type} : List (DataW H) → Nat
  | [] => 0
  | d :: r => uptoBulk d + uptoBulkAll r
def uptoBulkEntries {H : Type} : List (Lit × DataW H) → Nat
  | [] => 0
  | x :: r => uptoBulkEntry x + uptoBulkEntries r
def uptoBulkEntry {H : Type} : Lit × DataW H → Nat
  | (.string bytes, d) => bytes.length + uptoBulk d + 1
  | (_, d) => uptoBulk d + 1
 end
def uptoSmall : (H : Type) → List (DataW H) → Bool := fun _ ds => decide (uptoBulkAll ds ≤ 1048576)
def OpenSpec.upto (s : _root_.Go.ChangeSpec) : _root_.Go.OpenSpec := { _root_.Go.OpenSpec.ofChange s with cond := some uptoSmall }

/-- 'lookasidelaw07.RegsPlays', WHERE WHAT IT READS IS OF BULK AT MOST 1048576: true; the input reads as it did. -/
def regsPlaysUptoRow : OpenClaim := { program := "ytohcmijgakijfaadoor", sum := "0b8bd92b63683a34023c2dfca7ec3e55dd13349ae073b1d26972d101b66ae454", func := "lookaside/lookasidelaw07.RegsPlays", spec := "regsPlays", named := ["lookaside/regs.rows"], plainKeys := false, apart := false, laid := [("lookaside/regs.rows", laid_lookaside_regs_rows)], narrowed := true }
def RegsPlaysUptoSaid : Prop := regsPlaysUptoRow.holds Tryd.pinned (OpenSpec.upto regsPlaysSpec)

/-- 'lookasidelaw07.RegsTwice', WHERE WHAT IT READS IS OF BULK AT MOST 1048576: true; the input reads as it did. -/
def regsTwiceUptoRow : OpenClaim := { program := "ytohcmijgakijfaadoor", sum := "0b8bd92b63683a34023c2dfca7ec3e55dd13349ae073b1d26972d101b66ae454", func := "lookaside/lookasidelaw07.RegsTwice", spec := "regsTwice", named := ["lookaside/regs.rows"], plainKeys := false, apart := false, laid := [("lookaside/regs.rows", laid_lookaside_regs_rows)], narrowed := true }
def RegsTwiceUptoSaid : Prop := regsTwiceUptoRow.holds Tryd.pinned (OpenSpec.upto regsTwiceSpec)

/-- 'lookasidelaw07.RegsOwn', WHERE WHAT IT READS IS OF BULK AT MOST 1048576: true; the input reads as it did. -/
def regsOwnUptoRow : OpenClaim := { program := "ytohcmijgakijfaadoor", sum := "0b8bd92b63683a34023c2dfca7ec3e55dd13349ae073b1d26972d101b66ae454", func := "lookaside/lookasidelaw07.RegsOwn", spec := "regsOwn", named := ["lookaside/regs.rows"], plainKeys := false, apart := false, laid := [("lookaside/regs.rows", laid_lookaside_regs_rows)], narrowed := true }
def RegsOwnUptoSaid : Prop := regsOwnUptoRow.holds Tryd.pinned (OpenSpec.upto regsOwnSpec)

/-- 'lookasidelaw07.RegsMisses', WHERE WHAT IT READS IS OF BULK AT MOST 1048576: true; the input reads as it did. -/
def regsMissesUptoRow : OpenClaim := { program := "ytohcmijgakijfaadoor", sum := "0b8bd92b63683a34023c2dfca7ec3e55dd13349ae073b1d26972d101b66ae454", func := "lookaside/lookasidelaw07.RegsMisses", spec := "regsMisses", named := ["lookaside/regs.rows"], plainKeys := false, apart := false, laid := [("lookaside/regs.rows", laid_lookaside_regs_rows)], narrowed := true }
def RegsMissesUptoSaid : Prop := regsMissesUptoRow.holds Tryd.pinned (OpenSpec.upto regsMissesSpec)

/-- 'lookasidelaw07.RegsBits', WHERE WHAT IT READS IS OF BULK AT MOST 1048576: true; the input reads as it did. -/
def regsBitsUptoRow : OpenClaim := { program := "ytohcmijgakijfaadoor", sum := "0b8bd92b63683a34023c2dfca7ec3e55dd13349ae073b1d26972d101b66ae454", func := "lookaside/lookasidelaw07.RegsBits", spec := "regsBits", named := ["lookaside/regs.rows"], plainKeys := false, apart := false, laid := [("lookaside/regs.rows", laid_lookaside_regs_rows)], narrowed := true }
def RegsBitsUptoSaid : Prop := regsBitsUptoRow.holds Tryd.pinned (OpenSpec.upto regsBitsSpec)

end Rows
end Go.Proofs.YtohcmijgakijfaaDoor
