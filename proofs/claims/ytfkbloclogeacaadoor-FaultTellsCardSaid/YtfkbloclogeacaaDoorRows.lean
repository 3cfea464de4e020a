/-
  NARROWER THAN 'FOR EVERY INPUT', by the rows' own cells (each row's printed sentence says how): FaultJudges: laid · FaultTells: laid · FaultLess: laid · FaultTaken: laid · FaultRows: laid.
  DERIVED. THE GIVEN ROWS OF THIS SEAT. 5 by the template 'for every input the law returns true; each argument reads behind the call as it read before'; 0 by the template 'total and deterministic' (their statements: YtfkbloclogeacaaDoorTotals.lean).
  GIVEN WITH THE SEED: the statements are not yours to turn. If you find one false, say at which input.
  Laid BY PROGRAM, IN A SANDBOX (cutbox-rows.mjs): the forced cells as the released guide's own fill.sh prints them over the translation 120b0efc4f970452… (all of the seat's roots in one cut). By AI agents, Wed Nov 11 2026. No macro, syntax, notation, axiom, sorry.
-/
import Derived.Test.YtfkbloclogeacaaDoorChecked
import GoSem.Claim
import GoSem.ClaimJoined
import GoSem.ClaimMapViews
import Derived.JoinedTies
import Derived.KernelRfl
namespace Go.Proofs.YtfkbloclogeacaaDoor
/- THE CELL 'sum', in the pinned program and in every row, IS THE sha256 OF THE DUMP (.gsa) THAT YtfkbloclogeacaaDoorProg.lean LOADS. Nothing in Lean hashes anything: it is a label: what it is worth is what the hold of that sum in a sandbox is worth. -/
noncomputable def Tryd.pinned : Pinned := { name := "ytfkbloclogeacaadoor", sum := "120b0efc4f970452c5bd2e012b7828b9615a7b36f7204155e0ec65d99ecc70e1", checked := Tryd.checked }
namespace Rows
def none {H : Type} : Left H := { results := [], args := [] }

/- WHAT THE LISTED PACKAGE-LEVEL VARIABLES READ AS WHEN THE CALL BEGINS. Each datum BY PROGRAM (the guide's laid-datum.mjs) off the statement by which the dump's own 'gosem.cut.vars' lays the variable. In a bare row this is a premise. The card (YtfkbloclogeacaaDoorCards.lean) ties it to the program's text. -/
def laid_lookaside_fault_rows {H : Type} : DataW H := .agg [.agg [.lit (.string [110, 111, 110, 101]), .lit (.int .i64 0), .lit (.int .i64 0), .lit (.int .i64 0)], .agg [.lit (.string [104, 111, 108, 101]), .lit (.int .i64 48), .lit (.int .i64 8), .lit (.int .i64 32)], .agg [.lit (.string [110, 111, 116, 104, 105, 110, 103]), .lit (.int .i64 104), .lit (.int .i64 100), .lit (.int .i64 0)], .agg [.lit (.string [112, 114, 105, 118]), .lit (.int .i64 48), .lit (.int .i64 8), .lit (.int .i64 1)], .agg [.lit (.string [113, 117, 105, 101, 116]), .lit (.int .i64 48), .lit (.int .i64 8), .lit (.int .i64 2)], .agg [.lit (.string [119, 114, 105, 116, 101]), .lit (.int .i64 108), .lit (.int .i64 108), .lit (.int .i64 0)], .agg [.lit (.string [101, 120, 101, 99]), .lit (.int .i64 48), .lit (.int .i64 8), .lit (.int .i64 16)]]

/-- 'lookasidelaw09.FaultJudges': WHATEVER THE INPUT: true; the input reads as it did. -/
def faultJudgesSpec : ChangeSpec := { name := "faultJudges", fn := fun _ => fun
  | [d1, d2, d3, d4] => { results := [.lit (.bool true)], args := [d1, d2, d3, d4] }
  | _ => none }
def faultJudgesRow : OpenClaim := { program := "ytfkbloclogeacaadoor", sum := "120b0efc4f970452c5bd2e012b7828b9615a7b36f7204155e0ec65d99ecc70e1", func := "lookaside/lookasidelaw09.FaultJudges", spec := "faultJudges", named := ["lookaside/fault.rows"], apart := false, laid := [("lookaside/fault.rows", laid_lookaside_fault_rows)] }
def FaultJudgesSaid : Prop := faultJudgesRow.holds Tryd.pinned (OpenSpec.ofChange faultJudgesSpec)

/-- ITS FALSE NEIGHBOUR: 'it returns false'. Refute it at one input. -/
def faultJudgesWrong : ChangeSpec := { name := "faultJudges", fn := fun _ => fun
  | [d1, d2, d3, d4] => { results := [.lit (.bool false)], args := [d1, d2, d3, d4] }
  | _ => none }
def FaultJudgesWrongFalsely : Prop := faultJudgesRow.holds Tryd.pinned (OpenSpec.ofChange faultJudgesWrong)

/-- 'lookasidelaw09.FaultTells': WHATEVER THE INPUT: true; the input reads as it did. -/
def faultTellsSpec : ChangeSpec := { name := "faultTells", fn := fun _ => fun
  | [d1, d2, d3] => { results := [.lit (.bool true)], args := [d1, d2, d3] }
  | _ => none }
def faultTellsRow : OpenClaim := { program := "ytfkbloclogeacaadoor", sum := "120b0efc4f970452c5bd2e012b7828b9615a7b36f7204155e0ec65d99ecc70e1", func := "lookaside/lookasidelaw09.FaultTells", spec := "faultTells", named := ["lookaside/fault.rows"], apart := false, laid := [("lookaside/fault.rows", laid_lookaside_fault_rows)] }
def FaultTellsSaid : Prop := faultTellsRow.holds Tryd.pinned (OpenSpec.ofChange faultTellsSpec)

/-- ITS FALSE NEIGHBOUR: 'it returns false'. Refute it at one input. -/
def faultTellsWrong : ChangeSpec := { name := "faultTells", fn := fun _ => fun
  | [d1, d2, d3] => { results := [.lit (.bool false)], args := [d1, d2, d3] }
  | _ => none }
def FaultTellsWrongFalsely : Prop := faultTellsRow.holds Tryd.pinned (OpenSpec.ofChange faultTellsWrong)

/-- 'lookasidelaw09.FaultLess': WHATEVER THE INPUT: true; the input reads as it did. -/
def faultLessSpec : ChangeSpec := { name := "faultLess", fn := fun _ => fun
  | [d1, d2, d3, d4] => { results := [.lit (.bool true)], args := [d1, d2, d3, d4] }
  | _ => none }
def faultLessRow : OpenClaim := { program := "ytfkbloclogeacaadoor", sum := "120b0efc4f970452c5bd2e012b7828b9615a7b36f7204155e0ec65d99ecc70e1", func := "lookaside/lookasidelaw09.FaultLess", spec := "faultLess", named := ["lookaside/fault.rows"], apart := false, laid := [("lookaside/fault.rows", laid_lookaside_fault_rows)] }
def FaultLessSaid : Prop := faultLessRow.holds Tryd.pinned (OpenSpec.ofChange faultLessSpec)

/-- ITS FALSE NEIGHBOUR: 'it returns false'. Refute it at one input. -/
def faultLessWrong : ChangeSpec := { name := "faultLess", fn := fun _ => fun
  | [d1, d2, d3, d4] => { results := [.lit (.bool false)], args := [d1, d2, d3, d4] }
  | _ => none }
def FaultLessWrongFalsely : Prop := faultLessRow.holds Tryd.pinned (OpenSpec.ofChange faultLessWrong)

/-- 'lookasidelaw09.FaultTaken': WHATEVER THE INPUT: true; the input reads as it did. -/
def faultTakenSpec : ChangeSpec := { name := "faultTaken", fn := fun _ => fun
  | [d] => { results := [.lit (.bool true)], args := [d] }
  | _ => none }
def faultTakenRow : OpenClaim := { program := "ytfkbloclogeacaadoor", sum := "120b0efc4f970452c5bd2e012b7828b9615a7b36f7204155e0ec65d99ecc70e1", func := "lookaside/lookasidelaw09.FaultTaken", spec := "faultTaken", named := ["lookaside/fault.rows"], apart := false, laid := [("lookaside/fault.rows", laid_lookaside_fault_rows)] }
def FaultTakenSaid : Prop := faultTakenRow.holds Tryd.pinned (OpenSpec.ofChange faultTakenSpec)

/-- ITS FALSE NEIGHBOUR: 'it returns false'. Refute it at one input. -/
def faultTakenWrong : ChangeSpec := { name := "faultTaken", fn := fun _ => fun
  | [d] => { results := [.lit (.bool false)], args := [d] }
  | _ => none }
def FaultTakenWrongFalsely : Prop := faultTakenRow.holds Tryd.pinned (OpenSpec.ofChange faultTakenWrong)

/-- 'lookasidelaw09.FaultRows': WHATEVER THE INPUT: true; the input reads as it did. -/
def faultRowsSpec : ChangeSpec := { name := "faultRows", fn := fun _ => fun
  | [d1, d2] => { results := [.lit (.bool true)], args := [d1, d2] }
  | _ => none }
def faultRowsRow : OpenClaim := { program := "ytfkbloclogeacaadoor", sum := "120b0efc4f970452c5bd2e012b7828b9615a7b36f7204155e0ec65d99ecc70e1", func := "lookaside/lookasidelaw09.FaultRows", spec := "faultRows", named := ["lookaside/fault.rows"], apart := false, laid := [("lookaside/fault.rows", laid_lookaside_fault_rows)] }
def FaultRowsSaid : Prop := faultRowsRow.holds Tryd.pinned (OpenSpec.ofChange faultRowsSpec)

/-- ITS FALSE NEIGHBOUR: 'it returns false'. Refute it at one input. -/
def faultRowsWrong : ChangeSpec := { name := "faultRows", fn := fun _ => fun
  | [d1, d2] => { results := [.lit (.bool false)], args := [d1, d2] }
  | _ => none }
def FaultRowsWrongFalsely : Prop := faultRowsRow.holds Tryd.pinned (OpenSpec.ofChange faultRowsWrong)

/- THE SECOND FORM. 'bulk': how many values and letters a reading holds, each counted each time it is reached (what is shared counts as often as it is met; a slice's spare places count too). A statement '..UptoSaid' is the law's where the arguments, and the package variables that the reading takes, are together of bulk at most 1048576: NARROWER than '..Said'. Prove '..Said' where nothing that the law and all that it calls make is longer than what came in: it says more and counts as full. Else prove '..UptoSaid'. A law counts once. -/
mutual
def uptoBulk {H : Type} : DataW H → Nat
  | .lit (.string bytes) => bytes.length + 1
  | .lit _ => 1
  | .nil => 1
  | .ptr d => uptoBulk d + 1
  | .slice elems spare => uptoBulkAll elems + uptoBulkAll spare + 1
  | .agg parts => uptoBulkAll parts + 1
  | .iface _ d => uptoBulk d + 1
  | .map entries => uptoBulkEntries entries + 1
  | .held _ => 1
def uptoBulkAll {H : Type} : List (DataW H) → Nat
  | [] => 0
  | d :: r => uptoBulk d + uptoBulkAll r
def uptoBulkEntries {H : Type} : List (Lit × DataW H) → Nat
  | [] => 0
  | x :: r => uptoBulkEntry x + uptoBulkEntries r
def uptoBulkEntry {H : Type} : Lit × DataW H → Nat
  | (.string bytes, d) => bytes.length + uptoBulk d + 1
  | (_, d) => uptoBulk d + 1
 end
def uptoSmall : (H : Type) → List (DataW H) → Bool := fun _ ds => decide (uptoBulkAll ds ≤ 1048576)
def OpenSpec.upto (s : _root_.Go.ChangeSpec) : _root_.Go.OpenSpec := { _root_.Go.OpenSpec.ofChange s with cond := some uptoSmall }

/-- 'lookasidelaw09.FaultJudges', WHERE WHAT IT READS IS OF BULK AT MOST 1048576: true; the input reads as it did. -/
def faultJudgesUptoRow : OpenClaim := { program := "ytfkbloclogeacaadoor", sum := "120b0efc4f970452c5bd2e012b7828b9615a7b36f7204155e0ec65d99ecc70e1", func := "lookaside/lookasidelaw09.FaultJudges", spec := "faultJudges", named := ["lookaside/fault.rows"], apart := false, laid := [("lookaside/fault.rows", laid_lookaside_fault_rows)], narrowed := true }
def FaultJudgesUptoSaid : Prop := faultJudgesUptoRow.holds Tryd.pinned (OpenSpec.upto faultJudgesSpec)

/-- 'lookasidelaw09.FaultTells', WHERE WHAT IT READS IS OF BULK AT MOST 1048576: true; the input reads as it did. -/
def faultTellsUptoRow : OpenClaim := { program := "ytfkbloclogeacaadoor", sum := "120b0efc4f970452c5bd2e012b7828b9615a7b36f7204155e0ec65d99ecc70e1", func := "lookaside/lookasidelaw09.FaultTells", spec := "faultTells", named := ["lookaside/fault.rows"], apart := false, laid := [("lookaside/fault.rows", laid_lookaside_fault_rows)], narrowed := true }
def FaultTellsUptoSaid : Prop := faultTellsUptoRow.holds Tryd.pinned (OpenSpec.upto faultTellsSpec)

/-- 'lookasidelaw09.FaultLess', WHERE WHAT IT READS IS OF BULK AT MOST 1048576: true; the input reads as it did. -/
def faultLessUptoRow : OpenClaim := { program := "ytfkbloclogeacaadoor", sum := "120b0efc4f970452c5bd2e012b7828b9615a7b36f7204155e0ec65d99ecc70e1", func := "lookaside/lookasidelaw09.FaultLess", spec := "faultLess", named := ["lookaside/fault.rows"], apart := false, laid := [("lookaside/fault.rows", laid_lookaside_fault_rows)], narrowed := true }
def FaultLessUptoSaid : Prop := faultLessUptoRow.holds Tryd.pinned (OpenSpec.upto faultLessSpec)

/-- 'lookasidelaw09.FaultTaken', WHERE WHAT IT READS IS OF BULK AT MOST 1048576: true; the input reads as it did. -/
def faultTakenUptoRow : OpenClaim := { program := "ytfkbloclogeacaadoor", sum := "120b0efc4f970452c5bd2e012b7828b9615a7b36f7204155e0ec65d99ecc70e1", func := "lookaside/lookasidelaw09.FaultTaken", spec := "faultTaken", named := ["lookaside/fault.rows"], apart := false, laid := [("lookaside/fault.rows", laid_lookaside_fault_rows)], narrowed := true }
def FaultTakenUptoSaid : Prop := faultTakenUptoRow.holds Tryd.pinned (OpenSpec.upto faultTakenSpec)

/-- 'lookasidelaw09.FaultRows', WHERE WHAT IT READS IS OF BULK AT MOST 1048576: true; the input reads as it did. -/
def faultRowsUptoRow : OpenClaim := { program := "ytfkbloclogeacaadoor", sum := "120b0efc4f970452c5bd2e012b7828b9615a7b36f7204155e0ec65d99ecc70e1", func := "lookaside/lookasidelaw09.FaultRows", spec := "faultRows", named := ["lookaside/fault.rows"], apart := false, laid := [("lookaside/fault.rows", laid_lookaside_fault_rows)], narrowed := true }
def FaultRowsUptoSaid : Prop := faultRowsUptoRow.holds Tryd.pinned (OpenSpec.upto faultRowsSpec)

end Rows
end Go.Proofs.YtfkbloclogeacaaDoor
