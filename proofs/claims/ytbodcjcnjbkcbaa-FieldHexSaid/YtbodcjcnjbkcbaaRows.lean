/-
  No cell of these rows narrows 'for every input' (looked for: loops, veiled, ifaces, maps, wideKeys, modest, calm, conditions, laid).
  DERIVED. THE GIVEN ROWS OF THIS SEAT. 7 by the template 'for every input the law returns true; each argument reads behind the call as it read before'; 0 by the template 'total and deterministic' (their statements: YtbodcjcnjbkcbaaTotals.lean).
  GIVEN WITH THE SEED: the statements are not yours to turn. If you find one false, say at which input.
  Laid BY PROGRAM, IN A SANDBOX (cutbox-rows.mjs): the forced cells as the released guide's own fill.sh prints them over the translation 06d3984b68f78411… (all of the seat's roots in one cut). By AI agents, Wed Nov 11 2026. No macro, syntax, notation, axiom, sorry.
-/
import Derived.Test.YtbodcjcnjbkcbaaChecked
import GoSem.Claim
import GoSem.ClaimJoined
import GoSem.ClaimMapViews
import Derived.JoinedTies
import Derived.KernelRfl
namespace Go.Proofs.Ytbodcjcnjbkcbaa
/- THE CELL 'sum', in the pinned program and in every row, IS THE sha256 OF THE DUMP (.gsa) THAT YtbodcjcnjbkcbaaProg.lean LOADS. Nothing in Lean hashes anything: it is a label: what it is worth is what the hold of that sum in a sandbox is worth. -/
noncomputable def Try.pinned : Pinned := { name := "ytbodcjcnjbkcbaa", sum := "06d3984b68f78411d44b0723bf179f50764113061ac8c081950e322974cbdfbb", checked := Try.checked }
namespace Rows
def none {H : Type} : Left H := { results := [], args := [] }

/-- 'lookasidelaw01.FieldGets': WHATEVER THE INPUT: true; the input reads as it did. -/
def fieldGetsSpec : ChangeSpec := { name := "fieldGets", fn := fun _ => fun
  | [d1, d2, d3, d4] => { results := [.lit (.bool true)], args := [d1, d2, d3, d4] }
  | _ => none }
def fieldGetsRow : OpenClaim := { program := "ytbodcjcnjbkcbaa", sum := "06d3984b68f78411d44b0723bf179f50764113061ac8c081950e322974cbdfbb", func := "lookaside/lookasidelaw01.FieldGets", spec := "fieldGets", apart := false }
def FieldGetsSaid : Prop := fieldGetsRow.holds Try.pinned (OpenSpec.ofChange fieldGetsSpec)

/-- ITS FALSE NEIGHBOUR: 'it returns false'. Refute it at one input. -/
def fieldGetsWrong : ChangeSpec := { name := "fieldGets", fn := fun _ => fun
  | [d1, d2, d3, d4] => { results := [.lit (.bool false)], args := [d1, d2, d3, d4] }
  | _ => none }
def FieldGetsWrongFalsely : Prop := fieldGetsRow.holds Try.pinned (OpenSpec.ofChange fieldGetsWrong)

/-- 'lookasidelaw01.FieldRound': WHATEVER THE INPUT: true; the input reads as it did. -/
def fieldRoundSpec : ChangeSpec := { name := "fieldRound", fn := fun _ => fun
  | [d1, d2, d3, d4] => { results := [.lit (.bool true)], args := [d1, d2, d3, d4] }
  | _ => none }
def fieldRoundRow : OpenClaim := { program := "ytbodcjcnjbkcbaa", sum := "06d3984b68f78411d44b0723bf179f50764113061ac8c081950e322974cbdfbb", func := "lookaside/lookasidelaw01.FieldRound", spec := "fieldRound", apart := false }
def FieldRoundSaid : Prop := fieldRoundRow.holds Try.pinned (OpenSpec.ofChange fieldRoundSpec)

/-- ITS FALSE NEIGHBOUR: 'it returns false'. Refute it at one input. -/
def fieldRoundWrong : ChangeSpec := { name := "fieldRound", fn := fun _ => fun
  | [d1, d2, d3, d4] => { results := [.lit (.bool false)], args := [d1, d2, d3, d4] }
  | _ => none }
def FieldRoundWrongFalsely : Prop := fieldRoundRow.holds Try.pinned (OpenSpec.ofChange fieldRoundWrong)

/-- 'lookasidelaw01.FieldFits': WHATEVER THE INPUT: true; the input reads as it did. -/
def fieldFitsSpec : ChangeSpec := { name := "fieldFits", fn := fun _ => fun
  | [d1, d2] => { results := [.lit (.bool true)], args := [d1, d2] }
  | _ => none }
def fieldFitsRow : OpenClaim := { program := "ytbodcjcnjbkcbaa", sum := "06d3984b68f78411d44b0723bf179f50764113061ac8c081950e322974cbdfbb", func := "lookaside/lookasidelaw01.FieldFits", spec := "fieldFits", apart := false }
def FieldFitsSaid : Prop := fieldFitsRow.holds Try.pinned (OpenSpec.ofChange fieldFitsSpec)

/-- ITS FALSE NEIGHBOUR: 'it returns false'. Refute it at one input. -/
def fieldFitsWrong : ChangeSpec := { name := "fieldFits", fn := fun _ => fun
  | [d1, d2] => { results := [.lit (.bool false)], args := [d1, d2] }
  | _ => none }
def FieldFitsWrongFalsely : Prop := fieldFitsRow.holds Try.pinned (OpenSpec.ofChange fieldFitsWrong)

/-- 'lookasidelaw01.FieldBits': WHATEVER THE INPUT: true; the input reads as it did. -/
def fieldBitsSpec : ChangeSpec := { name := "fieldBits", fn := fun _ => fun
  | [d1, d2, d3] => { results := [.lit (.bool true)], args := [d1, d2, d3] }
  | _ => none }
def fieldBitsRow : OpenClaim := { program := "ytbodcjcnjbkcbaa", sum := "06d3984b68f78411d44b0723bf179f50764113061ac8c081950e322974cbdfbb", func := "lookaside/lookasidelaw01.FieldBits", spec := "fieldBits", apart := false }
def FieldBitsSaid : Prop := fieldBitsRow.holds Try.pinned (OpenSpec.ofChange fieldBitsSpec)

/-- ITS FALSE NEIGHBOUR: 'it returns false'. Refute it at one input. -/
def fieldBitsWrong : ChangeSpec := { name := "fieldBits", fn := fun _ => fun
  | [d1, d2, d3] => { results := [.lit (.bool false)], args := [d1, d2, d3] }
  | _ => none }
def FieldBitsWrongFalsely : Prop := fieldBitsRow.holds Try.pinned (OpenSpec.ofChange fieldBitsWrong)

/-- 'lookasidelaw01.FieldHex': WHATEVER THE INPUT: true; the input reads as it did. -/
def fieldHexSpec : ChangeSpec := { name := "fieldHex", fn := fun _ => fun
  | [d1, d2] => { results := [.lit (.bool true)], args := [d1, d2] }
  | _ => none }
def fieldHexRow : OpenClaim := { program := "ytbodcjcnjbkcbaa", sum := "06d3984b68f78411d44b0723bf179f50764113061ac8c081950e322974cbdfbb", func := "lookaside/lookasidelaw01.FieldHex", spec := "fieldHex", apart := false }
def FieldHexSaid : Prop := fieldHexRow.holds Try.pinned (OpenSpec.ofChange fieldHexSpec)

/-- ITS FALSE NEIGHBOUR: 'it returns false'. Refute it at one input. -/
def fieldHexWrong : ChangeSpec := { name := "fieldHex", fn := fun _ => fun
  | [d1, d2] => { results := [.lit (.bool false)], args := [d1, d2] }
  | _ => none }
def FieldHexWrongFalsely : Prop := fieldHexRow.holds Try.pinned (OpenSpec.ofChange fieldHexWrong)

/-- 'lookasidelaw01.FieldApart': WHATEVER THE INPUT: true; the input reads as it did. -/
def fieldApartSpec : ChangeSpec := { name := "fieldApart", fn := fun _ => fun
  | [d1, d2, d3, d4, d5] => { results := [.lit (.bool true)], args := [d1, d2, d3, d4, d5] }
  | _ => none }
def fieldApartRow : OpenClaim := { program := "ytbodcjcnjbkcbaa", sum := "06d3984b68f78411d44b0723bf179f50764113061ac8c081950e322974cbdfbb", func := "lookaside/lookasidelaw01.FieldApart", spec := "fieldApart", apart := false }
def FieldApartSaid : Prop := fieldApartRow.holds Try.pinned (OpenSpec.ofChange fieldApartSpec)

/-- ITS FALSE NEIGHBOUR: 'it returns false'. Refute it at one input. -/
def fieldApartWrong : ChangeSpec := { name := "fieldApart", fn := fun _ => fun
  | [d1, d2, d3, d4, d5] => { results := [.lit (.bool false)], args := [d1, d2, d3, d4, d5] }
  | _ => none }
def FieldApartWrongFalsely : Prop := fieldApartRow.holds Try.pinned (OpenSpec.ofChange fieldApartWrong)

/-- 'lookasidelaw01.FieldMasks': WHATEVER THE INPUT: true; the input reads as it did. -/
def fieldMasksSpec : ChangeSpec := { name := "fieldMasks", fn := fun _ => fun
  | [d1, d2, d3] => { results := [.lit (.bool true)], args := [d1, d2, d3] }
  | _ => none }
def fieldMasksRow : OpenClaim := { program := "ytbodcjcnjbkcbaa", sum := "06d3984b68f78411d44b0723bf179f50764113061ac8c081950e322974cbdfbb", func := "lookaside/lookasidelaw01.FieldMasks", spec := "fieldMasks", apart := false }
def FieldMasksSaid : Prop := fieldMasksRow.holds Try.pinned (OpenSpec.ofChange fieldMasksSpec)

/-- ITS FALSE NEIGHBOUR: 'it returns false'. Refute it at one input. -/
def fieldMasksWrong : ChangeSpec := { name := "fieldMasks", fn := fun _ => fun
  | [d1, d2, d3] => { results := [.lit (.bool false)], args := [d1, d2, d3] }
  | _ => none }
def FieldMasksWrongFalsely : Prop := fieldMasksRow.holds Try.pinned (OpenSpec.ofChange fieldMasksWrong)

/- THE SECOND FORM. 'bulk': how many values and letters a reading holds, each counted each time it is reached (what is shared counts as often as it is met; a slice's spare places count too). A statement '..UptoSaid' is the law's where the arguments, and the package variables that the reading takes, are together of bulk at most 1048576: NARROWER than '..Said'. Prove '..Said' where nothing that the law and all that it calls make is longer than what came in: it says more and counts as full. Else prove '..UptoSaid'. A law counts once. -/
mutual
def uptoBulk {H : Type} : DataW H → Nat
  | .lit (.string bytes) => bytes.length + 1
  | .lit _ => 1
  | .nil => 1
  | .ptr d => uptoBulk d + 1
  | .slice elems spare => uptoBulkAll elems + uptoBulkAll spare + 1
  | .agg parts => uptoBulkAll parts + 1
  | .iface _ d => uptoBulk d + 1
  | .map entries => uptoBulkEntries entries + 1
  | .held _ => 1
def uptoBulkAll {H : Type} : List (DataW H) → Nat
  | [] => 0
  | d :: r => uptoBulk d + uptoBulkAll r
def uptoBulkEntries {H : Type} : List (Lit × DataW H) → Nat
  | [] => 0
  | x :: r => uptoBulkEntry x + uptoBulkEntries r
def uptoBulkEntry {H : Type} : Lit × DataW H → Nat
  | (.string bytes, d) => bytes.length + uptoBulk d + 1
  | (_, d) => uptoBulk d + 1
 end
def uptoSmall : (H : Type) → List (DataW H) → Bool := fun _ ds => decide (uptoBulkAll ds ≤ 1048576)
def OpenSpec.upto (s : _root_.Go.ChangeSpec) : _root_.Go.OpenSpec := { _root_.Go.OpenSpec.ofChange s with cond := some uptoSmall }

/-- 'lookasidelaw01.FieldGets', WHERE WHAT IT READS IS OF BULK AT MOST 1048576: true; the input reads as it did. -/
def fieldGetsUptoRow : OpenClaim := { program := "ytbodcjcnjbkcbaa", sum := "06d3984b68f78411d44b0723bf179f50764113061ac8c081950e322974cbdfbb", func := "lookaside/lookasidelaw01.FieldGets", spec := "fieldGets", apart := false, narrowed := true }
def FieldGetsUptoSaid : Prop := fieldGetsUptoRow.holds Try.pinned (OpenSpec.upto fieldGetsSpec)

/-- 'lookasidelaw01.FieldRound', WHERE WHAT IT READS IS OF BULK AT MOST 1048576: true; the input reads as it did. -/
def fieldRoundUptoRow : OpenClaim := { program := "ytbodcjcnjbkcbaa", sum := "06d3984b68f78411d44b0723bf179f50764113061ac8c081950e322974cbdfbb", func := "lookaside/lookasidelaw01.FieldRound", spec := "fieldRound", apart := false, narrowed := true }
def FieldRoundUptoSaid : Prop := fieldRoundUptoRow.holds Try.pinned (OpenSpec.upto fieldRoundSpec)

/-- 'lookasidelaw01.FieldFits', WHERE WHAT IT READS IS OF BULK AT MOST 1048576: true; the input reads as it did. -/
def fieldFitsUptoRow : OpenClaim := { program := "ytbodcjcnjbkcbaa", sum := "06d3984b68f78411d44b0723bf179f50764113061ac8c081950e322974cbdfbb", func := "lookaside/lookasidelaw01.FieldFits", spec := "fieldFits", apart := false, narrowed := true }
def FieldFitsUptoSaid : Prop := fieldFitsUptoRow.holds Try.pinned (OpenSpec.upto fieldFitsSpec)

/-- 'lookasidelaw01.FieldBits', WHERE WHAT IT READS IS OF BULK AT MOST 1048576: true; the input reads as it did. -/
def fieldBitsUptoRow : OpenClaim := { program := "ytbodcjcnjbkcbaa", sum := "06d3984b68f78411d44b0723bf179f50764113061ac8c081950e322974cbdfbb", func := "lookaside/lookasidelaw01.FieldBits", spec := "fieldBits", apart := false, narrowed := true }
def FieldBitsUptoSaid : Prop := fieldBitsUptoRow.holds Try.pinned (OpenSpec.upto fieldBitsSpec)

/-- 'lookasidelaw01.FieldHex', WHERE WHAT IT READS IS OF BULK AT MOST 1048576: true; the input reads as it did. -/
def fieldHexUptoRow : OpenClaim := { program := "ytbodcjcnjbkcbaa", sum := "06d3984b68f78411d44b0723bf179f50764113061ac8c081950e322974cbdfbb", func := "lookaside/lookasidelaw01.FieldHex", spec := "fieldHex", apart := false, narrowed := true }
def FieldHexUptoSaid : Prop := fieldHexUptoRow.holds Try.pinned (OpenSpec.upto fieldHexSpec)

/-- 'lookasidelaw01.FieldApart', WHERE WHAT IT READS IS OF BULK AT MOST 1048576: true; the input reads as it did. -/
def fieldApartUptoRow : OpenClaim := { program := "ytbodcjcnjbkcbaa", sum := "06d3984b68f78411d44b0723bf179f50764113061ac8c081950e322974cbdfbb", func := "lookaside/lookasidelaw01.FieldApart", spec := "fieldApart", apart := false, narrowed := true }
def FieldApartUptoSaid : Prop := fieldApartUptoRow.holds Try.pinned (OpenSpec.upto fieldApartSpec)

/-- 'lookasidelaw01.FieldMasks', WHERE WHAT IT READS IS OF BULK AT MOST 1048576: true; the input reads as it did. -/
def fieldMasksUptoRow : OpenClaim := { program := "ytbodcjcnjbkcbaa", sum := "06d3984b68f78411d44b0723bf179f50764113061ac8c081950e322974cbdfbb", func := "lookaside/lookasidelaw01.FieldMasks", spec := "fieldMasks", apart := false, narrowed := true }
def FieldMasksUptoSaid : Prop := fieldMasksUptoRow.holds Try.pinned (OpenSpec.upto fieldMasksSpec)

end Rows
end Go.Proofs.Ytbodcjcnjbkcbaa
