/-
  No cell of these rows narrows 'for every input' (looked for: loops, veiled, ifaces, maps, wideKeys, modest, calm, conditions, laid).
  DERIVED. THE GIVEN ROWS OF THIS SEAT. 6 by the template 'for every input the law returns true; each argument reads behind the call as it read before'; 0 by the template 'total and deterministic' (their statements: YtffpfceclhogoaaGreatTotals.lean).
  GIVEN WITH THE SEED: the statements are not yours to turn. If you find one false, say at which input.
  Laid BY PROGRAM, IN A SANDBOX (cutbox-rows.mjs): the forced cells as the released guide's own fill.sh prints them over the translation 7f3606a481a17d66… (all of the seat's roots in one cut). By AI agents, Wed Nov 11 2026. No macro, syntax, notation, axiom, sorry.
-/
import Derived.Test.YtffpfceclhogoaaGreatChecked
import GoSem.Claim
import GoSem.ClaimJoined
import GoSem.ClaimMapViews
import Derived.JoinedTies
import Derived.KernelRfl
namespace Go.Proofs.YtffpfceclhogoaaGreat
/- THE CELL 'sum', in the pinned program and in every row, IS THE sha256 OF THE DUMP (.gsa) THAT YtffpfceclhogoaaGreatProg.lean LOADS. Nothing in Lean hashes anything: it is a label: what it is worth is what the hold of that sum in a sandbox is worth. -/
noncomputable def Tryz.pinned : Pinned := { name := "ytffpfceclhogoaagreat", sum := "7f3606a481a17d6658ced5b02a2b2f282f30048a4f4fd7a138994211c4e9bb2f", checked := Tryz.checked }
namespace Rows
def none {H : Type} : Left H := { results := [], args := [] }

/-- 'lookasidelaw12.HatPlays': WHATEVER THE INPUT: true; the input reads as it did. -/
def hatPlaysSpec : ChangeSpec := { name := "hatPlays", fn := fun _ => fun
  | [d1, d2, d3, d4] => { results := [.lit (.bool true)], args := [d1, d2, d3, d4] }
  | _ => none }
def hatPlaysRow : OpenClaim := { program := "ytffpfceclhogoaagreat", sum := "7f3606a481a17d6658ced5b02a2b2f282f30048a4f4fd7a138994211c4e9bb2f", func := "lookaside/lookasidelaw12.HatPlays", spec := "hatPlays", inPlace := ["slices.overlaps[lookaside/hash.block[lookaside/api.Page]]"], unfollowed := true, recurses := true, apart := false }
def HatPlaysSaid : Prop := hatPlaysRow.holds Tryz.pinned (OpenSpec.ofChange hatPlaysSpec)

/-- ITS FALSE NEIGHBOUR: 'it returns false'. Refute it at one input. -/
def hatPlaysWrong : ChangeSpec := { name := "hatPlays", fn := fun _ => fun
  | [d1, d2, d3, d4] => { results := [.lit (.bool false)], args := [d1, d2, d3, d4] }
  | _ => none }
def HatPlaysWrongFalsely : Prop := hatPlaysRow.holds Tryz.pinned (OpenSpec.ofChange hatPlaysWrong)

/-- 'lookasidelaw12.HatApart': WHATEVER THE INPUT: true; the input reads as it did. -/
def hatApartSpec : ChangeSpec := { name := "hatApart", fn := fun _ => fun
  | [d1, d2, d3] => { results := [.lit (.bool true)], args := [d1, d2, d3] }
  | _ => none }
def hatApartRow : OpenClaim := { program := "ytffpfceclhogoaagreat", sum := "7f3606a481a17d6658ced5b02a2b2f282f30048a4f4fd7a138994211c4e9bb2f", func := "lookaside/lookasidelaw12.HatApart", spec := "hatApart", inPlace := ["slices.overlaps[lookaside/hash.block[lookaside/api.Page]]"], unfollowed := true, recurses := true, apart := false }
def HatApartSaid : Prop := hatApartRow.holds Tryz.pinned (OpenSpec.ofChange hatApartSpec)

/-- ITS FALSE NEIGHBOUR: 'it returns false'. Refute it at one input. -/
def hatApartWrong : ChangeSpec := { name := "hatApart", fn := fun _ => fun
  | [d1, d2, d3] => { results := [.lit (.bool false)], args := [d1, d2, d3] }
  | _ => none }
def HatApartWrongFalsely : Prop := hatApartRow.holds Tryz.pinned (OpenSpec.ofChange hatApartWrong)

/-- 'lookasidelaw12.HatFinds': WHATEVER THE INPUT: true; the input reads as it did. -/
def hatFindsSpec : ChangeSpec := { name := "hatFinds", fn := fun _ => fun
  | [d1, d2, d3] => { results := [.lit (.bool true)], args := [d1, d2, d3] }
  | _ => none }
def hatFindsRow : OpenClaim := { program := "ytffpfceclhogoaagreat", sum := "7f3606a481a17d6658ced5b02a2b2f282f30048a4f4fd7a138994211c4e9bb2f", func := "lookaside/lookasidelaw12.HatFinds", spec := "hatFinds", inPlace := ["slices.overlaps[lookaside/hash.block[lookaside/api.Page]]"], unfollowed := true, recurses := true, apart := false }
def HatFindsSaid : Prop := hatFindsRow.holds Tryz.pinned (OpenSpec.ofChange hatFindsSpec)

/-- ITS FALSE NEIGHBOUR: 'it returns false'. Refute it at one input. -/
def hatFindsWrong : ChangeSpec := { name := "hatFinds", fn := fun _ => fun
  | [d1, d2, d3] => { results := [.lit (.bool false)], args := [d1, d2, d3] }
  | _ => none }
def HatFindsWrongFalsely : Prop := hatFindsRow.holds Tryz.pinned (OpenSpec.ofChange hatFindsWrong)

/-- 'lookasidelaw12.HatMeets': WHATEVER THE INPUT: true; the input reads as it did. -/
def hatMeetsSpec : ChangeSpec := { name := "hatMeets", fn := fun _ => fun
  | [d] => { results := [.lit (.bool true)], args := [d] }
  | _ => none }
def hatMeetsRow : OpenClaim := { program := "ytffpfceclhogoaagreat", sum := "7f3606a481a17d6658ced5b02a2b2f282f30048a4f4fd7a138994211c4e9bb2f", func := "lookaside/lookasidelaw12.HatMeets", spec := "hatMeets", inPlace := ["slices.overlaps[lookaside/hash.block[lookaside/api.Page]]"], unfollowed := true, recurses := true, apart := false }
def HatMeetsSaid : Prop := hatMeetsRow.holds Tryz.pinned (OpenSpec.ofChange hatMeetsSpec)

/-- ITS FALSE NEIGHBOUR: 'it returns false'. Refute it at one input. -/
def hatMeetsWrong : ChangeSpec := { name := "hatMeets", fn := fun _ => fun
  | [d] => { results := [.lit (.bool false)], args := [d] }
  | _ => none }
def HatMeetsWrongFalsely : Prop := hatMeetsRow.holds Tryz.pinned (OpenSpec.ofChange hatMeetsWrong)

/-- 'lookasidelaw12.HatMarks': WHATEVER THE INPUT: true; the input reads as it did. -/
def hatMarksSpec : ChangeSpec := { name := "hatMarks", fn := fun _ => fun
  | [d1, d2, d3, d4, d5] => { results := [.lit (.bool true)], args := [d1, d2, d3, d4, d5] }
  | _ => none }
def hatMarksRow : OpenClaim := { program := "ytffpfceclhogoaagreat", sum := "7f3606a481a17d6658ced5b02a2b2f282f30048a4f4fd7a138994211c4e9bb2f", func := "lookaside/lookasidelaw12.HatMarks", spec := "hatMarks", inPlace := ["slices.overlaps[lookaside/hash.block[lookaside/api.Page]]"], unfollowed := true, recurses := true, apart := false }
def HatMarksSaid : Prop := hatMarksRow.holds Tryz.pinned (OpenSpec.ofChange hatMarksSpec)

/-- ITS FALSE NEIGHBOUR: 'it returns false'. Refute it at one input. -/
def hatMarksWrong : ChangeSpec := { name := "hatMarks", fn := fun _ => fun
  | [d1, d2, d3, d4, d5] => { results := [.lit (.bool false)], args := [d1, d2, d3, d4, d5] }
  | _ => none }
def HatMarksWrongFalsely : Prop := hatMarksRow.holds Tryz.pinned (OpenSpec.ofChange hatMarksWrong)

/-- 'lookasidelaw12.HatMaps': WHATEVER THE INPUT: true; the input reads as it did. -/
def hatMapsSpec : ChangeSpec := { name := "hatMaps", fn := fun _ => fun
  | [d1, d2, d3] => { results := [.lit (.bool true)], args := [d1, d2, d3] }
  | _ => none }
def hatMapsRow : OpenClaim := { program := "ytffpfceclhogoaagreat", sum := "7f3606a481a17d6658ced5b02a2b2f282f30048a4f4fd7a138994211c4e9bb2f", func := "lookaside/lookasidelaw12.HatMaps", spec := "hatMaps", inPlace := ["slices.overlaps[lookaside/hash.block[lookaside/api.Page]]"], unfollowed := true, recurses := true, apart := false }
def HatMapsSaid : Prop := hatMapsRow.holds Tryz.pinned (OpenSpec.ofChange hatMapsSpec)

/-- ITS FALSE NEIGHBOUR: 'it returns false'. Refute it at one input. -/
def hatMapsWrong : ChangeSpec := { name := "hatMaps", fn := fun _ => fun
  | [d1, d2, d3] => { results := [.lit (.bool false)], args := [d1, d2, d3] }
  | _ => none }
def HatMapsWrongFalsely : Prop := hatMapsRow.holds Tryz.pinned (OpenSpec.ofChange hatMapsWrong)

/- THE SECOND FORM. 'bulk': how many values and letters a reading holds, each counted each time it is reached (what is shared counts as often as it is met; a slice's spare places count too). A statement '..UptoSaid' is the law's where the arguments, and the package variables that the reading takes, are together of bulk at most 1048576: NARROWER than '..Said'. Prove '..Said' where nothing that the law and all that it calls make is longer than what came in: it says more and counts as full. Else prove '..UptoSaid'. A law counts once. -/
mutual
def uptoBulk {H : Type} : DataW H → Nat
  | .lit (.string bytes) => bytes.length + 1
  | .lit _ => 1
  | .nil => 1
  | .ptr d => uptoBulk d + 1
  | .slice elems spare => uptoBulkAll elems + uptoBulkAll spare + 1
  | .agg parts => uptoBulkAll parts + 1
  | .iface _ d => uptoBulk d + 1
  | .map entries => uptoBulkEntries entries + 1
  | .held _ => 1
def uptoBulkAll {H : Type} : List (DataW H) → Nat
  | [] => 0
  | d :: r => uptoBulk d + uptoBulkAll r
def uptoBulkEntries {H : Type} : List (Lit × DataW H) → Nat
  | [] => 0
  | x :: r => uptoBulkEntry x + uptoBulkEntries r
def uptoBulkEntry {H : Type} : Lit × DataW H → Nat
  | (.string bytes, d) => bytes.length + uptoBulk d + 1
  | (_, d) => uptoBulk d + 1
 end
def uptoSmall : (H : Type) → List (DataW H) → Bool := fun _ ds => decide (uptoBulkAll ds ≤ 1048576)
def OpenSpec.upto (s : _root_.Go.ChangeSpec) : _root_.Go.OpenSpec := { _root_.Go.OpenSpec.ofChange s with cond := some uptoSmall }

/-- 'lookasidelaw12.HatPlays', WHERE WHAT IT READS IS OF BULK AT MOST 1048576: true; the input reads as it did. -/
def hatPlaysUptoRow : OpenClaim := { program := "ytffpfceclhogoaagreat", sum := "7f3606a481a17d6658ced5b02a2b2f282f30048a4f4fd7a138994211c4e9bb2f", func := "lookaside/lookasidelaw12.HatPlays", spec := "hatPlays", inPlace := ["slices.overlaps[lookaside/hash.block[lookaside/api.Page]]"], unfollowed := true, recurses := true, apart := false, narrowed := true }
def HatPlaysUptoSaid : Prop := hatPlaysUptoRow.holds Tryz.pinned (OpenSpec.upto hatPlaysSpec)

/-- 'lookasidelaw12.HatApart', WHERE WHAT IT READS IS OF BULK AT MOST 1048576: true; the input reads as it did. -/
def hatApartUptoRow : OpenClaim := { program := "ytffpfceclhogoaagreat", sum := "7f3606a481a17d6658ced5b02a2b2f282f30048a4f4fd7a138994211c4e9bb2f", func := "lookaside/lookasidelaw12.HatApart", spec := "hatApart", inPlace := ["slices.overlaps[lookaside/hash.block[lookaside/api.Page]]"], unfollowed := true, recurses := true, apart := false, narrowed := true }
def HatApartUptoSaid : Prop := hatApartUptoRow.holds Tryz.pinned (OpenSpec.upto hatApartSpec)

/-- 'lookasidelaw12.HatFinds', WHERE WHAT IT READS IS OF BULK AT MOST 1048576: true; the input reads as it did. -/
def hatFindsUptoRow : OpenClaim := { program := "ytffpfceclhogoaagreat", sum := "7f3606a481a17d6658ced5b02a2b2f282f30048a4f4fd7a138994211c4e9bb2f", func := "lookaside/lookasidelaw12.HatFinds", spec := "hatFinds", inPlace := ["slices.overlaps[lookaside/hash.block[lookaside/api.Page]]"], unfollowed := true, recurses := true, apart := false, narrowed := true }
def HatFindsUptoSaid : Prop := hatFindsUptoRow.holds Tryz.pinned (OpenSpec.upto hatFindsSpec)

/-- 'lookasidelaw12.HatMeets', WHERE WHAT IT READS IS OF BULK AT MOST 1048576: true; the input reads as it did. -/
def hatMeetsUptoRow : OpenClaim := { program := "ytffpfceclhogoaagreat", sum := "7f3606a481a17d6658ced5b02a2b2f282f30048a4f4fd7a138994211c4e9bb2f", func := "lookaside/lookasidelaw12.HatMeets", spec := "hatMeets", inPlace := ["slices.overlaps[lookaside/hash.block[lookaside/api.Page]]"], unfollowed := true, recurses := true, apart := false, narrowed := true }
def HatMeetsUptoSaid : Prop := hatMeetsUptoRow.holds Tryz.pinned (OpenSpec.upto hatMeetsSpec)

/-- 'lookasidelaw12.HatMarks', WHERE WHAT IT READS IS OF BULK AT MOST 1048576: true; the input reads as it did. -/
def hatMarksUptoRow : OpenClaim := { program := "ytffpfceclhogoaagreat", sum := "7f3606a481a17d6658ced5b02a2b2f282f30048a4f4fd7a138994211c4e9bb2f", func := "lookaside/lookasidelaw12.HatMarks", spec := "hatMarks", inPlace := ["slices.overlaps[lookaside/hash.block[lookaside/api.Page]]"], unfollowed := true, recurses := true, apart := false, narrowed := true }
def HatMarksUptoSaid : Prop := hatMarksUptoRow.holds Tryz.pinned (OpenSpec.upto hatMarksSpec)

/-- 'lookasidelaw12.HatMaps', WHERE WHAT IT READS IS OF BULK AT MOST 1048576: true; the input reads as it did. -/
def hatMapsUptoRow : OpenClaim := { program := "ytffpfceclhogoaagreat", sum := "7f3606a481a17d6658ced5b02a2b2f282f30048a4f4fd7a138994211c4e9bb2f", func := "lookaside/lookasidelaw12.HatMaps", spec := "hatMaps", inPlace := ["slices.overlaps[lookaside/hash.block[lookaside/api.Page]]"], unfollowed := true, recurses := true, apart := false, narrowed := true }
def HatMapsUptoSaid : Prop := hatMapsUptoRow.holds Tryz.pinned (OpenSpec.upto hatMapsSpec)

end Rows
end Go.Proofs.YtffpfceclhogoaaGreat
