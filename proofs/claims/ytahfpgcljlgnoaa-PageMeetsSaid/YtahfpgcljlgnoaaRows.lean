/-
  No cell of these rows narrows 'for every input' (looked for: loops, veiled, ifaces, maps, wideKeys, modest, calm, conditions, laid).
  DERIVED. THE GIVEN ROWS OF THIS SEAT. 8 by the template 'for every input the law returns true; each argument reads behind the call as it read before'; 0 by the template 'total and deterministic' (their statements: YtahfpgcljlgnoaaTotals.lean).
  GIVEN WITH THE SEED: the statements are not yours to turn. If you find one false, say at which input.
  Laid BY PROGRAM, IN A SANDBOX (cutbox-rows.mjs): the forced cells as the released guide's own fill.sh prints them over the translation 2b290193c5a10ffb… (all of the seat's roots in one cut). By AI agents, Wed Nov 11 2026. No macro, syntax, notation, axiom, sorry.
-/
import Derived.Test.YtahfpgcljlgnoaaChecked
import GoSem.Claim
import GoSem.ClaimJoined
import GoSem.ClaimMapViews
import Derived.JoinedTies
import Derived.KernelRfl
namespace Go.Proofs.Ytahfpgcljlgnoaa
/- THE CELL 'sum', in the pinned program and in every row, IS THE sha256 OF THE DUMP (.gsa) THAT YtahfpgcljlgnoaaProg.lean LOADS. Nothing in Lean hashes anything: it is a label: what it is worth is what the hold of that sum in a sandbox is worth. -/
noncomputable def Try.pinned : Pinned := { name := "ytahfpgcljlgnoaa", sum := "2b290193c5a10ffb04a58c3e03649b89fc1786d0bdda130481d5db185d6e4625", checked := Try.checked }
namespace Rows
def none {H : Type} : Left H := { results := [], args := [] }

/-- 'lookasidelaw02.PageSizes': WHATEVER THE INPUT: true; the input reads as it did. -/
def pageSizesSpec : ChangeSpec := { name := "pageSizes", fn := fun _ => fun
  | [d1, d2] => { results := [.lit (.bool true)], args := [d1, d2] }
  | _ => none }
def pageSizesRow : OpenClaim := { program := "ytahfpgcljlgnoaa", sum := "2b290193c5a10ffb04a58c3e03649b89fc1786d0bdda130481d5db185d6e4625", func := "lookaside/lookasidelaw02.PageSizes", spec := "pageSizes", apart := false }
def PageSizesSaid : Prop := pageSizesRow.holds Try.pinned (OpenSpec.ofChange pageSizesSpec)

/-- ITS FALSE NEIGHBOUR: 'it returns false'. Refute it at one input. -/
def pageSizesWrong : ChangeSpec := { name := "pageSizes", fn := fun _ => fun
  | [d1, d2] => { results := [.lit (.bool false)], args := [d1, d2] }
  | _ => none }
def PageSizesWrongFalsely : Prop := pageSizesRow.holds Try.pinned (OpenSpec.ofChange pageSizesWrong)

/-- 'lookasidelaw02.PageHoles': WHATEVER THE INPUT: true; the input reads as it did. -/
def pageHolesSpec : ChangeSpec := { name := "pageHoles", fn := fun _ => fun
  | [d] => { results := [.lit (.bool true)], args := [d] }
  | _ => none }
def pageHolesRow : OpenClaim := { program := "ytahfpgcljlgnoaa", sum := "2b290193c5a10ffb04a58c3e03649b89fc1786d0bdda130481d5db185d6e4625", func := "lookaside/lookasidelaw02.PageHoles", spec := "pageHoles", apart := false }
def PageHolesSaid : Prop := pageHolesRow.holds Try.pinned (OpenSpec.ofChange pageHolesSpec)

/-- ITS FALSE NEIGHBOUR: 'it returns false'. Refute it at one input. -/
def pageHolesWrong : ChangeSpec := { name := "pageHoles", fn := fun _ => fun
  | [d] => { results := [.lit (.bool false)], args := [d] }
  | _ => none }
def PageHolesWrongFalsely : Prop := pageHolesRow.holds Try.pinned (OpenSpec.ofChange pageHolesWrong)

/-- 'lookasidelaw02.PageMeets': WHATEVER THE INPUT: true; the input reads as it did. -/
def pageMeetsSpec : ChangeSpec := { name := "pageMeets", fn := fun _ => fun
  | [d1, d2, d3, d4] => { results := [.lit (.bool true)], args := [d1, d2, d3, d4] }
  | _ => none }
def pageMeetsRow : OpenClaim := { program := "ytahfpgcljlgnoaa", sum := "2b290193c5a10ffb04a58c3e03649b89fc1786d0bdda130481d5db185d6e4625", func := "lookaside/lookasidelaw02.PageMeets", spec := "pageMeets", apart := false }
def PageMeetsSaid : Prop := pageMeetsRow.holds Try.pinned (OpenSpec.ofChange pageMeetsSpec)

/-- ITS FALSE NEIGHBOUR: 'it returns false'. Refute it at one input. -/
def pageMeetsWrong : ChangeSpec := { name := "pageMeets", fn := fun _ => fun
  | [d1, d2, d3, d4] => { results := [.lit (.bool false)], args := [d1, d2, d3, d4] }
  | _ => none }
def PageMeetsWrongFalsely : Prop := pageMeetsRow.holds Try.pinned (OpenSpec.ofChange pageMeetsWrong)

/-- 'lookasidelaw02.PageNext': WHATEVER THE INPUT: true; the input reads as it did. -/
def pageNextSpec : ChangeSpec := { name := "pageNext", fn := fun _ => fun
  | [d1, d2] => { results := [.lit (.bool true)], args := [d1, d2] }
  | _ => none }
def pageNextRow : OpenClaim := { program := "ytahfpgcljlgnoaa", sum := "2b290193c5a10ffb04a58c3e03649b89fc1786d0bdda130481d5db185d6e4625", func := "lookaside/lookasidelaw02.PageNext", spec := "pageNext", apart := false }
def PageNextSaid : Prop := pageNextRow.holds Try.pinned (OpenSpec.ofChange pageNextSpec)

/-- ITS FALSE NEIGHBOUR: 'it returns false'. Refute it at one input. -/
def pageNextWrong : ChangeSpec := { name := "pageNext", fn := fun _ => fun
  | [d1, d2] => { results := [.lit (.bool false)], args := [d1, d2] }
  | _ => none }
def PageNextWrongFalsely : Prop := pageNextRow.holds Try.pinned (OpenSpec.ofChange pageNextWrong)

/-- 'lookasidelaw02.PageCovers': WHATEVER THE INPUT: true; the input reads as it did. -/
def pageCoversSpec : ChangeSpec := { name := "pageCovers", fn := fun _ => fun
  | [d1, d2, d3] => { results := [.lit (.bool true)], args := [d1, d2, d3] }
  | _ => none }
def pageCoversRow : OpenClaim := { program := "ytahfpgcljlgnoaa", sum := "2b290193c5a10ffb04a58c3e03649b89fc1786d0bdda130481d5db185d6e4625", func := "lookaside/lookasidelaw02.PageCovers", spec := "pageCovers", apart := false }
def PageCoversSaid : Prop := pageCoversRow.holds Try.pinned (OpenSpec.ofChange pageCoversSpec)

/-- ITS FALSE NEIGHBOUR: 'it returns false'. Refute it at one input. -/
def pageCoversWrong : ChangeSpec := { name := "pageCovers", fn := fun _ => fun
  | [d1, d2, d3] => { results := [.lit (.bool false)], args := [d1, d2, d3] }
  | _ => none }
def PageCoversWrongFalsely : Prop := pageCoversRow.holds Try.pinned (OpenSpec.ofChange pageCoversWrong)

/-- 'lookasidelaw02.PageJoins': WHATEVER THE INPUT: true; the input reads as it did. -/
def pageJoinsSpec : ChangeSpec := { name := "pageJoins", fn := fun _ => fun
  | [d1, d2, d3] => { results := [.lit (.bool true)], args := [d1, d2, d3] }
  | _ => none }
def pageJoinsRow : OpenClaim := { program := "ytahfpgcljlgnoaa", sum := "2b290193c5a10ffb04a58c3e03649b89fc1786d0bdda130481d5db185d6e4625", func := "lookaside/lookasidelaw02.PageJoins", spec := "pageJoins", apart := false }
def PageJoinsSaid : Prop := pageJoinsRow.holds Try.pinned (OpenSpec.ofChange pageJoinsSpec)

/-- ITS FALSE NEIGHBOUR: 'it returns false'. Refute it at one input. -/
def pageJoinsWrong : ChangeSpec := { name := "pageJoins", fn := fun _ => fun
  | [d1, d2, d3] => { results := [.lit (.bool false)], args := [d1, d2, d3] }
  | _ => none }
def PageJoinsWrongFalsely : Prop := pageJoinsRow.holds Try.pinned (OpenSpec.ofChange pageJoinsWrong)

/-- 'lookasidelaw02.PageWalks': WHATEVER THE INPUT: true; the input reads as it did. -/
def pageWalksSpec : ChangeSpec := { name := "pageWalks", fn := fun _ => fun
  | [d1, d2, d3] => { results := [.lit (.bool true)], args := [d1, d2, d3] }
  | _ => none }
def pageWalksRow : OpenClaim := { program := "ytahfpgcljlgnoaa", sum := "2b290193c5a10ffb04a58c3e03649b89fc1786d0bdda130481d5db185d6e4625", func := "lookaside/lookasidelaw02.PageWalks", spec := "pageWalks", apart := false }
def PageWalksSaid : Prop := pageWalksRow.holds Try.pinned (OpenSpec.ofChange pageWalksSpec)

/-- ITS FALSE NEIGHBOUR: 'it returns false'. Refute it at one input. -/
def pageWalksWrong : ChangeSpec := { name := "pageWalks", fn := fun _ => fun
  | [d1, d2, d3] => { results := [.lit (.bool false)], args := [d1, d2, d3] }
  | _ => none }
def PageWalksWrongFalsely : Prop := pageWalksRow.holds Try.pinned (OpenSpec.ofChange pageWalksWrong)

/-- 'lookasidelaw02.PageTags': WHATEVER THE INPUT: true; the input reads as it did. -/
def pageTagsSpec : ChangeSpec := { name := "pageTags", fn := fun _ => fun
  | [d] => { results := [.lit (.bool true)], args := [d] }
  | _ => none }
def pageTagsRow : OpenClaim := { program := "ytahfpgcljlgnoaa", sum := "2b290193c5a10ffb04a58c3e03649b89fc1786d0bdda130481d5db185d6e4625", func := "lookaside/lookasidelaw02.PageTags", spec := "pageTags", apart := false }
def PageTagsSaid : Prop := pageTagsRow.holds Try.pinned (OpenSpec.ofChange pageTagsSpec)

/-- ITS FALSE NEIGHBOUR: 'it returns false'. Refute it at one input. -/
def pageTagsWrong : ChangeSpec := { name := "pageTags", fn := fun _ => fun
  | [d] => { results := [.lit (.bool false)], args := [d] }
  | _ => none }
def PageTagsWrongFalsely : Prop := pageTagsRow.holds Try.pinned (OpenSpec.ofChange pageTagsWrong)

/- THE SECOND FORM. 'bulk': how many values and letters a reading holds, each counted each time it is reached (what is shared counts as often as it is met; a slice's spare places count too). A statement '..UptoSaid' is the law's where the arguments, and the package variables that the reading takes, are together of bulk at most 1048576: NARROWER than '..Said'. Prove '..Said' where nothing that the law and all that it calls make is longer than what came in: it says more and counts as full. Else prove '..UptoSaid'. A law counts once. -/
mutual
def uptoBulk {H : Type} : DataW H → Nat
  | .lit (.string bytes) => bytes.length + 1
  | .lit _ => 1
  | .nil => 1
  | .ptr d => uptoBulk d + 1
  | .slice elems spare => uptoBulkAll elems + uptoBulkAll spare + 1
  | .agg parts => uptoBulkAll parts + 1
  | .iface _ d => uptoBulk d + 1
  | .map entries => uptoBulkEntries entries + 1
  | .held _ => 1
def uptoBulkAll {H : Type} : List (DataW H) → Nat
  | [] => 0
  | d :: r => uptoBulk d + uptoBulkAll r
def uptoBulkEntries {H : Type} : List (Lit × DataW H) → Nat
  | [] => 0
  | x :: r => uptoBulkEntry x + uptoBulkEntries r
def uptoBulkEntry {H : Type} : Lit × DataW H → Nat
  | (.string bytes, d) => bytes.length + uptoBulk d + 1
  | (_, d) => uptoBulk d + 1
 end
def uptoSmall : (H : Type) → List (DataW H) → Bool := fun _ ds => decide (uptoBulkAll ds ≤ 1048576)
def OpenSpec.upto (s : _root_.Go.ChangeSpec) : _root_.Go.OpenSpec := { _root_.Go.OpenSpec.ofChange s with cond := some uptoSmall }

/-- 'lookasidelaw02.PageSizes', WHERE WHAT IT READS IS OF BULK AT MOST 1048576: true; the input reads as it did. -/
def pageSizesUptoRow : OpenClaim := { program := "ytahfpgcljlgnoaa", sum := "2b290193c5a10ffb04a58c3e03649b89fc1786d0bdda130481d5db185d6e4625", func := "lookaside/lookasidelaw02.PageSizes", spec := "pageSizes", apart := false, narrowed := true }
def PageSizesUptoSaid : Prop := pageSizesUptoRow.holds Try.pinned (OpenSpec.upto pageSizesSpec)

/-- 'lookasidelaw02.PageHoles', WHERE WHAT IT READS IS OF BULK AT MOST 1048576: true; the input reads as it did. -/
def pageHolesUptoRow : OpenClaim := { program := "ytahfpgcljlgnoaa", sum := "2b290193c5a10ffb04a58c3e03649b89fc1786d0bdda130481d5db185d6e4625", func := "lookaside/lookasidelaw02.PageHoles", spec := "pageHoles", apart := false, narrowed := true }
def PageHolesUptoSaid : Prop := pageHolesUptoRow.holds Try.pinned (OpenSpec.upto pageHolesSpec)

/-- 'lookasidelaw02.PageMeets', WHERE WHAT IT READS IS OF BULK AT MOST 1048576: true; the input reads as it did. -/
def pageMeetsUptoRow : OpenClaim := { program := "ytahfpgcljlgnoaa", sum := "2b290193c5a10ffb04a58c3e03649b89fc1786d0bdda130481d5db185d6e4625", func := "lookaside/lookasidelaw02.PageMeets", spec := "pageMeets", apart := false, narrowed := true }
def PageMeetsUptoSaid : Prop := pageMeetsUptoRow.holds Try.pinned (OpenSpec.upto pageMeetsSpec)

/-- 'lookasidelaw02.PageNext', WHERE WHAT IT READS IS OF BULK AT MOST 1048576: true; the input reads as it did. -/
def pageNextUptoRow : OpenClaim := { program := "ytahfpgcljlgnoaa", sum := "2b290193c5a10ffb04a58c3e03649b89fc1786d0bdda130481d5db185d6e4625", func := "lookaside/lookasidelaw02.PageNext", spec := "pageNext", apart := false, narrowed := true }
def PageNextUptoSaid : Prop := pageNextUptoRow.holds Try.pinned (OpenSpec.upto pageNextSpec)

/-- 'lookasidelaw02.PageCovers', WHERE WHAT IT READS IS OF BULK AT MOST 1048576: true; the input reads as it did. -/
def pageCoversUptoRow : OpenClaim := { program := "ytahfpgcljlgnoaa", sum := "2b290193c5a10ffb04a58c3e03649b89fc1786d0bdda130481d5db185d6e4625", func := "lookaside/lookasidelaw02.PageCovers", spec := "pageCovers", apart := false, narrowed := true }
def PageCoversUptoSaid : Prop := pageCoversUptoRow.holds Try.pinned (OpenSpec.upto pageCoversSpec)

/-- 'lookasidelaw02.PageJoins', WHERE WHAT IT READS IS OF BULK AT MOST 1048576: true; the input reads as it did. -/
def pageJoinsUptoRow : OpenClaim := { program := "ytahfpgcljlgnoaa", sum := "2b290193c5a10ffb04a58c3e03649b89fc1786d0bdda130481d5db185d6e4625", func := "lookaside/lookasidelaw02.PageJoins", spec := "pageJoins", apart := false, narrowed := true }
def PageJoinsUptoSaid : Prop := pageJoinsUptoRow.holds Try.pinned (OpenSpec.upto pageJoinsSpec)

/-- 'lookasidelaw02.PageWalks', WHERE WHAT IT READS IS OF BULK AT MOST 1048576: true; the input reads as it did. -/
def pageWalksUptoRow : OpenClaim := { program := "ytahfpgcljlgnoaa", sum := "2b290193c5a10ffb04a58c3e03649b89fc1786d0bdda130481d5db185d6e4625", func := "lookaside/lookasidelaw02.PageWalks", spec := "pageWalks", apart := false, narrowed := true }
def PageWalksUptoSaid : Prop := pageWalksUptoRow.holds Try.pinned (OpenSpec.upto pageWalksSpec)

/-- 'lookasidelaw02.PageTags', WHERE WHAT IT READS IS OF BULK AT MOST 1048576: true; the input reads as it did. -/
def pageTagsUptoRow : OpenClaim := { program := "ytahfpgcljlgnoaa", sum := "2b290193c5a10ffb04a58c3e03649b89fc1786d0bdda130481d5db185d6e4625", func := "lookaside/lookasidelaw02.PageTags", spec := "pageTags", apart := false, narrowed := true }
def PageTagsUptoSaid : Prop := pageTagsUptoRow.holds Try.pinned (OpenSpec.upto pageTagsSpec)

end Rows
end Go.Proofs.Ytahfpgcljlgnoaa
