/-
  Contracts of package tte's flags, putAttr and getAttr, and of Data. Conditions: words are below 2 to the 64.
-/
import Derived.Test.YtfkbloclogeacaaDoorTteB
import Derived.BigRegion
import Derived.StillTailTactics
import Derived.Deep.WholeRow
import Derived.Laws.CopyOwn
namespace Go.Proofs.YtfkbloclogeacaaDoor.Fld
open Go.ChangeShapes Go.WideShapes Go.ChangeAt Go.RowKit
set_option maxHeartbeats 1000000
set_option maxRecDepth 100000
/-- Where the attributes stand, by the numbers of their bits: where they are kept in memory. -/
def flagAt (b : Nat) : Nat → Value
  | 0 => .pointer (some ⟨b, 4, none⟩)
  | 1 => .pointer (some ⟨b, 0, none⟩)
  | 2 => .pointer (some ⟨b, 1, none⟩)
  | 3 => .pointer (some ⟨b, 2, none⟩)
  | 6 => .pointer (some ⟨b, 3, none⟩)
  | 60 => .pointer (some ⟨b, 5, none⟩)
  | _ => .pointer none
def flagCells (b : Nat) : Array Value := ((List.range 61).map (flagAt b)).toArray
theorem flagCells_size (b : Nat) : (flagCells b).size = 61 := by simp [flagCells]
end Go.Proofs.YtfkbloclogeacaaDoor.Fld
