/-
  Contracts of page.Next, and of the document's own Next and Meet: each returns what the plain functions of PMath say, and the world stays but for draws. Conditions: words are below 2 to the 64.
-/
import Derived.Test.YtkbkilkmiigahaaPRef
namespace Go.Proofs.Ytkbkilkmiigahaa.Fld
open Go.ChangeShapes Go.WideShapes Go.ChangeAt Go.RowKit
set_option maxHeartbeats 400000
theorem next_wrap (x s : Int) (h : baseI x s + bytesI s = 18446744073709551616) : IntKind.u64.wrap (baseI x s + bytesI s) = 0 := by rw [h]; decide
end Go.Proofs.Ytkbkilkmiigahaa.Fld
