/-
  Contracts of page.Next, and of the document's own answers for pages: each returns what the plain functions of PMath say, and the world stays but for draws. Conditions: words are below 2 to the 64.
-/
import Derived.Test.YtkbkilkmiigahaaPage
namespace Go.Proofs.Ytkbkilkmiigahaa.Fld
open Go.ChangeShapes Go.WideShapes Go.ChangeAt Go.RowKit
set_option maxHeartbeats 400000
end Go.Proofs.Ytkbkilkmiigahaa.Fld
