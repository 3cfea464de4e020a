/-
  The contract of the document's own Read of layer 3, where words are held against an entry's own. Conditions: words are below 2 to the 64.
-/
import Derived.Test.YtfkbloclogeacaaDoorTRRead
namespace Go.Proofs.YtfkbloclogeacaaDoor.Fld
open Go.ChangeShapes Go.WideShapes Go.ChangeAt Go.RowKit
set_option maxHeartbeats 2000000
set_option maxRecDepth 100000
end Go.Proofs.YtfkbloclogeacaaDoor.Fld
