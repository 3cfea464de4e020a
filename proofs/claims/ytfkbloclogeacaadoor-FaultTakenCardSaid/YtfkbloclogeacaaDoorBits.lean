/-
  Contracts of Set and Bit of package field: bits are fields of size 1; the world stays but for draws. Conditions: the word is below 2 to the 64.
-/
import Derived.Test.YtfkbloclogeacaaDoorLives
namespace Go.Proofs.YtfkbloclogeacaaDoor.Fld
open Go.ChangeShapes Go.WideShapes Go.ChangeAt Go.RowKit
set_option maxHeartbeats 400000
end Go.Proofs.YtfkbloclogeacaaDoor.Fld
