/-
  Contracts and plain facts: TGet. Conditions: each says its own.
-/
import Derived.Test.YtnbdoemnepfhdaaR7
import Derived.BigRegion
import Derived.StillTailTactics
import Derived.Deep.WholeRow
import Derived.Laws.CopyOwn
import Derived.Deep.RegionWith
namespace Go.Proofs.Ytnbdoemnepfhdaa.Fld
open Go.ChangeShapes Go.WideShapes Go.ChangeAt Go.RowKit
set_option maxHeartbeats 1000000
set_option maxRecDepth 100000
def Att.cells (a : Att) : Array Value := #[.bool a.write, .bool a.priv, .bool a.exec, .bool a.lock, .bool a.global, .bool a.quiet]
end Go.Proofs.Ytnbdoemnepfhdaa.Fld

