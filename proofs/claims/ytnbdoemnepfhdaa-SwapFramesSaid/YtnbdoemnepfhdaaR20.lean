/-
  Contracts and plain facts: Live. Conditions: each says its own.
-/
import Derived.Test.YtnbdoemnepfhdaaR17
import Derived.Deep.RegionHeld3
import Derived.Deep.DeepCutAuto
import Derived.Shelf.Abstract
import Derived.Maps.AppendAt
import Derived.Laws.EntriesVeiled
namespace Go.Proofs.Ytnbdoemnepfhdaa.Tl
open Fld
open Go.ChangeShapes Go.WideShapes Go.ChangeAt Go.RowKit Go.Shelf
set_option maxHeartbeats 2000000
set_option maxRecDepth 100000
def ex (va : Int) : Ent := ⟨0, 1, va, 0, ⟨false, false, false, false, false, false⟩, true⟩
end Go.Proofs.Ytnbdoemnepfhdaa.Tl

