/-
  Contracts and plain facts: TGood. Conditions: each says its own.
-/
import Derived.Test.YtnbdoemnepfhdaaR7
import Derived.Deep.RegionWith
import Derived.Deep.DeepCutAuto
namespace Go.Proofs.Ytnbdoemnepfhdaa.Fld
open Go.ChangeShapes Go.WideShapes Go.ChangeAt Go.RowKit
set_option maxHeartbeats 2000000
set_option maxRecDepth 100000
theorem below_setN {B b o : Nat} {w w' : World} {u : Value} (h : Below B w w') (hb : B ≤ b) : Below B w (w'.setCell ⟨b, o, none⟩ u) := h.setCell hb u
end Go.Proofs.Ytnbdoemnepfhdaa.Fld

