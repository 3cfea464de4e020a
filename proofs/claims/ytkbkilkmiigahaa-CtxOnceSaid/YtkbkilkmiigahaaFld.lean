/-
  Contracts of the functions of package field that compute, and of the document's own answers to them: each returns what the plain functions of Math say, and the world stays but for draws. Conditions: words are below 2 to the 64.
-/
import Derived.Test.YtkbkilkmiigahaaRows
import Derived.Test.YtkbkilkmiigahaaMath
import Derived.WalkKit
import Derived.ProofKit
import Derived.OpenShut
import Derived.WalkLawsBesides
import Derived.Deep.QuietTactic
import Derived.BigQuiet
import Derived.Lib.Hide
namespace Go.Proofs.Ytkbkilkmiigahaa.Fld
open Go.ChangeShapes Go.WideShapes Go.ChangeAt Go.RowKit
set_option maxHeartbeats 400000
theorem ret_int {k : IntKind} {a b : Int} (h : a = b) : Ending.returned (.int k a) = .returned (.int k b) := by rw [h]
theorem ret_bool {a b : Bool} (h : a = b) : Ending.returned (.bool a) = .returned (.bool b) := by rw [h]
end Go.Proofs.Ytkbkilkmiigahaa.Fld
