/-
  Contracts of package page's functions that compute, and of the document's own answers to them: each returns what the plain functions of PMath say, and the world stays but for draws. Conditions: words are below 2 to the 64.
-/
import Derived.Test.YtkbkilkmiigahaaFld
import Derived.Test.YtkbkilkmiigahaaPMath
import Derived.Lib.MinMax
namespace Go.Proofs.Ytkbkilkmiigahaa.Fld
open Go.ChangeShapes Go.WideShapes Go.ChangeAt Go.RowKit
set_option maxHeartbeats 400000
theorem ret_two {a b : Int} {c d : Bool} (h1 : a = b) (h2 : c = d) : Ending.returned (.tuple #[.int .u64 a, .bool c]) = .returned (.tuple #[.int .u64 b, .bool d]) := by rw [h1, h2]
theorem same_sym {P : Program} {f : FuncId} {args : Array Value} {w : World} {v : Value} (h : Calls P f args w fun e w' => e = .returned v ∧ w = w') : Calls P f args w fun e w' => e = .returned v ∧ w' = w :=
  h.mono fun _ _ ⟨a, b⟩ => ⟨a, b.symm⟩
end Go.Proofs.Ytkbkilkmiigahaa.Fld
