/-
  The contract of the example that every law of layer 3 asks for at its end. Conditions: none.
-/
import Derived.Test.YtfkbloclogeacaaDoorTData
import Derived.Test.YtfkbloclogeacaaDoorTOpen
namespace Go.Proofs.YtfkbloclogeacaaDoor.Fld
open Go.ChangeShapes Go.WideShapes Go.ChangeAt Go.RowKit
set_option maxHeartbeats 1000000
set_option maxRecDepth 100000
def exE : Ent := ⟨0, 1, 8192, 16384, ⟨true, false, false, false, false, false⟩, true⟩
theorem exE_may : exE.mayB = true := by kernel_rfl
theorem exE_tag : exE.tagG = 281474976710656 := by kernel_rfl
theorem exE_data : exE.dataG = 9223372036854792194 := (Ent.dataG_fit (Ent.fit exE_may (by decide)) rfl).trans (by kernel_rfl)
end Go.Proofs.YtfkbloclogeacaaDoor.Fld
