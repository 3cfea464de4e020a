/-
  The contract of the example that every law asks for at its end: it answers true, and what was in memory stays. Conditions: none.
-/
import Derived.Test.YtfkbloclogeacaaDoorHex
namespace Go.Proofs.YtfkbloclogeacaaDoor.Fld
open Go.ChangeShapes Go.WideShapes Go.ChangeAt Go.RowKit
set_option maxHeartbeats 400000
theorem put_ex : (putI 0 4 4 10 == 160) = true := by kernel_rfl
theorem hex_ex : hexS 255 = ⟨#[48, 48, 48, 48, 48, 48, 48, 48, 48, 48, 48, 48, 48, 48, 102, 102]⟩ := by kernel_rfl
theorem may_ex : mayB 0 64 = true := by kernel_rfl
end Go.Proofs.YtfkbloclogeacaaDoor.Fld
