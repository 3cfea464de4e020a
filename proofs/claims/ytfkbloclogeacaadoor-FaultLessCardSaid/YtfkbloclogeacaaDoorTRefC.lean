/-
  Contracts of the document's own May, Hits and Frame of layer 3. Conditions: words are below 2 to the 64.
-/
import Derived.Test.YtfkbloclogeacaaDoorTRefB
namespace Go.Proofs.YtfkbloclogeacaaDoor.Fld
open Go.ChangeShapes Go.WideShapes Go.ChangeAt Go.RowKit
set_option maxHeartbeats 1000000
set_option maxRecDepth 100000
/-- The first half of the document's May. -/
def Ent.halfB (e : Ent) : Bool := e.valid && sizeB e.size && decide (0 ≤ e.ctx ∧ e.ctx ≤ 8191) && !holeB e.va && !(e.att.global && e.ctx != 0)
theorem Ent.may_half (e : Ent) : e.mayB = (e.halfB && (e.va % bytesI e.size == 0 && (e.pa % bytesI e.size == 0 && decide (e.pa < 2199023255552)))) := by
  unfold Ent.mayB Ent.halfB
  rw [Bool.eq_iff_iff]; simp [and_assoc]
end Go.Proofs.YtfkbloclogeacaaDoor.Fld
