/-
  The contract of the document's own Read of layer 3. Conditions: words are below 2 to the 64.
-/
import Derived.Test.YtfkbloclogeacaaDoorTRefC
import Derived.Test.YtfkbloclogeacaaDoorTRead2
namespace Go.Proofs.YtfkbloclogeacaaDoor.Fld
open Go.ChangeShapes Go.WideShapes Go.ChangeAt Go.RowKit
set_option maxHeartbeats 2000000
set_option maxRecDepth 100000
theorem below_setN' {B : Nat} {w w' : World} {a : Addr} {u : Value} (h : Below B w w') (hb : B ≤ a.block) : Below B w (w'.setCell a u) := h.setCell hb u
theorem row_eight {w : World} {g : Nat} {T : TypeId} {s c z2 z3 z4 z5 z6 z7 z8 z9 v x2 x3 x4 x5 x6 x7 x8 x9 : Value} (h : w.heap[g]? = some (.cells #[s, c, z2, z3, z4, z5, z6, z7, z8, z9, v] T (0, 0))) :
    ((((((((w.setCell ⟨g, 2, none⟩ x2).setCell ⟨g, 3, none⟩ x3).setCell ⟨g, 9, none⟩ x9).setCell ⟨g, 7, none⟩ x7).setCell ⟨g, 6, none⟩ x6).setCell ⟨g, 5, none⟩ x5).setCell ⟨g, 4, none⟩ x4).setCell ⟨g, 8, none⟩ x8).heap[g]? = some (.cells #[s, c, x2, x3, x4, x5, x6, x7, x8, x9, v] T (0, 0)) := by
  have h1 := set_row h 2 x2
  have h2 := set_row h1 3 x3
  have h3 := set_row h2 9 x9
  have h4 := set_row h3 7 x7
  have h5 := set_row h4 6 x6
  have h6 := set_row h5 5 x5
  have h7 := set_row h6 4 x4
  have h8 := set_row h7 8 x8
  clear h h1 h2 h3 h4 h5 h6 h7
  simp only [List.setIfInBounds_toArray, List.set_cons_succ, List.set_cons_zero] at h8
  exact h8
end Go.Proofs.YtfkbloclogeacaaDoor.Fld
