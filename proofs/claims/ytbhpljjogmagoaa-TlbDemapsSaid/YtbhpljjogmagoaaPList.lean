/-
  Contracts of the document's Same at lists that are the same, and of the example that every law of layer 2 asks for at its end. Conditions: none.
-/
import Derived.Test.YtbhpljjogmagoaaPCov
namespace Go.Proofs.Ytbhpljjogmagoaa.Fld
open Go.ChangeShapes Go.WideShapes Go.ChangeAt Go.RowKit
set_option maxHeartbeats 400000
theorem own_some {w : World} {B : Nat} {e : TypeId} {v : Value} {l : List Int} (h : w.ownsRow B e 1 v l.length (intsV l)) (hn : 0 < l.length) :
    ∃ g cap, v = .slice (some ⟨g, 0, none⟩) l.length cap ∧ l.length ≤ cap ∧ cap ≤ maxLen ∧ ∀ j (hj : j < l.length), w.cell? ⟨g, j, none⟩ = some (.int .i64 l[j]) := by
  rcases h.2 with ⟨_, h0⟩ | ⟨g, cap, cur, rfl, _, _, h1, h2, _, _⟩
  · omega
  · refine ⟨g, cap, rfl, h1, h2, fun j hj => ?_⟩
    rw [h.cellAt j (by omega)]
    simp [intsV, hj]
theorem cover_ex : coverL 0 81920 = [1, 0, 0] :=
  (cover_end 0 81920 (by kernel_rfl) 3 (by omega) (fun j hj => by
    have : j = 0 ∨ j = 1 ∨ j = 2 := by omega
    rcases this with rfl | rfl | rfl <;> decide) (by decide)).trans (by decide)
theorem hole_ex : holeB 8796093022208 = true := by decide
end Go.Proofs.Ytbhpljjogmagoaa.Fld
