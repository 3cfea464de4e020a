/-
  Contracts and plain facts: MClear. Conditions: each says its own.
-/
import Derived.Test.YtnbdoemnepfhdaaR26
import Derived.StillTailTactics
namespace Go.Proofs.Ytnbdoemnepfhdaa.Mem
open Go.ChangeShapes Go.WideShapes Go.ChangeAt Go.RowKit Go.Maps
set_option maxHeartbeats 400000
/-- The bytes g, without those from a on, n of them. -/
def clr (g : Nat → Nat) (a n : Nat) : Nat → Nat := fun x => if a ≤ x ∧ x < a + n then 0 else g x
theorem clr_lt {g : Nat → Nat} (h : ∀ a, g a < 256) (a n x : Nat) : clr g a n x < 256 := by
  unfold clr; split
  · omega
  · exact h x
theorem Good.clr {S : Nat} {g : Nat → Nat} (h : Good S g) (a n : Nat) : Good S (clr g a n) :=
  ⟨h.le, clr_lt h.lt a n, fun x hx => by unfold Mem.clr; split; rfl; exact h.out x hx⟩
end Go.Proofs.Ytnbdoemnepfhdaa.Mem

