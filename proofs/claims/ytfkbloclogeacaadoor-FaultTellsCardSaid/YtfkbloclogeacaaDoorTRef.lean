/-
  Contracts of the document's own answers of layer 3 that compute. Conditions: words are below 2 to the 64.
-/
import Derived.Test.YtfkbloclogeacaaDoorTteB
namespace Go.Proofs.YtfkbloclogeacaaDoor.Fld
open Go.ChangeShapes Go.WideShapes Go.ChangeAt Go.RowKit
set_option maxHeartbeats 1000000
set_option maxRecDepth 100000
/-- A truth at a place. -/
def pwI (b : Bool) (k : Nat) : Int := b2i b * ((2 ^ k : Nat) : Int)
theorem pwI_zero (b : Bool) : pwI b 0 = b2i b := by simp [pwI]
theorem pwI_succ (b : Bool) (k : Nat) : 2 * pwI b k = pwI b (k + 1) := by
  unfold pwI; rw [Nat.pow_succ, Int.natCast_mul, show ((2 : Nat) : Int) = 2 from rfl]
  generalize ((2 ^ k : Nat) : Int) = z
  cases b <;> simp [b2i]; omega
theorem pwI_bd (b : Bool) (k : Nat) (h : k ≤ 63) : 0 ≤ pwI b k ∧ pwI b k ≤ 9223372036854775808 := by
  have hp : 2 ^ k ≤ 9223372036854775808 := Nat.le_trans (Nat.pow_le_pow_right (by decide) h) (by decide)
  unfold pwI
  generalize 2 ^ k = z at *
  have hb := b2i_bd b
  have : b2i b = 0 ∨ b2i b = 1 := by omega
  rcases this with e | e <;> rw [e] <;> omega
end Go.Proofs.YtfkbloclogeacaaDoor.Fld
