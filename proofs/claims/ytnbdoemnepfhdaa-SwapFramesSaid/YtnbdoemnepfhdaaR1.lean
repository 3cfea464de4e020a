/-
  Contracts and plain facts: PMath. Conditions: each says its own.
-/
import Derived.Test.YtnbdoemnepfhdaaR0
import Derived.KernelRfl
namespace Go.Proofs.Ytnbdoemnepfhdaa.Fld
/-! ### Sizes -/
def sizeB (s : Int) : Bool := decide (0 ≤ s ∧ s ≤ 3)
def bitsI (s : Int) : Int := if sizeB s then 13 + 3 * s else 0
def bytesI (s : Int) : Int := if s = 0 then 8192 else if s = 1 then 65536 else if s = 2 then 524288 else if s = 3 then 4194304 else 0
def baseI (x s : Int) : Int := if sizeB s then x / bytesI s * bytesI s else 0
def inB (a b s : Int) : Bool := sizeB s && decide (a / bytesI s = b / bytesI s)
def meetB (a s b t : Int) : Bool := sizeB s && sizeB t && inB a b (max s t)
def holeB (x : Int) : Bool := decide (8796093022208 ≤ x ∧ x < 18446735277616529408)
def tagI (x : Int) : Int := x / 4194304 % 4194304
theorem sizeB_true {s : Int} (h : sizeB s = true) : s = 0 ∨ s = 1 ∨ s = 2 ∨ s = 3 := by
  have : 0 ≤ s ∧ s ≤ 3 := by simpa [sizeB] using h
  omega
theorem sizeB_false {s : Int} (h : sizeB s = false) : ¬ (0 ≤ s ∧ s ≤ 3) := by simpa only [sizeB, decide_eq_false_iff_not] using h
theorem sizeB_mk {s : Int} (h : 0 ≤ s ∧ s ≤ 3) : sizeB s = true := by simpa [sizeB] using h
theorem bytes_none {s : Int} (h : sizeB s = false) : bytesI s = 0 := by
  have := sizeB_false h
  unfold bytesI; rw [if_neg (by omega), if_neg (by omega), if_neg (by omega), if_neg (by omega)]
theorem bits_none {s : Int} (h : sizeB s = false) : bitsI s = 0 := by unfold bitsI; rw [h]; simp
theorem mask_bytes {s : Int} (h : sizeB s = true) : maskI (bitsI s) 1 = bytesI s := by
  rcases sizeB_true h with rfl | rfl | rfl | rfl <;> kernel_rfl
/-! ### Bits of the hole -/
/-- An address that is not in the hole, made of any. -/
def vaI (x : Int) : Int := if bitI x 43 = 1 then x % 8796093022208 + 18446735277616529408 else x % 8796093022208
end Go.Proofs.Ytnbdoemnepfhdaa.Fld

