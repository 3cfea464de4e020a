/-
  Contracts of the document's own Tag, Data, Target, May, Hits and Frame of layer 3. Conditions: words are below 2 to the 64; Tag and Data of an entry whose numbers fit.
-/
import Derived.Test.YtfkbloclogeacaaDoorTRef
namespace Go.Proofs.YtfkbloclogeacaaDoor.Fld
open Go.ChangeShapes Go.WideShapes Go.ChangeAt Go.RowKit
set_option maxHeartbeats 1000000
set_option maxRecDepth 100000
theorem u64_mod (x : Int) : IntKind.u64.wrap x = x % 18446744073709551616 := by simp [IntKind.wrap, IntKind.signed, IntKind.bits]
def placeI (b : Bool) (p : Int) : Int := b2i b * ((2 ^ p.toNat : Nat) : Int)
theorem place_at (b : Bool) (p P : Int) (h : ((2 ^ p.toNat : Nat) : Int) = P) : placeI b p = b2i b * P := by unfold placeI; rw [h]
theorem place_true (p P : Int) (h : ((2 ^ p.toNat : Nat) : Int) = P) : placeI true p = P := by rw [place_at _ _ _ h, show b2i true = 1 from rfl, Int.one_mul]
end Go.Proofs.YtfkbloclogeacaaDoor.Fld
