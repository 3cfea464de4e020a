/-
  The contract of the example that every law asks for at its end: it answers true, and what was in memory stays. Conditions: none.
-/
import Derived.Test.YtbodcjcnjbkcbaaHex
namespace Go.Proofs.Ytbodcjcnjbkcbaa.Fld
open Go.ChangeShapes Go.WideShapes Go.ChangeAt Go.RowKit
set_option maxHeartbeats 400000
theorem put_ex : (putI 0 4 4 10 == 160) = true := by kernel_rfl
theorem hex_ex : hexS 255 = ⟨#[48, 48, 48, 48, 48, 48, 48, 48, 48, 48, 48, 48, 48, 48, 102, 102]⟩ := by kernel_rfl
theorem may_ex : mayB 0 64 = true := by kernel_rfl
theorem lives_any (w : World) :
    Calls Try.prog 17 #[] w fun e w' => e = .returned (.bool true) ∧ Below w.heap.size w w' := by
  have h1 := put_ex
  have h2 := may_ex
  go_enter Try.func17, Try.ntmps17
  go_wp2_with fail
  refine (put_any _ _ _ _ (by omega) (by omega) (by omega) (by omega) _).mono ?_
  rintro e w' ⟨rfl, rfl⟩
  go_wp2_with fail
  refine (hex_any _ (by omega) (by omega) _).mono ?_
  rintro e w' ⟨rfl, hb⟩
  rw [hex_ex]
  go_wp2_with fail
  refine (may_any _ _ _).mono ?_
  rintro e w' ⟨rfl, rfl⟩
  go_wp2
  go_ret
  exact ⟨rfl, hb⟩
end Go.Proofs.Ytbodcjcnjbkcbaa.Fld
