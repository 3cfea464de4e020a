/-
  Contracts of Set and Bit of package field: bits are fields of size 1; the world stays but for draws. Conditions: the word is below 2 to the 64.
-/
import Derived.Test.YtohcmijgakijfaaDoorLives
namespace Go.Proofs.YtohcmijgakijfaaDoor.Fld
open Go.ChangeShapes Go.WideShapes Go.ChangeAt Go.RowKit
set_option maxHeartbeats 400000
theorem set_any (x p : Int) (b : Bool) (x0 : 0 ≤ x) (x1 : x ≤ 18446744073709551615) (w : World) :
    Calls Tryd.prog 39 #[.int .u64 x, .int .i64 p, .bool b] w fun e w' => e = .returned (.int .u64 (putI x p 1 (b.toNat : Int))) ∧ w = w' := by
  cases b
  all_goals
    go_enter Tryd.func39, Tryd.ntmps39
    go_wp2_with (go_at_call 34; refine (put_any _ _ _ _ x0 x1 (by omega) (by omega) _).mono ?_; rintro e w' ⟨rfl, rfl⟩)
    go_ret
    exact ⟨rfl, rfl⟩
theorem bit_any (x p : Int) (x0 : 0 ≤ x) (x1 : x ≤ 18446744073709551615) (w : World) :
    Calls Tryd.prog 29 #[.int .u64 x, .int .i64 p] w fun e w' => e = .returned (.bool (getI x p 1 == 1)) ∧ ∃ n, w' = w.drewN n := by
  go_enter Tryd.func29, Tryd.ntmps29
  go_wp2_with (go_at_call 38; refine (get_any _ _ _ x0 x1 _).mono ?_; rintro e w' ⟨rfl, n, rfl⟩)
  go_ret
  exact ⟨rfl, n, rfl⟩
end Go.Proofs.YtohcmijgakijfaaDoor.Fld
