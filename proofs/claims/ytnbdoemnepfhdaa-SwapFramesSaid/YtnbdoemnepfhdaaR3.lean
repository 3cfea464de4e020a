/-
  Contracts and plain facts: Fld. Conditions: each says its own.
-/
import Derived.Test.YtnbdoemnepfhdaaR0
import Derived.Test.YtnbdoemnepfhdaaRows
import Derived.WalkKit
import Derived.ProofKit
import Derived.OpenShut
import Derived.WalkLawsBesides
import Derived.Deep.QuietTactic
import Derived.BigQuiet
import Derived.Lib.Hide
namespace Go.Proofs.Ytnbdoemnepfhdaa.Fld
open Go.ChangeShapes Go.WideShapes Go.ChangeAt Go.RowKit
set_option maxHeartbeats 400000
theorem ret_int {k : IntKind} {a b : Int} (h : a = b) : Ending.returned (.int k a) = .returned (.int k b) := by rw [h]
theorem ret_bool {a b : Bool} (h : a = b) : Ending.returned (.bool a) = .returned (.bool b) := by rw [h]
theorem ones_any (s : Int) (h0 : 1 ≤ s) (h1 : s ≤ 64) (w : World) :
    Calls Try.prog 38 #[.int .i64 s] w fun e w' => e = .returned (.int .u64 (onesI s)) ∧ w = w' := by
  go_enter Try.func38, Try.ntmps38
  go_wp2
  go_ret
  exact ⟨ret_int (ones_walk' s h0 h1), rfl⟩
theorem may_yes (p s : Int) (h0 : 0 ≤ p) (h1 : 1 ≤ s) (h2 : s ≤ 64) (h3 : p ≤ 64 - s) (w : World) :
    Calls Try.prog 37 #[.int .i64 p, .int .i64 s] w fun e w' => e = .returned (.bool true) ∧ w = w' := by
  go_enter Try.func37, Try.ntmps37
  go_wp2
  go_ret
  exact ⟨rfl, rfl⟩
theorem may_no (p s : Int) (h : ¬ (0 ≤ p ∧ 1 ≤ s ∧ s ≤ 64 ∧ p ≤ 64 - s)) (w : World) :
    Calls Try.prog 37 #[.int .i64 p, .int .i64 s] w fun e w' => e = .returned (.bool false) ∧ w = w' := by
  by_cases h0 : 0 ≤ p
  · by_cases h1 : 1 ≤ s
    · by_cases h2 : s ≤ 64
      · have h3 : ¬ p ≤ 64 - s := fun x => h ⟨h0, h1, h2, x⟩
        clear h
        go_enter Try.func37, Try.ntmps37
        go_wp2
        go_ret
        exact ⟨rfl, rfl⟩
      · clear h
        go_enter Try.func37, Try.ntmps37
        go_wp2
        go_ret
        exact ⟨rfl, rfl⟩
    · clear h
      go_enter Try.func37, Try.ntmps37
      go_wp2
      go_ret
      exact ⟨rfl, rfl⟩
  · clear h
    go_enter Try.func37, Try.ntmps37
    go_wp2
    go_ret
    exact ⟨rfl, rfl⟩
theorem may_any (p s : Int) (w : World) :
    Calls Try.prog 37 #[.int .i64 p, .int .i64 s] w fun e w' => e = .returned (.bool (mayB p s)) ∧ w = w' := by
  cases h : mayB p s
  · exact may_no p s (mayB_false h) w
  · have h' := mayB_true h
    exact may_yes p s h'.1 h'.2.1 h'.2.2.1 h'.2.2.2 w
theorem mask_any (p s : Int) (w : World) :
    Calls Try.prog 29 #[.int .i64 p, .int .i64 s] w fun e w' => e = .returned (.int .u64 (maskI p s)) ∧ w = w' := by
  cases hm : mayB p s
  · have H := Lib.hid (show maskI p s = 0 by simp [maskI, hm])
    go_enter Try.func29, Try.ntmps29
    go_wp2_with (go_at_call 37; refine (may_any _ _ _).mono ?_; rintro e w' ⟨rfl, rfl⟩)
    go_ret
    exact ⟨ret_int H.out.symm, rfl⟩
  · have H := Lib.hid (mask_walk' p s hm)
    obtain ⟨h0, h1, h2, h3⟩ := mayB_true hm
    go_enter Try.func29, Try.ntmps29
    go_wp2_with (first | (go_at_call 37; refine (may_any _ _ _).mono ?_; rintro e w' ⟨rfl, rfl⟩) | (go_at_call 38; refine (ones_any _ (by omega) (by omega) _).mono ?_; rintro e w' ⟨rfl, rfl⟩))
    go_ret
    exact ⟨ret_int H.out, rfl⟩
end Go.Proofs.Ytnbdoemnepfhdaa.Fld

