/-
  Contracts and plain facts: Page. Conditions: each says its own.
-/
import Derived.Test.YtnbdoemnepfhdaaR3
import Derived.Test.YtnbdoemnepfhdaaR1
import Derived.Lib.MinMax
namespace Go.Proofs.Ytnbdoemnepfhdaa.Fld
open Go.ChangeShapes Go.WideShapes Go.ChangeAt Go.RowKit
set_option maxHeartbeats 400000
theorem pmay_any (s : Int) (w : World) :
    Calls Try.prog 23 #[.int .i64 s] w fun e w' => e = .returned (.bool (sizeB s)) ∧ w = w' := by
  by_cases h0 : 0 ≤ s
  · by_cases h1 : s < 4
    · have H := Lib.hid (show sizeB s = true from sizeB_mk (by omega))
      go_enter Try.func23, Try.ntmps23
      go_wp2
      go_ret
      exact ⟨ret_bool H.out.symm, rfl⟩
    · have H := Lib.hid (show sizeB s = false by simp only [sizeB, decide_eq_false_iff_not]; omega)
      go_enter Try.func23, Try.ntmps23
      go_wp2
      go_ret
      exact ⟨ret_bool H.out.symm, rfl⟩
  · have H := Lib.hid (show sizeB s = false by simp only [sizeB, decide_eq_false_iff_not]; omega)
    go_enter Try.func23, Try.ntmps23
    go_wp2
    go_ret
    exact ⟨ret_bool H.out.symm, rfl⟩
theorem rpmay_any (s : Int) (w : World) :
    Calls Try.prog 24 #[.int .i64 s] w fun e w' => e = .returned (.bool (sizeB s)) ∧ w = w' := by
  by_cases h0 : 0 ≤ s
  · by_cases h1 : s ≤ 3
    · have H := Lib.hid (show sizeB s = true from sizeB_mk (by omega))
      go_enter Try.func24, Try.ntmps24
      go_wp2
      go_ret
      exact ⟨ret_bool H.out.symm, rfl⟩
    · have H := Lib.hid (show sizeB s = false by simp only [sizeB, decide_eq_false_iff_not]; omega)
      go_enter Try.func24, Try.ntmps24
      go_wp2
      go_ret
      exact ⟨ret_bool H.out.symm, rfl⟩
  · have H := Lib.hid (show sizeB s = false by simp only [sizeB, decide_eq_false_iff_not]; omega)
    go_enter Try.func24, Try.ntmps24
    go_wp2
    go_ret
    exact ⟨ret_bool H.out.symm, rfl⟩
theorem bits_any (s : Int) (w : World) :
    Calls Try.prog 30 #[.int .i64 s] w fun e w' => e = .returned (.int .i64 (bitsI s)) ∧ w = w' := by
  cases h : sizeB s
  · have H := Lib.hid (bits_none h)
    go_enter Try.func30, Try.ntmps30
    go_wp2_with (go_at_call 23; refine (pmay_any _ _).mono ?_; rintro e w' ⟨rfl, rfl⟩)
    go_ret
    exact ⟨ret_int H.out.symm, rfl⟩
  · have H := Lib.hid (show bitsI s = 13 + 3 * s by unfold bitsI; rw [if_pos h])
    have hb : 0 ≤ s ∧ s ≤ 3 := by have := sizeB_true h; omega
    go_enter Try.func30, Try.ntmps30
    go_wp2_with (go_at_call 23; refine (pmay_any _ _).mono ?_; rintro e w' ⟨rfl, rfl⟩)
    go_ret
    exact ⟨ret_int H.out.symm, rfl⟩
theorem bytes_any (s : Int) (w : World) :
    Calls Try.prog 22 #[.int .i64 s] w fun e w' => e = .returned (.int .u64 (bytesI s)) ∧ w = w' := by
  cases h : sizeB s
  · have H := Lib.hid (bytes_none h)
    go_enter Try.func22, Try.ntmps22
    go_wp2_with (go_at_call 23; refine (pmay_any _ _).mono ?_; rintro e w' ⟨rfl, rfl⟩)
    go_ret
    exact ⟨ret_int H.out.symm, rfl⟩
  · have H := Lib.hid (mask_bytes h)
    go_enter Try.func22, Try.ntmps22
    go_wp2_with (first | (go_at_call 23; refine (pmay_any _ _).mono ?_; rintro e w' ⟨rfl, rfl⟩) | (go_at_call 30; refine (bits_any _ _).mono ?_; rintro e w' ⟨rfl, rfl⟩) | (go_at_call 29; refine (mask_any _ _ _).mono ?_; rintro e w' ⟨rfl, rfl⟩))
    go_ret
    exact ⟨ret_int H.out, rfl⟩
end Go.Proofs.Ytnbdoemnepfhdaa.Fld

