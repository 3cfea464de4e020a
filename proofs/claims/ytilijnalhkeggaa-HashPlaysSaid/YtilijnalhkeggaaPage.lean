/-
  Contracts of package page's functions that compute, and of the document's own answers to them: each returns what the plain functions of PMath say, and the world stays but for draws. Conditions: words are below 2 to the 64.
-/
import Derived.Test.YtilijnalhkeggaaFld
import Derived.Test.YtilijnalhkeggaaPMath
import Derived.Lib.MinMax
namespace Go.Proofs.Ytilijnalhkeggaa.Fld
open Go.ChangeShapes Go.WideShapes Go.ChangeAt Go.RowKit
set_option maxHeartbeats 400000
theorem ret_two {a b : Int} {c d : Bool} (h1 : a = b) (h2 : c = d) : Ending.returned (.tuple #[.int .u64 a, .bool c]) = .returned (.tuple #[.int .u64 b, .bool d]) := by rw [h1, h2]
theorem same_sym {P : Program} {f : FuncId} {args : Array Value} {w : World} {v : Value} (h : Calls P f args w fun e w' => e = .returned v ∧ w = w') : Calls P f args w fun e w' => e = .returned v ∧ w' = w :=
  h.mono fun _ _ ⟨a, b⟩ => ⟨a, b.symm⟩
theorem pmay_any (s : Int) (w : World) :
    Calls Try.prog 41 #[.int .i64 s] w fun e w' => e = .returned (.bool (sizeB s)) ∧ w = w' := by
  by_cases h0 : 0 ≤ s
  · by_cases h1 : s < 4
    · have H := Lib.hid (show sizeB s = true from sizeB_mk (by omega))
      go_enter Try.func41, Try.ntmps41
      go_wp2
      go_ret
      exact ⟨ret_bool H.out.symm, rfl⟩
    · have H := Lib.hid (show sizeB s = false by simp only [sizeB, decide_eq_false_iff_not]; omega)
      go_enter Try.func41, Try.ntmps41
      go_wp2
      go_ret
      exact ⟨ret_bool H.out.symm, rfl⟩
  · have H := Lib.hid (show sizeB s = false by simp only [sizeB, decide_eq_false_iff_not]; omega)
    go_enter Try.func41, Try.ntmps41
    go_wp2
    go_ret
    exact ⟨ret_bool H.out.symm, rfl⟩
theorem rpmay_any (s : Int) (w : World) :
    Calls Try.prog 53 #[.int .i64 s] w fun e w' => e = .returned (.bool (sizeB s)) ∧ w = w' := by
  by_cases h0 : 0 ≤ s
  · by_cases h1 : s ≤ 3
    · have H := Lib.hid (show sizeB s = true from sizeB_mk (by omega))
      go_enter Try.func53, Try.ntmps53
      go_wp2
      go_ret
      exact ⟨ret_bool H.out.symm, rfl⟩
    · have H := Lib.hid (show sizeB s = false by simp only [sizeB, decide_eq_false_iff_not]; omega)
      go_enter Try.func53, Try.ntmps53
      go_wp2
      go_ret
      exact ⟨ret_bool H.out.symm, rfl⟩
  · have H := Lib.hid (show sizeB s = false by simp only [sizeB, decide_eq_false_iff_not]; omega)
    go_enter Try.func53, Try.ntmps53
    go_wp2
    go_ret
    exact ⟨ret_bool H.out.symm, rfl⟩
theorem rbytes_any (s : Int) (w : World) :
    Calls Try.prog 45 #[.int .i64 s] w fun e w' => e = .returned (.int .u64 (bytesI s)) ∧ w = w' := by
  cases h : sizeB s
  · have H := Lib.hid (bytes_none h)
    have hs := sizeB_false h
    have h0 : (s == 0) = false := beq_eq_false_iff_ne.2 (by omega)
    have h1 : (s == 1) = false := beq_eq_false_iff_ne.2 (by omega)
    have h2 : (s == 2) = false := beq_eq_false_iff_ne.2 (by omega)
    have h3 : (s == 3) = false := beq_eq_false_iff_ne.2 (by omega)
    clear hs h
    go_enter Try.func45, Try.ntmps45
    go_wp2
    go_ret
    exact ⟨ret_int H.out.symm, rfl⟩
  · rcases sizeB_true h with rfl | rfl | rfl | rfl <;>
      (clear h
       go_enter Try.func45, Try.ntmps45
       go_wp2
       go_ret
       exact ⟨rfl, rfl⟩)
theorem bits_any (s : Int) (w : World) :
    Calls Try.prog 55 #[.int .i64 s] w fun e w' => e = .returned (.int .i64 (bitsI s)) ∧ w = w' := by
  cases h : sizeB s
  · have H := Lib.hid (bits_none h)
    go_enter Try.func55, Try.ntmps55
    go_wp2_with (go_at_call 41; refine (pmay_any _ _).mono ?_; rintro e w' ⟨rfl, rfl⟩)
    go_ret
    exact ⟨ret_int H.out.symm, rfl⟩
  · have H := Lib.hid (show bitsI s = 13 + 3 * s by unfold bitsI; rw [if_pos h])
    have hb : 0 ≤ s ∧ s ≤ 3 := by have := sizeB_true h; omega
    go_enter Try.func55, Try.ntmps55
    go_wp2_with (go_at_call 41; refine (pmay_any _ _).mono ?_; rintro e w' ⟨rfl, rfl⟩)
    go_ret
    exact ⟨ret_int H.out.symm, rfl⟩
theorem bytes_any (s : Int) (w : World) :
    Calls Try.prog 42 #[.int .i64 s] w fun e w' => e = .returned (.int .u64 (bytesI s)) ∧ w = w' := by
  cases h : sizeB s
  · have H := Lib.hid (bytes_none h)
    go_enter Try.func42, Try.ntmps42
    go_wp2_with (go_at_call 41; refine (pmay_any _ _).mono ?_; rintro e w' ⟨rfl, rfl⟩)
    go_ret
    exact ⟨ret_int H.out.symm, rfl⟩
  · have H := Lib.hid (mask_bytes h)
    go_enter Try.func42, Try.ntmps42
    go_wp2_with (first | (go_at_call 41; refine (pmay_any _ _).mono ?_; rintro e w' ⟨rfl, rfl⟩) | (go_at_call 55; refine (bits_any _ _).mono ?_; rintro e w' ⟨rfl, rfl⟩) | (go_at_call 54; refine (mask_any _ _ _).mono ?_; rintro e w' ⟨rfl, rfl⟩))
    go_ret
    exact ⟨ret_int H.out, rfl⟩
theorem off_any (x s : Int) (x0 : 0 ≤ x) (x1 : x ≤ 18446744073709551615) (w : World) :
    Calls Try.prog 56 #[.int .u64 x, .int .i64 s] w fun e w' => e = .returned (.int .u64 (offI x s)) ∧ ∃ n, w' = w.drewN n := by
  have H := Lib.hid (get_off (s := s) x0)
  go_enter Try.func56, Try.ntmps56
  go_wp2_with (first | (go_at_call 55; refine (bits_any _ _).mono ?_; rintro e w' ⟨rfl, rfl⟩) | (go_at_call 64; refine (get_any _ _ _ x0 x1 _).mono ?_; rintro e w' ⟨rfl, n, rfl⟩))
  go_ret
  exact ⟨ret_int H.out, n, rfl⟩
theorem starts_any (x s : Int) (x0 : 0 ≤ x) (x1 : x ≤ 18446744073709551615) (w : World) :
    Calls Try.prog 43 #[.int .u64 x, .int .i64 s] w fun e w' => e = .returned (.bool (startsB x s)) ∧ ∃ n, w' = w.drewN n := by
  have H := Lib.hid (starts_walk x s)
  cases h : sizeB s
  · rw [h] at H
    go_enter Try.func43, Try.ntmps43
    go_wp2_with (go_at_call 41; refine (pmay_any _ _).mono ?_; rintro e w' ⟨rfl, rfl⟩)
    go_ret
    exact ⟨ret_bool H.out.symm, 0, rfl⟩
  · rw [h] at H
    go_enter Try.func43, Try.ntmps43
    go_wp2_with (first | (go_at_call 41; refine (pmay_any _ _).mono ?_; rintro e w' ⟨rfl, rfl⟩) | (go_at_call 56; refine (off_any _ _ x0 x1 _).mono ?_; rintro e w' ⟨rfl, n, rfl⟩))
    go_ret
    exact ⟨ret_bool H.out.symm, n, rfl⟩
theorem mask21_any (w : World) :
    Calls Try.prog 54 #[.int .i64 0, .int .i64 21] w fun e w' => e = .returned (.int .u64 2097151) ∧ w = w' :=
  (mask_any 0 21 w).mono fun _ _ ⟨a, b⟩ => ⟨a.trans (ret_int mask_21), b⟩
end Go.Proofs.Ytilijnalhkeggaa.Fld
