/-
  Contracts of package page's functions that compute, and of the document's own answers to them: each returns what the plain functions of PMath say, and the world stays but for draws. Conditions: words are below 2 to the 64.
-/
import Derived.Test.YtfkbloclogeacaaDoorFld
import Derived.Test.YtfkbloclogeacaaDoorPMath
import Derived.Lib.MinMax
namespace Go.Proofs.YtfkbloclogeacaaDoor.Fld
open Go.ChangeShapes Go.WideShapes Go.ChangeAt Go.RowKit
set_option maxHeartbeats 400000
theorem ret_two {a b : Int} {c d : Bool} (h1 : a = b) (h2 : c = d) : Ending.returned (.tuple #[.int .u64 a, .bool c]) = .returned (.tuple #[.int .u64 b, .bool d]) := by rw [h1, h2]
theorem same_sym {P : Program} {f : FuncId} {args : Array Value} {w : World} {v : Value} (h : Calls P f args w fun e w' => e = .returned v ∧ w = w') : Calls P f args w fun e w' => e = .returned v ∧ w' = w :=
  h.mono fun _ _ ⟨a, b⟩ => ⟨a, b.symm⟩
theorem pmay_any (s : Int) (w : World) :
    Calls Tryd.prog 44 #[.int .i64 s] w fun e w' => e = .returned (.bool (sizeB s)) ∧ w = w' := by
  by_cases h0 : 0 ≤ s
  · by_cases h1 : s < 4
    · have H := Lib.hid (show sizeB s = true from sizeB_mk (by omega))
      go_enter Tryd.func44, Tryd.ntmps44
      go_wp2
      go_ret
      exact ⟨ret_bool H.out.symm, rfl⟩
    · have H := Lib.hid (show sizeB s = false by simp only [sizeB, decide_eq_false_iff_not]; omega)
      go_enter Tryd.func44, Tryd.ntmps44
      go_wp2
      go_ret
      exact ⟨ret_bool H.out.symm, rfl⟩
  · have H := Lib.hid (show sizeB s = false by simp only [sizeB, decide_eq_false_iff_not]; omega)
    go_enter Tryd.func44, Tryd.ntmps44
    go_wp2
    go_ret
    exact ⟨ret_bool H.out.symm, rfl⟩
theorem rpmay_any (s : Int) (w : World) :
    Calls Tryd.prog 36 #[.int .i64 s] w fun e w' => e = .returned (.bool (sizeB s)) ∧ w = w' := by
  by_cases h0 : 0 ≤ s
  · by_cases h1 : s ≤ 3
    · have H := Lib.hid (show sizeB s = true from sizeB_mk (by omega))
      go_enter Tryd.func36, Tryd.ntmps36
      go_wp2
      go_ret
      exact ⟨ret_bool H.out.symm, rfl⟩
    · have H := Lib.hid (show sizeB s = false by simp only [sizeB, decide_eq_false_iff_not]; omega)
      go_enter Tryd.func36, Tryd.ntmps36
      go_wp2
      go_ret
      exact ⟨ret_bool H.out.symm, rfl⟩
  · have H := Lib.hid (show sizeB s = false by simp only [sizeB, decide_eq_false_iff_not]; omega)
    go_enter Tryd.func36, Tryd.ntmps36
    go_wp2
    go_ret
    exact ⟨ret_bool H.out.symm, rfl⟩
theorem rbytes_any (s : Int) (w : World) :
    Calls Tryd.prog 37 #[.int .i64 s] w fun e w' => e = .returned (.int .u64 (bytesI s)) ∧ w = w' := by
  cases h : sizeB s
  · have H := Lib.hid (bytes_none h)
    have hs := sizeB_false h
    have h0 : (s == 0) = false := beq_eq_false_iff_ne.2 (by omega)
    have h1 : (s == 1) = false := beq_eq_false_iff_ne.2 (by omega)
    have h2 : (s == 2) = false := beq_eq_false_iff_ne.2 (by omega)
    have h3 : (s == 3) = false := beq_eq_false_iff_ne.2 (by omega)
    clear hs h
    go_enter Tryd.func37, Tryd.ntmps37
    go_wp2
    go_ret
    exact ⟨ret_int H.out.symm, rfl⟩
  · rcases sizeB_true h with rfl | rfl | rfl | rfl <;>
      (clear h
       go_enter Tryd.func37, Tryd.ntmps37
       go_wp2
       go_ret
       exact ⟨rfl, rfl⟩)
theorem bits_any (s : Int) (w : World) :
    Calls Tryd.prog 47 #[.int .i64 s] w fun e w' => e = .returned (.int .i64 (bitsI s)) ∧ w = w' := by
  cases h : sizeB s
  · have H := Lib.hid (bits_none h)
    go_enter Tryd.func47, Tryd.ntmps47
    go_wp2_with (go_at_call 44; refine (pmay_any _ _).mono ?_; rintro e w' ⟨rfl, rfl⟩)
    go_ret
    exact ⟨ret_int H.out.symm, rfl⟩
  · have H := Lib.hid (show bitsI s = 13 + 3 * s by unfold bitsI; rw [if_pos h])
    have hb : 0 ≤ s ∧ s ≤ 3 := by have := sizeB_true h; omega
    go_enter Tryd.func47, Tryd.ntmps47
    go_wp2_with (go_at_call 44; refine (pmay_any _ _).mono ?_; rintro e w' ⟨rfl, rfl⟩)
    go_ret
    exact ⟨ret_int H.out.symm, rfl⟩
theorem base_any (x s : Int) (x0 : 0 ≤ x) (x1 : x ≤ 18446744073709551615) (w : World) :
    Calls Tryd.prog 45 #[.int .u64 x, .int .i64 s] w fun e w' => e = .returned (.int .u64 (baseI x s)) ∧ w = w' := by
  cases h : sizeB s
  · have H := Lib.hid (show baseI x s = 0 by unfold baseI; rw [h]; rfl)
    go_enter Tryd.func45, Tryd.ntmps45
    go_wp2_with (go_at_call 44; refine (pmay_any _ _).mono ?_; rintro e w' ⟨rfl, rfl⟩)
    go_ret
    exact ⟨ret_int H.out.symm, rfl⟩
  · have H := Lib.hid (put_base h x0 x1)
    go_enter Tryd.func45, Tryd.ntmps45
    go_wp2_with (first | (go_at_call 44; refine (pmay_any _ _).mono ?_; rintro e w' ⟨rfl, rfl⟩) | (go_at_call 47; refine (bits_any _ _).mono ?_; rintro e w' ⟨rfl, rfl⟩) | (go_at_call 46; refine (put_any _ _ _ _ x0 x1 (by omega) (by omega) _).mono ?_; rintro e w' ⟨rfl, rfl⟩))
    go_ret
    exact ⟨ret_int H.out, rfl⟩
theorem in_any (x y s : Int) (x0 : 0 ≤ x) (x1 : x ≤ 18446744073709551615) (y0 : 0 ≤ y) (y1 : y ≤ 18446744073709551615) (w : World) :
    Calls Tryd.prog 43 #[.int .u64 x, .int .u64 y, .int .i64 s] w fun e w' => e = .returned (.bool (inB x y s)) ∧ w = w' := by
  have H := Lib.hid (in_walk x y s)
  cases h : sizeB s
  · rw [h] at H
    go_enter Tryd.func43, Tryd.ntmps43
    go_wp2_with (go_at_call 44; refine (pmay_any _ _).mono ?_; rintro e w' ⟨rfl, rfl⟩)
    go_ret
    exact ⟨ret_bool H.out.symm, rfl⟩
  · rw [h] at H
    go_enter Tryd.func43, Tryd.ntmps43
    go_wp2_with (first | (go_at_call 44; refine (pmay_any _ _).mono ?_; rintro e w' ⟨rfl, rfl⟩) | (go_at_call 45; refine (base_any _ _ (by omega) (by omega) _).mono ?_; rintro e w' ⟨rfl, rfl⟩))
    go_ret
    exact ⟨ret_bool H.out.symm, rfl⟩
theorem mask21_any (w : World) :
    Calls Tryd.prog 39 #[.int .i64 0, .int .i64 21] w fun e w' => e = .returned (.int .u64 2097151) ∧ w = w' :=
  (mask_any 0 21 w).mono fun _ _ ⟨a, b⟩ => ⟨a.trans (ret_int mask_21), b⟩
theorem hole_any (x : Int) (x0 : 0 ≤ x) (x1 : x ≤ 18446744073709551615) (w : World) :
    Calls Tryd.prog 28 #[.int .u64 x] w fun e w' => e = .returned (.bool (holeB x)) ∧ ∃ n, w' = w.drewN n := by
  have H := Lib.hid (hole_walk x x0 x1)
  go_enter Tryd.func28, Tryd.ntmps28
  go_wp2_with fail
  refine (get_any _ _ _ x0 x1 _).mono ?_
  rintro e w' ⟨rfl, n, rfl⟩
  generalize getI x 43 21 = g at *
  cases h : g != 0
  · rw [h, Bool.false_and] at H
    go_wp2
    go_ret
    exact ⟨ret_bool H.out.symm, n, rfl⟩
  · rw [h, Bool.true_and] at H
    go_wp2_with fail
    refine (mask21_any _).mono ?_
    rintro e w' ⟨rfl, rfl⟩
    go_wp2
    go_ret
    exact ⟨ret_bool H.out.symm, n, rfl⟩
end Go.Proofs.YtfkbloclogeacaaDoor.Fld
