/-
  YtffpfceclhogoaaGreatGB: the contracts and plain facts of several texts, laid together. Conditions: those that each theorem names.
-/
import Derived.Test.YtffpfceclhogoaaGreatRows
import Derived.Test.YtffpfceclhogoaaGreatGA
import Derived.WalkKit
import Derived.ProofKit
import Derived.OpenShut
import Derived.WalkLawsBesides
import Derived.Deep.QuietTactic
import Derived.BigQuiet
import Derived.Lib.Hide
import Derived.Lib.MinMax
import Derived.Maps.OwnOps
import Derived.Maps.OwnSet
import Derived.Maps.RangeWalk
import Derived.Maps.AppendAt
import Derived.Maps.Ext
import Derived.RegionTactic
import Derived.ChangeAlike
import Derived.Deep.AppendLies
namespace Go.Proofs.YtffpfceclhogoaaGreat.Fld
open Go.ChangeShapes Go.WideShapes Go.ChangeAt Go.RowKit
set_option maxHeartbeats 400000
theorem ret_int {k : IntKind} {a b : Int} (h : a = b) : Ending.returned (.int k a) = .returned (.int k b) := by rw [h]
theorem ret_bool {a b : Bool} (h : a = b) : Ending.returned (.bool a) = .returned (.bool b) := by rw [h]
theorem ones_any (s : Int) (h0 : 1 ≤ s) (h1 : s ≤ 64) (w : World) :
    Calls Tryz.prog 122 #[.int .i64 s] w fun e w' => e = .returned (.int .u64 (onesI s)) ∧ w = w' := by
  go_enter Tryz.func122, Tryz.ntmps122
  go_wp2
  go_ret
  exact ⟨ret_int (ones_walk' s h0 h1), rfl⟩
theorem ones_same (s : Int) (h0 : 1 ≤ s) (h1 : s ≤ 64) (w : World) :
    Calls Tryz.prog 122 #[.int .i64 s] w fun e w' => e = .returned (.int .u64 (onesI s)) ∧ w' = w :=
  (ones_any s h0 h1 w).mono fun _ _ ⟨a, b⟩ => ⟨a, b.symm⟩
theorem may_yes (p s : Int) (h0 : 0 ≤ p) (h1 : 1 ≤ s) (h2 : s ≤ 64) (h3 : p ≤ 64 - s) (w : World) :
    Calls Tryz.prog 121 #[.int .i64 p, .int .i64 s] w fun e w' => e = .returned (.bool true) ∧ w = w' := by
  go_enter Tryz.func121, Tryz.ntmps121
  go_wp2
  go_ret
  exact ⟨rfl, rfl⟩
theorem may_no (p s : Int) (h : ¬ (0 ≤ p ∧ 1 ≤ s ∧ s ≤ 64 ∧ p ≤ 64 - s)) (w : World) :
    Calls Tryz.prog 121 #[.int .i64 p, .int .i64 s] w fun e w' => e = .returned (.bool false) ∧ w = w' := by
  by_cases h0 : 0 ≤ p
  · by_cases h1 : 1 ≤ s
    · by_cases h2 : s ≤ 64
      · have h3 : ¬ p ≤ 64 - s := fun x => h ⟨h0, h1, h2, x⟩
        clear h
        go_enter Tryz.func121, Tryz.ntmps121
        go_wp2
        go_ret
        exact ⟨rfl, rfl⟩
      · clear h
        go_enter Tryz.func121, Tryz.ntmps121
        go_wp2
        go_ret
        exact ⟨rfl, rfl⟩
    · clear h
      go_enter Tryz.func121, Tryz.ntmps121
      go_wp2
      go_ret
      exact ⟨rfl, rfl⟩
  · clear h
    go_enter Tryz.func121, Tryz.ntmps121
    go_wp2
    go_ret
    exact ⟨rfl, rfl⟩
theorem may_any (p s : Int) (w : World) :
    Calls Tryz.prog 121 #[.int .i64 p, .int .i64 s] w fun e w' => e = .returned (.bool (mayB p s)) ∧ w = w' := by
  cases h : mayB p s
  · exact may_no p s (mayB_false h) w
  · have h' := mayB_true h
    exact may_yes p s h'.1 h'.2.1 h'.2.2.1 h'.2.2.2 w
theorem mask_any (p s : Int) (w : World) :
    Calls Tryz.prog 94 #[.int .i64 p, .int .i64 s] w fun e w' => e = .returned (.int .u64 (maskI p s)) ∧ w = w' := by
  cases hm : mayB p s
  · have H := Lib.hid (show maskI p s = 0 by simp [maskI, hm])
    go_enter Tryz.func94, Tryz.ntmps94
    go_wp2_with (go_at_call 121; refine (may_any _ _ _).mono ?_; rintro e w' ⟨rfl, rfl⟩)
    go_ret
    exact ⟨ret_int H.out.symm, rfl⟩
  · have H := Lib.hid (mask_walk' p s hm)
    obtain ⟨h0, h1, h2, h3⟩ := mayB_true hm
    go_enter Tryz.func94, Tryz.ntmps94
    go_wp2_with (first | (go_at_call 121; refine (may_any _ _ _).mono ?_; rintro e w' ⟨rfl, rfl⟩) | (go_at_call 122; refine (ones_any _ (by omega) (by omega) _).mono ?_; rintro e w' ⟨rfl, rfl⟩))
    go_ret
    exact ⟨ret_int H.out, rfl⟩
theorem put_any (x p s v : Int) (x0 : 0 ≤ x) (x1 : x ≤ 18446744073709551615) (v0 : 0 ≤ v) (v1 : v ≤ 18446744073709551615) (w : World) :
    Calls Tryz.prog 89 #[.int .u64 x, .int .i64 p, .int .i64 s, .int .u64 v] w fun e w' => e = .returned (.int .u64 (putI x p s v)) ∧ w = w' := by
  cases hm : mayB p s
  · have H := Lib.hid (show putI x p s v = x by simp [putI, hm])
    go_enter Tryz.func89, Tryz.ntmps89
    go_wp2_with (go_at_call 121; refine (may_any _ _ _).mono ?_; rintro e w' ⟨rfl, rfl⟩)
    go_ret
    exact ⟨ret_int H.out.symm, rfl⟩
  · have H := Lib.hid (put_walk' x p s v hm x0 x1 v0 v1)
    obtain ⟨h0, h1, h2, h3⟩ := mayB_true hm
    go_enter Tryz.func89, Tryz.ntmps89
    go_wp2_with (first | (go_at_call 121; refine (may_any _ _ _).mono ?_; rintro e w' ⟨rfl, rfl⟩) | (go_at_call 122; refine (ones_any _ (by omega) (by omega) _).mono ?_; rintro e w' ⟨rfl, rfl⟩) | (go_at_call 94; refine (mask_any _ _ _).mono ?_; rintro e w' ⟨rfl, rfl⟩))
    go_ret
    exact ⟨ret_int H.out, rfl⟩
theorem get_any (x p s : Int) (x0 : 0 ≤ x) (x1 : x ≤ 18446744073709551615) (w : World) :
    Calls Tryz.prog 93 #[.int .u64 x, .int .i64 p, .int .i64 s] w fun e w' => e = .returned (.int .u64 (getI x p s)) ∧ ∃ n, w' = w.drewN n := by
  cases hm : mayB p s
  · have H := Lib.hid (show getI x p s = 0 by simp [getI, hm])
    go_enter Tryz.func93, Tryz.ntmps93
    go_wp2_with (go_at_call 121; refine (may_any _ _ _).mono ?_; rintro e w' ⟨rfl, rfl⟩)
    go_ret
    exact ⟨ret_int H.out.symm, 0, rfl⟩
  · have H := Lib.hid (get_walk' x p s hm x0 x1)
    obtain ⟨h0, h1, h2, h3⟩ := mayB_true hm
    go_enter Tryz.func93, Tryz.ntmps93
    go_wp2_with (go_at_call 121; refine (may_any _ _ _).mono ?_; rintro e w' ⟨rfl, rfl⟩)
    go_quiet ((go_at_call 122; exact Calls.quiet_of_same (ones_same _ (by omega) (by omega) _)))
    go_wp2
    go_ret
    exact ⟨ret_int H.out, _, rfl⟩
theorem rbit_any (v i : Int) (v0 : 0 ≤ v) (v1 : v ≤ 18446744073709551615) (i0 : 0 ≤ i) (i1 : i ≤ 1000) (w : World) :
    Calls Tryz.prog 92 #[.int .u64 v, .int .i64 i] w fun e w' => e = .returned (.int .u64 (bitI v i)) ∧ w = w' := by
  obtain ⟨n, rfl⟩ := Int.eq_ofNat_of_zero_le i0
  go_enter Tryz.func92, Tryz.ntmps92
  go_wp2
  go_loop [0, 5] (fun t k => ∃ j : Nat, j ≤ n ∧ k = .int .i64 j ∧ t = .int .u64 (shI v j)) (fun _ k => n - (intOf k).toNat)
  case atStart => exact ⟨0, by omega, rfl, by rw [shI_zero v v0]⟩
  case round =>
    obtain ⟨j, hj, rfl, rfl⟩ := hrel
    have hb := shI_bd v j v1
    by_cases hlt : j < n
    · go_wp2
      go_round
      case rel => exact ⟨j + 1, by omega, by go_num, by rw [shI_succ]⟩
      case measure => simp [intOf]; omega
    · obtain rfl : j = n := by omega
      go_wp2
      go_ret
      exact ⟨ret_int (shI_mod v j), rfl⟩
end Go.Proofs.YtffpfceclhogoaaGreat.Fld
namespace Go.Proofs.YtffpfceclhogoaaGreat.Fld
open Go.ChangeShapes Go.WideShapes Go.ChangeAt Go.RowKit
set_option maxHeartbeats 400000
theorem same_sym {P : Program} {f : FuncId} {args : Array Value} {w : World} {v : Value} (h : Calls P f args w fun e w' => e = .returned v ∧ w = w') : Calls P f args w fun e w' => e = .returned v ∧ w' = w :=
  h.mono fun _ _ ⟨a, b⟩ => ⟨a, b.symm⟩
theorem pmay_any (s : Int) (w : World) :
    Calls Tryz.prog 59 #[.int .i64 s] w fun e w' => e = .returned (.bool (sizeB s)) ∧ w = w' := by
  by_cases h0 : 0 ≤ s
  · by_cases h1 : s < 4
    · have H := Lib.hid (show sizeB s = true from sizeB_mk (by omega))
      go_enter Tryz.func59, Tryz.ntmps59
      go_wp2
      go_ret
      exact ⟨ret_bool H.out.symm, rfl⟩
    · have H := Lib.hid (show sizeB s = false by simp only [sizeB, decide_eq_false_iff_not]; omega)
      go_enter Tryz.func59, Tryz.ntmps59
      go_wp2
      go_ret
      exact ⟨ret_bool H.out.symm, rfl⟩
  · have H := Lib.hid (show sizeB s = false by simp only [sizeB, decide_eq_false_iff_not]; omega)
    go_enter Tryz.func59, Tryz.ntmps59
    go_wp2
    go_ret
    exact ⟨ret_bool H.out.symm, rfl⟩
theorem rpmay_any (s : Int) (w : World) :
    Calls Tryz.prog 54 #[.int .i64 s] w fun e w' => e = .returned (.bool (sizeB s)) ∧ w = w' := by
  by_cases h0 : 0 ≤ s
  · by_cases h1 : s ≤ 3
    · have H := Lib.hid (show sizeB s = true from sizeB_mk (by omega))
      go_enter Tryz.func54, Tryz.ntmps54
      go_wp2
      go_ret
      exact ⟨ret_bool H.out.symm, rfl⟩
    · have H := Lib.hid (show sizeB s = false by simp only [sizeB, decide_eq_false_iff_not]; omega)
      go_enter Tryz.func54, Tryz.ntmps54
      go_wp2
      go_ret
      exact ⟨ret_bool H.out.symm, rfl⟩
  · have H := Lib.hid (show sizeB s = false by simp only [sizeB, decide_eq_false_iff_not]; omega)
    go_enter Tryz.func54, Tryz.ntmps54
    go_wp2
    go_ret
    exact ⟨ret_bool H.out.symm, rfl⟩
theorem rbytes_any (s : Int) (w : World) :
    Calls Tryz.prog 17 #[.int .i64 s] w fun e w' => e = .returned (.int .u64 (bytesI s)) ∧ w = w' := by
  cases h : sizeB s
  · have H := Lib.hid (bytes_none h)
    have hs := sizeB_false h
    have h0 : (s == 0) = false := beq_eq_false_iff_ne.2 (by omega)
    have h1 : (s == 1) = false := beq_eq_false_iff_ne.2 (by omega)
    have h2 : (s == 2) = false := beq_eq_false_iff_ne.2 (by omega)
    have h3 : (s == 3) = false := beq_eq_false_iff_ne.2 (by omega)
    clear hs h
    go_enter Tryz.func17, Tryz.ntmps17
    go_wp2
    go_ret
    exact ⟨ret_int H.out.symm, rfl⟩
  · rcases sizeB_true h with rfl | rfl | rfl | rfl <;>
      (clear h
       go_enter Tryz.func17, Tryz.ntmps17
       go_wp2
       go_ret
       exact ⟨rfl, rfl⟩)
theorem bits_any (s : Int) (w : World) :
    Calls Tryz.prog 90 #[.int .i64 s] w fun e w' => e = .returned (.int .i64 (bitsI s)) ∧ w = w' := by
  cases h : sizeB s
  · have H := Lib.hid (bits_none h)
    go_enter Tryz.func90, Tryz.ntmps90
    go_wp2_with (go_at_call 59; refine (pmay_any _ _).mono ?_; rintro e w' ⟨rfl, rfl⟩)
    go_ret
    exact ⟨ret_int H.out.symm, rfl⟩
  · have H := Lib.hid (show bitsI s = 13 + 3 * s by unfold bitsI; rw [if_pos h])
    have hb : 0 ≤ s ∧ s ≤ 3 := by have := sizeB_true h; omega
    go_enter Tryz.func90, Tryz.ntmps90
    go_wp2_with (go_at_call 59; refine (pmay_any _ _).mono ?_; rintro e w' ⟨rfl, rfl⟩)
    go_ret
    exact ⟨ret_int H.out.symm, rfl⟩
theorem bytes_any (s : Int) (w : World) :
    Calls Tryz.prog 123 #[.int .i64 s] w fun e w' => e = .returned (.int .u64 (bytesI s)) ∧ w = w' := by
  cases h : sizeB s
  · have H := Lib.hid (bytes_none h)
    go_enter Tryz.func123, Tryz.ntmps123
    go_wp2_with (go_at_call 59; refine (pmay_any _ _).mono ?_; rintro e w' ⟨rfl, rfl⟩)
    go_ret
    exact ⟨ret_int H.out.symm, rfl⟩
  · have H := Lib.hid (mask_bytes h)
    go_enter Tryz.func123, Tryz.ntmps123
    go_wp2_with (first | (go_at_call 59; refine (pmay_any _ _).mono ?_; rintro e w' ⟨rfl, rfl⟩) | (go_at_call 90; refine (bits_any _ _).mono ?_; rintro e w' ⟨rfl, rfl⟩) | (go_at_call 94; refine (mask_any _ _ _).mono ?_; rintro e w' ⟨rfl, rfl⟩))
    go_ret
    exact ⟨ret_int H.out, rfl⟩
theorem base_any (x s : Int) (x0 : 0 ≤ x) (x1 : x ≤ 18446744073709551615) (w : World) :
    Calls Tryz.prog 51 #[.int .u64 x, .int .i64 s] w fun e w' => e = .returned (.int .u64 (baseI x s)) ∧ w = w' := by
  cases h : sizeB s
  · have H := Lib.hid (show baseI x s = 0 by unfold baseI; rw [h]; rfl)
    go_enter Tryz.func51, Tryz.ntmps51
    go_wp2_with (go_at_call 59; refine (pmay_any _ _).mono ?_; rintro e w' ⟨rfl, rfl⟩)
    go_ret
    exact ⟨ret_int H.out.symm, rfl⟩
  · have H := Lib.hid (put_base h x0 x1)
    go_enter Tryz.func51, Tryz.ntmps51
    go_wp2_with (first | (go_at_call 59; refine (pmay_any _ _).mono ?_; rintro e w' ⟨rfl, rfl⟩) | (go_at_call 90; refine (bits_any _ _).mono ?_; rintro e w' ⟨rfl, rfl⟩) | (go_at_call 89; refine (put_any _ _ _ _ x0 x1 (by omega) (by omega) _).mono ?_; rintro e w' ⟨rfl, rfl⟩))
    go_ret
    exact ⟨ret_int H.out, rfl⟩
theorem off_any (x s : Int) (x0 : 0 ≤ x) (x1 : x ≤ 18446744073709551615) (w : World) :
    Calls Tryz.prog 95 #[.int .u64 x, .int .i64 s] w fun e w' => e = .returned (.int .u64 (offI x s)) ∧ ∃ n, w' = w.drewN n := by
  have H := Lib.hid (get_off (s := s) x0)
  go_enter Tryz.func95, Tryz.ntmps95
  go_wp2_with (first | (go_at_call 90; refine (bits_any _ _).mono ?_; rintro e w' ⟨rfl, rfl⟩) | (go_at_call 93; refine (get_any _ _ _ x0 x1 _).mono ?_; rintro e w' ⟨rfl, n, rfl⟩))
  go_ret
  exact ⟨ret_int H.out, n, rfl⟩
theorem starts_any (x s : Int) (x0 : 0 ≤ x) (x1 : x ≤ 18446744073709551615) (w : World) :
    Calls Tryz.prog 62 #[.int .u64 x, .int .i64 s] w fun e w' => e = .returned (.bool (startsB x s)) ∧ ∃ n, w' = w.drewN n := by
  have H := Lib.hid (starts_walk x s)
  cases h : sizeB s
  · rw [h] at H
    go_enter Tryz.func62, Tryz.ntmps62
    go_wp2_with (go_at_call 59; refine (pmay_any _ _).mono ?_; rintro e w' ⟨rfl, rfl⟩)
    go_ret
    exact ⟨ret_bool H.out.symm, 0, rfl⟩
  · rw [h] at H
    go_enter Tryz.func62, Tryz.ntmps62
    go_wp2_with (first | (go_at_call 59; refine (pmay_any _ _).mono ?_; rintro e w' ⟨rfl, rfl⟩) | (go_at_call 95; refine (off_any _ _ x0 x1 _).mono ?_; rintro e w' ⟨rfl, n, rfl⟩))
    go_ret
    exact ⟨ret_bool H.out.symm, n, rfl⟩
theorem mask21_any (w : World) :
    Calls Tryz.prog 94 #[.int .i64 0, .int .i64 21] w fun e w' => e = .returned (.int .u64 2097151) ∧ w = w' :=
  (mask_any 0 21 w).mono fun _ _ ⟨a, b⟩ => ⟨a.trans (ret_int mask_21), b⟩
theorem hole_any (x : Int) (x0 : 0 ≤ x) (x1 : x ≤ 18446744073709551615) (w : World) :
    Calls Tryz.prog 61 #[.int .u64 x] w fun e w' => e = .returned (.bool (holeB x)) ∧ ∃ n, w' = w.drewN n := by
  have H := Lib.hid (hole_walk x x0 x1)
  go_enter Tryz.func61, Tryz.ntmps61
  go_wp2_with fail
  refine (get_any _ _ _ x0 x1 _).mono ?_
  rintro e w' ⟨rfl, n, rfl⟩
  generalize getI x 43 21 = g at *
  cases h : g != 0
  · rw [h, Bool.false_and] at H
    go_wp2
    go_ret
    exact ⟨ret_bool H.out.symm, n, rfl⟩
  · rw [h, Bool.true_and] at H
    go_wp2_with fail
    refine (mask21_any _).mono ?_
    rintro e w' ⟨rfl, rfl⟩
    go_wp2
    go_ret
    exact ⟨ret_bool H.out.symm, n, rfl⟩
end Go.Proofs.YtffpfceclhogoaaGreat.Fld
namespace Go.Proofs.YtffpfceclhogoaaGreat.Fld
open Go.ChangeShapes Go.WideShapes Go.ChangeAt Go.RowKit
set_option maxHeartbeats 400000
theorem rbase_any (x s : Int) (x0 : 0 ≤ x) (x1 : x ≤ 18446744073709551615) (w : World) :
    Calls Tryz.prog 53 #[.int .u64 x, .int .i64 s] w fun e w' => e = .returned (.int .u64 (baseI x s)) ∧ ∃ n, w' = w.drewN n := by
  cases h : sizeB s
  · have H := Lib.hid (show baseI x s = 0 by unfold baseI; rw [h]; rfl)
    go_enter Tryz.func53, Tryz.ntmps53
    go_wp2_with (go_at_call 54; refine (rpmay_any _ _).mono ?_; rintro e w' ⟨rfl, rfl⟩)
    go_ret
    exact ⟨ret_int H.out.symm, 0, rfl⟩
  · have H := Lib.hid (show baseI x s = x / bytesI s * bytesI s by unfold baseI; rw [if_pos h])
    have hb := bytes_pos h
    have hb2 := bytes_bd s
    have hd := div_mul_bd x (bytesI s) x0 (by omega)
    have hn : bytesI s ≠ 0 := by omega
    go_enter Tryz.func53, Tryz.ntmps53
    go_wp2_with (go_at_call 54; refine (rpmay_any _ _).mono ?_; rintro e w' ⟨rfl, rfl⟩)
    go_quiet ((go_at_call 17; exact Calls.quiet_of_same (same_sym (rbytes_any _ _))))
    go_wp2
    go_ret
    exact ⟨ret_int H.out.symm, _, rfl⟩
theorem rstarts_any (x s : Int) (x0 : 0 ≤ x) (x1 : x ≤ 18446744073709551615) (w : World) :
    Calls Tryz.prog 126 #[.int .u64 x, .int .i64 s] w fun e w' => e = .returned (.bool (startsB x s)) ∧ w = w' := by
  cases h : sizeB s
  · have H := Lib.hid (show startsB x s = false by unfold startsB; rw [h]; rfl)
    go_enter Tryz.func126, Tryz.ntmps126
    go_wp2_with (go_at_call 54; refine (rpmay_any _ _).mono ?_; rintro e w' ⟨rfl, rfl⟩)
    go_ret
    exact ⟨ret_bool H.out.symm, rfl⟩
  · have H := Lib.hid (show startsB x s = (x % bytesI s == 0) by unfold startsB; rw [h, Bool.eq_iff_iff]; simp)
    have hb := bytes_pos h
    have hn : bytesI s ≠ 0 := by omega
    go_enter Tryz.func126, Tryz.ntmps126
    go_wp2_with (first | (go_at_call 54; refine (rpmay_any _ _).mono ?_; rintro e w' ⟨rfl, rfl⟩) | (go_at_call 17; refine (rbytes_any _ _).mono ?_; rintro e w' ⟨rfl, rfl⟩))
    go_ret
    exact ⟨ret_bool H.out.symm, rfl⟩
theorem rhole_any (x : Int) (x0 : 0 ≤ x) (x1 : x ≤ 18446744073709551615) (w : World) :
    Calls Tryz.prog 67 #[.int .u64 x] w fun e w' => e = .returned (.bool (holeB x)) ∧ w = w' := by
  have H := Lib.hid (hole_bits x x0 x1)
  go_enter Tryz.func67, Tryz.ntmps67
  go_wp2
  go_loop [3] (fun t => ∃ i : Int, 44 ≤ i ∧ i ≤ 64 ∧ t = .int .i64 i ∧ Hid (∀ j : Int, 44 ≤ j → j < i → bitI x j = bitI x 43)) (fun t => (64 - intOf t).toNat)
  case atStart => exact ⟨44, by omega, by omega, rfl, Lib.hid (fun j a b => by omega)⟩
  case round =>
    obtain ⟨i, hi0, hi1, rfl, HB⟩ := hrel
    by_cases hlt : i < 64
    · cases hq : bitI x i != bitI x 43
      · have hz := Lib.hid (show bitI x i = bitI x 43 by simpa using hq)
        go_wp2_with (go_at_call 92; refine (rbit_any _ _ (by omega) (by omega) (by omega) (by omega) _).mono ?_; rintro e w' ⟨rfl, rfl⟩)
        go_round
        case rel => exact ⟨i + 1, by omega, by omega, rfl, Lib.hid (fun j a b => by
          by_cases e : j = i
          · rw [e]; exact hz.out
          · exact HB.out j a (by omega))⟩
        case measure => simp [intOf]; omega
      · have hF := Lib.hid (show holeB x = true from H.out.2 ⟨i, hi0, hlt, bne_iff_ne.1 hq⟩)
        go_wp2_with (go_at_call 92; refine (rbit_any _ _ (by omega) (by omega) (by omega) (by omega) _).mono ?_; rintro e w' ⟨rfl, rfl⟩)
        go_ret
        exact ⟨ret_bool hF.out.symm, rfl⟩
    · have hF := Lib.hid (show holeB x = false by
        cases h : holeB x
        · rfl
        · obtain ⟨j, a, b, c⟩ := H.out.1 h
          exact absurd (HB.out j a (by omega)) c)
      go_wp2
      go_ret
      exact ⟨ret_bool hF.out.symm, rfl⟩
theorem rva_any (x : Int) (x0 : 0 ≤ x) (x1 : x ≤ 18446744073709551615) (w : World) :
    Calls Tryz.prog 58 #[.int .u64 x] w fun e w' => e = .returned (.int .u64 (vaI x)) ∧ w = w' := by
  have hb := bitI_bd x 43
  cases hq : bitI x 43 == 1
  · have H := Lib.hid (show vaI x = x % 8796093022208 by unfold vaI; rw [if_neg (by simpa using hq)])
    go_enter Tryz.func58, Tryz.ntmps58
    go_wp2_with (go_at_call 92; refine (rbit_any _ _ (by omega) (by omega) (by omega) (by omega) _).mono ?_; rintro e w' ⟨rfl, rfl⟩)
    go_ret
    exact ⟨ret_int H.out.symm, rfl⟩
  · have H := Lib.hid (show vaI x = x % 8796093022208 + 18446735277616529408 by unfold vaI; rw [if_pos (by simpa using hq)])
    go_enter Tryz.func58, Tryz.ntmps58
    go_wp2_with (go_at_call 92; refine (rbit_any _ _ (by omega) (by omega) (by omega) (by omega) _).mono ?_; rintro e w' ⟨rfl, rfl⟩)
    go_ret
    exact ⟨ret_int H.out.symm, rfl⟩
end Go.Proofs.YtffpfceclhogoaaGreat.Fld
namespace Go.Proofs.YtffpfceclhogoaaGreat.Fld
open Go.ChangeShapes Go.WideShapes Go.ChangeAt Go.RowKit
set_option maxHeartbeats 400000
theorem rmeet_any (x s y t : Int) (x0 : 0 ≤ x) (x1 : x ≤ 18446744073709551615) (y0 : 0 ≤ y) (y1 : y ≤ 18446744073709551615) (w : World) :
    Calls Tryz.prog 20 #[.int .u64 x, .int .i64 s, .int .u64 y, .int .i64 t] w fun e w' => e = .returned (.bool (meetB x s y t)) ∧ ∃ n, w' = w.drewN n := by
  cases h : sizeB s
  · have H := Lib.hid (show meetB x s y t = false by unfold meetB; rw [h]; rfl)
    go_enter Tryz.func20, Tryz.ntmps20
    go_wp2_with (go_at_call 54; refine (rpmay_any _ _).mono ?_; rintro e w' ⟨rfl, rfl⟩)
    go_ret
    exact ⟨ret_bool H.out.symm, 0, rfl⟩
  · cases h2 : sizeB t
    · have H := Lib.hid (show meetB x s y t = false by unfold meetB; rw [h, h2]; rfl)
      go_enter Tryz.func20, Tryz.ntmps20
      go_wp2_with (go_at_call 54; refine (rpmay_any _ _).mono ?_; rintro e w' ⟨rfl, rfl⟩)
      go_ret
      exact ⟨ret_bool H.out.symm, 0, rfl⟩
    · have HD := Lib.hid (meet_doc x s y t h h2)
      have b1 := bytes_pos h
      have b2 := bytes_pos h2
      have b3 := bytes_bd s
      have b4 := bytes_bd t
      have c1 := base_bd x s x0 x1
      have c2 := base_bd y t y0 y1
      go_enter Tryz.func20, Tryz.ntmps20
      go_wp2_with fail
      refine (rpmay_any _ _).mono ?_
      rintro e w' ⟨rfl, rfl⟩
      go_wp2_with fail
      refine (rpmay_any _ _).mono ?_
      rintro e w' ⟨rfl, rfl⟩
      go_wp2_with fail
      refine (rbase_any _ _ x0 x1 _).mono ?_
      rintro e w' ⟨rfl, n1, rfl⟩
      go_wp2_with fail
      refine (rbase_any _ _ y0 y1 _).mono ?_
      rintro e w' ⟨rfl, n2, rfl⟩
      generalize baseI x s = p at *
      generalize baseI y t = q at *
      by_cases hpq : q ≤ p
      · by_cases hlt : p - q < bytesI t
        · have H := Lib.hid (show meetB x s y t = true from HD.out.2 (.inl ⟨hpq, hlt⟩))
          go_wp2_with (go_at_call 17; refine (rbytes_any _ _).mono ?_; rintro e w' ⟨rfl, rfl⟩)
          go_ret
          exact ⟨ret_bool H.out.symm, _, rfl⟩
        · by_cases hqp : p ≤ q
          · exfalso; omega
          · have H := Lib.hid (show meetB x s y t = false by
              cases hm : meetB x s y t
              · rfl
              · have := HD.out.1 hm; omega)
            go_wp2_with (go_at_call 17; refine (rbytes_any _ _).mono ?_; rintro e w' ⟨rfl, rfl⟩)
            go_ret
            exact ⟨ret_bool ((decide_eq_false (by omega)).trans H.out.symm), _, rfl⟩
      · have hqp : p ≤ q := by omega
        by_cases hlt : q - p < bytesI s
        · have H := Lib.hid (show meetB x s y t = true from HD.out.2 (.inr ⟨hqp, hlt⟩))
          go_wp2_with (go_at_call 17; refine (rbytes_any _ _).mono ?_; rintro e w' ⟨rfl, rfl⟩)
          go_ret
          exact ⟨ret_bool H.out.symm, _, rfl⟩
        · have H := Lib.hid (show meetB x s y t = false by
            cases hm : meetB x s y t
            · rfl
            · have := HD.out.1 hm; omega)
          go_wp2_with (go_at_call 17; refine (rbytes_any _ _).mono ?_; rintro e w' ⟨rfl, rfl⟩)
          go_ret
          exact ⟨ret_bool ((decide_eq_false (by omega)).trans H.out.symm), _, rfl⟩
end Go.Proofs.YtffpfceclhogoaaGreat.Fld
namespace Go.Proofs.YtffpfceclhogoaaGreat.Hp
open Fld Hs
/-! ### The first number -/
def firstN (f : Nat → Bool) : Nat → Nat
  | 0 => 0
  | m + 1 => if firstN f m < m then firstN f m else if f m then m else m + 1
theorem first_le (f : Nat → Bool) : ∀ m, firstN f m ≤ m
  | 0 => Nat.le_refl _
  | m + 1 => by
    have := first_le f m
    unfold firstN; split
    · omega
    · split <;> omega
theorem first_no (f : Nat → Bool) : ∀ m i, i < firstN f m → f i = false
  | 0, i, h => absurd h (Nat.not_lt_zero _)
  | m + 1, i, h => by
    have hl := first_le f m
    unfold firstN at h
    by_cases h1 : firstN f m < m
    · rw [if_pos h1] at h; exact first_no f m i h
    · rw [if_neg h1] at h
      have hm : firstN f m = m := by omega
      by_cases h2 : f m = true
      · rw [if_pos h2] at h; exact first_no f m i (by omega)
      · rw [if_neg h2] at h
        by_cases e : i = m
        · subst e; simpa using h2
        · exact first_no f m i (by omega)
theorem first_yes (f : Nat → Bool) : ∀ m, firstN f m < m → f (firstN f m) = true
  | 0, h => absurd h (Nat.not_lt_zero _)
  | m + 1, h => by
    unfold firstN at h ⊢
    by_cases h1 : firstN f m < m
    · rw [if_pos h1]; exact first_yes f m h1
    · rw [if_neg h1] at h ⊢
      by_cases h2 : f m = true
      · rw [if_pos h2]; exact h2
      · rw [if_neg h2] at h; omega
theorem first_here {f : Nat → Bool} {m j : Nat} (hj : j < m) (hno : ∀ i, i < j → f i = false) (hy : f j = true) : firstN f m = j := by
  rcases Nat.lt_trichotomy (firstN f m) j with h | h | h
  · have := first_yes f m (by omega)
    rw [hno _ h] at this; cases this
  · exact h
  · have := first_no f m j h
    rw [hy] at this; cases this
theorem first_none {f : Nat → Bool} {m : Nat} (hno : ∀ i, i < m → f i = false) : firstN f m = m := by
  have := first_le f m
  rcases Nat.lt_or_ge (firstN f m) m with h | h
  · have h1 := first_yes f m h
    rw [hno _ h] at h1; cases h1
  · omega
/-! ### Numbers that Go's types hold -/
structure Pg.wf (p : Pg) : Prop where
  v0 : 0 ≤ p.va
  v1 : p.va ≤ 18446744073709551615
  z0 : -9223372036854775808 ≤ p.sz
  z1 : p.sz ≤ 9223372036854775807
  p0 : 0 ≤ p.pa
  p1 : p.pa ≤ 18446744073709551615
def isB (ns s : Int) : Bool := decide (0 ≤ s) && decide (s < ns)
def keyP (s : Int) (p : Pg) : Ky := ⟨s, p.va, p.sz⟩
def kz (s va : Int) (z : Nat) : Ky := ⟨s, baseI va (z : Int), (z : Int)⟩
theorem kz_wf {s va : Int} (s0 : -9223372036854775808 ≤ s) (s1 : s ≤ 9223372036854775807) (v0 : 0 ≤ va) (v1 : va ≤ 18446744073709551615) {z : Nat} (hz : z < 4) : (kz s va z).wf := by
  have := base_bd va (z : Int) v0 v1
  exact ⟨s0, s1, this.1, by simp only [kz]; omega, by simp only [kz]; omega, by simp only [kz]; omega⟩
theorem keyP_wf {s : Int} {p : Pg} (s0 : -9223372036854775808 ≤ s) (s1 : s ≤ 9223372036854775807) (h : p.wf) : (keyP s p).wf := ⟨s0, s1, h.v0, h.v1, h.z0, h.z1⟩
/-! ### What Find answers -/
def findI (n : Nat) (L : Nat → List Bk) (s va : Int) : Nat := firstN (fun z => getB n L (kz s va z)) 4
def lookN (n : Nat) (L : Nat → List Bk) (s va : Int) : Nat → Int
  | 0 => 0
  | z + 1 => lookN n L s va z + getN n L (kz s va z)
def findB (ns : Int) (n : Nat) (L : Nat → List Bk) (s va : Int) : Bool := isB ns s && decide (findI n L s va < 4)
def findV (ns : Int) (n : Nat) (L : Nat → List Bk) (s va : Int) : Pg := if findB ns n L s va then getV n L (kz s va (findI n L s va)) else Pg.zero
def findN (ns : Int) (n : Nat) (L : Nat → List Bk) (s va : Int) : Int := if isB ns s then (if findI n L s va < 4 then lookN n L s va (findI n L s va + 1) else lookN n L s va 4) else 0
theorem getN_bd (n : Nat) (L : Nat → List Bk) (hn : 1 ≤ n) (k : Ky) : 0 ≤ getN n L k ∧ getN n L k ≤ (lngL L n : Int) := by
  have hl := lng_one L (chain_lt k hn)
  unfold getN
  split
  · rename_i h
    have : posN (L (chainN k n)) k < (L (chainN k n)).length := by
      unfold getB at h; simp only [Bool.and_eq_true] at h; exact has_lt h.2
    omega
  · split <;> omega
theorem look_bd (n : Nat) (L : Nat → List Bk) (hn : 1 ≤ n) (s va : Int) : ∀ z : Nat, 0 ≤ lookN n L s va z ∧ lookN n L s va z ≤ (z : Int) * (lngL L n : Int)
  | 0 => by simp [lookN]
  | z + 1 => by
    have h1 := look_bd n L hn s va z
    have h2 := getN_bd n L hn (kz s va z)
    have e : ((z + 1 : Nat) : Int) * (lngL L n : Int) = (z : Int) * (lngL L n : Int) + (lngL L n : Int) := by
      rw [Int.natCast_add, Int.add_mul]; simp
    simp only [lookN]
    rw [e]; omega
/-! ### Less pages within one -/
/-- Is one of the first j places of the size z within p taken? -/
def slotB (n : Nat) (L : Nat → List Bk) (s : Int) (p : Pg) (z : Nat) (j : Nat) : Bool := getB n L ⟨s, p.va + (j : Int) * bytesI (z : Int), (z : Int)⟩
/-- How many places of the size z a page of the size t has. -/
def slots (t z : Nat) : Nat := 8 ^ (t - z)
theorem slots_eq {t z : Nat} (ht : t < 4) (hz : z ≤ t) : (slots t z : Int) * bytesI (z : Int) = bytesI (t : Int) := by
  have h1 : t = 0 ∨ t = 1 ∨ t = 2 ∨ t = 3 := by omega
  have h2 : z = 0 ∨ z = 1 ∨ z = 2 ∨ z = 3 := by omega
  rcases h1 with rfl | rfl | rfl | rfl <;> rcases h2 with rfl | rfl | rfl | rfl <;> first | omega | decide
def holdZ (n : Nat) (L : Nat → List Bk) (s : Int) (p : Pg) (z : Nat) : Bool := decide (firstN (slotB n L s p z) (slots p.sz.toNat z) < slots p.sz.toNat z)
def holdB (n : Nat) (L : Nat → List Bk) (s : Int) (p : Pg) : Bool := decide (firstN (holdZ n L s p) p.sz.toNat < p.sz.toNat)
def meetsB (ns : Int) (n : Nat) (L : Nat → List Bk) (s : Int) (p : Pg) : Bool := findB ns n L s p.va || holdB n L s p
def mayPaB (p : Pg) : Bool := decide (p.pa < 2199023255552) && startsB p.pa p.sz
def mayE (ns bl : Int) (n : Nat) (L : Nat → List Bk) (s : Int) (p : Pg) : Int :=
  if (isB ns s && sizeB p.sz && mayPaB p) = false then 1
  else if holeB p.va then 3
  else if startsB p.va p.sz = false then 4
  else if meetsB ns n L s p then 9
  else if bl - (lenL L n : Int) = 0 then 6
  else 0
def atE (ns : Int) (n : Nat) (L : Nat → List Bk) (s va : Int) : Int := if isB ns s = false then 1 else if findB ns n L s va then 0 else 10
theorem find_not {ns : Int} {n : Nat} {L : Nat → List Bk} {s va : Int} (h : findB ns n L s va = false) : findV ns n L s va = Pg.zero := by unfold findV; rw [h]; rfl
end Go.Proofs.YtffpfceclhogoaaGreat.Hp
namespace Go.Proofs.YtffpfceclhogoaaGreat.Hs
open Fld
open Go.ChangeShapes Go.WideShapes Go.ChangeAt Go.RowKit Go.Maps
set_option maxHeartbeats 400000
/-! ### Rows -/
def bkC (b : Bk) : List Value := [.int .i64 b.k.sp, .int .u64 b.k.va, .int .i64 b.k.sz, .int .i64 b.v]
def bkL : List Bk → List Value
  | [] => []
  | b :: l => bkC b ++ bkL l
theorem bkL_append : ∀ (l m : List Bk), bkL (l ++ m) = bkL l ++ bkL m
  | [], _ => rfl
  | b :: l, m => by simp [bkL, bkL_append l m]
theorem bkL_length : ∀ l : List Bk, (bkL l).length = l.length * 4
  | [] => rfl
  | b :: l => by simp [bkL, bkC, bkL_length l]; omega
theorem bkL_drop : ∀ (l : List Bk) (i : Nat), (bkL l).drop (i * 4) = bkL (l.drop i)
  | l, 0 => by simp
  | [], i + 1 => by simp [bkL]
  | b :: l, i + 1 => by
    have := bkL_drop l i
    rw [show (i + 1) * 4 = i * 4 + 1 + 1 + 1 + 1 by omega]
    simpa [bkL, bkC] using this
theorem bkL_take : ∀ (l : List Bk) (i : Nat), (bkL l).take (i * 4) = bkL (l.take i)
  | l, 0 => by simp [bkL]
  | [], i + 1 => by simp [bkL]
  | b :: l, i + 1 => by
    have := bkL_take l i
    rw [show (i + 1) * 4 = i * 4 + 1 + 1 + 1 + 1 by omega]
    simpa [bkL, bkC] using this
theorem bkL_get : ∀ (l : List Bk) (i : Nat), i < l.length → (bkL l)[i * 4]? = some (.int .i64 (at_ l i).k.sp) ∧ (bkL l)[i * 4 + 1]? = some (.int .u64 (at_ l i).k.va) ∧ (bkL l)[i * 4 + 2]? = some (.int .i64 (at_ l i).k.sz) ∧ (bkL l)[i * 4 + 3]? = some (.int .i64 (at_ l i).v)
  | [], i, h => absurd h (Nat.not_lt_zero _)
  | b :: l, 0, _ => ⟨rfl, rfl, rfl, rfl⟩
  | b :: l, i + 1, h => by
    have := bkL_get l i (by simpa using h)
    rw [at_cons]
    have e : ∀ j, (bkL (b :: l))[(i + 1) * 4 + j]? = (bkL l)[i * 4 + j]? := fun j => by
      rw [show (i + 1) * 4 + j = (i * 4 + j) + 4 by omega]
      simp [bkL, bkC]
    exact ⟨(e 0).trans this.1, (e 1).trans this.2.1, (e 2).trans this.2.2.1, (e 3).trans this.2.2.2⟩
theorem bkL_one : ∀ (l : List Bk), ∀ u ∈ bkL l, u.oneCell' = true
  | [], u, h => by simp [bkL] at h
  | b :: l, u, h => by
    rcases List.mem_append.1 (show u ∈ bkC b ++ bkL l from h) with h | h
    · simp [bkC] at h; rcases h with rfl | rfl | rfl | rfl <;> rfl
    · exact bkL_one l u h
/-- The cells of a row, behind one another. -/
structure RowC (w : World) (g : Nat) (l : List Bk) (i : Nat) : Prop where
  a : w.cell? ⟨g, i * 4, none⟩ = some (.int .i64 (at_ l i).k.sp)
  b : w.cell? ⟨g, i * 4 + 1, none⟩ = some (.int .u64 (at_ l i).k.va)
  c : w.cell? ⟨g, i * 4 + 2, none⟩ = some (.int .i64 (at_ l i).k.sz)
  d : w.cell? ⟨g, i * 4 + 3, none⟩ = some (.int .i64 (at_ l i).v)
theorem own_rowC {w : World} {B e g : Nat} {v : Value} {l : List Bk} (h : w.ownsRow B e 4 v l.length (bkL l)) (hg : v.ownBlock = some g) {i : Nat} (hi : i < l.length) : RowC w g l i := by
  have hc := h.cells hg
  have hadd : ∀ j, (⟨g, 0, none⟩ : Addr).add j = ⟨g, j, none⟩ := fun j => by unfold Addr.add; split <;> simp_all
  obtain ⟨a, b, c, d⟩ := bkL_get l i hi
  have h1 := hc _ _ a; have h2 := hc _ _ b; have h3 := hc _ _ c; have h4 := hc _ _ d
  rw [hadd] at h1 h2 h3 h4
  exact ⟨h1, h2, h3, h4⟩
theorem own_form {w : World} {B e s n : Nat} {v : Value} {xs : List Value} (h : w.ownsRow B e s v n xs) : v = .slice none 0 0 ∧ n = 0 ∨ ∃ g cap, v = .slice (some ⟨g, 0, none⟩) n cap ∧ v.ownBlock = some g ∧ n ≤ cap ∧ cap ≤ maxLen := by
  rcases h.2 with h | ⟨g, cap, cur, rfl, _, _, h1, h2, _⟩
  · exact .inl h
  · exact .inr ⟨g, cap, rfl, rfl, h1, h2⟩

/-! ### The map -/
theorem lawI : Keyed Tryz.prog 3 := int_keyed Tryz.underlying3
def nilS : Value := .slice none 0 0
/-- How a row's slice reads. -/
def hdD : Value → DataW Unit
  | .slice none n c => .slice [.lit (.int .i64 (n : Int)), .lit (.int .i64 (c : Int))] []
  | .slice (some ⟨g, o, none⟩) n c => .slice [.lit (.int .i64 (g : Int)), .lit (.int .i64 (o : Int)), .lit (.int .i64 (n : Int)), .lit (.int .i64 (c : Int))] []
  | _ => .nil
def hdR (v : Value) : Option (DataW Unit × List MemPlace) := match v with
  | .slice none n c => some (hdD (.slice none n c), [])
  | .slice (some ⟨g, o, none⟩) n c => some (hdD (.slice (some ⟨g, o, none⟩) n c), [])
  | _ => none
theorem hdR_inv {v : Value} {y : DataW Unit × List MemPlace} (h : hdR v = some y) : y = (hdD v, []) ∧ ((∃ n c, v = .slice none n c) ∨ ∃ g o n c, v = .slice (some ⟨g, o, none⟩) n c) := by
  unfold hdR at h
  split at h
  · cases h; exact ⟨rfl, .inl ⟨_, _, rfl⟩⟩
  · cases h; exact ⟨rfl, .inr ⟨_, _, _, _, rfl⟩⟩
  · cases h
theorem hdD_inj {v v' : Value} {y y' : DataW Unit × List MemPlace} (h : hdR v = some y) (h' : hdR v' = some y') (e : hdD v = hdD v') : v = v' := by
  obtain ⟨_, (⟨n, c, rfl⟩ | ⟨g, o, n, c, rfl⟩)⟩ := hdR_inv h <;> obtain ⟨_, (⟨n', c', rfl⟩ | ⟨g', o', n', c', rfl⟩)⟩ := hdR_inv h' <;> simp [hdD] at e ⊢ <;> omega
theorem hdR_own {w : World} {B e s n : Nat} {v : Value} {xs : List Value} (h : w.ownsRow B e s v n xs) : hdR v = some (hdD v, []) := by
  rcases own_form h with ⟨rfl, _⟩ | ⟨g, cap, rfl, _⟩ <;> rfl
theorem hdR_nil : hdR nilS = some (hdD nilS, []) := rfl
abbrev keyL (x : Int) : Lit := .int .i64 x
theorem keyL_lit {x : Int} : WideAt.IsKeyLit (keyL x) := trivial
theorem keyL_ne {x y : Int} (h : x ≠ y) : keyL x ≠ keyL y := fun e => by injection e with _ e; exact h e
theorem wfI {a : Int} (h0 : -9223372036854775808 ≤ a) (h1 : a ≤ 9223372036854775807) : (Lit.int .i64 a).wf = true := by
  simp only [Lit.wf, IntKind.min, IntKind.max, Bool.and_eq_true, decide_eq_true_eq, show IntKind.i64.signed = true from rfl, show IntKind.i64.bits = 64 from rfl, if_true]
  exact ⟨by omega, by omega⟩
def rowV (n : Nat) (V : Nat → Value) (x : Int) : Value := if 0 ≤ x ∧ x < (n : Int) then V x.toNat else nilS
theorem rowV_in {n : Nat} {V : Nat → Value} {i : Nat} (h : i < n) : rowV n V (i : Int) = V i := by unfold rowV; rw [if_pos ⟨by omega, by omega⟩]; simp
/-- The map D has the rows V that are not nil. -/
structure MapIs (D : DataW Unit) (n : Nat) (V : Nat → Value) : Prop where
  at_ : ∀ x : Int, D.atKey (keyL x) (hdD nilS) = hdD (rowV n V x)
  has_ : ∀ kl, Maps.has D kl = true → ∃ i : Nat, i < n ∧ kl = keyL (i : Int) ∧ V i ≠ nilS
  nz : ∀ i, i < n → V i ≠ nilS → Maps.has D (keyL (i : Int)) = true
theorem MapIs.empty (n : Nat) : MapIs (.map []) n (fun _ => nilS) where
  at_ x := by unfold rowV; split <;> rfl
  has_ kl h := by cases h
  nz i _ h := absurd rfl h
def setV (V : Nat → Value) (c : Nat) (v : Value) : Nat → Value := fun i => if i = c then v else V i
theorem setV_same (V : Nat → Value) (c : Nat) (v : Value) : setV V c v c = v := by simp [setV]
theorem setV_other (V : Nat → Value) {c i : Nat} (v : Value) (h : i ≠ c) : setV V c v i = V i := by simp [setV, h]
theorem rowV_set {n : Nat} {V : Nat → Value} {c : Nat} {v : Value} (hc : c < n) {x : Int} : rowV n (setV V c v) x = if x = (c : Int) then v else rowV n V x := by
  by_cases h : x = (c : Int)
  · subst h; rw [if_pos rfl, rowV_in hc, setV_same]
  · rw [if_neg h]; unfold rowV
    split
    · rw [setV_other V v (by omega)]
    · rfl
theorem MapIs.put {D : DataW Unit} {n : Nat} {V : Nat → Value} (h : MapIs D n V) (hm : IsMap D) {c : Nat} (hc : c < n) {v : Value} (hv : v ≠ nilS) : MapIs (D.put (keyL (c : Int)) (hdD v)) n (setV V c v) where
  at_ x := by
    rw [rowV_set hc]
    by_cases e : x = (c : Int)
    · subst e; rw [if_pos rfl]; exact atKey_put_same hm keyL_lit _ _
    · rw [if_neg e, atKey_put_other (keyL_ne e)]; exact h.at_ x
  has_ kl hkl := by
    by_cases e : kl = keyL (c : Int)
    · exact ⟨c, hc, e, by rw [setV_same]; exact hv⟩
    · rw [has_put_other e] at hkl
      obtain ⟨i, a, b, d⟩ := h.has_ kl hkl
      exact ⟨i, a, b, by rw [setV_other V v (fun e2 => e (by rw [b, e2]))]; exact d⟩
  nz i hi hn := by
    by_cases e : i = c
    · subst e; exact has_put_same hm keyL_lit _
    · rw [setV_other V v e] at hn; rw [has_put_other (keyL_ne (by omega))]; exact h.nz i hi hn
theorem MapIs.del {D : DataW Unit} {n : Nat} {V : Nat → Value} (h : MapIs D n V) {c : Nat} (hc : c < n) : MapIs (D.del (keyL (c : Int))) n (setV V c nilS) where
  at_ x := by
    rw [rowV_set hc]
    by_cases e : x = (c : Int)
    · subst e; rw [if_pos rfl]; exact atKey_del_same _
    · rw [if_neg e, atKey_del_other (keyL_ne e)]; exact h.at_ x
  has_ kl hkl := by
    by_cases e : kl = keyL (c : Int)
    · subst e; rw [has_del_same] at hkl; cases hkl
    · rw [has_del_other e] at hkl
      obtain ⟨i, a, b, d⟩ := h.has_ kl hkl
      exact ⟨i, a, b, by rw [setV_other V _ (fun e2 => e (by rw [b, e2]))]; exact d⟩
  nz i hi hn := by
    by_cases e : i = c
    · subst e; rw [setV_same] at hn; exact absurd rfl hn
    · rw [setV_other V _ e] at hn; rw [has_del_other (keyL_ne (by omega))]; exact h.nz i hi hn
theorem nodup_sub {α : Type} [DecidableEq α] : ∀ (l m : List α), l.Nodup → (∀ x ∈ l, x ∈ m) → l.length ≤ m.length
  | [], _, _, _ => Nat.zero_le _
  | x :: l, m, hn, h => by
    obtain ⟨h1, h2⟩ := List.nodup_cons.1 hn
    have := nodup_sub l (m.erase x) h2 (fun y hy => (List.mem_erase_of_ne (fun e => h1 (by rw [← e]; exact hy))).2 (h y (List.mem_cons_of_mem _ hy)))
    rw [List.length_erase_of_mem (h x List.mem_cons_self)] at this
    have := List.length_pos_of_mem (h x List.mem_cons_self)
    simp; omega
/-- A map has no more entries than there are chains with keys. -/
def nilB : Value → Bool
  | .slice none 0 0 => true
  | _ => false
theorem nilB_iff {v : Value} : nilB v = true ↔ v = nilS := by
  unfold nilB nilS
  split
  · simp
  · rename_i h; simp only [Bool.false_eq_true, false_iff]; exact fun e => h e
def liveN (V : Nat → Value) : Nat → List Nat
  | 0 => []
  | n + 1 => if nilB (V n) then liveN V n else liveN V n ++ [n]
theorem mem_live {V : Nat → Value} {i : Nat} : ∀ {n : Nat}, i ∈ liveN V n ↔ i < n ∧ V i ≠ nilS
  | 0 => by simp [liveN]
  | n + 1 => by
    unfold liveN
    by_cases h : V n = nilS
    · rw [if_pos (nilB_iff.2 h), mem_live]
      constructor
      · rintro ⟨a, b⟩; exact ⟨by omega, b⟩
      · rintro ⟨a, b⟩
        by_cases e : i = n
        · subst e; exact absurd h b
        · exact ⟨by omega, b⟩
    · rw [if_neg (fun e => h (nilB_iff.1 e)), List.mem_append, mem_live]
      constructor
      · rintro (⟨a, b⟩ | b)
        · exact ⟨by omega, b⟩
        · obtain rfl : i = n := by simpa using b
          exact ⟨by omega, h⟩
      · rintro ⟨a, b⟩
        by_cases e : i = n
        · right; simp [e]
        · exact .inl ⟨by omega, b⟩
theorem live_rises (V : Nat → Value) : ∀ n, (liveN V n).Pairwise (· < ·)
  | 0 => List.Pairwise.nil
  | n + 1 => by
    unfold liveN
    split
    · exact live_rises V n
    · refine List.pairwise_append.2 ⟨live_rises V n, by simp, fun a ha b hb => ?_⟩
      obtain rfl : b = n := by simpa using hb
      exact (mem_live.1 ha).1
theorem MapIs.size_le {D : DataW Unit} {n : Nat} {V : Nat → Value} (h : MapIs D n V) (ht : Canon D) : Maps.size D ≤ (liveN V n).length := by
  classical
  obtain ⟨es, rfl, hr, hl⟩ := ht
  have hp := apart_of_rising hr
  have h1 := nodup_sub (es.map (·.1)) ((liveN V n).map (fun i : Nat => keyL (i : Int))) (List.pairwise_map.2 hp) (fun x hx => by
    obtain ⟨q, hq, rfl⟩ := List.mem_map.1 hx
    obtain ⟨i, hi, e, hv⟩ := h.has_ q.1 (List.any_eq_true.2 ⟨q, hq, WideAt.sameKey_self (hl q hq)⟩)
    exact List.mem_map.2 ⟨i, mem_live.2 ⟨hi, hv⟩, e.symm⟩)
  simpa [Maps.size] using h1
abbrev Owns (w : World) (b n : Nat) (D : DataW Unit) : Prop := w.ownsMap Tryz.prog 3 hdR b n D
theorem owns_size {w : World} {b n : Nat} {D : DataW Unit} (h : Owns w b n D) : Owns w b (Maps.size D) D := by
  obtain ⟨es, clock, hb, F, _, rfl⟩ := h
  exact ⟨es, clock, hb, F, by simp [Maps.size, length_sorted], rfl⟩

/-! ### The table -/
/-- A table's own blocks. -/
def own (sb bm n : Nat) (V : Nat → Value) (k : Nat) : Prop := k = sb ∨ k = bm ∨ ∃ i, i < n ∧ (V i).ownBlock = some k
/-- Of what was in w all stays but O. -/
structure Turn (w w' : World) (O : Nat → Prop) : Prop where
  os : w'.os = w.os
  tape : w'.tape = w.tape
  output : w'.output = w.output
  size : w.heap.size ≤ w'.heap.size
  block : ∀ k, k < w.heap.size → ¬ O k → w'.heap[k]? = w.heap[k]?
theorem own_obj {w : World} {B e s n g : Nat} {v : Value} {xs : List Value} (h : w.ownsRow B e s v n xs) (hg : v.ownBlock = some g) : ∃ cur, w.heap[g]? = some (.cells cur e (0, 0)) := by
  rcases h.2 with ⟨rfl, _⟩ | ⟨g', cap, cur, rfl, _, h1, _⟩
  · simp [Value.ownBlock] at hg
  · simp [Value.ownBlock] at hg; subst hg; exact ⟨cur, h1⟩
/-- A table stands as long as its own blocks stay. -/
theorem own_same {w w' : World} {B e s n : Nat} {v : Value} {xs : List Value} (h : w.ownsRow B e s v n xs) (hb : ∀ g, v.ownBlock = some g → w'.heap[g]? = w.heap[g]?) : w'.ownsRow B e s v n xs := by
  refine ⟨h.1, ?_⟩
  rcases h.2 with hn | ⟨g, cap, cur, rfl, hB, hgg, rest⟩
  · exact .inl hn
  · exact .inr ⟨g, cap, cur, rfl, hB, (hb g rfl).trans hgg, rest⟩
theorem own_base {w : World} {B e s n : Nat} {v : Value} {xs : List Value} (h : w.ownsRow B e s v n xs) : w.ownsRow 0 e s v n xs := by
  refine ⟨h.1, ?_⟩
  rcases h.2 with hn | ⟨g, cap, cur, rfl, _, rest⟩
  · exact .inl hn
  · exact .inr ⟨g, cap, cur, rfl, Nat.zero_le _, rest⟩
theorem map_same {w w' : World} {b n : Nat} {V : Nat → Value} (h : ∃ D, Owns w b (Maps.size D) D ∧ MapIs D n V) (hb : w'.heap[b]? = w.heap[b]?) : ∃ D, Owns w' b (Maps.size D) D ∧ MapIs D n V := by
  obtain ⟨D, ⟨es, clock, h1, h2⟩, h3⟩ := h
  exact ⟨D, ⟨es, clock, hb.trans h1, h2⟩, h3⟩
theorem Turn.refl (w : World) (O : Nat → Prop) : Turn w w O := ⟨rfl, rfl, rfl, Nat.le_refl _, fun _ _ _ => rfl⟩
theorem Turn.trans {a b c : World} {O O' : Nat → Prop} (h : Turn a b O) (k : Turn b c O') (hO : ∀ k, O' k → O k ∨ a.heap.size ≤ k) : Turn a c O :=
  ⟨k.os.trans h.os, k.tape.trans h.tape, k.output.trans h.output, Nat.le_trans h.size k.size, fun i hi h1 => (k.block i (Nat.lt_of_lt_of_le hi h.size) (fun e => (hO i e).elim h1 (by omega))).trans (h.block i hi h1)⟩
theorem Turn.below {a b c : World} {O : Nat → Prop} (h : Turn a b O) (k : Below b.heap.size b c) : Turn a c O :=
  ⟨k.os.trans h.os, k.tape.trans h.tape, k.output.trans h.output, Nat.le_trans h.size k.size, fun i hi h1 => (k.block i (Nat.lt_of_lt_of_le hi h.size)).trans (h.block i hi h1)⟩
theorem Turn.low {a b : World} (O : Nat → Prop) (k : Below a.heap.size a b) : Turn a b O := (Turn.refl a O).below k
theorem Turn.grown {a b c : World} {O : Nat → Prop} {row : Option Nat} (h : Turn a b O) (k : b.grownBy c row) (hr : ∀ j, row = some j → O j ∨ a.heap.size ≤ j) : Turn a c O :=
  ⟨k.os.trans h.os, k.tape.trans h.tape, k.output.trans h.output, Nat.le_trans h.size k.size, fun i hi h1 =>
    (k.block i (Nat.lt_of_lt_of_le hi h.size) (fun e => (hr i e.symm).elim h1 (by omega))).trans (h.block i hi h1)⟩
theorem Turn.drew {a b : World} {O : Nat → Prop} (h : Turn a b O) : Turn a b.drew O := ⟨h.os, h.tape, h.output, h.size, h.block⟩
theorem Turn.drewN {a b : World} {O : Nat → Prop} (h : Turn a b O) (m : Nat) : Turn a (b.drewN m) O := ⟨h.os, h.tape, h.output, h.size, h.block⟩
theorem Turn.alloc {a b : World} {O : Nat → Prop} (h : Turn a b O) (o : Obj) : Turn a (b.alloc o) O :=
  h.below ((Below.refl _ _).alloc (Nat.le_refl _) o)
theorem Turn.setCell {a b : World} {O : Nat → Prop} (h : Turn a b O) (p : Addr) (hp : O p.block ∨ a.heap.size ≤ p.block) (u : Value) : Turn a (b.setCell p u) O :=
  ⟨h.os, h.tape, h.output, by simpa [World.setCell] using h.size, fun i hi h1 => (Below.heap_setCell _ _ _ _ (by rintro rfl; exact hp.elim h1 (by omega))).trans (h.block i hi h1)⟩
end Go.Proofs.YtffpfceclhogoaaGreat.Hs
namespace Go.Proofs.YtffpfceclhogoaaGreat.Hp
open Fld Hs
open Go.ChangeShapes Go.WideShapes Go.ChangeAt Go.RowKit Go.Maps
set_option maxHeartbeats 400000
/-! ### Rows -/
def pgC (p : Pg) : List Value := [.int .u64 p.va, .int .i64 p.sz, .int .u64 p.pa, .bool p.att.write, .bool p.att.priv, .bool p.att.exec, .bool p.att.lock, .bool p.att.global, .bool p.att.quiet, .bool p.ref, .bool p.mod]
def bkC (b : Bk) : List Value := [.int .i64 b.k.sp, .int .u64 b.k.va, .int .i64 b.k.sz, .int .u64 b.v.va, .int .i64 b.v.sz, .int .u64 b.v.pa, .bool b.v.att.write, .bool b.v.att.priv, .bool b.v.att.exec, .bool b.v.att.lock, .bool b.v.att.global, .bool b.v.att.quiet, .bool b.v.ref, .bool b.v.mod]
def bkL : List Bk → List Value
  | [] => []
  | b :: l => bkC b ++ bkL l
theorem bkL_append : ∀ (l m : List Bk), bkL (l ++ m) = bkL l ++ bkL m
  | [], _ => rfl
  | b :: l, m => by simp [bkL, bkL_append l m]
theorem bkL_length : ∀ l : List Bk, (bkL l).length = l.length * 14
  | [] => rfl
  | b :: l => by simp [bkL, bkC, bkL_length l]; omega
theorem bkL_drop : ∀ (l : List Bk) (i : Nat), (bkL l).drop (i * 14) = bkL (l.drop i)
  | l, 0 => by simp
  | [], i + 1 => by simp [bkL]
  | b :: l, i + 1 => by
    have := bkL_drop l i
    rw [show (i + 1) * 14 = i * 14 + 1 + 1 + 1 + 1 + 1 + 1 + 1 + 1 + 1 + 1 + 1 + 1 + 1 + 1 by omega]
    simpa [bkL, bkC] using this
theorem bkL_take : ∀ (l : List Bk) (i : Nat), (bkL l).take (i * 14) = bkL (l.take i)
  | l, 0 => by simp [bkL]
  | [], i + 1 => by simp [bkL]
  | b :: l, i + 1 => by
    have := bkL_take l i
    rw [show (i + 1) * 14 = i * 14 + 1 + 1 + 1 + 1 + 1 + 1 + 1 + 1 + 1 + 1 + 1 + 1 + 1 + 1 by omega]
    simpa [bkL, bkC] using this
theorem bkL_at : ∀ (l : List Bk) (i : Nat), i < l.length → ∀ (j : Nat) (v : Value), (bkC (at_ l i))[j]? = some v → (bkL l)[i * 14 + j]? = some v
  | [], i, h => absurd h (Nat.not_lt_zero _)
  | b :: l, 0, _ => fun j v h => by
    rw [Nat.zero_mul, Nat.zero_add]
    have h : (bkC b)[j]? = some v := h
    show (bkC b ++ bkL l)[j]? = some v
    rw [List.getElem?_append_left (List.getElem?_eq_some_iff.1 h).1]; exact h
  | b :: l, i + 1, h => fun j v hj => by
    rw [at_cons] at hj
    have := bkL_at l i (by simpa using h) j v hj
    rw [show (i + 1) * 14 + j = (i * 14 + j) + 14 by omega]
    show (bkC b ++ bkL l)[(i * 14 + j) + 14]? = some v
    rw [List.getElem?_append_right (by simp [bkC])]
    simpa [bkC] using this
theorem bkC_one (b : Bk) : ∀ u ∈ bkC b, u.oneCell' = true := by
  intro u h
  simp only [bkC, List.mem_cons, List.not_mem_nil, or_false] at h
  rcases h with rfl | rfl | rfl | rfl | rfl | rfl | rfl | rfl | rfl | rfl | rfl | rfl | rfl | rfl <;> rfl
theorem bkL_one : ∀ (l : List Bk), ∀ u ∈ bkL l, u.oneCell' = true
  | [], u, h => by simp [bkL] at h
  | b :: l, u, h => by
    rcases List.mem_append.1 (show u ∈ bkC b ++ bkL l from h) with h | h
    · exact bkC_one b u h
    · exact bkL_one l u h
theorem set_row {w : World} {g : Nat} {t : TypeId} {cs : Array Value} (h : w.heap[g]? = some (.cells cs t (0, 0))) (i : Nat) (u : Value) : (w.setCell ⟨g, i, none⟩ u).heap[g]? = some (.cells (cs.setIfInBounds i u) t (0, 0)) := by
  rw [setCell_eq_setRow w g i _ _ _ _ h]
  exact setRow_heap w g _ _ _ _ h
theorem setCell_size (w : World) (p : Addr) (u : Value) : (w.setCell p u).heap.size = w.heap.size := by simp [World.setCell]
theorem setCell_os (w : World) (p : Addr) (u : Value) : (w.setCell p u).os = w.os ∧ (w.setCell p u).tape = w.tape ∧ (w.setCell p u).output = w.output := ⟨rfl, rfl, rfl⟩
/-- The cells of a row, behind one another. -/
structure RowC (w : World) (g : Nat) (l : List Bk) (i : Nat) : Prop where
  c0 : w.cell? ⟨g, i * 14, none⟩ = some (.int .i64 (at_ l i).k.sp)
  c1 : w.cell? ⟨g, i * 14 + 1, none⟩ = some (.int .u64 (at_ l i).k.va)
  c2 : w.cell? ⟨g, i * 14 + 2, none⟩ = some (.int .i64 (at_ l i).k.sz)
  c3 : w.cell? ⟨g, i * 14 + 3, none⟩ = some (.int .u64 (at_ l i).v.va)
  c4 : w.cell? ⟨g, i * 14 + 4, none⟩ = some (.int .i64 (at_ l i).v.sz)
  c5 : w.cell? ⟨g, i * 14 + 5, none⟩ = some (.int .u64 (at_ l i).v.pa)
  c6 : w.cell? ⟨g, i * 14 + 6, none⟩ = some (.bool (at_ l i).v.att.write)
  c7 : w.cell? ⟨g, i * 14 + 7, none⟩ = some (.bool (at_ l i).v.att.priv)
  c8 : w.cell? ⟨g, i * 14 + 8, none⟩ = some (.bool (at_ l i).v.att.exec)
  c9 : w.cell? ⟨g, i * 14 + 9, none⟩ = some (.bool (at_ l i).v.att.lock)
  c10 : w.cell? ⟨g, i * 14 + 10, none⟩ = some (.bool (at_ l i).v.att.global)
  c11 : w.cell? ⟨g, i * 14 + 11, none⟩ = some (.bool (at_ l i).v.att.quiet)
  c12 : w.cell? ⟨g, i * 14 + 12, none⟩ = some (.bool (at_ l i).v.ref)
  c13 : w.cell? ⟨g, i * 14 + 13, none⟩ = some (.bool (at_ l i).v.mod)
theorem own_rowC {w : World} {B e g : Nat} {v : Value} {l : List Bk} (h : w.ownsRow B e 14 v l.length (bkL l)) (hg : v.ownBlock = some g) {i : Nat} (hi : i < l.length) : RowC w g l i := by
  have hc := h.cells hg
  have hadd : ∀ j, (⟨g, 0, none⟩ : Addr).add j = ⟨g, j, none⟩ := fun j => by unfold Addr.add; split <;> simp_all
  have key : ∀ (j : Nat) (v : Value), (bkC (at_ l i))[j]? = some v → w.cell? ⟨g, i * 14 + j, none⟩ = some v := fun j v hj => by
    have := hc _ _ (bkL_at l i hi j v hj); rwa [hadd] at this
  exact ⟨key 0 _ rfl, key 1 _ rfl, key 2 _ rfl, key 3 _ rfl, key 4 _ rfl, key 5 _ rfl, key 6 _ rfl, key 7 _ rfl, key 8 _ rfl, key 9 _ rfl, key 10 _ rfl, key 11 _ rfl, key 12 _ rfl, key 13 _ rfl⟩
/-! ### The table -/
/-- At block sb of w there is a table of bl blocks and n chains L; its map is block bm; the row of chain i is V i. -/
structure TabAt (w : World) (sb bm n : Nat) (bl : Int) (L : Nat → List Bk) (V : Nat → Value) : Prop where
  row : w.heap[sb]? = some (.cells #[.int .i64 bl, .int .i64 (lenL L n : Int), .int .i64 (n : Int), .map (some bm)] 110 (0, 0))
  map : ∃ D, Owns w bm (Maps.size D) D ∧ MapIs D n V
  rows : ∀ i, i < n → w.ownsRow 0 133 14 (V i) (L i).length (bkL (L i))
  nil : ∀ i, i < n → L i = [] → V i = nilS
  apart : ∀ i j g, i < n → j < n → (V i).ownBlock = some g → (V j).ownBlock = some g → i = j
  good : Good n L
  n0 : 1 ≤ n
  n1 : n ≤ 9223372036854775807
  few : (lenL L n : Int) ≤ bl
  b1 : bl ≤ 1073741824
def Tab (w : World) (sb : Nat) (O : Nat → Prop) (n : Nat) (bl : Int) (L : Nat → List Bk) : Prop := ∃ bm V, TabAt w sb bm n bl L V ∧ ∀ k, O k ↔ own sb bm n V k
/-- What a call does to a table. -/
def TabTo (w w' : World) (sb : Nat) (O : Nat → Prop) (n : Nat) (bl : Int) (L : Nat → List Bk) : Prop := ∃ O', Tab w' sb O' n bl L ∧ Turn w w' O ∧ ∀ k, O' k → O k ∨ w.heap.size ≤ k

theorem TabAt.nilV {w : World} {sb bm n : Nat} {bl : Int} {L : Nat → List Bk} {V : Nat → Value} (h : TabAt w sb bm n bl L V) {i : Nat} (hi : i < n) (hv : V i = nilS) : L i = [] := by
  rcases own_form (h.rows i hi) with ⟨_, e⟩ | ⟨g, cap, e, _⟩
  · exact List.eq_nil_of_length_eq_zero e
  · rw [e] at hv; cases hv
theorem TabAt.lt {w : World} {sb bm n : Nat} {bl : Int} {L : Nat → List Bk} {V : Nat → Value} (h : TabAt w sb bm n bl L V) {k : Nat} (hk : own sb bm n V k) : k < w.heap.size := by
  rcases hk with rfl | rfl | ⟨i, hi, e⟩
  · exact (Array.getElem?_eq_some_iff.1 h.row).1
  · obtain ⟨D, ho, _⟩ := h.map; exact ho.lt
  · exact ((h.rows i hi).lt k e).2
theorem TabAt.bm_ne {w : World} {sb bm n : Nat} {bl : Int} {L : Nat → List Bk} {V : Nat → Value} (h : TabAt w sb bm n bl L V) : bm ≠ sb := by
  obtain ⟨D, ⟨es, clock, h2, _⟩, _⟩ := h.map
  have h1 := h.row
  rintro rfl; rw [h1] at h2; cases h2
theorem TabAt.row_ne {w : World} {sb bm n : Nat} {bl : Int} {L : Nat → List Bk} {V : Nat → Value} (h : TabAt w sb bm n bl L V) {i g : Nat} (hi : i < n) (e : (V i).ownBlock = some g) : g ≠ sb ∧ g ≠ bm := by
  obtain ⟨cur, h3⟩ := own_obj (h.rows i hi) e
  obtain ⟨D, ⟨es, clock, h2, _⟩, _⟩ := h.map
  have h1 := h.row
  constructor
  · rintro rfl; rw [h1] at h3; injection h3 with h3; injection h3 with _ h3 _; exact absurd h3 (by decide)
  · rintro rfl; rw [h2] at h3; cases h3
theorem own_base {w : World} {B e s n : Nat} {v : Value} {xs : List Value} (h : w.ownsRow B e s v n xs) : w.ownsRow 0 e s v n xs := by
  refine ⟨h.1, ?_⟩
  rcases h.2 with hn | ⟨g, cap, cur, rfl, _, rest⟩
  · exact .inl hn
  · exact .inr ⟨g, cap, cur, rfl, Nat.zero_le _, rest⟩
theorem TabAt.same {w w' : World} {sb bm n : Nat} {bl : Int} {L : Nat → List Bk} {V : Nat → Value} (h : TabAt w sb bm n bl L V) (hk : ∀ k, own sb bm n V k → w'.heap[k]? = w.heap[k]?) : TabAt w' sb bm n bl L V :=
  ⟨(hk _ (.inl rfl)).trans h.row, map_same h.map (hk _ (.inr (.inl rfl))), fun i hi => own_same (h.rows i hi) (fun g e => hk g (.inr (.inr ⟨i, hi, e⟩))), h.nil, h.apart, h.good, h.n0, h.n1, h.few, h.b1⟩
theorem TabAt.below {w w' : World} {sb bm n m : Nat} {bl : Int} {L : Nat → List Bk} {V : Nat → Value} (h : TabAt w sb bm n bl L V) (hb : Below m w w') (hm : w.heap.size ≤ m) : TabAt w' sb bm n bl L V :=
  h.same (fun k hk => hb.block k (Nat.lt_of_lt_of_le (h.lt hk) hm))
theorem TabAt.drewN {w : World} {sb bm n : Nat} {bl : Int} {L : Nat → List Bk} {V : Nat → Value} (h : TabAt w sb bm n bl L V) (m : Nat) : TabAt (w.drewN m) sb bm n bl L V := h.same (fun _ _ => rfl)
theorem TabAt.drew {w : World} {sb bm n : Nat} {bl : Int} {L : Nat → List Bk} {V : Nat → Value} (h : TabAt w sb bm n bl L V) : TabAt w.drew sb bm n bl L V := h.same (fun _ _ => rfl)
theorem TabAt.alloc {w : World} {sb bm n : Nat} {bl : Int} {L : Nat → List Bk} {V : Nat → Value} (h : TabAt w sb bm n bl L V) (o : Obj) : TabAt (w.alloc o) sb bm n bl L V :=
  h.below ((Below.refl _ _).alloc (Nat.le_refl _) o) (Nat.le_refl _)
theorem Tab.below {w w' : World} {sb n m : Nat} {O : Nat → Prop} {bl : Int} {L : Nat → List Bk} (h : Tab w sb O n bl L) (hb : Below m w w') (hm : w.heap.size ≤ m) : Tab w' sb O n bl L := by
  obtain ⟨bm, V, h, e⟩ := h; exact ⟨bm, V, h.below hb hm, e⟩
theorem Tab.lt {w : World} {sb n : Nat} {O : Nat → Prop} {bl : Int} {L : Nat → List Bk} (h : Tab w sb O n bl L) {k : Nat} (hk : O k) : k < w.heap.size := by
  obtain ⟨bm, V, h, e⟩ := h; exact h.lt ((e k).1 hk)
theorem Tab.sb {w : World} {sb n : Nat} {O : Nat → Prop} {bl : Int} {L : Nat → List Bk} (h : Tab w sb O n bl L) : O sb := by
  obtain ⟨bm, V, h, e⟩ := h; exact (e _).2 (.inl rfl)
theorem TabAt.cells {w : World} {sb bm n : Nat} {bl : Int} {L : Nat → List Bk} {V : Nat → Value} (h : TabAt w sb bm n bl L V) :
    w.cell? ⟨sb, 0, none⟩ = some (.int .i64 bl) ∧ w.cell? ⟨sb, 1, none⟩ = some (.int .i64 (lenL L n : Int)) ∧ w.cell? ⟨sb, 2, none⟩ = some (.int .i64 (n : Int)) ∧ w.cell? ⟨sb, 3, none⟩ = some (.map (some bm)) ∧
    ∀ i, w.frozen? ⟨sb, i, none⟩ = false := by
  have h1 := h.row
  exact ⟨by simp [World.cell?, h1], by simp [World.cell?, h1], by simp [World.cell?, h1], by simp [World.cell?, h1], fun i => by simp [World.frozen?, h1]⟩
/-- A look-up. -/
theorem zeroS (w : World) : (zeroValue 125).run Tryz.prog w = .ok nilS w := by kernel_rfl
theorem TabAt.look {w : World} {sb bm n : Nat} {bl : Int} {L : Nat → List Bk} {V : Nat → Value} (h : TabAt w sb bm n bl L V) {x : Int} (h0 : -9223372036854775808 ≤ x) (h1 : x ≤ 9223372036854775807) :
    (Instr.lookup 108 (.map (some bm)) (.int .i64 x) false).run Tryz.prog w = .ok (rowV n V x) w := by
  obtain ⟨D, hown, hD⟩ := h.map
  obtain ⟨v, ps, hrun, hv⟩ := hown.lookup lawI Tryz.underlying108 (zeroS w) hdR_nil (keyOf_int_mk Tryz.underlying3 (wfI h0 h1))
  have e1 := (hdR_inv hv).1
  have e2 : hdD v = hdD (rowV n V x) := by
    have := congrArg Prod.fst e1
    exact this.symm.trans (hD.at_ x)
  have hr : ∃ y, hdR (rowV n V x) = some y := by
    unfold rowV
    split
    · rename_i hx; exact ⟨_, hdR_own (h.rows x.toNat (by omega))⟩
    · exact ⟨_, hdR_nil⟩
  obtain ⟨y, hy⟩ := hr
  rw [hrun, hdD_inj hv hy e2]
theorem TabAt.lookN {w : World} {sb bm n : Nat} {bl : Int} {L : Nat → List Bk} {V : Nat → Value} (h : TabAt w sb bm n bl L V) {i : Nat} (hi : i < n) :
    (Instr.lookup 108 (.map (some bm)) (.int .i64 (i : Int)) false).run Tryz.prog w = .ok (V i) w := by
  have := h.look (x := (i : Int)) (by omega) (by have := h.n1; omega)
  rwa [rowV_in hi] at this
theorem TabAt.msize {w : World} {sb bm n : Nat} {bl : Int} {L : Nat → List Bk} {V : Nat → Value} (h : TabAt w sb bm n bl L V) {D : DataW Unit} (ho : Owns w bm (Maps.size D) D) (hD : MapIs D n V) : Maps.size D ≤ 1073741824 := by
  have h1 := hD.size_le (ho.canon lawI)
  have h2 : ∀ m, m ≤ n → (liveN V m).length ≤ lenL L m := by
    intro m
    induction m with
    | zero => intro _; exact Nat.zero_le _
    | succ m ih =>
      intro hm
      have := ih (by omega)
      rw [len_succ]
      unfold liveN
      split
      · omega
      · rename_i hv
        have : L m ≠ [] := fun e => hv (nilB_iff.2 (h.nil m (by omega) e))
        have := List.length_pos_iff.2 this
        simp; omega
  have := h2 n (Nat.le_refl _)
  have := h.few; have := h.b1
  omega
end Go.Proofs.YtffpfceclhogoaaGreat.Hp
