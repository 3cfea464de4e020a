/-
  Contracts and plain facts: Fld, Ref. Conditions: each says its own.
-/
import Derived.Test.YtnbdoemnepfhdaaGreatR0
import Derived.Test.YtnbdoemnepfhdaaGreatRows
import Derived.WalkKit
import Derived.ProofKit
import Derived.OpenShut
import Derived.WalkLawsBesides
import Derived.Deep.QuietTactic
import Derived.BigQuiet
import Derived.Lib.Hide
namespace Go.Proofs.YtnbdoemnepfhdaaGreat.Fld
open Go.ChangeShapes Go.WideShapes Go.ChangeAt Go.RowKit
set_option maxHeartbeats 400000
theorem ret_int {k : IntKind} {a b : Int} (h : a = b) : Ending.returned (.int k a) = .returned (.int k b) := by rw [h]
theorem ret_bool {a b : Bool} (h : a = b) : Ending.returned (.bool a) = .returned (.bool b) := by rw [h]
theorem ones_any (s : Int) (h0 : 1 ≤ s) (h1 : s ≤ 64) (w : World) :
    Calls Tryz.prog 130 #[.int .i64 s] w fun e w' => e = .returned (.int .u64 (onesI s)) ∧ w = w' := by
  go_enter Tryz.func130, Tryz.ntmps130
  go_wp2
  go_ret
  exact ⟨ret_int (ones_walk' s h0 h1), rfl⟩
theorem ones_same (s : Int) (h0 : 1 ≤ s) (h1 : s ≤ 64) (w : World) :
    Calls Tryz.prog 130 #[.int .i64 s] w fun e w' => e = .returned (.int .u64 (onesI s)) ∧ w' = w :=
  (ones_any s h0 h1 w).mono fun _ _ ⟨a, b⟩ => ⟨a, b.symm⟩
theorem may_yes (p s : Int) (h0 : 0 ≤ p) (h1 : 1 ≤ s) (h2 : s ≤ 64) (h3 : p ≤ 64 - s) (w : World) :
    Calls Tryz.prog 129 #[.int .i64 p, .int .i64 s] w fun e w' => e = .returned (.bool true) ∧ w = w' := by
  go_enter Tryz.func129, Tryz.ntmps129
  go_wp2
  go_ret
  exact ⟨rfl, rfl⟩
theorem may_no (p s : Int) (h : ¬ (0 ≤ p ∧ 1 ≤ s ∧ s ≤ 64 ∧ p ≤ 64 - s)) (w : World) :
    Calls Tryz.prog 129 #[.int .i64 p, .int .i64 s] w fun e w' => e = .returned (.bool false) ∧ w = w' := by
  by_cases h0 : 0 ≤ p
  · by_cases h1 : 1 ≤ s
    · by_cases h2 : s ≤ 64
      · have h3 : ¬ p ≤ 64 - s := fun x => h ⟨h0, h1, h2, x⟩
        clear h
        go_enter Tryz.func129, Tryz.ntmps129
        go_wp2
        go_ret
        exact ⟨rfl, rfl⟩
      · clear h
        go_enter Tryz.func129, Tryz.ntmps129
        go_wp2
        go_ret
        exact ⟨rfl, rfl⟩
    · clear h
      go_enter Tryz.func129, Tryz.ntmps129
      go_wp2
      go_ret
      exact ⟨rfl, rfl⟩
  · clear h
    go_enter Tryz.func129, Tryz.ntmps129
    go_wp2
    go_ret
    exact ⟨rfl, rfl⟩
theorem may_any (p s : Int) (w : World) :
    Calls Tryz.prog 129 #[.int .i64 p, .int .i64 s] w fun e w' => e = .returned (.bool (mayB p s)) ∧ w = w' := by
  cases h : mayB p s
  · exact may_no p s (mayB_false h) w
  · have h' := mayB_true h
    exact may_yes p s h'.1 h'.2.1 h'.2.2.1 h'.2.2.2 w
theorem rmay_any (p s : Int) (w : World) :
    Calls Tryz.prog 142 #[.int .i64 p, .int .i64 s] w fun e w' => e = .returned (.bool (mayB p s)) ∧ w = w' := by
  by_cases h0 : 0 ≤ p
  · by_cases h1 : p < 64
    · by_cases h2 : 1 ≤ s
      · by_cases h3 : s ≤ 64
        · by_cases h4 : p + s ≤ 64
          · have hm : mayB p s = true := mayB_mk (by omega)
            go_enter Tryz.func142, Tryz.ntmps142
            go_wp2
            go_ret
            first | exact ⟨rfl, rfl⟩ | exact ⟨ret_bool hm.symm, rfl⟩
          · have hm : mayB p s = false := mayB_mkf (by omega)
            go_enter Tryz.func142, Tryz.ntmps142
            go_wp2
            go_ret
            first | exact ⟨rfl, rfl⟩ | exact ⟨ret_bool hm.symm, rfl⟩
        · have hm : mayB p s = false := mayB_mkf (by omega)
          go_enter Tryz.func142, Tryz.ntmps142
          go_wp2
          go_ret
          first | exact ⟨rfl, rfl⟩ | exact ⟨ret_bool hm.symm, rfl⟩
      · have hm : mayB p s = false := mayB_mkf (by omega)
        go_enter Tryz.func142, Tryz.ntmps142
        go_wp2
        go_ret
        first | exact ⟨rfl, rfl⟩ | exact ⟨ret_bool hm.symm, rfl⟩
    · have hm : mayB p s = false := mayB_mkf (by omega)
      go_enter Tryz.func142, Tryz.ntmps142
      go_wp2
      go_ret
      first | exact ⟨rfl, rfl⟩ | exact ⟨ret_bool hm.symm, rfl⟩
  · have hm : mayB p s = false := mayB_mkf (by omega)
    go_enter Tryz.func142, Tryz.ntmps142
    go_wp2
    go_ret
    first | exact ⟨rfl, rfl⟩ | exact ⟨ret_bool hm.symm, rfl⟩
theorem mask_any (p s : Int) (w : World) :
    Calls Tryz.prog 103 #[.int .i64 p, .int .i64 s] w fun e w' => e = .returned (.int .u64 (maskI p s)) ∧ w = w' := by
  cases hm : mayB p s
  · have H := Lib.hid (show maskI p s = 0 by simp [maskI, hm])
    go_enter Tryz.func103, Tryz.ntmps103
    go_wp2_with (go_at_call 129; refine (may_any _ _ _).mono ?_; rintro e w' ⟨rfl, rfl⟩)
    go_ret
    exact ⟨ret_int H.out.symm, rfl⟩
  · have H := Lib.hid (mask_walk' p s hm)
    obtain ⟨h0, h1, h2, h3⟩ := mayB_true hm
    go_enter Tryz.func103, Tryz.ntmps103
    go_wp2_with (first | (go_at_call 129; refine (may_any _ _ _).mono ?_; rintro e w' ⟨rfl, rfl⟩) | (go_at_call 130; refine (ones_any _ (by omega) (by omega) _).mono ?_; rintro e w' ⟨rfl, rfl⟩))
    go_ret
    exact ⟨ret_int H.out, rfl⟩
theorem put_any (x p s v : Int) (x0 : 0 ≤ x) (x1 : x ≤ 18446744073709551615) (v0 : 0 ≤ v) (v1 : v ≤ 18446744073709551615) (w : World) :
    Calls Tryz.prog 105 #[.int .u64 x, .int .i64 p, .int .i64 s, .int .u64 v] w fun e w' => e = .returned (.int .u64 (putI x p s v)) ∧ w = w' := by
  cases hm : mayB p s
  · have H := Lib.hid (show putI x p s v = x by simp [putI, hm])
    go_enter Tryz.func105, Tryz.ntmps105
    go_wp2_with (go_at_call 129; refine (may_any _ _ _).mono ?_; rintro e w' ⟨rfl, rfl⟩)
    go_ret
    exact ⟨ret_int H.out.symm, rfl⟩
  · have H := Lib.hid (put_walk' x p s v hm x0 x1 v0 v1)
    obtain ⟨h0, h1, h2, h3⟩ := mayB_true hm
    go_enter Tryz.func105, Tryz.ntmps105
    go_wp2_with (first | (go_at_call 129; refine (may_any _ _ _).mono ?_; rintro e w' ⟨rfl, rfl⟩) | (go_at_call 130; refine (ones_any _ (by omega) (by omega) _).mono ?_; rintro e w' ⟨rfl, rfl⟩) | (go_at_call 103; refine (mask_any _ _ _).mono ?_; rintro e w' ⟨rfl, rfl⟩))
    go_ret
    exact ⟨ret_int H.out, rfl⟩
theorem get_any (x p s : Int) (x0 : 0 ≤ x) (x1 : x ≤ 18446744073709551615) (w : World) :
    Calls Tryz.prog 123 #[.int .u64 x, .int .i64 p, .int .i64 s] w fun e w' => e = .returned (.int .u64 (getI x p s)) ∧ ∃ n, w' = w.drewN n := by
  cases hm : mayB p s
  · have H := Lib.hid (show getI x p s = 0 by simp [getI, hm])
    go_enter Tryz.func123, Tryz.ntmps123
    go_wp2_with (go_at_call 129; refine (may_any _ _ _).mono ?_; rintro e w' ⟨rfl, rfl⟩)
    go_ret
    exact ⟨ret_int H.out.symm, 0, rfl⟩
  · have H := Lib.hid (get_walk' x p s hm x0 x1)
    obtain ⟨h0, h1, h2, h3⟩ := mayB_true hm
    go_enter Tryz.func123, Tryz.ntmps123
    go_wp2_with (go_at_call 129; refine (may_any _ _ _).mono ?_; rintro e w' ⟨rfl, rfl⟩)
    go_quiet ((go_at_call 130; exact Calls.quiet_of_same (ones_same _ (by omega) (by omega) _)))
    go_wp2
    go_ret
    exact ⟨ret_int H.out, _, rfl⟩
theorem fits_any (v s : Int) (v0 : 0 ≤ v) (v1 : v ≤ 18446744073709551615) (w : World) :
    Calls Tryz.prog 135 #[.int .u64 v, .int .i64 s] w fun e w' => e = .returned (.bool (fitsB v s)) ∧ w = w' := by
  by_cases h : 1 ≤ s
  · have H := Lib.hid (fits_walk v s h v0 v1)
    have h' : 0 ≤ s := by omega
    go_enter Tryz.func135, Tryz.ntmps135
    go_wp2
    go_ret
    exact ⟨ret_bool H.out, rfl⟩
  · have H := Lib.hid (show fitsB v s = false by simp [fitsB, h])
    go_enter Tryz.func135, Tryz.ntmps135
    go_wp2
    go_ret
    exact ⟨ret_bool H.out.symm, rfl⟩
theorem rbit_any (v i : Int) (v0 : 0 ≤ v) (v1 : v ≤ 18446744073709551615) (i0 : 0 ≤ i) (i1 : i ≤ 1000) (w : World) :
    Calls Tryz.prog 87 #[.int .u64 v, .int .i64 i] w fun e w' => e = .returned (.int .u64 (bitI v i)) ∧ w = w' := by
  obtain ⟨n, rfl⟩ := Int.eq_ofNat_of_zero_le i0
  go_enter Tryz.func87, Tryz.ntmps87
  go_wp2
  go_loop [0, 5] (fun t k => ∃ j : Nat, j ≤ n ∧ k = .int .i64 j ∧ t = .int .u64 (shI v j)) (fun _ k => n - (intOf k).toNat)
  case atStart => exact ⟨0, by omega, rfl, by rw [shI_zero v v0]⟩
  case round =>
    obtain ⟨j, hj, rfl, rfl⟩ := hrel
    have hb := shI_bd v j v1
    by_cases hlt : j < n
    · go_wp2
      go_round
      case rel => exact ⟨j + 1, by omega, by go_num, by rw [shI_succ]⟩
      case measure => simp [intOf]; omega
    · obtain rfl : j = n := by omega
      go_wp2
      go_ret
      exact ⟨ret_int (shI_mod v j), rfl⟩
end Go.Proofs.YtnbdoemnepfhdaaGreat.Fld

namespace Go.Proofs.YtnbdoemnepfhdaaGreat.Fld
open Go.ChangeShapes Go.WideShapes Go.ChangeAt Go.RowKit
set_option maxHeartbeats 400000
theorem rget_any (x p s : Int) (x0 : 0 ≤ x) (x1 : x ≤ 18446744073709551615) (w : World) :
    Calls Tryz.prog 139 #[.int .u64 x, .int .i64 p, .int .i64 s] w fun e w' => e = .returned (.int .u64 (getI x p s)) ∧ w = w' := by
  cases hm : mayB p s
  · have H := Lib.hid (show getI x p s = 0 by simp [getI, hm])
    go_enter Tryz.func139, Tryz.ntmps139
    go_wp2_with (go_at_call 142; refine (rmay_any _ _ _).mono ?_; rintro e w' ⟨rfl, rfl⟩)
    go_loop [8, 9] (fun n _ => n = .int .u64 0) (fun _ _ => 0)
    case atStart => rfl
    case round =>
      obtain rfl := hrel
      go_wp2
      go_ret
      exact ⟨ret_int H.out.symm, rfl⟩
  · have H := Lib.hid (getI_up x p s hm)
    obtain ⟨h0, h1, h2, h3⟩ := mayB_true hm
    go_enter Tryz.func139, Tryz.ntmps139
    go_wp2_with (go_at_call 142; refine (rmay_any _ _ _).mono ?_; rintro e w' ⟨rfl, rfl⟩)
    go_loop [8, 9] (fun n t => ∃ i : Int, -1 ≤ i ∧ i < s ∧ t = .int .i64 i ∧ n = .int .u64 (upI (getF x p) s.toNat (i + 1))) (fun _ t => (intOf t + 1).toNat)
    case atStart => exact ⟨s - 1, by omega, by omega, rfl, by rw [upI_top _ _ _ (by omega)]⟩
    case round =>
      obtain ⟨i, hi0, hi1, rfl, rfl⟩ := hrel
      by_cases hlt : 0 ≤ i
      · have hb := upI_bd (getF x p) s.toNat (by omega) i hlt
        have hb2 := bitI_bd x (p + i)
        have HS := Lib.hid (upI_step (getF x p) s.toNat i hlt (by omega))
        have HF := Lib.hid (getF_bit x p i h0 hlt)
        go_wp2_with (go_at_call 87; refine (rbit_any _ _ x0 x1 (by omega) (by omega) _).mono ?_; rintro e w' ⟨rfl, rfl⟩)
        go_round
        case rel => exact ⟨i - 1, by omega, by omega, rfl, by rw [← HF.out, HS.out, show i - 1 + 1 = i by omega]⟩
        case measure => simp [intOf]; omega
      · obtain rfl : i = -1 := by omega
        go_wp2
        go_ret
        exact ⟨ret_int H.out.symm, rfl⟩
end Go.Proofs.YtnbdoemnepfhdaaGreat.Fld

