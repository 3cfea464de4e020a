/-
  Contracts of the document's own answers for fields (Get, Put, Fits, bit by bit): each returns what the plain functions of Math say, and the world stays. Conditions: words are below 2 to the 64.
-/
import Derived.Test.YtambpmbgepgkdaaFld
namespace Go.Proofs.Ytambpmbgepgkdaa.Fld
open Go.ChangeShapes Go.WideShapes Go.ChangeAt Go.RowKit
set_option maxHeartbeats 400000
theorem rget_any (x p s : Int) (x0 : 0 ≤ x) (x1 : x ≤ 18446744073709551615) (w : World) :
    Calls Try.prog 50 #[.int .u64 x, .int .i64 p, .int .i64 s] w fun e w' => e = .returned (.int .u64 (getI x p s)) ∧ w = w' := by
  cases hm : mayB p s
  · have H := Lib.hid (show getI x p s = 0 by simp [getI, hm])
    go_enter Try.func50, Try.ntmps50
    go_wp2_with (go_at_call 51; refine (rmay_any _ _ _).mono ?_; rintro e w' ⟨rfl, rfl⟩)
    go_loop [8, 9] (fun n _ => n = .int .u64 0) (fun _ _ => 0)
    case atStart => rfl
    case round =>
      obtain rfl := hrel
      go_wp2
      go_ret
      exact ⟨ret_int H.out.symm, rfl⟩
  · have H := Lib.hid (getI_up x p s hm)
    obtain ⟨h0, h1, h2, h3⟩ := mayB_true hm
    go_enter Try.func50, Try.ntmps50
    go_wp2_with (go_at_call 51; refine (rmay_any _ _ _).mono ?_; rintro e w' ⟨rfl, rfl⟩)
    go_loop [8, 9] (fun n t => ∃ i : Int, -1 ≤ i ∧ i < s ∧ t = .int .i64 i ∧ n = .int .u64 (upI (getF x p) s.toNat (i + 1))) (fun _ t => (intOf t + 1).toNat)
    case atStart => exact ⟨s - 1, by omega, by omega, rfl, by rw [upI_top _ _ _ (by omega)]⟩
    case round =>
      obtain ⟨i, hi0, hi1, rfl, rfl⟩ := hrel
      by_cases hlt : 0 ≤ i
      · have hb := upI_bd (getF x p) s.toNat (by omega) i hlt
        have hb2 := bitI_bd x (p + i)
        have HS := Lib.hid (upI_step (getF x p) s.toNat i hlt (by omega))
        have HF := Lib.hid (getF_bit x p i h0 hlt)
        go_wp2_with (go_at_call 24; refine (rbit_any _ _ x0 x1 (by omega) (by omega) _).mono ?_; rintro e w' ⟨rfl, rfl⟩)
        go_round
        case rel => exact ⟨i - 1, by omega, by omega, rfl, by rw [← HF.out, HS.out, show i - 1 + 1 = i by omega]⟩
        case measure => simp [intOf]; omega
      · obtain rfl : i = -1 := by omega
        go_wp2
        go_ret
        exact ⟨ret_int H.out.symm, rfl⟩
theorem rput_any (x p s v : Int) (x0 : 0 ≤ x) (x1 : x ≤ 18446744073709551615) (v0 : 0 ≤ v) (v1 : v ≤ 18446744073709551615) (w : World) :
    Calls Try.prog 23 #[.int .u64 x, .int .i64 p, .int .i64 s, .int .u64 v] w fun e w' => e = .returned (.int .u64 (putI x p s v)) ∧ w = w' := by
  cases hm : mayB p s
  · have H := Lib.hid (show putI x p s v = x by simp [putI, hm])
    go_enter Try.func23, Try.ntmps23
    go_wp2_with (go_at_call 51; refine (rmay_any _ _ _).mono ?_; rintro e w' ⟨rfl, rfl⟩)
    go_ret
    exact ⟨ret_int H.out.symm, rfl⟩
  · have H := Lib.hid (putI_up x p s v hm)
    obtain ⟨h0, h1, h2, h3⟩ := mayB_true hm
    go_enter Try.func23, Try.ntmps23
    go_wp2_with (go_at_call 51; refine (rmay_any _ _ _).mono ?_; rintro e w' ⟨rfl, rfl⟩)
    go_loop [10, 11] (fun n t => ∃ i : Int, -1 ≤ i ∧ i < 64 ∧ t = .int .i64 i ∧ n = .int .u64 (upI (putF x p s v) 64 (i + 1))) (fun _ t => (intOf t + 1).toNat)
    case atStart => exact ⟨63, by omega, by omega, rfl, by rw [upI_top _ _ _ (by omega)]⟩
    case round =>
      obtain ⟨i, hi0, hi1, rfl, rfl⟩ := hrel
      by_cases hlt : 0 ≤ i
      · have hb := upI_bd (putF x p s v) 64 (by omega) i hlt
        have hb1 := bitI_bd v (i - p)
        have hb2 := bitI_bd x i
        have HS := Lib.hid (upI_step (putF x p s v) 64 i hlt (by omega))
        by_cases hin : p ≤ i
        · by_cases hin2 : i < p + s
          · have HF := Lib.hid (putF_in x p s v i h0 hin hin2)
            go_wp2_with (go_at_call 24; refine (rbit_any _ _ (by omega) (by omega) (by omega) (by omega) _).mono ?_; rintro e w' ⟨rfl, rfl⟩)
            go_round
            case rel => exact ⟨i - 1, by omega, by omega, rfl, by rw [← HF.out, HS.out, show i - 1 + 1 = i by omega]⟩
            case measure => simp [intOf]; omega
          · have HF := Lib.hid (putF_out x p s v i h0 hlt (by omega) (by omega))
            go_wp2_with (go_at_call 24; refine (rbit_any _ _ (by omega) (by omega) (by omega) (by omega) _).mono ?_; rintro e w' ⟨rfl, rfl⟩)
            go_round
            case rel => exact ⟨i - 1, by omega, by omega, rfl, by rw [← HF.out, HS.out, show i - 1 + 1 = i by omega]⟩
            case measure => simp [intOf]; omega
        · have HF := Lib.hid (putF_out x p s v i h0 hlt (by omega) (by omega))
          go_wp2_with (go_at_call 24; refine (rbit_any _ _ (by omega) (by omega) (by omega) (by omega) _).mono ?_; rintro e w' ⟨rfl, rfl⟩)
          go_round
          case rel => exact ⟨i - 1, by omega, by omega, rfl, by rw [← HF.out, HS.out, show i - 1 + 1 = i by omega]⟩
          case measure => simp [intOf]; omega
      · obtain rfl : i = -1 := by omega
        go_wp2
        go_ret
        exact ⟨ret_int H.out.symm, rfl⟩
end Go.Proofs.Ytambpmbgepgkdaa.Fld
