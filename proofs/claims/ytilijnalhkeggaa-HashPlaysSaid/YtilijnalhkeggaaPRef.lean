/-
  Contracts of page.Next, and of the document's own answers for pages: each returns what the plain functions of PMath say, and the world stays but for draws. Conditions: words are below 2 to the 64.
-/
import Derived.Test.YtilijnalhkeggaaPage
namespace Go.Proofs.Ytilijnalhkeggaa.Fld
open Go.ChangeShapes Go.WideShapes Go.ChangeAt Go.RowKit
set_option maxHeartbeats 400000
theorem rbase_any (x s : Int) (x0 : 0 ≤ x) (x1 : x ≤ 18446744073709551615) (w : World) :
    Calls Try.prog 40 #[.int .u64 x, .int .i64 s] w fun e w' => e = .returned (.int .u64 (baseI x s)) ∧ ∃ n, w' = w.drewN n := by
  cases h : sizeB s
  · have H := Lib.hid (show baseI x s = 0 by unfold baseI; rw [h]; rfl)
    go_enter Try.func40, Try.ntmps40
    go_wp2_with (go_at_call 53; refine (rpmay_any _ _).mono ?_; rintro e w' ⟨rfl, rfl⟩)
    go_ret
    exact ⟨ret_int H.out.symm, 0, rfl⟩
  · have H := Lib.hid (show baseI x s = x / bytesI s * bytesI s by unfold baseI; rw [if_pos h])
    have hb := bytes_pos h
    have hb2 := bytes_bd s
    have hd := div_mul_bd x (bytesI s) x0 (by omega)
    have hn : bytesI s ≠ 0 := by omega
    go_enter Try.func40, Try.ntmps40
    go_wp2_with (go_at_call 53; refine (rpmay_any _ _).mono ?_; rintro e w' ⟨rfl, rfl⟩)
    go_quiet ((go_at_call 45; exact Calls.quiet_of_same (same_sym (rbytes_any _ _))))
    go_wp2
    go_ret
    exact ⟨ret_int H.out.symm, _, rfl⟩
theorem rstarts_any (x s : Int) (x0 : 0 ≤ x) (x1 : x ≤ 18446744073709551615) (w : World) :
    Calls Try.prog 44 #[.int .u64 x, .int .i64 s] w fun e w' => e = .returned (.bool (startsB x s)) ∧ w = w' := by
  cases h : sizeB s
  · have H := Lib.hid (show startsB x s = false by unfold startsB; rw [h]; rfl)
    go_enter Try.func44, Try.ntmps44
    go_wp2_with (go_at_call 53; refine (rpmay_any _ _).mono ?_; rintro e w' ⟨rfl, rfl⟩)
    go_ret
    exact ⟨ret_bool H.out.symm, rfl⟩
  · have H := Lib.hid (show startsB x s = (x % bytesI s == 0) by unfold startsB; rw [h, Bool.eq_iff_iff]; simp)
    have hb := bytes_pos h
    have hn : bytesI s ≠ 0 := by omega
    go_enter Try.func44, Try.ntmps44
    go_wp2_with (first | (go_at_call 53; refine (rpmay_any _ _).mono ?_; rintro e w' ⟨rfl, rfl⟩) | (go_at_call 45; refine (rbytes_any _ _).mono ?_; rintro e w' ⟨rfl, rfl⟩))
    go_ret
    exact ⟨ret_bool H.out.symm, rfl⟩
end Go.Proofs.Ytilijnalhkeggaa.Fld
