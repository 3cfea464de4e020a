/-
  Contracts of page.Next, and of the document's own answers for pages: each returns what the plain functions of PMath say, and the world stays but for draws. Conditions: words are below 2 to the 64.
-/
import Derived.Test.YtjnmipcjmeifoaaPage
namespace Go.Proofs.Ytjnmipcjmeifoaa.Fld
open Go.ChangeShapes Go.WideShapes Go.ChangeAt Go.RowKit
set_option maxHeartbeats 400000
theorem rbase_any (x s : Int) (x0 : 0 ≤ x) (x1 : x ≤ 18446744073709551615) (w : World) :
    Calls Try.prog 15 #[.int .u64 x, .int .i64 s] w fun e w' => e = .returned (.int .u64 (baseI x s)) ∧ ∃ n, w' = w.drewN n := by
  cases h : sizeB s
  · have H := Lib.hid (show baseI x s = 0 by unfold baseI; rw [h]; rfl)
    go_enter Try.func15, Try.ntmps15
    go_wp2_with (go_at_call 31; refine (rpmay_any _ _).mono ?_; rintro e w' ⟨rfl, rfl⟩)
    go_ret
    exact ⟨ret_int H.out.symm, 0, rfl⟩
  · have H := Lib.hid (show baseI x s = x / bytesI s * bytesI s by unfold baseI; rw [if_pos h])
    have hb := bytes_pos h
    have hb2 := bytes_bd s
    have hd := div_mul_bd x (bytesI s) x0 (by omega)
    have hn : bytesI s ≠ 0 := by omega
    go_enter Try.func15, Try.ntmps15
    go_wp2_with (go_at_call 31; refine (rpmay_any _ _).mono ?_; rintro e w' ⟨rfl, rfl⟩)
    go_quiet ((go_at_call 25; exact Calls.quiet_of_same (same_sym (rbytes_any _ _))))
    go_wp2
    go_ret
    exact ⟨ret_int H.out.symm, _, rfl⟩
theorem roff_any (x s : Int) (x0 : 0 ≤ x) (x1 : x ≤ 18446744073709551615) (w : World) :
    Calls Try.prog 16 #[.int .u64 x, .int .i64 s] w fun e w' => e = .returned (.int .u64 (offI x s)) ∧ w = w' := by
  cases h : sizeB s
  · have H := Lib.hid (show offI x s = 0 by unfold offI; rw [h]; rfl)
    go_enter Try.func16, Try.ntmps16
    go_wp2_with (go_at_call 31; refine (rpmay_any _ _).mono ?_; rintro e w' ⟨rfl, rfl⟩)
    go_ret
    exact ⟨ret_int H.out.symm, rfl⟩
  · have H := Lib.hid (show offI x s = x % bytesI s by unfold offI; rw [if_pos h])
    have hb := bytes_pos h
    have hn : bytesI s ≠ 0 := by omega
    go_enter Try.func16, Try.ntmps16
    go_wp2_with (first | (go_at_call 31; refine (rpmay_any _ _).mono ?_; rintro e w' ⟨rfl, rfl⟩) | (go_at_call 25; refine (rbytes_any _ _).mono ?_; rintro e w' ⟨rfl, rfl⟩))
    go_ret
    exact ⟨ret_int H.out.symm, rfl⟩
end Go.Proofs.Ytjnmipcjmeifoaa.Fld
