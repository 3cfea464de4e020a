/-
  The document's Pointer, Index, Slot and Around, and the law's small functions: each returns what the plain functions of QMath say. Conditions: words are below 2 to the 64.
-/
import Derived.Test.YtjnmipcjmeifoaaQRef
namespace Go.Proofs.Ytjnmipcjmeifoaa.Pt
open Fld
open Go.ChangeShapes Go.WideShapes Go.ChangeAt Go.RowKit
set_option maxHeartbeats 2000000
set_option maxRecDepth 100000
theorem rpointer_any (t x s : Int) (t0 : 0 ≤ t) (t1 : t ≤ 18446744073709551615) (x0 : 0 ≤ x) (x1 : x ≤ 18446744073709551615) (w : World) :
    Calls Try.prog 9 #[.int .u64 t, .int .u64 x, .int .i64 s] w fun e w' => e = .returned (.tuple #[.int .u64 (ptrI t x s), .bool (isB s)]) ∧ Below w.heap.size w w' := by
  by_cases h : 0 ≤ s ∧ s ≤ 1
  · rw [isB_mk h]; exact (rpointer_yes t x s t0 t1 x0 x1 (isB_mk h) w).mono (by rintro e w' ⟨h, n, rfl⟩; exact ⟨h, below_drewN (Below.refl _ _) _⟩)
  · rw [isB_no h, show ptrI t x s = 0 by unfold ptrI; rw [isB_no h]; rfl]; exact (rpointer_no t x s h w).mono (by rintro e w' ⟨h, n, rfl⟩; exact ⟨h, below_drewN (Below.refl _ _) _⟩)
theorem rindex_any (x s n : Int) (x0 : 0 ≤ x) (x1 : x ≤ 18446744073709551615) (hs : sizeB s = true) (n0 : 1 ≤ n) (n1 : n ≤ 4096) (w : World) :
    Calls Try.prog 20 #[.int .u64 x, .int .i64 s, .int .i64 n] w fun e w' => e = .returned (.int .i64 (idxI x s n)) ∧ ∃ n, w' = w.drewN n := by
  have CB := Lib.hid (fun w => rbytes_any s w)
  have hp := bytes_pos hs
  have hq := (bytes_bd s).2
  have hn : bytesI s ≠ 0 := by omega
  have hx : 0 ≤ x / bytesI s := Int.ediv_nonneg x0 (by omega)
  have hx1 : x / bytesI s ≤ 18446744073709551615 := Int.le_trans (Int.ediv_le_self _ x0) x1
  have hi := idx_bd x s n (by omega)
  unfold idxI at *
  generalize bytesI s = b at *
  go_enter Try.func20, Try.ntmps20
  go_wp2_with (go_at_call 25; refine (CB.out _).mono ?_; rintro e w' ⟨rfl, rfl⟩)
  go_ret
  exact ⟨rfl, 0, rfl⟩
theorem raround_any (i n : Int) (_i0 : -9223372036854775808 ≤ i) (_i1 : i ≤ 9223372036854775807) (n0 : 1 ≤ n) (n1 : n ≤ 4096) (w : World) :
    Calls Try.prog 18 #[.int .i64 i, .int .i64 n] w fun e w' => e = .returned (.int .i64 (arI i n)) ∧ ∃ n, w' = w.drewN n := by
  have hb := ar_bd i n (by omega)
  have hn : n ≠ 0 := by omega
  rcases tmod_or i n (by omega) with ⟨h, e⟩ | ⟨h, e⟩
  all_goals
    generalize arI i n = r at *
    generalize ht : i.tmod n = t at *
    go_enter Try.func18, Try.ntmps18
    go_wp2
    go_ret
    exact ⟨rfl, 0, rfl⟩
theorem rslot_any (b n x s : Int) (b0 : 0 ≤ b) (b1 : b ≤ 18446744073709551615) (x0 : 0 ≤ x) (x1 : x ≤ 18446744073709551615) (hs : sizeB s = true) (n0 : 1 ≤ n) (n1 : n ≤ 4096) (w : World) :
    Calls Try.prog 22 #[.int .u64 b, .int .i64 n, .int .u64 x, .int .i64 s] w fun e w' => e = .returned (.int .u64 (slotI b (idxI x s n))) ∧ ∃ n, w' = w.drewN n := by
  have C := Lib.hid (fun w => rindex_any x s n x0 x1 hs n0 n1 w)
  have hi := idx_bd x s n (by omega)
  generalize idxI x s n = k at *
  by_cases h : b + 16 * k ≤ 18446744073709551615
  · have H := Lib.hid (show slotI b k = b + 16 * k from if_pos h)
    go_enter Try.func22, Try.ntmps22
    go_wp2_with (go_at_call 20; refine (C.out _).mono ?_; rintro e w' ⟨rfl, m, rfl⟩)
    go_ret
    exact ⟨ret_int H.out.symm, m, rfl⟩
  · have H := Lib.hid (show slotI b k = b + 16 * k - 18446744073709551616 from if_neg h)
    have hw := wrap_over (b + 16 * k) (by omega) (by omega)
    go_enter Try.func22, Try.ntmps22
    go_wp2_with (go_at_call 20; refine (C.out _).mono ?_; rintro e w' ⟨rfl, m, rfl⟩)
    go_ret
    exact ⟨ret_int H.out.symm, m, rfl⟩
/-- A number from 1 to 4096, made of any. -/
def smallI (n : Int) : Int := 1 + (if n < 0 then -(n + 1) else n) % 4096
theorem small_bd (n : Int) : 1 ≤ smallI n ∧ smallI n ≤ 4096 := by unfold smallI; omega
theorem small_any (n : Int) (n0 : -9223372036854775808 ≤ n) (n1 : n ≤ 9223372036854775807) (w : World) :
    Calls Try.prog 17 #[.int .i64 n] w fun e w' => e = .returned (.int .i64 (smallI n)) ∧ ∃ n, w' = w.drewN n := by
  by_cases h : n < 0
  · obtain ⟨m, hm⟩ : ∃ m, -(n + 1) = m := ⟨_, rfl⟩
    have H := Lib.hid (show smallI n = 1 + m % 4096 by unfold smallI; rw [if_pos h, hm])
    obtain rfl : n = -m - 1 := by omega
    have h1 : -m - 1 + 1 = -m := by omega
    have h2 : - -m = m := by omega
    go_enter Try.func17, Try.ntmps17
    go_wp2
    go_ret
    exact ⟨ret_int (by have := H.out; omega), 0, rfl⟩
  · have H := Lib.hid (show smallI n = 1 + n % 4096 by unfold smallI; rw [if_neg h])
    go_enter Try.func17, Try.ntmps17
    go_wp2
    go_ret
    exact ⟨ret_int H.out.symm, 0, rfl⟩
theorem qlives_any (w : World) :
    Calls Try.prog 14 #[] w fun e w' => e = .returned (.bool true) ∧ Below w.heap.size w w' := by
  have CP := Lib.hid (fun w => pointer_any 0 24576 0 (by decide) (by decide) (by decide) (by decide) w)
  have CE := Lib.hid (fun w => entries_any 0 (by decide) (by decide) w)
  rw [show ptrI 0 24576 0 = 48 by kernel_rfl, show isB 0 = true by kernel_rfl] at CP
  rw [show entI 0 = 512 by kernel_rfl] at CE
  go_enter Try.func14, Try.ntmps14
  go_wp2_with (first | (go_at_call 8; refine (CP.out _).mono ?_; rintro e w' ⟨rfl, hb⟩) | (go_at_call 10; refine (CE.out _).mono ?_; rintro e w' ⟨rfl, n, rfl⟩))
  go_ret
  exact ⟨rfl, below_drewN hb _⟩
end Go.Proofs.Ytjnmipcjmeifoaa.Pt
