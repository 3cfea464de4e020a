/-
  Contract of Pointer of package point. Conditions: words are below 2 to the 64.
-/
import Derived.Test.YtjnmipcjmeifoaaQPoint
namespace Go.Proofs.Ytjnmipcjmeifoaa.Pt
open Fld
open Go.ChangeShapes Go.WideShapes Go.ChangeAt Go.RowKit
set_option maxHeartbeats 2000000
set_option maxRecDepth 100000
theorem two_start (w : World) (t : Int) : Two w ((w.alloc (.cells #[.int .u64 t] 22)).alloc (.cells #[.int .i64 0] 3)) t 0 := by
  refine ⟨?_, ?_, ?_⟩
  · exact ((Below.refl _ _).alloc (Nat.le_refl _) _).alloc (by simp) _
  · rw [Below.heap_alloc _ _ _ (by simp)]; exact heap_new _ _
  · have := heap_new (w.alloc (.cells #[.int .u64 t] 22)) (.cells #[.int .i64 0] 3)
    simpa using this
theorem putI_bd (x p s v : Int) (x0 : 0 ≤ x) (x1 : x ≤ 18446744073709551615) : 0 ≤ putI x p s v ∧ putI x p s v ≤ 18446744073709551615 := by
  unfold putI; split
  · have := putN_lt x.toNat p.toNat s.toNat v.toNat; omega
  · exact ⟨x0, x1⟩
theorem ptr_no (t x s : Int) (h : ¬ (0 ≤ s ∧ s ≤ 1)) (w : World) :
    Calls Try.prog 8 #[.int .u64 t, .int .u64 x, .int .i64 s] w fun e w' => e = .returned (.tuple #[.int .u64 0, .bool false]) ∧ Below w.heap.size w w' := by
  by_cases h0 : s < 0
  · clear h
    go_enter Try.func8, Try.ntmps8
    go_wp2
    go_ret2
    exact ⟨rfl, Below.refl _ _⟩
  · have h1 : 1 < s := by omega
    clear h
    go_enter Try.func8, Try.ntmps8
    go_wp2
    go_ret2
    exact ⟨rfl, Below.refl _ _⟩
theorem ptr_yes (t x s : Int) (t0 : 0 ≤ t) (t1 : t ≤ 18446744073709551615) (x0 : 0 ≤ x) (x1 : x ≤ 18446744073709551615) (h : isB s = true) (w : World) :
    Calls Try.prog 8 #[.int .u64 t, .int .u64 x, .int .i64 s] w fun e w' => e = .returned (.tuple #[.int .u64 (ptrI t x s), .bool true]) ∧ Below w.heap.size w w' := by
  have hs := isB_true h
  have hsz : sizeB s = true := sizeB_mk (by omega)
  have hs0 : ¬ s < 0 := by omega
  have hs1 : ¬ 1 < s := by omega
  have n0 : 0 ≤ x / bytesI s := Int.ediv_nonneg x0 (by have := bytes_pos hsz; omega)
  have n1 : x / bytesI s ≤ 18446744073709551615 := Int.le_trans (Int.ediv_le_self _ x0) x1
  have CB := Lib.hid (fun w => bitsOf_any t t0 t1 w)
  have CN := Lib.hid (fun w => number_any x s x0 x1 hsz w)
  have CS := Lib.hid (fun w => split_any t t0 t1 w)
  have HU := Lib.hid (fun e => ptr_un (x := x) t0 t1 n0 h e)
  have HS := Lib.hid (fun e => ptr_split (x := x) t0 t1 n0 h e)
  have k0 : 0 ≤ t % 8 := by omega
  have k1 : t % 8 < 8 := by omega
  generalize x / bytesI s = q at *
  generalize t % 8 = k at *
  have LU := Lib.hid (lay_any w t 0 4 0 t0 t1 (by omega) (by omega) (by omega) (by omega) (by omega) (by omega))
  go_enter Try.func8, Try.ntmps8
  go_wp2_with fail
  refine (LU.out _ (two_start w t)).mono ?_; rintro e w1 ⟨rfl, T1⟩
  have B1 := Lib.hid (lay_zero t t0 t1)
  have P1 : 0 ≤ putI t 0 4 0 ∧ putI t 0 4 0 ≤ 18446744073709551615 := by rw [B1.out]; omega
  have LQ := Lib.hid (lay_any w (putI t 0 4 0) 4 (9 + k) q P1.1 P1.2 n0 n1 (by omega) (by omega) (by omega) (by omega))
  have P2 := putI_bd (putI t 0 4 0) 4 (9 + k) q P1.1 P1.2
  have LS := Lib.hid (lay_any w (putI (putI t 0 4 0) 4 (9 + k) q) (13 + k) 1 s P2.1 P2.2 (by omega) (by omega) (by omega) (by omega) (by omega) (by omega))
  have T1 := Lib.hid T1
  clear B1 LU
  go_wp2_with fail
  refine (CB.out _).mono ?_; rintro e w2 ⟨rfl, m, rfl⟩
  go_wp2_with fail
  refine (CN.out _).mono ?_; rintro e w2 ⟨rfl, m2, rfl⟩
  have T2 := Lib.hid (T1.out.drewN (m + m2))
  go_wp2_with fail
  refine (LQ.out _ T2.out).mono ?_; rintro e w2 ⟨rfl, T3⟩
  rw [show 4 + (9 + k) = 13 + k by omega] at T3
  have T3 := Lib.hid T3
  clear T1 T2 LQ CB CN
  go_wp2_with fail
  refine (CS.out _).mono ?_; rintro e w3 ⟨rfl, m3, rfl⟩
  have T4 := Lib.hid (T3.out.drewN m3)
  cases hb : splitB t
  · rw [hb] at HU
    have E := Lib.hid (HU.out rfl)
    obtain ⟨c1, c2, f1, f2⟩ := T4.out.cells
    rw [E.out] at c1
    clear T3 CS LS HU HS hb P2
    go_wp2_with fail
    go_ret2
    exact ⟨rfl, T4.out.bel⟩
  · rw [hb] at HS
    have E := Lib.hid (HS.out rfl)
    clear T3 CS HU HS hb
    go_wp2_with fail
    refine (LS.out _ T4.out).mono ?_; rintro e w4 ⟨rfl, T5⟩
    rw [E.out] at T5
    obtain ⟨c1, c2, f1, f2⟩ := T5.cells
    have T5 := Lib.hid T5
    clear T4 LS E P2
    go_wp2_with fail
    go_ret2
    exact ⟨rfl, T5.out.bel⟩
theorem pointer_any (t x s : Int) (t0 : 0 ≤ t) (t1 : t ≤ 18446744073709551615) (x0 : 0 ≤ x) (x1 : x ≤ 18446744073709551615) (w : World) :
    Calls Try.prog 8 #[.int .u64 t, .int .u64 x, .int .i64 s] w fun e w' => e = .returned (.tuple #[.int .u64 (ptrI t x s), .bool (isB s)]) ∧ Below w.heap.size w w' := by
  by_cases h : 0 ≤ s ∧ s ≤ 1
  · rw [isB_mk h]; exact ptr_yes t x s t0 t1 x0 x1 (isB_mk h) w
  · rw [isB_no h, show ptrI t x s = 0 by unfold ptrI; rw [isB_no h]; rfl]; exact ptr_no t x s h w
end Go.Proofs.Ytjnmipcjmeifoaa.Pt
