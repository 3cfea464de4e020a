/-
  Contracts of the document's own answers for package point, and of the law's small functions: each returns what the plain functions of QMath say, and the world stays but for draws. Conditions: words are below 2 to the 64.
-/
import Derived.Test.YtjnmipcjmeifoaaQPtr
namespace Go.Proofs.Ytjnmipcjmeifoaa.Pt
open Fld
open Go.ChangeShapes Go.WideShapes Go.ChangeAt Go.RowKit
set_option maxHeartbeats 2000000
set_option maxRecDepth 100000
theorem rsplit_any (t : Int) (x0 : 0 ≤ t) (x1 : t ≤ 18446744073709551615) (w : World) :
    Calls Try.prog 13 #[.int .u64 t] w fun e w' => e = .returned (.bool (splitB t)) ∧ w = w' := by
  go_enter Try.func13, Try.ntmps13
  go_wp2
  go_ret
  exact ⟨rfl, rfl⟩
/-- 512, so many times doubled. -/
def twoI (j : Nat) : Int := ((512 * 2 ^ j : Nat) : Int)
theorem two_succ (j : Nat) : twoI (j + 1) = 2 * twoI j := by unfold twoI; rw [Nat.pow_succ]; omega
theorem two_bd {j : Nat} (h : j ≤ 7) : 512 ≤ twoI j ∧ twoI j ≤ 65536 := by
  unfold twoI
  have : j = 0 ∨ j = 1 ∨ j = 2 ∨ j = 3 ∨ j = 4 ∨ j = 5 ∨ j = 6 ∨ j = 7 := by omega
  rcases this with rfl | rfl | rfl | rfl | rfl | rfl | rfl | rfl <;> decide
theorem two_ent (t : Int) (j : Nat) (h : (j : Int) = t % 8) : twoI j = entI t := by
  rcases ent_or t with ⟨h2, e⟩ | ⟨h2, e⟩ | ⟨h2, e⟩ | ⟨h2, e⟩ | ⟨h2, e⟩ | ⟨h2, e⟩ | ⟨h2, e⟩ | ⟨h2, e⟩ <;> rw [e] <;> rw [h2] at h
  · obtain rfl : j = 0 := by omega
    rfl
  · obtain rfl : j = 1 := by omega
    rfl
  · obtain rfl : j = 2 := by omega
    rfl
  · obtain rfl : j = 3 := by omega
    rfl
  · obtain rfl : j = 4 := by omega
    rfl
  · obtain rfl : j = 5 := by omega
    rfl
  · obtain rfl : j = 6 := by omega
    rfl
  · obtain rfl : j = 7 := by omega
    rfl
theorem rentries_any (t : Int) (x0 : 0 ≤ t) (x1 : t ≤ 18446744073709551615) (w : World) :
    Calls Try.prog 11 #[.int .u64 t] w fun e w' => e = .returned (.int .u64 (entI t)) ∧ w = w' := by
  have E := Lib.hid (two_ent t)
  have k0 : 0 ≤ t % 8 := by omega
  have k1 : t % 8 < 8 := by omega
  generalize hk : t % 8 = k at *
  go_enter Try.func11, Try.ntmps11
  go_wp2
  go_loop [3, 4] (fun n i => ∃ j : Nat, (j : Int) ≤ k ∧ i = .int .u64 (j : Int) ∧ n = .int .u64 (twoI j)) (fun _ i => (k - intOf i).toNat)
  case atStart => exact ⟨0, by omega, rfl, rfl⟩
  case round =>
    obtain ⟨j, hj, rfl, rfl⟩ := hrel
    have hb := two_bd (j := j) (by omega)
    have hs := Lib.hid (two_succ j)
    by_cases hlt : (j : Int) < k
    · go_wp2
      go_round
      case rel => exact ⟨j + 1, by omega, by go_num, by rw [hs.out]⟩
      case measure => simp [intOf]; omega
    · have hE := E.out j (by omega)
      go_wp2
      go_ret
      first | exact ⟨ret_int hE, rfl⟩ | exact ⟨rfl, rfl⟩
theorem rpointer_no (t x s : Int) (h : ¬ (0 ≤ s ∧ s ≤ 1)) (w : World) :
    Calls Try.prog 9 #[.int .u64 t, .int .u64 x, .int .i64 s] w fun e w' => e = .returned (.tuple #[.int .u64 0, .bool false]) ∧ ∃ n, w' = w.drewN n := by
  by_cases h0 : s < 0
  · clear h
    go_enter Try.func9, Try.ntmps9
    go_wp2
    go_ret2
    exact ⟨rfl, 0, rfl⟩
  · have h1 : 1 < s := by omega
    clear h
    go_enter Try.func9, Try.ntmps9
    go_wp2
    go_ret2
    exact ⟨rfl, 0, rfl⟩
theorem rpointer_yes (t x s : Int) (t0 : 0 ≤ t) (t1 : t ≤ 18446744073709551615) (x0 : 0 ≤ x) (x1 : x ≤ 18446744073709551615) (h : isB s = true) (w : World) :
    Calls Try.prog 9 #[.int .u64 t, .int .u64 x, .int .i64 s] w fun e w' => e = .returned (.tuple #[.int .u64 (ptrI t x s), .bool true]) ∧ ∃ n, w' = w.drewN n := by
  have hs := isB_true h
  have hs0 : ¬ s < 0 := by omega
  have hs1 : ¬ 1 < s := by omega
  have CE := Lib.hid (fun w => rentries_any t t0 t1 w)
  have CS := Lib.hid (fun w => rsplit_any t t0 t1 w)
  have CB := Lib.hid (fun w => rbytes_any s w)
  have hpos : bytesI s ≠ 0 := by have := bytes_pos (s := s) (sizeB_mk (by omega)); omega
  have hp := bytes_pos (s := s) (sizeB_mk (by omega))
  have hq := (bytes_bd s).2
  have n0 : 0 ≤ x / bytesI s := Int.ediv_nonneg x0 (by omega)
  have n1 : x / bytesI s ≤ 18446744073709551615 := Int.le_trans (Int.ediv_le_self _ x0) x1
  have HP := Lib.hid (show ptrI t x s = begI t + atI t x s from if_pos h)
  unfold begI wholeI atI at HP
  generalize hbs : bytesI s = b at *
  rcases ent_or t with ⟨hk, e⟩ | ⟨hk, e⟩ | ⟨hk, e⟩ | ⟨hk, e⟩ | ⟨hk, e⟩ | ⟨hk, e⟩ | ⟨hk, e⟩ | ⟨hk, e⟩
  all_goals
    rw [e] at CE HP
    clear e hk hbs h
    cases hb : splitB t
    · rw [hb] at CS HP
      clear hb
      have HP := HP.out
      simp only [Bool.false_and, Bool.false_eq_true, if_false, Int.add_zero] at HP
      have HP := Lib.hid HP
      go_enter Try.func9, Try.ntmps9
      go_wp2_with (first | (go_at_call 11; refine (CE.out _).mono ?_; rintro e w' ⟨rfl, rfl⟩) | (go_at_call 13; refine (CS.out _).mono ?_; rintro e w' ⟨rfl, rfl⟩) | (go_at_call 25; refine (CB.out _).mono ?_; rintro e w' ⟨rfl, rfl⟩))
      go_ret2
      exact ⟨ret_two (by have := HP.out; omega) rfl, 0, rfl⟩
    · rw [hb] at CS HP
      clear hb
      rcases hs with rfl | rfl
      all_goals
        have HP := HP.out
        simp at HP
        have HP := Lib.hid HP
        go_enter Try.func9, Try.ntmps9
        go_wp2_with (first | (go_at_call 11; refine (CE.out _).mono ?_; rintro e w' ⟨rfl, rfl⟩) | (go_at_call 13; refine (CS.out _).mono ?_; rintro e w' ⟨rfl, rfl⟩) | (go_at_call 25; refine (CB.out _).mono ?_; rintro e w' ⟨rfl, rfl⟩))
        go_ret2
        exact ⟨ret_two (by have := HP.out; omega) rfl, 0, rfl⟩
end Go.Proofs.Ytjnmipcjmeifoaa.Pt
