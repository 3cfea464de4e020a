/-
  Contracts of the document's own answers of layer 3 that compute. Conditions: words are below 2 to the 64.
-/
import Derived.Test.YtambpmbgepgkdaaTteB
namespace Go.Proofs.Ytambpmbgepgkdaa.Fld
open Go.ChangeShapes Go.WideShapes Go.ChangeAt Go.RowKit
set_option maxHeartbeats 1000000
set_option maxRecDepth 100000
/-- A truth at a place. -/
def pwI (b : Bool) (k : Nat) : Int := b2i b * ((2 ^ k : Nat) : Int)
theorem pwI_zero (b : Bool) : pwI b 0 = b2i b := by simp [pwI]
theorem pwI_succ (b : Bool) (k : Nat) : 2 * pwI b k = pwI b (k + 1) := by
  unfold pwI; rw [Nat.pow_succ, Int.natCast_mul, show ((2 : Nat) : Int) = 2 from rfl]
  generalize ((2 ^ k : Nat) : Int) = z
  cases b <;> simp [b2i]; omega
theorem pwI_bd (b : Bool) (k : Nat) (h : k ≤ 63) : 0 ≤ pwI b k ∧ pwI b k ≤ 9223372036854775808 := by
  have hp : 2 ^ k ≤ 9223372036854775808 := Nat.le_trans (Nat.pow_le_pow_right (by decide) h) (by decide)
  unfold pwI
  generalize 2 ^ k = z at *
  have hb := b2i_bd b
  have : b2i b = 0 ∨ b2i b = 1 := by omega
  rcases this with e | e <;> rw [e] <;> omega
theorem rbitp_any (b : Bool) (k : Nat) (h : k ≤ 63) (w : World) :
    Calls Try.prog 42 #[.bool b, .int .i64 (k : Int)] w fun r w' => r = .returned (.int .u64 (pwI b k)) ∧ w = w' := by
  cases b
  all_goals
    go_enter Try.func42, Try.ntmps42
    go_wp2
  · go_loop [5, 6] (fun n i => ∃ j : Nat, j ≤ k ∧ i = .int .i64 (j : Int) ∧ n = .int .u64 (pwI false j)) (fun _ i => k - (intOf i).toNat)
    case atStart => exact ⟨0, by omega, rfl, rfl⟩
    case round =>
      obtain ⟨j, hj, rfl, rfl⟩ := hrel
      have hb := pwI_bd false j (by omega)
      by_cases hlt : j < k
      · have hb' := pwI_bd false (j + 1) (by omega)
        have hs := Lib.hid (pwI_succ false j)
        have hq : pwI false j * 2 ≤ 9223372036854775808 := by have := hs.out; omega
        have hlt' : (j : Int) < (k : Int) := by omega
        go_wp2
        go_round
        case rel => exact ⟨j + 1, by omega, by go_num, by rw [← hs.out]⟩
        case measure => simp [intOf]; omega
      · obtain rfl : j = k := by omega
        go_wp2
        go_ret
        exact ⟨rfl, rfl⟩
  · go_loop [5, 6] (fun n i => ∃ j : Nat, j ≤ k ∧ i = .int .i64 (j : Int) ∧ n = .int .u64 (pwI true j)) (fun _ i => k - (intOf i).toNat)
    case atStart => exact ⟨0, by omega, rfl, rfl⟩
    case round =>
      obtain ⟨j, hj, rfl, rfl⟩ := hrel
      have hb := pwI_bd true j (by omega)
      by_cases hlt : j < k
      · have hb' := pwI_bd true (j + 1) (by omega)
        have hs := Lib.hid (pwI_succ true j)
        have hq : pwI true j * 2 ≤ 9223372036854775808 := by have := hs.out; omega
        have hlt' : (j : Int) < (k : Int) := by omega
        go_wp2
        go_round
        case rel => exact ⟨j + 1, by omega, by go_num, by rw [← hs.out]⟩
        case measure => simp [intOf]; omega
      · obtain rfl : j = k := by omega
        go_wp2
        go_ret
        exact ⟨rfl, rfl⟩
/-- The same, at a place's number as the text has it. -/
theorem rbit_at (b : Bool) (p : Int) (k : Nat) (hk : (k : Int) = p) (P : Int) (hP : ((2 ^ k : Nat) : Int) = P) (h : k ≤ 63) (w : World) :
    Calls Try.prog 42 #[.bool b, .int .i64 p] w fun r w' => r = .returned (.int .u64 (b2i b * P)) ∧ w = w' := by
  have := rbitp_any b k h w
  unfold pwI at this
  rw [hP, hk] at this
  exact this
theorem rb63 (b : Bool) (w : World) : Calls Try.prog 42 #[.bool b, .int .i64 63] w fun r w' => r = .returned (.int .u64 (b2i b * 9223372036854775808)) ∧ w = w' := rbit_at b 63 63 rfl _ (by decide) (by omega) w
theorem rb61 (b : Bool) (w : World) : Calls Try.prog 42 #[.bool b, .int .i64 61] w fun r w' => r = .returned (.int .u64 (b2i b * 2305843009213693952)) ∧ w = w' := rbit_at b 61 61 rfl _ (by decide) (by omega) w
theorem rb60 (b : Bool) (w : World) : Calls Try.prog 42 #[.bool b, .int .i64 60] w fun r w' => r = .returned (.int .u64 (b2i b * 1152921504606846976)) ∧ w = w' := rbit_at b 60 60 rfl _ (by decide) (by omega) w
theorem rb6 (b : Bool) (w : World) : Calls Try.prog 42 #[.bool b, .int .i64 6] w fun r w' => r = .returned (.int .u64 (b2i b * 64)) ∧ w = w' := rbit_at b 6 6 rfl _ (by decide) (by omega) w
theorem rb3 (b : Bool) (w : World) : Calls Try.prog 42 #[.bool b, .int .i64 3] w fun r w' => r = .returned (.int .u64 (b2i b * 8)) ∧ w = w' := rbit_at b 3 3 rfl _ (by decide) (by omega) w
theorem rb2 (b : Bool) (w : World) : Calls Try.prog 42 #[.bool b, .int .i64 2] w fun r w' => r = .returned (.int .u64 (b2i b * 4)) ∧ w = w' := rbit_at b 2 2 rfl _ (by decide) (by omega) w
theorem rb1 (b : Bool) (w : World) : Calls Try.prog 42 #[.bool b, .int .i64 1] w fun r w' => r = .returned (.int .u64 (b2i b * 2)) ∧ w = w' := rbit_at b 1 1 rfl _ (by decide) (by omega) w
theorem rb0 (b : Bool) (w : World) : Calls Try.prog 42 #[.bool b, .int .i64 0] w fun r w' => r = .returned (.int .u64 (b2i b * 1)) ∧ w = w' := rbit_at b 0 0 rfl _ (by decide) (by omega) w
end Go.Proofs.Ytambpmbgepgkdaa.Fld
