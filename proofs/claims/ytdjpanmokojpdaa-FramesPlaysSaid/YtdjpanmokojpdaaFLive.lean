/-
  The example that every law of layer 5 asks for at its end; place. Conditions: none.
-/
import Derived.Test.YtdjpanmokojpdaaFMany
import Derived.Test.YtdjpanmokojpdaaFList
namespace Go.Proofs.Ytdjpanmokojpdaa.Frm
open Fld
open Go.ChangeShapes Go.WideShapes Go.ChangeAt Go.RowKit
set_option maxHeartbeats 1000000
def exT1 : Nat → Bool := takeT (fun _ => false) 20 0
def exT2 : Nat → Bool := takeT exT1 20 1
def exT3 : Nat → Bool := takeT exT2 20 0
theorem ex1 : takeI (fun _ => false) 20 0 = 0 ∧ takeE (fun _ => false) 20 0 = 0 := by decide
theorem ex2 : takeI exT1 20 1 = 8 ∧ takeE exT1 20 1 = 0 := by decide
theorem ex3 : takeI exT2 20 0 = 1 ∧ takeE exT2 20 0 = 0 := by decide
theorem ex4 : cnt exT3 20 = 10 := by decide
theorem newN_20 : newN 20 = 20 := by decide
theorem flives_any (w : World) :
    Calls Try.prog 17 #[] w fun e w' => e = .returned (.bool true) ∧ Below w.heap.size w w' := by
  have N := new_any 20 w
  rw [newN_20] at N
  go_enter Try.func17, Try.ntmps17
  go_wp2_with fail
  refine N.mono ?_
  rintro e W0 ⟨rfl, h0, hb0⟩
  have A1 := ftake_any 0 W0 h0
  rw [ex1.1, ex1.2] at A1
  go_wp2_with fail
  refine A1.mono ?_
  rintro e W1 ⟨rfl, h1, t1⟩
  have A2 := ftake_any 1 W1 h1
  rw [show takeT (fun _ => false) 20 0 = exT1 from rfl, ex2.1, ex2.2] at A2
  go_wp2_with fail
  refine A2.mono ?_
  rintro e W2 ⟨rfl, h2, t2⟩
  have A3 := ftake_any 0 W2 h2
  rw [show takeT exT1 20 1 = exT2 from rfl, ex3.1, ex3.2] at A3
  go_wp2_with fail
  refine A3.mono ?_
  rintro e W3 ⟨rfl, h3, t3⟩
  have A4 := free_any W3 h3
  rw [show takeT exT2 20 0 = exT3 from rfl, ex4] at A4
  go_wp2_with (go_at_call 11; refine A4.mono ?_; rintro e w' ⟨rfl, rfl⟩)
  go_ret
  exact ⟨rfl, hb0.trans (((t1.trans t2).trans t3).to_below (by omega) (Nat.le_refl _) hb0.size)⟩
/-- Any number made one below m. -/
def plN (n : Int) (m : Nat) : Nat := ((if n < 0 then -(n + 1) else n) % (m : Int)).toNat
theorem plN_lt (n : Int) {m : Nat} (hm : 0 < m) : plN n m < m := by
  unfold plN
  have h1 := Int.emod_nonneg (if n < 0 then -(n + 1) else n) (show (m : Int) ≠ 0 by omega)
  have h2 := Int.emod_lt_of_pos (if n < 0 then -(n + 1) else n) (show (0 : Int) < m by omega)
  omega
theorem plN_eq (n : Int) {m : Nat} (hm : 0 < m) : (plN n m : Int) = (if n < 0 then -(n + 1) else n) % (m : Int) := by
  unfold plN
  have h1 := Int.emod_nonneg (if n < 0 then -(n + 1) else n) (show (m : Int) ≠ 0 by omega)
  omega
theorem place_any (n : Int) (m : Nat) (hm : 0 < m) (n0 : -9223372036854775808 ≤ n) (n1 : n ≤ 9223372036854775807) (w : World) :
    Calls Try.prog 18 #[.int .i64 n, .int .i64 (m : Int)] w fun e w' => e = .returned (.int .i64 (plN n m : Int)) ∧ w = w' := by
  have E := plN_eq n hm
  by_cases hn : n < 0
  · rw [if_pos hn] at E
    obtain ⟨k, hk⟩ : ∃ k : Int, -(n + 1) = k := ⟨_, rfl⟩
    obtain rfl : n = -k - 1 := by omega
    rw [hk] at E
    replace E := Lib.hid E
    go_enter Try.func18, Try.ntmps18
    go_wp2
    go_ret
    exact ⟨ret_int E.out.symm, rfl⟩
  · rw [if_neg hn] at E
    replace E := Lib.hid E
    go_enter Try.func18, Try.ntmps18
    go_wp2
    go_ret
    exact ⟨ret_int E.out.symm, rfl⟩
end Go.Proofs.Ytdjpanmokojpdaa.Frm
