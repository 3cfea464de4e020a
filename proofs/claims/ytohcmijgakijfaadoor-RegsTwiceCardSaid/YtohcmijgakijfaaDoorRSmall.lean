/-
  Contracts of space, fits, targetOf, statusOf of package regs. Conditions: words are below 2 to the 64.
-/
import Derived.Test.YtohcmijgakijfaaDoorRFind
namespace Go.Proofs.YtohcmijgakijfaaDoor.Rg
open Fld
open Go.ChangeShapes Go.WideShapes Go.ChangeAt Go.RowKit Go.Maps
set_option maxHeartbeats 1000000
set_option maxRecDepth 100000
theorem space_any (u : Int) (w : World) :
    Calls Tryd.prog 27 #[.int .i64 u] w fun e w' => e = .returned (.tuple #[.int .i64 (if uB u then spI u else 0), .bool (uB u)]) ∧ w = w' := by
  by_cases h0 : u = 0
  · subst h0
    go_enter Tryd.func27, Tryd.ntmps27
    go_wp2
    go_ret2
    exact ⟨rfl, rfl⟩
  · by_cases h1 : u = 1
    · subst h1
      go_enter Tryd.func27, Tryd.ntmps27
      go_wp2
      go_ret2
      exact ⟨rfl, rfl⟩
    · rw [show uB u = false by unfold uB; rw [decide_eq_false_iff_not]; omega]
      simp only [Bool.false_eq_true, if_false]
      go_enter Tryd.func27, Tryd.ntmps27
      go_wp2
      go_ret2
      exact ⟨rfl, rfl⟩
theorem fitsB_int (n s m : Int) (hs : 1 ≤ s) (hm : (2 : Int) ^ s.toNat = m) (hl : m ≤ 9223372036854775808) (n0 : -9223372036854775808 ≤ n) (n1 : n ≤ 9223372036854775807) : fitsB (IntKind.u64.wrap n) s = decide (0 ≤ n ∧ n < m) := by
  unfold fitsB
  rw [hm, IntKind.wrap_u64, Bool.eq_iff_iff]
  simp only [Bool.and_eq_true, decide_eq_true_eq, hs, true_and]
  omega
theorem fits_any (n s m : Int) (hs : 1 ≤ s) (hm : (2 : Int) ^ s.toNat = m) (hl : m ≤ 9223372036854775808) (n0 : -9223372036854775808 ≤ n) (n1 : n ≤ 9223372036854775807) (w : World) :
    Calls Tryd.prog 28 #[.int .i64 n, .int .i64 s] w fun e w' => e = .returned (.bool (decide (0 ≤ n ∧ n < m))) ∧ w = w' := by
  have E := Lib.hid (fitsB_int n s m hs hm hl n0 n1)
  have hb : 0 ≤ IntKind.u64.wrap n ∧ IntKind.u64.wrap n ≤ 18446744073709551615 := by rw [IntKind.wrap_u64]; omega
  clear hm hl
  go_enter Tryd.func28, Tryd.ntmps28
  go_wp2_with fail
  generalize IntKind.u64.wrap n = x at *
  refine (Fld.fits_any x s hb.1 hb.2 _).mono ?_
  rintro e w' ⟨rfl, rfl⟩
  go_wp2
  go_ret
  rw [E.out]
  exact ⟨rfl, rfl⟩
theorem getI_lo (w : Int) (h : U w) : getI w 0 13 = w % 8192 := by
  obtain ⟨n, rfl⟩ := Int.eq_ofNat_of_zero_le h.1
  rw [getI_of (mayB_mk (by omega)), ← get_eq]
  simp only [Int.toNat_natCast, show Int.toNat 0 = 0 from rfl, show Int.toNat 13 = 13 from rfl, Nat.pow_zero, Nat.div_one]
  rw [Nat.and_two_pow_sub_one_eq_mod]; omega
theorem getI_hi (w : Int) (h : U w) : getI w 22 42 = w / 4194304 := by
  obtain ⟨n, rfl⟩ := Int.eq_ofNat_of_zero_le h.1
  have hn : n < 18446744073709551616 := by have := h.2; omega
  rw [getI_of (mayB_mk (by omega)), ← get_eq]
  simp only [Int.toNat_natCast, show Int.toNat 22 = 22 from rfl, show Int.toNat 42 = 42 from rfl]
  rw [Nat.and_two_pow_sub_one_eq_mod, Nat.mod_eq_of_lt (by
    have e1 : (2 : Nat) ^ 22 = 4194304 := by decide
    have e2 : (2 : Nat) ^ 42 = 4398046511104 := by decide
    rw [e1, e2]; omega)]
  have e1 : (2 : Nat) ^ 22 = 4194304 := by decide
  rw [e1]; omega
theorem small_testBit {x n i : Nat} (h : x < 2 ^ n) (hi : n ≤ i) : x.testBit i = false :=
  Nat.testBit_lt_two_pow (Nat.lt_of_lt_of_le h (Nat.pow_le_pow_right (by decide) hi))
theorem target_eq (w : Int) (h : U w) : putI (getI w 22 42) 48 13 (getI w 0 13) = tgtI w := by
  rw [getI_lo w h, getI_hi w h]
  have h0 := h.1; have h1 := h.2
  have e := put_add (w / 4194304) (w % 8192) 48 13 (by unfold U; omega) (by omega) (by rw [show (2 : Int) ^ 13 = 8192 from rfl]; omega) (by decide) (by decide) (fun i hi _ => small_testBit (n := 42) (by rw [show (2 : Nat) ^ 42 = 4398046511104 from rfl]; omega) (by omega))
  rw [show ((48 : Nat) : Int) = 48 from rfl, show ((13 : Nat) : Int) = 13 from rfl] at e
  rw [e, show (2 : Int) ^ 48 = 281474976710656 from rfl]
  unfold tgtI; omega
theorem targetOf_any (x : Int) (h : U x) (w : World) :
    Calls Tryd.prog 32 #[.int .u64 x] w fun e w' => e = .returned (.int .u64 (tgtI x)) ∧ ∃ n, w' = w.drewN n := by
  have E := Lib.hid (target_eq x h)
  have b1 := getI_bd x 22 42
  have b2 := getI_bd x 0 13
  go_enter Tryd.func32, Tryd.ntmps32
  go_wp2_with fail
  refine (get_any x 22 42 h.1 h.2 _).mono ?_; rintro e w' ⟨rfl, n, rfl⟩
  go_wp2_with fail
  refine (get_any x 0 13 h.1 h.2 _).mono ?_; rintro e w' ⟨rfl, n2, rfl⟩
  go_wp2_with fail
  refine (put_any _ 48 13 _ b1.1 b1.2 b2.1 b2.2 _).mono ?_; rintro e w' ⟨rfl, rfl⟩
  go_wp2
  go_ret
  rw [E.out]
  exact ⟨rfl, _, rfl⟩
/-- A word's bits from n on are 0. -/
theorem put_bit (x : Int) (b : Bool) (p : Nat) (h0 : 0 ≤ x) (hx : x < 2 ^ p) (hp : p < 60) : putI x p 1 (b.toNat : Int) = x + (if b then 2 ^ p else 0) := by
  have h60 : (2 : Int) ^ p ≤ 2 ^ 60 := by exact_mod_cast Nat.pow_le_pow_right (n := 2) (by decide) (by omega)
  have e60 : (2 : Int) ^ 60 = 1152921504606846976 := rfl
  have hn : x.toNat < 2 ^ p := by
    have : ((x.toNat : Nat) : Int) < ((2 ^ p : Nat) : Int) := by rw [Int.toNat_of_nonneg h0, Int.natCast_pow]; exact hx
    exact_mod_cast this
  have e := put_add x (b.toNat : Int) p 1 (by unfold U; omega) (by omega) (by cases b <;> decide) (by decide) (by omega) (fun i hi _ => small_testBit (n := p) hn hi)
  rw [show ((1 : Nat) : Int) = 1 from rfl] at e
  rw [e]; cases b <;> simp
/-- The word of a fault, as it is put together. -/
def stW (again st pr : Bool) (k a : Int) : Int := putI (putI (putI (putI (putI (putI 0 0 1 1) 1 1 (again.toNat : Int)) 2 1 (st.toNat : Int)) 3 1 (pr.toNat : Int)) 7 7 k) 16 8 a
theorem stW_eq (was : Int) (st pr : Bool) (k a : Int) (h0 : 0 ≤ k) (h1 : k ≤ 127) (h2 : 0 ≤ a) (h3 : a ≤ 255) : stW (decide (was % 2 = 1)) st pr k a = fauI was k a st pr := by
  unfold stW fauI
  have e0 : putI 0 0 1 1 = 1 := by
    have := put_bit 0 true 0 (by decide) (by decide) (by decide); simpa using this
  rw [e0]
  have e1 := put_bit 1 (decide (was % 2 = 1)) 1 (by decide) (by decide) (by decide)
  rw [show ((1 : Nat) : Int) = 1 from rfl] at e1
  rw [e1]
  have hw2 : (if decide (was % 2 = 1) then (2 : Int) ^ 1 else 0) = 2 * (was % 2) := by by_cases h : was % 2 = 1 <;> simp [h] <;> omega
  rw [hw2]
  have e2 := put_bit (1 + 2 * (was % 2)) st 2 (by omega) (by rw [show (2 : Int) ^ 2 = 4 from rfl]; omega) (by decide)
  rw [show ((2 : Nat) : Int) = 2 from rfl] at e2
  rw [e2]
  have e3 := put_bit (1 + 2 * (was % 2) + (if st then 2 ^ 2 else 0)) pr 3 (by cases st <;> simp <;> omega) (by rw [show (2 : Int) ^ 3 = 8 from rfl]; cases st <;> simp <;> omega) (by decide)
  rw [show ((3 : Nat) : Int) = 3 from rfl] at e3
  rw [e3]
  obtain ⟨x, hx⟩ : ∃ x : Int, 1 + 2 * (was % 2) + (if st then 2 ^ 2 else 0) + (if pr then 2 ^ 3 else 0) = x := ⟨_, rfl⟩
  have hxb : 0 ≤ x ∧ x < 16 := by rw [← hx]; cases st <;> cases pr <;> simp <;> omega
  have hx2 : 1 + 2 * (was % 2) + k * 128 + a * 65536 + (if st then 4 else 0) + (if pr then 8 else 0) = x + k * 128 + a * 65536 := by
    rw [← hx]; cases st <;> cases pr <;> simp <;> omega
  rw [hx, hx2]
  have e4 := put_add x k 7 7 (by unfold U; omega) h0 (by rw [show (2 : Int) ^ 7 = 128 from rfl]; omega) (by decide) (by decide) (fun i hi _ => small_testBit (n := 4) (by rw [show (2 : Nat) ^ 4 = 16 from rfl]; omega) (by omega))
  rw [show ((7 : Nat) : Int) = 7 from rfl, show (2 : Int) ^ 7 = 128 from rfl] at e4
  rw [e4]
  have e5 := put_add (x + k * 128) a 16 8 (by unfold U; omega) h2 (by rw [show (2 : Int) ^ 8 = 256 from rfl]; omega) (by decide) (by decide) (fun i hi _ => small_testBit (n := 14) (by rw [show (2 : Nat) ^ 14 = 16384 from rfl]; omega) (by omega))
  rw [show ((16 : Nat) : Int) = 16 from rfl, show ((8 : Nat) : Int) = 8 from rfl, show (2 : Int) ^ 16 = 65536 from rfl] at e5
  exact e5
theorem statusOf_any (again st pr : Bool) (k a : Int) (h0 : 0 ≤ k) (h1 : k ≤ 127) (h2 : 0 ≤ a) (h3 : a ≤ 255) (w : World) :
    Calls Tryd.prog 30 #[.bool again, .int .i64 k, .int .i64 a, .bool st, .bool pr] w fun e w' => e = .returned (.int .u64 (stW again st pr k a)) ∧ w = w' := by
  have b0 := putI_bd 0 0 1 1 (by omega) (by omega)
  have b1 := putI_bd (putI 0 0 1 1) 1 1 (again.toNat : Int) b0.1 b0.2
  have b2 := putI_bd (putI (putI 0 0 1 1) 1 1 (again.toNat : Int)) 2 1 (st.toNat : Int) b1.1 b1.2
  have b3 := putI_bd (putI (putI (putI 0 0 1 1) 1 1 (again.toNat : Int)) 2 1 (st.toNat : Int)) 3 1 (pr.toNat : Int) b2.1 b2.2
  have b4 := putI_bd (putI (putI (putI (putI 0 0 1 1) 1 1 (again.toNat : Int)) 2 1 (st.toNat : Int)) 3 1 (pr.toNat : Int)) 7 7 k b3.1 b3.2
  go_enter Tryd.func30, Tryd.ntmps30
  go_wp2_with fail
  refine (set_any 0 0 true (by omega) (by omega) _).mono ?_; rintro e w' ⟨rfl, rfl⟩
  simp only [Bool.toNat_true, show ((1 : Nat) : Int) = 1 from rfl]
  go_wp2_with fail
  refine (set_any _ 1 again b0.1 b0.2 _).mono ?_; rintro e w' ⟨rfl, rfl⟩
  go_wp2_with fail
  refine (set_any _ 2 st b1.1 b1.2 _).mono ?_; rintro e w' ⟨rfl, rfl⟩
  go_wp2_with fail
  refine (set_any _ 3 pr b2.1 b2.2 _).mono ?_; rintro e w' ⟨rfl, rfl⟩
  go_wp2_with fail
  refine (put_any _ 7 7 k b3.1 b3.2 (by omega) (by omega) _).mono ?_; rintro e w' ⟨rfl, rfl⟩
  go_wp2_with fail
  refine (put_any _ 16 8 a b4.1 b4.2 (by omega) (by omega) _).mono ?_; rintro e w' ⟨rfl, rfl⟩
  go_wp2
  go_ret
  exact ⟨rfl, rfl⟩
end Go.Proofs.YtohcmijgakijfaaDoor.Rg
