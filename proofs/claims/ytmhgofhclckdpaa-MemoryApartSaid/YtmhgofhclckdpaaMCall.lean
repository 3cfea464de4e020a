/-
  Contracts of the functions of package memory that only compute. Conditions: words are below 2 to the 64.
-/
import Derived.Test.YtmhgofhclckdpaaMState
namespace Go.Proofs.Ytmhgofhclckdpaa.Mem
open Go.ChangeShapes Go.WideShapes Go.ChangeAt Go.RowKit Go.Maps
set_option maxHeartbeats 400000
/-- 255 at the addresses from f to l. -/
def inR (f l a : Nat) : Nat := if f ≤ a ∧ a ≤ l then 255 else 0
/-- The bits of the word at k whose bytes stand from f to l. -/
def maskW (f l k : Nat) : Nat := word (inR f l) k
def shrA (s : Nat) : Nat := 18446744073709551615 / 2 ^ min s 64
def shlA (s : Nat) : Nat := 18446744073709551615 * 2 ^ min s 64 % 18446744073709551616
theorem inR_lt (f l a : Nat) : inR f l a < 256 := by unfold inR; split <;> omega
theorem inR_testBit (f l a i : Nat) (hi : i < 8) : (inR f l a).testBit i = decide (f ≤ a ∧ a ≤ l) := by
  unfold inR
  by_cases h : f ≤ a ∧ a ≤ l
  · rw [if_pos h, show (255 : Nat) = 2 ^ 8 - 1 from rfl, Nat.testBit_two_pow_sub_one]; simp [hi, h]
  · rw [if_neg h]; simp [h]
theorem maskW_testBit (f l k i : Nat) : (maskW f l k).testBit i = (decide (i < 64) && decide (f ≤ k + (7 - i / 8) ∧ k + (7 - i / 8) ≤ l)) := by
  unfold maskW
  rw [word_testBit _ (inR_lt f l), inR_testBit _ _ _ _ (by omega)]
theorem shrA_testBit (s i : Nat) : (shrA s).testBit i = decide (i + min s 64 < 64) := by
  unfold shrA
  rw [Nat.testBit_div_two_pow, show (18446744073709551615 : Nat) = 2 ^ 64 - 1 from rfl, Nat.testBit_two_pow_sub_one]
theorem shlA_testBit (s i : Nat) : (shlA s).testBit i = (decide (i < 64) && decide (min s 64 ≤ i)) := by
  unfold shlA
  rw [show (18446744073709551616 : Nat) = 2 ^ 64 from rfl, Nat.testBit_mod_two_pow, Nat.mul_comm, Nat.testBit_two_pow_mul, show (18446744073709551615 : Nat) = 2 ^ 64 - 1 from rfl, Nat.testBit_two_pow_sub_one, Bool.eq_iff_iff]
  simp; omega
theorem shrA_lt (s : Nat) : shrA s < 18446744073709551616 := Nat.lt_of_le_of_lt (Nat.div_le_self _ _) (by decide)
theorem shlA_lt (s : Nat) : shlA s < 18446744073709551616 := Nat.mod_lt _ (by decide)
theorem all_testBit (i : Nat) : (18446744073709551615 : Nat).testBit i = decide (i < 64) := by
  rw [show (18446744073709551615 : Nat) = 2 ^ 64 - 1 from rfl, Nat.testBit_two_pow_sub_one]
theorem mask_lt (f l k : Nat) : maskW f l k < 18446744073709551616 := word_lt _ (inR_lt f l) k
theorem mask_r (f l k : Nat) (c1 : k < f) (c2 : k + 7 ≤ l) : 18446744073709551615 &&& shrA ((f - k) * 8) = maskW f l k := by
  apply Nat.eq_of_testBit_eq; intro i
  rw [maskW_testBit, Nat.testBit_and, all_testBit, shrA_testBit, Bool.eq_iff_iff]; simp; omega
theorem mask_l (f l k : Nat) (c1 : f ≤ k) (c2 : l < k + 7) : 18446744073709551615 &&& shlA ((k + 7 - l) * 8) = maskW f l k := by
  apply Nat.eq_of_testBit_eq; intro i
  rw [maskW_testBit, Nat.testBit_and, all_testBit, shlA_testBit, Bool.eq_iff_iff]; simp; omega
theorem mask_b (f l k : Nat) (c1 : k < f) (c2 : l < k + 7) : (18446744073709551615 &&& shrA ((f - k) * 8)) &&& shlA ((k + 7 - l) * 8) = maskW f l k := by
  apply Nat.eq_of_testBit_eq; intro i
  rw [maskW_testBit, Nat.testBit_and, Nat.testBit_and, all_testBit, shrA_testBit, shlA_testBit, Bool.eq_iff_iff]; simp; omega
theorem mask_n (f l k : Nat) (c1 : f ≤ k) (c2 : k + 7 ≤ l) : 18446744073709551615 = maskW f l k := by
  apply Nat.eq_of_testBit_eq; intro i
  rw [maskW_testBit, all_testBit, Bool.eq_iff_iff]; simp; omega
theorem shr_cast (s : Int) : (18446744073709551615 : Int) / 2 ^ min s.toNat 64 = ((shrA s.toNat : Nat) : Int) := by
  unfold shrA; generalize min s.toNat 64 = n; rw [Int.natCast_ediv, Int.natCast_pow]; rfl
theorem shl_cast (s : Int) : IntKind.u64.wrap ((18446744073709551615 : Int) * 2 ^ min s.toNat 64) = ((shlA s.toNat : Nat) : Int) := by
  unfold shlA; generalize min s.toNat 64 = n; rw [IntKind.wrap_u64, Int.natCast_emod, Int.natCast_mul, Int.natCast_pow]; rfl
theorem ret_int {k : IntKind} {a b : Int} (h : a = b) : Ending.returned (.int k a) = .returned (.int k b) := by rw [h]
theorem ret_bool {a b : Bool} (h : a = b) : Ending.returned (.bool a) = .returned (.bool b) := by rw [h]
theorem wordOf_any (a : Int) (h0 : 0 ≤ a) (h1 : a < 18446744073709551616) (w : World) :
    Calls Try.prog 24 #[.int .u64 a] w fun e w' => e = .returned (.int .u64 (a - a % 8)) ∧ w = w' := by
  go_enter Try.func24, Try.ntmps24
  go_wp2
  go_ret
  exact ⟨rfl, rfl⟩
theorem byteShift_any (a : Int) (h0 : 0 ≤ a) (h1 : a < 18446744073709551616) (w : World) :
    Calls Try.prog 25 #[.int .u64 a] w fun e w' => e = .returned (.int .u64 ((7 - a % 8) * 8)) ∧ w = w' := by
  go_enter Try.func25, Try.ntmps25
  go_wp2
  go_ret
  exact ⟨rfl, rfl⟩
theorem within_any (k f l : Int) (hk0 : 0 ≤ k) (hk1 : k < 4398046511104) (hf0 : 0 ≤ f) (hf1 : f < 4398046511104) (hl0 : 0 ≤ l) (hl1 : l < 4398046511104) (w : World) :
    Calls Try.prog 35 #[.int .u64 k, .int .u64 f, .int .u64 l] w fun e w' => e = .returned (.int .u64 (maskW f.toNat l.toNat k.toNat : Nat)) ∧ w = w' := by
  by_cases c1 : f > k
  · have s1 : 0 ≤ (f - k) * 8 := by omega
    have e1 : ((f - k) * 8).toNat = (f.toNat - k.toNat) * 8 := by omega
    have E1 := Lib.hid e1
    clear e1
    by_cases c2 : l < k + 8 - 1
    · have s2 : 0 ≤ (k + 8 - 1 - l) * 8 := by omega
      have E2 := Lib.hid (show ((k + 8 - 1 - l) * 8).toNat = (k.toNat + 7 - l.toNat) * 8 by omega)
      have M := Lib.hid (mask_b f.toNat l.toNat k.toNat (by omega) (by omega))
      go_enter Try.func35, Try.ntmps35
      go_wp2
      go_ret
      refine ⟨ret_int ?_, rfl⟩
      rw [shr_cast, shl_cast, E1.out, E2.out, ← M.out]
      exact (congrArg (fun x => bits BinOp.and IntKind.u64 x _) (bits_and_u64_nat 18446744073709551615 _ (by decide) (shrA_lt _))).trans (bits_and_u64_nat _ _ (Nat.lt_of_le_of_lt Nat.and_le_left (by decide)) (shlA_lt _))
    · have M := Lib.hid (mask_r f.toNat l.toNat k.toNat (by omega) (by omega))
      go_enter Try.func35, Try.ntmps35
      go_wp2
      go_ret
      refine ⟨ret_int ?_, rfl⟩
      rw [shr_cast, E1.out, ← M.out]
      exact bits_and_u64_nat 18446744073709551615 _ (by decide) (shrA_lt _)
  · by_cases c2 : l < k + 8 - 1
    · have s2 : 0 ≤ (k + 8 - 1 - l) * 8 := by omega
      have E2 := Lib.hid (show ((k + 8 - 1 - l) * 8).toNat = (k.toNat + 7 - l.toNat) * 8 by omega)
      have M := Lib.hid (mask_l f.toNat l.toNat k.toNat (by omega) (by omega))
      go_enter Try.func35, Try.ntmps35
      go_wp2
      go_ret
      refine ⟨ret_int ?_, rfl⟩
      rw [shl_cast, E2.out, ← M.out]
      exact bits_and_u64_nat 18446744073709551615 _ (by decide) (shlA_lt _)
    · have M := Lib.hid (mask_n f.toNat l.toNat k.toNat (by omega) (by omega))
      go_enter Try.func35, Try.ntmps35
      go_wp2
      go_ret
      exact ⟨ret_int (congrArg (fun n : Nat => (n : Int)) M.out), rfl⟩
end Go.Proofs.Ytmhgofhclckdpaa.Mem
