/-
  Plain facts on pages of four sizes (numbers below 2 to the 64): no Go text is named here. Conditions: none.
-/
import Derived.Test.YtkbkilkmiigahaaMath
import Derived.KernelRfl
namespace Go.Proofs.Ytkbkilkmiigahaa.Fld
theorem getI_div (x p s : Int) (hm : mayB p s = true) (h0 : 0 ≤ x) : getI x p s = x / ((2 ^ p.toNat : Nat) : Int) % ((2 ^ s.toNat : Nat) : Int) := by
  unfold getI; rw [if_pos hm, ← get_eq, Nat.and_two_pow_sub_one_eq_mod]
  obtain ⟨a, rfl⟩ := Int.eq_ofNat_of_zero_le h0
  simp
theorem putI_zero (x s : Int) (hm : mayB 0 s = true) (h0 : 0 ≤ x) (h1 : x ≤ 18446744073709551615) : putI x 0 s 0 = x / ((2 ^ s.toNat : Nat) : Int) * ((2 ^ s.toNat : Nat) : Int) := by
  unfold putI; rw [if_pos hm]
  obtain ⟨a, rfl⟩ := Int.eq_ofNat_of_zero_le h0
  have e : putN a 0 s.toNat 0 = a / 2 ^ s.toNat * 2 ^ s.toNat := by
    apply Nat.eq_of_testBit_eq; intro i
    rw [putN_testBit, Nat.mul_comm, Nat.testBit_two_pow_mul, Nat.testBit_div_two_pow]
    by_cases hi : i < 64
    · by_cases hs : i < s.toNat
      · have h2 : ¬ s.toNat ≤ i := by omega
        simp [inF, hs, h2]
      · have h2 : s.toNat ≤ i := by omega
        have h3 : i - s.toNat + s.toNat = i := by omega
        simp [inF, hs, h2, hi, h3]
    · have h4 := testBit_hi (x := a) (i := i) (by omega) (by omega)
      by_cases h2 : s.toNat ≤ i
      · have h3 : i - s.toNat + s.toNat = i := by omega
        simp [hi, h3, h4]
      · simp [hi, h2]
  show ((putN a 0 s.toNat 0 : Nat) : Int) = _
  rw [e]; simp

/-! ### Sizes -/
def sizeB (s : Int) : Bool := decide (0 ≤ s ∧ s ≤ 3)
def bitsI (s : Int) : Int := if sizeB s then 13 + 3 * s else 0
def bytesI (s : Int) : Int := if s = 0 then 8192 else if s = 1 then 65536 else if s = 2 then 524288 else if s = 3 then 4194304 else 0
def baseI (x s : Int) : Int := if sizeB s then x / bytesI s * bytesI s else 0
def offI (x s : Int) : Int := if sizeB s then x % bytesI s else 0
def startsB (x s : Int) : Bool := sizeB s && decide (x % bytesI s = 0)
def inB (a b s : Int) : Bool := sizeB s && decide (a / bytesI s = b / bytesI s)
def meetB (a s b t : Int) : Bool := sizeB s && sizeB t && inB a b (max s t)
def holeB (x : Int) : Bool := decide (8796093022208 ≤ x ∧ x < 18446735277616529408)
def tagI (x : Int) : Int := x / 4194304 % 4194304
theorem sizeB_true {s : Int} (h : sizeB s = true) : s = 0 ∨ s = 1 ∨ s = 2 ∨ s = 3 := by
  have : 0 ≤ s ∧ s ≤ 3 := by simpa [sizeB] using h
  omega
theorem sizeB_false {s : Int} (h : sizeB s = false) : ¬ (0 ≤ s ∧ s ≤ 3) := by simpa only [sizeB, decide_eq_false_iff_not] using h
theorem sizeB_mk {s : Int} (h : 0 ≤ s ∧ s ≤ 3) : sizeB s = true := by simpa [sizeB] using h
theorem bytes_none {s : Int} (h : sizeB s = false) : bytesI s = 0 := by
  have := sizeB_false h
  unfold bytesI; rw [if_neg (by omega), if_neg (by omega), if_neg (by omega), if_neg (by omega)]
theorem bytes_bd (s : Int) : 0 ≤ bytesI s ∧ bytesI s ≤ 4194304 := by
  cases h : sizeB s
  · rw [bytes_none h]; omega
  · rcases sizeB_true h with rfl | rfl | rfl | rfl <;> decide
theorem bytes_pos {s : Int} (h : sizeB s = true) : 8192 ≤ bytesI s := by
  rcases sizeB_true h with rfl | rfl | rfl | rfl <;> decide
theorem base_bd (x s : Int) (h0 : 0 ≤ x) (_h1 : x ≤ 18446744073709551615) : 0 ≤ baseI x s ∧ baseI x s ≤ x := by
  cases h : sizeB s
  · unfold baseI; rw [h]; simp; omega
  · unfold baseI; rw [h]
    rcases sizeB_true h with rfl | rfl | rfl | rfl <;> simp [bytesI] <;> omega
theorem base_top (x s : Int) (h0 : 0 ≤ x) (h1 : x ≤ 18446744073709551615) : baseI x s + bytesI s ≤ 18446744073709551616 := by
  cases h : sizeB s
  · unfold baseI; rw [h, bytes_none h]; simp
  · unfold baseI; rw [h]
    rcases sizeB_true h with rfl | rfl | rfl | rfl <;> simp [bytesI] <;> omega
theorem off_bd (x s : Int) : 0 ≤ offI x s ∧ offI x s ≤ 4194303 := by
  cases h : sizeB s
  · unfold offI; rw [h]; simp
  · unfold offI; rw [h]
    rcases sizeB_true h with rfl | rfl | rfl | rfl <;> simp [bytesI] <;> omega
theorem bits_may {s : Int} (h : sizeB s = true) : mayB 0 (bitsI s) = true ∧ mayB (bitsI s) 1 = true := by
  rcases sizeB_true h with rfl | rfl | rfl | rfl <;> decide
theorem bits_none {s : Int} (h : sizeB s = false) : bitsI s = 0 := by unfold bitsI; rw [h]; simp
theorem bits_pow {s : Int} (h : sizeB s = true) : ((2 ^ (bitsI s).toNat : Nat) : Int) = bytesI s := by
  rcases sizeB_true h with rfl | rfl | rfl | rfl <;> decide
theorem mask_bytes {s : Int} (h : sizeB s = true) : maskI (bitsI s) 1 = bytesI s := by
  rcases sizeB_true h with rfl | rfl | rfl | rfl <;> kernel_rfl
theorem put_base {x s : Int} (h : sizeB s = true) (h0 : 0 ≤ x) (h1 : x ≤ 18446744073709551615) : putI x 0 (bitsI s) 0 = baseI x s := by
  rw [putI_zero x _ (bits_may h).1 h0 h1, bits_pow h]; unfold baseI; rw [if_pos h]
theorem get_off {x s : Int} (h0 : 0 ≤ x) : getI x 0 (bitsI s) = offI x s := by
  cases h : sizeB s
  · rw [bits_none h]; unfold offI; rw [h]; simp [getI, mayB]
  · rw [getI_div x 0 _ (bits_may h).1 h0, bits_pow h]; unfold offI; rw [if_pos h]; simp
theorem get_tag (x : Int) (h0 : 0 ≤ x) : getI x 22 22 = tagI x := by
  rw [getI_div x 22 22 (by decide) h0]; rfl
theorem get_hole (x : Int) (h0 : 0 ≤ x) : getI x 43 21 = x / 8796093022208 % 2097152 := by
  rw [getI_div x 43 21 (by decide) h0]; rfl
theorem mask_21 : maskI 0 21 = 2097151 := by kernel_rfl
theorem hole_walk (x : Int) (h0 : 0 ≤ x) (h1 : x ≤ 18446744073709551615) : holeB x = (getI x 43 21 != 0 && getI x 43 21 != 2097151) := by
  rw [get_hole x h0, Bool.eq_iff_iff]
  unfold holeB
  simp only [decide_eq_true_eq, Bool.and_eq_true, bne_iff_ne, ne_eq]
  omega
theorem starts_walk (x s : Int) : startsB x s = (sizeB s && (offI x s == 0)) := by
  unfold startsB offI
  cases h : sizeB s
  · rfl
  · simp only [Bool.true_and, if_true]; rw [Bool.eq_iff_iff]; simp
theorem base_eq {a b s : Int} (h : sizeB s = true) : baseI a s = baseI b s ↔ a / bytesI s = b / bytesI s := by
  unfold baseI; rw [if_pos h, if_pos h]
  have := bytes_pos h
  constructor
  · intro e; exact Int.eq_of_mul_eq_mul_right (by omega) e
  · intro e; rw [e]
theorem in_walk (a b s : Int) : inB a b s = (sizeB s && (baseI a s == baseI b s)) := by
  unfold inB
  cases h : sizeB s
  · rfl
  · simp only [Bool.true_and]; rw [Bool.eq_iff_iff]; simp [base_eq h]

/-! ### Bits of the hole -/
theorem bitI_div (x : Int) (i : Nat) (h0 : 0 ≤ x) : bitI x i = x / ((2 ^ i : Nat) : Int) % 2 := by
  obtain ⟨a, rfl⟩ := Int.eq_ofNat_of_zero_le h0
  unfold bitI
  simp only [Int.toNat_natCast]
  rw [Nat.testBit_eq_decide_div_mod_eq]
  have := Nat.mod_two_eq_zero_or_one (a / 2 ^ i)
  have e : ((a : Int) / ((2 ^ i : Nat) : Int)) % 2 = ((a / 2 ^ i % 2 : Nat) : Int) := by simp
  rw [e]
  rcases this with h | h <;> simp [h]
theorem hole_bits (x : Int) (h0 : 0 ≤ x) (h1 : x ≤ 18446744073709551615) : holeB x = true ↔ ∃ i : Int, 44 ≤ i ∧ i < 64 ∧ bitI x i ≠ bitI x 43 := by
  constructor
  · intro h
    have hh : 8796093022208 ≤ x ∧ x < 18446735277616529408 := by simpa [holeB] using h
    apply Classical.byContradiction
    intro hn
    have hb : ∀ i : Nat, 44 ≤ i → i < 64 → bitI x (i : Int) = bitI x 43 := fun i a b => Classical.byContradiction fun c => hn ⟨i, by omega, by omega, c⟩
    have e43 : bitI x 43 = x / 8796093022208 % 2 := bitI_div x 43 h0
    have key : ∀ i : Nat, 44 ≤ i → i ≤ 64 → x / 8796093022208 % ((2 ^ (i - 43) : Nat) : Int) = (((2 ^ (i - 43) : Nat) : Int) - 1) * (x / 8796093022208 % 2) := by
      intro i hi
      induction i with
      | zero => omega
      | succ i ih =>
        intro hi2
        by_cases h44 : i = 43
        · subst h44; simp
        · have ih' := ih (by omega) (by omega)
          have hbi := hb i (by omega) (by omega)
          rw [e43, bitI_div x i h0] at hbi
          have e1 : i + 1 - 43 = (i - 43) + 1 := by omega
          have e2 : ((2 ^ i : Nat) : Int) = 8796093022208 * ((2 ^ (i - 43) : Nat) : Int) := by
            have : (2 : Nat) ^ i = 2 ^ 43 * 2 ^ (i - 43) := by rw [← Nat.pow_add]; congr 1; omega
            rw [this]; simp
          rw [e2, ← Int.ediv_ediv_of_nonneg (by omega)] at hbi
          rw [e1, Nat.pow_succ]
          have hy0 : 0 ≤ x / 8796093022208 := by omega
          generalize x / 8796093022208 = y at *
          have hp : 0 < ((2 ^ (i - 43) : Nat) : Int) := by have := Nat.two_pow_pos (i - 43); omega
          generalize ((2 ^ (i - 43) : Nat)) = P at *
          have hy : y % ((P * 2 : Nat) : Int) = (P : Int) * (y / P % 2) + y % P := by
            obtain ⟨k, rfl⟩ := Int.eq_ofNat_of_zero_le hy0
            have := Nat.mod_mul (x := k) (a := P) (b := 2)
            have e4 : ((k : Int) % ((P * 2 : Nat) : Int)) = ((k % (P * 2) : Nat) : Int) := by simp
            rw [e4, this]; simp; omega
          rw [hy, ih', hbi]
          rcases (show y % 2 = 0 ∨ y % 2 = 1 by omega) with h | h <;> rw [h] <;> simp <;> omega
    have := key 64 (by omega) (by omega)
    have e3 : ((2 ^ (64 - 43) : Nat) : Int) = 2097152 := by decide
    rw [e3] at this
    omega
  · rintro ⟨i, a, b, c⟩
    cases h : holeB x
    · exfalso
      have hh : ¬ (8796093022208 ≤ x ∧ x < 18446735277616529408) := by simpa only [holeB, decide_eq_false_iff_not] using h
      obtain ⟨n, rfl⟩ := Int.eq_ofNat_of_zero_le (show 0 ≤ i by omega)
      apply c
      have hn : n = 44 ∨ n = 45 ∨ n = 46 ∨ n = 47 ∨ n = 48 ∨ n = 49 ∨ n = 50 ∨ n = 51 ∨ n = 52 ∨ n = 53 ∨ n = 54 ∨ n = 55 ∨ n = 56 ∨ n = 57 ∨ n = 58 ∨ n = 59 ∨ n = 60 ∨ n = 61 ∨ n = 62 ∨ n = 63 := by omega
      have e43 : bitI x 43 = x / 8796093022208 % 2 := bitI_div x 43 h0
      rw [e43, bitI_div x n h0]
      rcases hn with rfl | rfl | rfl | rfl | rfl | rfl | rfl | rfl | rfl | rfl | rfl | rfl | rfl | rfl | rfl | rfl | rfl | rfl | rfl | rfl <;> simp only [Nat.reducePow, Int.cast_ofNat_Int] <;> omega
    · rfl
theorem div_mul_bd (x b : Int) (h0 : 0 ≤ x) (hb : 0 < b) : 0 ≤ x / b * b ∧ x / b * b ≤ x := by
  have h1 := Int.emod_nonneg x (show b ≠ 0 by omega)
  have h2 : x / b * b + x % b = x := Int.ediv_mul_add_emod x b
  have h3 : 0 ≤ x / b := Int.ediv_nonneg h0 (by omega)
  have h4 : 0 ≤ x / b * b := Int.mul_nonneg h3 (by omega)
  omega
/-- What the document's Meet asks. -/
theorem meet_doc (a s b t : Int) (hs : sizeB s = true) (ht : sizeB t = true) :
    meetB a s b t = true ↔ (baseI b t ≤ baseI a s ∧ baseI a s - baseI b t < bytesI t) ∨ (baseI a s ≤ baseI b t ∧ baseI b t - baseI a s < bytesI s) := by
  unfold meetB inB baseI
  rw [hs, ht]
  have hm : sizeB (max s t) = true := sizeB_mk (by have := sizeB_true hs; have := sizeB_true ht; omega)
  rw [hm]
  have hmax : (t ≤ s ∧ max s t = s) ∨ (s ≤ t ∧ max s t = t) := by omega
  generalize max s t = m at *
  rcases sizeB_true hs with rfl | rfl | rfl | rfl <;> rcases sizeB_true ht with rfl | rfl | rfl | rfl <;> rcases hmax with ⟨h, rfl⟩ | ⟨h, rfl⟩ <;>
    first
    | (exfalso; clear hs ht hm; omega)
    | (simp only [bytesI, Bool.true_and, decide_eq_true_eq, if_true, Int.reduceEq, if_false]; clear hs ht hm; omega)
theorem meet_comm (a s b t : Int) : meetB b t a s = meetB a s b t := by
  unfold meetB inB
  rw [show max t s = max s t by omega, Bool.and_comm (sizeB t), Bool.eq_iff_iff]
  simp only [Bool.and_eq_true, decide_eq_true_eq]
  constructor <;> rintro ⟨x, y, z⟩ <;> exact ⟨x, y, z.symm⟩
def nextB (x s : Int) : Bool := sizeB s && decide (baseI x s + bytesI s ≤ 18446744073709551615) && !holeB (baseI x s + bytesI s)
def nextI (x s : Int) : Int := if nextB x s then baseI x s + bytesI s else 0
theorem next_no {x s : Int} (h : nextB x s = false) : nextI x s = 0 := by unfold nextI; rw [h]; rfl
theorem next_yes {x s : Int} (h : nextB x s = true) : nextI x s = baseI x s + bytesI s := by unfold nextI; rw [h]; rfl
/-- An address that is not in the hole, made of any. -/
def vaI (x : Int) : Int := if bitI x 43 = 1 then x % 8796093022208 + 18446735277616529408 else x % 8796093022208
theorem vaI_bd (x : Int) : 0 ≤ vaI x ∧ vaI x ≤ 18446744073709551615 := by unfold vaI; split <;> omega
theorem vaI_hole (x : Int) : holeB (vaI x) = false := by
  unfold holeB vaI; rw [decide_eq_false_iff_not]; split <;> omega
end Go.Proofs.Ytkbkilkmiigahaa.Fld
