/-
  YtgdagfhdimoklaaGreatGA: the contracts and plain facts of several texts, laid together. Conditions: those that each theorem names.
-/
import Derived.Test.YtgdagfhdimoklaaGreatMath
import Derived.KernelRfl
import Derived.Below
import Derived.Test.YtgdagfhdimoklaaGreatRows
import Derived.WalkKit
import Derived.ProofKit
import Derived.OpenShut
import Derived.WalkLawsBesides
import Derived.Deep.QuietTactic
import Derived.BigQuiet
import Derived.Lib.Hide
import Derived.Lib.MinMax
import Derived.Laws.IdiomStrings
import Derived.Deep.AppendLies
/-
  Plain facts on pages of four sizes (numbers below 2 to the 64): no Go text is named here. Conditions: none.
-/
namespace Go.Proofs.YtgdagfhdimoklaaGreat.Fld
theorem getI_div (x p s : Int) (hm : mayB p s = true) (h0 : 0 ≤ x) : getI x p s = x / ((2 ^ p.toNat : Nat) : Int) % ((2 ^ s.toNat : Nat) : Int) := by
  unfold getI; rw [if_pos hm, ← get_eq, Nat.and_two_pow_sub_one_eq_mod]
  obtain ⟨a, rfl⟩ := Int.eq_ofNat_of_zero_le h0
  simp
theorem putI_zero (x s : Int) (hm : mayB 0 s = true) (h0 : 0 ≤ x) (h1 : x ≤ 18446744073709551615) : putI x 0 s 0 = x / ((2 ^ s.toNat : Nat) : Int) * ((2 ^ s.toNat : Nat) : Int) := by
  unfold putI; rw [if_pos hm]
  obtain ⟨a, rfl⟩ := Int.eq_ofNat_of_zero_le h0
  have e : putN a 0 s.toNat 0 = a / 2 ^ s.toNat * 2 ^ s.toNat := by
    apply Nat.eq_of_testBit_eq; intro i
    rw [putN_testBit, Nat.mul_comm, Nat.testBit_two_pow_mul, Nat.testBit_div_two_pow]
    by_cases hi : i < 64
    · by_cases hs : i < s.toNat
      · have h2 : ¬ s.toNat ≤ i := by omega
        simp [inF, hs, h2]
      · have h2 : s.toNat ≤ i := by omega
        have h3 : i - s.toNat + s.toNat = i := by omega
        simp [inF, hs, h2, hi, h3]
    · have h4 := testBit_hi (x := a) (i := i) (by omega) (by omega)
      by_cases h2 : s.toNat ≤ i
      · have h3 : i - s.toNat + s.toNat = i := by omega
        simp [hi, h3, h4]
      · simp [hi, h2]
  show ((putN a 0 s.toNat 0 : Nat) : Int) = _
  rw [e]; simp

/-! ### Sizes -/
def sizeB (s : Int) : Bool := decide (0 ≤ s ∧ s ≤ 3)
def bitsI (s : Int) : Int := if sizeB s then 13 + 3 * s else 0
def bytesI (s : Int) : Int := if s = 0 then 8192 else if s = 1 then 65536 else if s = 2 then 524288 else if s = 3 then 4194304 else 0
def baseI (x s : Int) : Int := if sizeB s then x / bytesI s * bytesI s else 0
def offI (x s : Int) : Int := if sizeB s then x % bytesI s else 0
def startsB (x s : Int) : Bool := sizeB s && decide (x % bytesI s = 0)
def inB (a b s : Int) : Bool := sizeB s && decide (a / bytesI s = b / bytesI s)
def meetB (a s b t : Int) : Bool := sizeB s && sizeB t && inB a b (max s t)
def holeB (x : Int) : Bool := decide (8796093022208 ≤ x ∧ x < 18446735277616529408)
def tagI (x : Int) : Int := x / 4194304 % 4194304
theorem sizeB_true {s : Int} (h : sizeB s = true) : s = 0 ∨ s = 1 ∨ s = 2 ∨ s = 3 := by
  have : 0 ≤ s ∧ s ≤ 3 := by simpa [sizeB] using h
  omega
theorem sizeB_false {s : Int} (h : sizeB s = false) : ¬ (0 ≤ s ∧ s ≤ 3) := by simpa only [sizeB, decide_eq_false_iff_not] using h
theorem sizeB_mk {s : Int} (h : 0 ≤ s ∧ s ≤ 3) : sizeB s = true := by simpa [sizeB] using h
theorem bytes_none {s : Int} (h : sizeB s = false) : bytesI s = 0 := by
  have := sizeB_false h
  unfold bytesI; rw [if_neg (by omega), if_neg (by omega), if_neg (by omega), if_neg (by omega)]
theorem bytes_bd (s : Int) : 0 ≤ bytesI s ∧ bytesI s ≤ 4194304 := by
  cases h : sizeB s
  · rw [bytes_none h]; omega
  · rcases sizeB_true h with rfl | rfl | rfl | rfl <;> decide
theorem bytes_pos {s : Int} (h : sizeB s = true) : 8192 ≤ bytesI s := by
  rcases sizeB_true h with rfl | rfl | rfl | rfl <;> decide
theorem base_bd (x s : Int) (h0 : 0 ≤ x) (_h1 : x ≤ 18446744073709551615) : 0 ≤ baseI x s ∧ baseI x s ≤ x := by
  cases h : sizeB s
  · unfold baseI; rw [h]; simp; omega
  · unfold baseI; rw [h]
    rcases sizeB_true h with rfl | rfl | rfl | rfl <;> simp [bytesI] <;> omega
theorem base_top (x s : Int) (h0 : 0 ≤ x) (h1 : x ≤ 18446744073709551615) : baseI x s + bytesI s ≤ 18446744073709551616 := by
  cases h : sizeB s
  · unfold baseI; rw [h, bytes_none h]; simp
  · unfold baseI; rw [h]
    rcases sizeB_true h with rfl | rfl | rfl | rfl <;> simp [bytesI] <;> omega
theorem off_bd (x s : Int) : 0 ≤ offI x s ∧ offI x s ≤ 4194303 := by
  cases h : sizeB s
  · unfold offI; rw [h]; simp
  · unfold offI; rw [h]
    rcases sizeB_true h with rfl | rfl | rfl | rfl <;> simp [bytesI] <;> omega
theorem bits_may {s : Int} (h : sizeB s = true) : mayB 0 (bitsI s) = true ∧ mayB (bitsI s) 1 = true := by
  rcases sizeB_true h with rfl | rfl | rfl | rfl <;> decide
theorem bits_none {s : Int} (h : sizeB s = false) : bitsI s = 0 := by unfold bitsI; rw [h]; simp
theorem bits_pow {s : Int} (h : sizeB s = true) : ((2 ^ (bitsI s).toNat : Nat) : Int) = bytesI s := by
  rcases sizeB_true h with rfl | rfl | rfl | rfl <;> decide
theorem mask_bytes {s : Int} (h : sizeB s = true) : maskI (bitsI s) 1 = bytesI s := by
  rcases sizeB_true h with rfl | rfl | rfl | rfl <;> kernel_rfl
theorem put_base {x s : Int} (h : sizeB s = true) (h0 : 0 ≤ x) (h1 : x ≤ 18446744073709551615) : putI x 0 (bitsI s) 0 = baseI x s := by
  rw [putI_zero x _ (bits_may h).1 h0 h1, bits_pow h]; unfold baseI; rw [if_pos h]
theorem get_off {x s : Int} (h0 : 0 ≤ x) : getI x 0 (bitsI s) = offI x s := by
  cases h : sizeB s
  · rw [bits_none h]; unfold offI; rw [h]; simp [getI, mayB]
  · rw [getI_div x 0 _ (bits_may h).1 h0, bits_pow h]; unfold offI; rw [if_pos h]; simp
theorem get_tag (x : Int) (h0 : 0 ≤ x) : getI x 22 22 = tagI x := by
  rw [getI_div x 22 22 (by decide) h0]; rfl
theorem get_hole (x : Int) (h0 : 0 ≤ x) : getI x 43 21 = x / 8796093022208 % 2097152 := by
  rw [getI_div x 43 21 (by decide) h0]; rfl
theorem mask_21 : maskI 0 21 = 2097151 := by kernel_rfl
theorem hole_walk (x : Int) (h0 : 0 ≤ x) (h1 : x ≤ 18446744073709551615) : holeB x = (getI x 43 21 != 0 && getI x 43 21 != 2097151) := by
  rw [get_hole x h0, Bool.eq_iff_iff]
  unfold holeB
  simp only [decide_eq_true_eq, Bool.and_eq_true, bne_iff_ne, ne_eq]
  omega
theorem starts_walk (x s : Int) : startsB x s = (sizeB s && (offI x s == 0)) := by
  unfold startsB offI
  cases h : sizeB s
  · rfl
  · simp only [Bool.true_and, if_true]; rw [Bool.eq_iff_iff]; simp
theorem base_eq {a b s : Int} (h : sizeB s = true) : baseI a s = baseI b s ↔ a / bytesI s = b / bytesI s := by
  unfold baseI; rw [if_pos h, if_pos h]
  have := bytes_pos h
  constructor
  · intro e; exact Int.eq_of_mul_eq_mul_right (by omega) e
  · intro e; rw [e]
theorem in_walk (a b s : Int) : inB a b s = (sizeB s && (baseI a s == baseI b s)) := by
  unfold inB
  cases h : sizeB s
  · rfl
  · simp only [Bool.true_and]; rw [Bool.eq_iff_iff]; simp [base_eq h]

/-! ### Bits of the hole -/
theorem bitI_div (x : Int) (i : Nat) (h0 : 0 ≤ x) : bitI x i = x / ((2 ^ i : Nat) : Int) % 2 := by
  obtain ⟨a, rfl⟩ := Int.eq_ofNat_of_zero_le h0
  unfold bitI
  simp only [Int.toNat_natCast]
  rw [Nat.testBit_eq_decide_div_mod_eq]
  have := Nat.mod_two_eq_zero_or_one (a / 2 ^ i)
  have e : ((a : Int) / ((2 ^ i : Nat) : Int)) % 2 = ((a / 2 ^ i % 2 : Nat) : Int) := by simp
  rw [e]
  rcases this with h | h <;> simp [h]
theorem hole_bits (x : Int) (h0 : 0 ≤ x) (h1 : x ≤ 18446744073709551615) : holeB x = true ↔ ∃ i : Int, 44 ≤ i ∧ i < 64 ∧ bitI x i ≠ bitI x 43 := by
  constructor
  · intro h
    have hh : 8796093022208 ≤ x ∧ x < 18446735277616529408 := by simpa [holeB] using h
    apply Classical.byContradiction
    intro hn
    have hb : ∀ i : Nat, 44 ≤ i → i < 64 → bitI x (i : Int) = bitI x 43 := fun i a b => Classical.byContradiction fun c => hn ⟨i, by omega, by omega, c⟩
    have e43 : bitI x 43 = x / 8796093022208 % 2 := bitI_div x 43 h0
    have key : ∀ i : Nat, 44 ≤ i → i ≤ 64 → x / 8796093022208 % ((2 ^ (i - 43) : Nat) : Int) = (((2 ^ (i - 43) : Nat) : Int) - 1) * (x / 8796093022208 % 2) := by
      intro i hi
      induction i with
      | zero => omega
      | succ i ih =>
        intro hi2
        by_cases h44 : i = 43
        · subst h44; simp
        · have ih' := ih (by omega) (by omega)
          have hbi := hb i (by omega) (by omega)
          rw [e43, bitI_div x i h0] at hbi
          have e1 : i + 1 - 43 = (i - 43) + 1 := by omega
          have e2 : ((2 ^ i : Nat) : Int) = 8796093022208 * ((2 ^ (i - 43) : Nat) : Int) := by
            have : (2 : Nat) ^ i = 2 ^ 43 * 2 ^ (i - 43) := by rw [← Nat.pow_add]; congr 1; omega
            rw [this]; simp
          rw [e2, ← Int.ediv_ediv_of_nonneg (by omega)] at hbi
          rw [e1, Nat.pow_succ]
          have hy0 : 0 ≤ x / 8796093022208 := by omega
          generalize x / 8796093022208 = y at *
          have hp : 0 < ((2 ^ (i - 43) : Nat) : Int) := by have := Nat.two_pow_pos (i - 43); omega
          generalize ((2 ^ (i - 43) : Nat)) = P at *
          have hy : y % ((P * 2 : Nat) : Int) = (P : Int) * (y / P % 2) + y % P := by
            obtain ⟨k, rfl⟩ := Int.eq_ofNat_of_zero_le hy0
            have := Nat.mod_mul (x := k) (a := P) (b := 2)
            have e4 : ((k : Int) % ((P * 2 : Nat) : Int)) = ((k % (P * 2) : Nat) : Int) := by simp
            rw [e4, this]; simp; omega
          rw [hy, ih', hbi]
          rcases (show y % 2 = 0 ∨ y % 2 = 1 by omega) with h | h <;> rw [h] <;> simp <;> omega
    have := key 64 (by omega) (by omega)
    have e3 : ((2 ^ (64 - 43) : Nat) : Int) = 2097152 := by decide
    rw [e3] at this
    omega
  · rintro ⟨i, a, b, c⟩
    cases h : holeB x
    · exfalso
      have hh : ¬ (8796093022208 ≤ x ∧ x < 18446735277616529408) := by simpa only [holeB, decide_eq_false_iff_not] using h
      obtain ⟨n, rfl⟩ := Int.eq_ofNat_of_zero_le (show 0 ≤ i by omega)
      apply c
      have hn : n = 44 ∨ n = 45 ∨ n = 46 ∨ n = 47 ∨ n = 48 ∨ n = 49 ∨ n = 50 ∨ n = 51 ∨ n = 52 ∨ n = 53 ∨ n = 54 ∨ n = 55 ∨ n = 56 ∨ n = 57 ∨ n = 58 ∨ n = 59 ∨ n = 60 ∨ n = 61 ∨ n = 62 ∨ n = 63 := by omega
      have e43 : bitI x 43 = x / 8796093022208 % 2 := bitI_div x 43 h0
      rw [e43, bitI_div x n h0]
      rcases hn with rfl | rfl | rfl | rfl | rfl | rfl | rfl | rfl | rfl | rfl | rfl | rfl | rfl | rfl | rfl | rfl | rfl | rfl | rfl | rfl <;> simp only [Nat.reducePow, Int.cast_ofNat_Int] <;> omega
    · rfl
theorem div_mul_bd (x b : Int) (h0 : 0 ≤ x) (hb : 0 < b) : 0 ≤ x / b * b ∧ x / b * b ≤ x := by
  have h1 := Int.emod_nonneg x (show b ≠ 0 by omega)
  have h2 : x / b * b + x % b = x := Int.ediv_mul_add_emod x b
  have h3 : 0 ≤ x / b := Int.ediv_nonneg h0 (by omega)
  have h4 : 0 ≤ x / b * b := Int.mul_nonneg h3 (by omega)
  omega
/-- What the document's Meet asks. -/
theorem meet_doc (a s b t : Int) (hs : sizeB s = true) (ht : sizeB t = true) :
    meetB a s b t = true ↔ (baseI b t ≤ baseI a s ∧ baseI a s - baseI b t < bytesI t) ∨ (baseI a s ≤ baseI b t ∧ baseI b t - baseI a s < bytesI s) := by
  unfold meetB inB baseI
  rw [hs, ht]
  have hm : sizeB (max s t) = true := sizeB_mk (by have := sizeB_true hs; have := sizeB_true ht; omega)
  rw [hm]
  have hmax : (t ≤ s ∧ max s t = s) ∨ (s ≤ t ∧ max s t = t) := by omega
  generalize max s t = m at *
  rcases sizeB_true hs with rfl | rfl | rfl | rfl <;> rcases sizeB_true ht with rfl | rfl | rfl | rfl <;> rcases hmax with ⟨h, rfl⟩ | ⟨h, rfl⟩ <;>
    first
    | (exfalso; clear hs ht hm; omega)
    | (simp only [bytesI, Bool.true_and, decide_eq_true_eq, if_true, Int.reduceEq, if_false]; clear hs ht hm; omega)
theorem meet_comm (a s b t : Int) : meetB b t a s = meetB a s b t := by
  unfold meetB inB
  rw [show max t s = max s t by omega, Bool.and_comm (sizeB t), Bool.eq_iff_iff]
  simp only [Bool.and_eq_true, decide_eq_true_eq]
  constructor <;> rintro ⟨x, y, z⟩ <;> exact ⟨x, y, z.symm⟩
def nextB (x s : Int) : Bool := sizeB s && decide (baseI x s + bytesI s ≤ 18446744073709551615) && !holeB (baseI x s + bytesI s)
def nextI (x s : Int) : Int := if nextB x s then baseI x s + bytesI s else 0
theorem next_no {x s : Int} (h : nextB x s = false) : nextI x s = 0 := by unfold nextI; rw [h]; rfl
theorem next_yes {x s : Int} (h : nextB x s = true) : nextI x s = baseI x s + bytesI s := by unfold nextI; rw [h]; rfl
/-- An address that is not in the hole, made of any. -/
def vaI (x : Int) : Int := if bitI x 43 = 1 then x % 8796093022208 + 18446735277616529408 else x % 8796093022208
theorem vaI_bd (x : Int) : 0 ≤ vaI x ∧ vaI x ≤ 18446744073709551615 := by unfold vaI; split <;> omega
theorem vaI_hole (x : Int) : holeB (vaI x) = false := by
  unfold holeB vaI; rw [decide_eq_false_iff_not]; split <;> omega
end Go.Proofs.YtgdagfhdimoklaaGreat.Fld
/-
  Plain facts on fields that the laws of layer 1 ask for; no Go text is named here. Conditions: none.
-/
namespace Go.Proofs.YtgdagfhdimoklaaGreat.Fld
/-- The word of all bits. -/
def allOnes : Int := 18446744073709551615
theorem allOnes_bit (i : Nat) (h : i < 64) : allOnes.toNat.testBit i = true := by
  have e : allOnes.toNat = 2 ^ 64 - 1 := by decide
  rw [e, Nat.testBit_two_pow_sub_one]; simpa using h
theorem mask_put' (p s : Int) : maskI p s = putI 0 p s allOnes := by
  unfold maskI putI
  split
  · rename_i hm
    have hm' := mayB_true hm
    congr 1
    apply Nat.eq_of_testBit_eq; intro i
    rw [maskN_testBit, putN_testBit]
    by_cases hi : i < 64
    · cases h : inF p.toNat s.toNat i
      · simp
      · have h2 : i - p.toNat < 64 := by omega
        rw [if_pos rfl, allOnes_bit _ h2]
    · simp [hi]
  · rfl
theorem mask_put (p s : Int) : maskI p s = putI 0 p s 18446744073709551615 := mask_put' p s

theorem may_zero {p s : Int} (hm : mayB p s = true) : mayB 0 s = true := mayB_mk (by have := mayB_true hm; omega)
theorem getI_of {x p s : Int} (hm : mayB p s = true) : getI x p s = ((getN x.toNat p.toNat s.toNat : Nat) : Int) := by unfold getI; rw [if_pos hm]
theorem putI_of {x p s v : Int} (hm : mayB p s = true) : putI x p s v = ((putN x.toNat p.toNat s.toNat v.toNat : Nat) : Int) := by unfold putI; rw [if_pos hm]
theorem maskI_of {p s : Int} (hm : mayB p s = true) : maskI p s = ((maskN p.toNat s.toNat : Nat) : Int) := by unfold maskI; rw [if_pos hm]
theorem inF_add {p s i : Nat} (h : i < s) : inF p s (p + i) = true := by simp [inF]; omega

theorem getI_put (x p s v : Int) (hm : mayB p s = true) : getI (putI x p s v) p s = getI v 0 s := by
  have hm' := mayB_true hm
  rw [getI_of hm, putI_of hm, getI_of (may_zero hm)]
  congr 1
  apply Nat.eq_of_testBit_eq; intro i
  rw [getN_testBit, getN_testBit, Int.toNat_natCast, putN_testBit]
  by_cases hi : i < s.toNat
  · have h1 : p.toNat + i < 64 := by omega
    simp [hi, inF_add hi, h1]
  · simp [hi]
theorem getI_put_far (x p s q t v : Int) (hm : mayB p s = true) (hq : mayB q t = true) (h : p + s ≤ q ∨ q + t ≤ p) : getI (putI x q t v) p s = getI x p s := by
  have hm' := mayB_true hm
  have hq' := mayB_true hq
  rw [getI_of hm, putI_of hq, getI_of hm]
  congr 1
  apply Nat.eq_of_testBit_eq; intro i
  rw [getN_testBit, getN_testBit, Int.toNat_natCast, putN_testBit]
  by_cases hi : i < s.toNat
  · have h1 : p.toNat + i < 64 := by omega
    have h2 : inF q.toNat t.toNat (p.toNat + i) = false := by simp only [inF, decide_eq_false_iff_not]; omega
    simp [hi, h1, h2]
  · simp [hi]
theorem putI_comm (x p s q t u v : Int) (hm : mayB p s = true) (hq : mayB q t = true) (h : p + s ≤ q ∨ q + t ≤ p) : putI (putI x p s u) q t v = putI (putI x q t v) p s u := by
  have hm' := mayB_true hm
  have hq' := mayB_true hq
  rw [putI_of hm, putI_of hq, putI_of hq, putI_of hm]
  congr 1
  apply Nat.eq_of_testBit_eq; intro i
  rw [putN_testBit, putN_testBit, Int.toNat_natCast, Int.toNat_natCast, putN_testBit, putN_testBit]
  by_cases hi : i < 64
  · cases h1 : inF p.toNat s.toNat i
    · simp [hi]
    · have h2 : inF q.toNat t.toNat i = false := by
        simp only [inF, decide_eq_true_eq, decide_eq_false_iff_not] at h1 ⊢; omega
      simp [hi, h2]
  · simp [hi]
theorem putI_put (x p s u v : Int) (hm : mayB p s = true) : putI (putI x p s u) p s v = putI x p s v := by
  rw [putI_of hm, putI_of hm, putI_of hm]
  congr 1
  apply Nat.eq_of_testBit_eq; intro i
  rw [putN_testBit, putN_testBit, Int.toNat_natCast, putN_testBit]
  by_cases hi : i < 64
  · cases h1 : inF p.toNat s.toNat i <;> simp [hi]
  · simp [hi]
theorem putI_get (x p s : Int) (h0 : 0 ≤ x) (h1 : x ≤ 18446744073709551615) (hm : mayB p s = true) : putI x p s (getI x p s) = x := by
  have hm' := mayB_true hm
  rw [getI_of hm, putI_of hm, Int.toNat_natCast]
  have e : putN x.toNat p.toNat s.toNat (getN x.toNat p.toNat s.toNat) = x.toNat := by
    apply Nat.eq_of_testBit_eq; intro i
    rw [putN_testBit, getN_testBit]
    by_cases hi : i < 64
    · cases h2 : inF p.toNat s.toNat i
      · simp [hi]
      · simp only [inF, decide_eq_true_eq] at h2
        have h3 : i - p.toNat < s.toNat := by omega
        have h4 : p.toNat + (i - p.toNat) = i := by omega
        simp [hi, h3, h4]
    · simp only [hi, decide_false, Bool.false_and]
      exact (testBit_hi (by omega) (by omega)).symm
  rw [e]; omega
theorem putI_get' (x p s v : Int) (h0 : 0 ≤ x) (h1 : x ≤ 18446744073709551615) (hm : mayB p s = true) : putI (putI x p s v) p s (getI (putI x p s v) p s) = putI x p s v :=
  putI_get _ p s (putI_bd x p s v h0 h1).1 (putI_bd x p s v h0 h1).2 hm
theorem fits_get (x p s : Int) (hm : mayB p s = true) : fitsB (getI x p s) s = true := by
  have hm' := mayB_true hm
  unfold fitsB; rw [getI_of hm]
  have := getN_lt x.toNat p.toNat s.toNat
  simp only [Bool.and_eq_true, decide_eq_true_eq]
  rw [cast_pow]
  omega
theorem get_fits (v s : Int) (h0 : 0 ≤ v) (hf : fitsB v s = true) (hm : mayB 0 s = true) : getI v 0 s = v := by
  have hm' := mayB_true hm
  unfold fitsB at hf
  simp only [Bool.and_eq_true, decide_eq_true_eq] at hf
  rw [cast_pow] at hf
  rw [getI_of hm]
  have e : getN v.toNat (Int.toNat 0) s.toNat = v.toNat := by
    have : getN v.toNat (Int.toNat 0) s.toNat = ob v.toNat.testBit s.toNat := by simp [getN]
    rw [this, ob_self (by omega)]
  rw [e]; omega
theorem or_mask (x p s : Int) (h0 : 0 ≤ x) (h1 : x ≤ 18446744073709551615) (hm : mayB p s = true) : bits .or .u64 x (maskI p s) = putI x p s allOnes := by
  have hm' := mayB_true hm
  rw [putI_of hm, maskI_of hm]
  have hx : x = ((x.toNat : Nat) : Int) := by omega
  have h2 := maskN_lt p.toNat s.toNat
  conv => lhs; rw [hx]
  rw [bits_or_u64_nat _ _ (by omega) h2]
  congr 1
  apply Nat.eq_of_testBit_eq; intro i
  rw [Nat.testBit_or, maskN_testBit, putN_testBit]
  by_cases hi : i < 64
  · cases h : inF p.toNat s.toNat i
    · simp [hi]
    · rw [if_pos rfl, allOnes_bit _ (by omega)]; simp [hi]
  · simp only [hi, decide_false, Bool.false_and, Bool.or_false]
    exact testBit_hi (by omega) (by omega)
theorem ob_add (f g : Nat → Bool) (n : Nat) (h : ∀ i, f i = false ∨ g i = false) : ob f n + ob g n = ob (fun i => f i || g i) n := by
  induction n with
  | zero => rfl
  | succ n ih =>
    simp only [ob]; rw [← ih]
    rcases h n with e | e <;> rw [e] <;> simp <;> omega
theorem sub_and (a m : Nat) (ha : a < 18446744073709551616) : a - (a &&& m) = ob (fun i => a.testBit i && !m.testBit i) 64 := by
  have h1 : a &&& m = ob (fun i => a.testBit i && m.testBit i) 64 := by
    apply Nat.eq_of_testBit_eq; intro i
    rw [Nat.testBit_and, ob_testBit]
    by_cases hi : i < 64
    · simp [hi]
    · rw [testBit_hi ha (by omega)]; simp
  have h2 := ob_add (fun i => a.testBit i && m.testBit i) (fun i => a.testBit i && !m.testBit i) 64 (fun i => by cases m.testBit i <;> simp)
  have h3 : ob (fun i => (a.testBit i && m.testBit i) || (a.testBit i && !m.testBit i)) 64 = a := by
    rw [← ob_self (show a < 2 ^ 64 from ha)]
    rw [ob_self (show a < 2 ^ 64 from ha)]
    exact ob_ext (fun i _ => by cases a.testBit i <;> cases m.testBit i <;> rfl) |>.trans (ob_self (show a < 2 ^ 64 from ha))
  rw [h3] at h2
  omega
theorem none_mask (x p s : Int) (h0 : 0 ≤ x) (h1 : x ≤ 18446744073709551615) (hm : mayB p s = true) : IntKind.u64.wrap (x - bits .and .u64 x (maskI p s)) = putI x p s 0 := by
  have hm' := mayB_true hm
  rw [putI_of hm, maskI_of hm]
  have hx : x = ((x.toNat : Nat) : Int) := by omega
  have h2 := maskN_lt p.toNat s.toNat
  conv => lhs; rw [hx]
  rw [bits_and_u64_nat _ _ (by omega) h2, IntKind.wrap_u64]
  have h3 : x.toNat &&& maskN p.toNat s.toNat ≤ x.toNat := Nat.and_le_left
  have h4 := sub_and x.toNat (maskN p.toNat s.toNat) (by omega)
  have h5 : ob (fun i => x.toNat.testBit i && !(maskN p.toNat s.toNat).testBit i) 64 = putN x.toNat p.toNat s.toNat (Int.toNat 0) := by
    apply Nat.eq_of_testBit_eq; intro i
    rw [ob_testBit, maskN_testBit, putN_testBit]
    by_cases hi : i < 64
    · cases h : inF p.toNat s.toNat i <;> simp [hi]
    · simp [hi]
  rw [h5] at h4
  omega
theorem get_mask (p s : Int) (hm : mayB p s = true) : getI (maskI p s) p s = getI allOnes 0 s := by rw [mask_put', getI_put _ _ _ _ hm]
theorem get_one : getI 1 0 1 = 1 ∧ getI 0 0 1 = 0 := ⟨by kernel_rfl, by kernel_rfl⟩

/-- What the laws make of any integer: one below m, not below 0. -/
def nrm (a m : Int) : Int := if a < 0 then -((a + 1).tmod m) else a % m
theorem nrm_neg (a m : Int) (h : a < 0) : -((a + 1).tmod m) = nrm a m := by unfold nrm; rw [if_pos h]
theorem nrm_pos (a m : Int) (h : ¬ a < 0) : a % m = nrm a m := by unfold nrm; rw [if_neg h]
theorem nrm_bd (a m : Int) (hm : 0 < m) : 0 ≤ nrm a m ∧ nrm a m < m := by
  unfold nrm; split
  · rename_i h
    have h1 : -((a + 1).tmod m) = (-(a + 1)) % m := by rw [← Int.neg_tmod, Int.tmod_eq_emod_of_nonneg (by omega)]
    rw [h1]
    exact ⟨Int.emod_nonneg _ (by omega), Int.emod_lt_of_pos _ hm⟩
  · exact ⟨Int.emod_nonneg _ (by omega), Int.emod_lt_of_pos _ hm⟩
theorem nrm_or (a m : Int) : (RowKit.Hid (-((a + 1).tmod m) = nrm a m) ∧ a < 0) ∨ (RowKit.Hid (a % m = nrm a m) ∧ ¬ a < 0) := by
  by_cases h : a < 0
  · exact .inl ⟨nrm_neg a m h, h⟩
  · exact .inr ⟨nrm_pos a m h, h⟩
end Go.Proofs.YtgdagfhdimoklaaGreat.Fld
/-
  Plain facts on pages that the laws of layer 2 ask for; no Go text is named here. Conditions: none.
-/
namespace Go.Proofs.YtgdagfhdimoklaaGreat.Fld
theorem bits_bd (s : Int) : 0 ≤ bitsI s ∧ bitsI s ≤ 22 := by
  cases h : sizeB s
  · rw [bits_none h]; omega
  · rcases sizeB_true h with rfl | rfl | rfl | rfl <;> decide
theorem half_more (s : Int) (k : Nat) (hk : (k : Int) ≤ bitsI s) : 1 < shI (bytesI s) k ↔ (k : Int) < bitsI s := by
  cases h : sizeB s
  · rw [bits_none h] at hk ⊢
    rw [bytes_none h]
    have : k = 0 := by omega
    subst this; decide
  · rcases sizeB_true h with rfl | rfl | rfl | rfl
    · have e : ∀ k : Fin 14, (1 < shI (bytesI 0) k.val ↔ ((k.val : Nat) : Int) < bitsI 0) := by decide
      exact e ⟨k, by have : bitsI 0 = 13 := rfl; omega⟩
    · have e : ∀ k : Fin 17, (1 < shI (bytesI 1) k.val ↔ ((k.val : Nat) : Int) < bitsI 1) := by decide
      exact e ⟨k, by have : bitsI 1 = 16 := rfl; omega⟩
    · have e : ∀ k : Fin 20, (1 < shI (bytesI 2) k.val ↔ ((k.val : Nat) : Int) < bitsI 2) := by decide
      exact e ⟨k, by have : bitsI 2 = 19 := rfl; omega⟩
    · have e : ∀ k : Fin 23, (1 < shI (bytesI 3) k.val ↔ ((k.val : Nat) : Int) < bitsI 3) := by decide
      exact e ⟨k, by have : bitsI 3 = 22 := rfl; omega⟩
/-- A lesser page's first and last address are in the greater page of any of its addresses. -/
theorem base_base (x s t : Int) (hs : sizeB s = true) (ht : sizeB t = true) (h : s ≤ t) : baseI (baseI x s) t = baseI x t ∧ baseI (baseI x s + bytesI s - 1) t = baseI x t := by
  unfold baseI
  rw [hs, ht]
  rcases sizeB_true hs with rfl | rfl | rfl | rfl <;> rcases sizeB_true ht with rfl | rfl | rfl | rfl <;>
    first
    | (exfalso; clear hs ht; omega)
    | (simp only [bytesI, if_true, Int.reduceEq, if_false]; clear hs ht h; omega)
theorem base_off (x s : Int) (hs : sizeB s = true) : baseI x s + offI x s = x ∧ offI x s < bytesI s := by
  unfold baseI offI
  rw [hs]
  rcases sizeB_true hs with rfl | rfl | rfl | rfl <;> (simp only [bytesI, if_true, Int.reduceEq, if_false]; clear hs; omega)
theorem in_base (x s t : Int) (hs : sizeB s = true) (ht : sizeB t = true) (h : s ≤ t) : inB (baseI x s) x t = true := by
  rw [in_walk, ht, (base_base x s t hs ht h).1]; simp
theorem tag_bd (x : Int) : 0 ≤ tagI x ∧ tagI x < 4194304 := by unfold tagI; omega
theorem tag_base (x : Int) : tagI (baseI x 3) = tagI x := by
  unfold tagI baseI; rw [if_pos (by decide)]; simp only [bytesI, if_true, Int.reduceEq, if_false]; omega
theorem tag_next (x : Int) (_h0 : 0 ≤ x) : tagI (baseI x 3 + 4194304) = (tagI (baseI x 3) + 1) % 4194304 := by
  unfold tagI baseI; rw [if_pos (by decide)]; simp only [bytesI, if_true, Int.reduceEq, if_false]; omega
/-- Pages one behind the other. -/
def walkI (x s : Int) : Nat → Int
  | 0 => x
  | k + 1 => baseI (walkI x s k) s + bytesI s
theorem walk_at (x s : Int) (hs : sizeB s = true) (k : Nat) : baseI (walkI x s k) s = baseI x s + (k : Int) * bytesI s := by
  induction k with
  | zero => simp [walkI]
  | succ k ih =>
    have e : baseI (walkI x s k) s + bytesI s = baseI x s + ((k + 1 : Nat) : Int) * bytesI s := by rw [ih, Int.natCast_succ, Int.add_mul]; omega
    have e2 : baseI (baseI (walkI x s k) s + bytesI s) s = baseI (walkI x s k) s + bytesI s := by
      unfold baseI
      rw [hs]
      rcases sizeB_true hs with rfl | rfl | rfl | rfl <;> (simp only [bytesI, if_true, Int.reduceEq, if_false]; clear hs; omega)
    show baseI (baseI (walkI x s k) s + bytesI s) s = _
    rw [e2, e]
theorem walk_bd (x s : Int) (x0 : 0 ≤ x) (x1 : x < 4398046511104) (k : Nat) (hk : k ≤ 21) : 0 ≤ walkI x s k ∧ walkI x s k ≤ 4398046511104 + (k : Int) * 4194304 := by
  induction k with
  | zero => simp [walkI]; omega
  | succ k ih =>
    have i := ih (by omega)
    have b := base_bd (walkI x s k) s i.1 (by omega)
    have c := bytes_bd s
    show 0 ≤ baseI (walkI x s k) s + bytesI s ∧ baseI (walkI x s k) s + bytesI s ≤ _
    omega
theorem walk_next (x s : Int) (hs : sizeB s = true) (x0 : 0 ≤ x) (x1 : x < 4398046511104) (k : Nat) (hk : k ≤ 20) :
    nextB (walkI x s k) s = true ∧ nextI (walkI x s k) s = walkI x s (k + 1) ∧ holeB (walkI x s (k + 1)) = false ∧ startsB (walkI x s (k + 1)) s = true := by
  have b := walk_bd x s x0 x1 k (by omega)
  have c := walk_bd x s x0 x1 (k + 1) (by omega)
  have e : walkI x s (k + 1) = baseI (walkI x s k) s + bytesI s := rfl
  have hh : holeB (walkI x s (k + 1)) = false := by unfold holeB; rw [decide_eq_false_iff_not]; omega
  have hn : nextB (walkI x s k) s = true := by
    unfold nextB; rw [hs, ← e, hh]; simp; omega
  refine ⟨hn, ?_, hh, ?_⟩
  · rw [next_yes hn, e]
  · rw [e]; unfold startsB baseI
    rw [hs]
    rcases sizeB_true hs with rfl | rfl | rfl | rfl <;> (simp only [bytesI, if_true, Int.reduceEq, if_false, Bool.true_and, decide_eq_true_eq]; clear hs hn hh; omega)
end Go.Proofs.YtgdagfhdimoklaaGreat.Fld
/-
  Plain facts on places of entries (numbers below 2 to the 64): no Go text is named here. Conditions: none.
-/
namespace Go.Proofs.YtgdagfhdimoklaaGreat.Pt
open Fld
/-- A number's bits laid into a word are the word's above, the number's, and the word's below. -/
theorem putN_parts (x p s v : Nat) (h : p + s ≤ 64) (hx : x < 2 ^ 64) : putN x p s v = 2 ^ (p + s) * (x / 2 ^ (p + s)) + (2 ^ p * (v % 2 ^ s) + x % 2 ^ p) := by
  have l1 : x % 2 ^ p < 2 ^ p := Nat.mod_lt _ (Nat.two_pow_pos p)
  have l2 : v % 2 ^ s < 2 ^ s := Nat.mod_lt _ (Nat.two_pow_pos s)
  have l3 : 2 ^ p * (v % 2 ^ s) + x % 2 ^ p < 2 ^ (p + s) := by
    have : 2 ^ p * (v % 2 ^ s + 1) ≤ 2 ^ p * 2 ^ s := Nat.mul_le_mul_left _ l2
    rw [Nat.mul_add, Nat.mul_one, ← Nat.pow_add] at this
    omega
  apply Nat.eq_of_testBit_eq
  intro i
  rw [putN_testBit, Nat.testBit_two_pow_mul_add _ l3, Nat.testBit_two_pow_mul_add _ l1]
  by_cases hi : i < 64
  · by_cases h1 : i < p
    · have h2 : i < p + s := by omega
      have h3 : inF p s i = false := by unfold inF; simp; omega
      simp [hi, h1, h2, h3]
    · by_cases h2 : i < p + s
      · have h3 : inF p s i = true := by unfold inF; simp; omega
        have h4 : i - p < s := by omega
        simp [hi, h1, h2, h3, h4]
      · have h3 : inF p s i = false := by unfold inF; simp; omega
        have h4 : i - (p + s) + (p + s) = i := by omega
        simp only [hi, h2, h3, Nat.testBit_div_two_pow, h4]; simp
  · have h1 : ¬ i < p + s := by omega
    have h2 : x.testBit i = false := Nat.testBit_lt_two_pow (Nat.lt_of_lt_of_le hx (Nat.pow_le_pow_right (by decide) (by omega)))
    have h4 : i - (p + s) + (p + s) = i := by omega
    simp only [hi, h1, Nat.testBit_div_two_pow, h4, h2]; simp
theorem putI_parts (x v : Int) (p s P S Q : Nat) (hs : 1 ≤ s) (h : p + s ≤ 64) (hP : 2 ^ p = P) (hS : 2 ^ s = S) (hQ : 2 ^ (p + s) = Q) (x0 : 0 ≤ x) (x1 : x ≤ 18446744073709551615) (v0 : 0 ≤ v) : putI x (p : Int) (s : Int) v = Q * (x / Q) + (P * (v % S) + x % P) := by
  obtain ⟨n, rfl⟩ := Int.eq_ofNat_of_zero_le x0
  obtain ⟨m, rfl⟩ := Int.eq_ofNat_of_zero_le v0
  have hm : mayB (p : Int) (s : Int) = true := mayB_mk (by omega)
  unfold putI
  rw [if_pos hm]
  simp only [Int.toNat_natCast]
  rw [putN_parts n p s m h (by omega), hP, hS, hQ]
  simp

/-- How many entries, by the number N. -/
def eI (k : Int) : Int := if k = 0 then 512 else if k = 1 then 1024 else if k = 2 then 2048 else if k = 3 then 4096 else if k = 4 then 8192 else if k = 5 then 16384 else if k = 6 then 32768 else 65536
def entI (t : Int) : Int := eI (t % 8)
def splitB (t : Int) : Bool := t / 4096 % 2 == 1
def isB (s : Int) : Bool := decide (0 ≤ s ∧ s ≤ 1)
def wholeI (t : Int) : Int := if splitB t then 32 * entI t else 16 * entI t
def begI (t : Int) : Int := t / wholeI t * wholeI t
def atI (t x s : Int) : Int := 16 * (x / bytesI s % entI t) + if splitB t && s == 1 then 16 * entI t else 0
def ptrI (t x s : Int) : Int := if isB s then begI t + atI t x s else 0
theorem eight {k : Int} (h0 : 0 ≤ k) (h1 : k < 8) : k = 0 ∨ k = 1 ∨ k = 2 ∨ k = 3 ∨ k = 4 ∨ k = 5 ∨ k = 6 ∨ k = 7 := by omega
theorem ent_or (t : Int) : (t % 8 = 0 ∧ entI t = 512) ∨ (t % 8 = 1 ∧ entI t = 1024) ∨ (t % 8 = 2 ∧ entI t = 2048) ∨ (t % 8 = 3 ∧ entI t = 4096) ∨ (t % 8 = 4 ∧ entI t = 8192) ∨ (t % 8 = 5 ∧ entI t = 16384) ∨ (t % 8 = 6 ∧ entI t = 32768) ∨ (t % 8 = 7 ∧ entI t = 65536) := by
  unfold entI
  rcases eight (k := t % 8) (by omega) (by omega) with h | h | h | h | h | h | h | h <;> rw [h] <;> simp [eI]
theorem isB_true {s : Int} (h : isB s = true) : s = 0 ∨ s = 1 := by
  have : 0 ≤ s ∧ s ≤ 1 := by simpa [isB] using h
  omega
theorem isB_mk {s : Int} (h : 0 ≤ s ∧ s ≤ 1) : isB s = true := by simpa [isB] using h
theorem isB_no {s : Int} (h : ¬ (0 ≤ s ∧ s ≤ 1)) : isB s = false := by simpa only [isB, decide_eq_false_iff_not] using h

/-! ### The pointer, laid bit by bit -/
theorem lay_zero (t : Int) (t0 : 0 ≤ t) (t1 : t ≤ 18446744073709551615) : putI t 0 4 0 = t / 16 * 16 := by
  have := putI_parts t 0 0 4 1 16 16 (by decide) (by decide) rfl rfl rfl t0 t1 (by decide)
  rw [show ((0 : Nat) : Int) = 0 from rfl, show ((4 : Nat) : Int) = 4 from rfl] at this
  omega
theorem lay_un (t n : Int) (t0 : 0 ≤ t) (t1 : t ≤ 18446744073709551615) (n0 : 0 ≤ n) : putI (putI t 0 4 0) 4 (9 + t % 8) n = t / (16 * entI t) * (16 * entI t) + 16 * (n % entI t) := by
  rw [lay_zero t t0 t1]
  rcases ent_or t with ⟨h, e⟩ | ⟨h, e⟩ | ⟨h, e⟩ | ⟨h, e⟩ | ⟨h, e⟩ | ⟨h, e⟩ | ⟨h, e⟩ | ⟨h, e⟩ <;> rw [h, e]
  · have := putI_parts (t / 16 * 16) n 4 9 16 512 8192 (by decide) (by decide) rfl rfl rfl (by omega) (by omega) n0
    rw [show ((4 : Nat) : Int) = 4 from rfl, show ((9 : Nat) : Int) = 9 + 0 from rfl] at this
    omega
  · have := putI_parts (t / 16 * 16) n 4 10 16 1024 16384 (by decide) (by decide) rfl rfl rfl (by omega) (by omega) n0
    rw [show ((4 : Nat) : Int) = 4 from rfl, show ((10 : Nat) : Int) = 9 + 1 from rfl] at this
    omega
  · have := putI_parts (t / 16 * 16) n 4 11 16 2048 32768 (by decide) (by decide) rfl rfl rfl (by omega) (by omega) n0
    rw [show ((4 : Nat) : Int) = 4 from rfl, show ((11 : Nat) : Int) = 9 + 2 from rfl] at this
    omega
  · have := putI_parts (t / 16 * 16) n 4 12 16 4096 65536 (by decide) (by decide) rfl rfl rfl (by omega) (by omega) n0
    rw [show ((4 : Nat) : Int) = 4 from rfl, show ((12 : Nat) : Int) = 9 + 3 from rfl] at this
    omega
  · have := putI_parts (t / 16 * 16) n 4 13 16 8192 131072 (by decide) (by decide) rfl rfl rfl (by omega) (by omega) n0
    rw [show ((4 : Nat) : Int) = 4 from rfl, show ((13 : Nat) : Int) = 9 + 4 from rfl] at this
    omega
  · have := putI_parts (t / 16 * 16) n 4 14 16 16384 262144 (by decide) (by decide) rfl rfl rfl (by omega) (by omega) n0
    rw [show ((4 : Nat) : Int) = 4 from rfl, show ((14 : Nat) : Int) = 9 + 5 from rfl] at this
    omega
  · have := putI_parts (t / 16 * 16) n 4 15 16 32768 524288 (by decide) (by decide) rfl rfl rfl (by omega) (by omega) n0
    rw [show ((4 : Nat) : Int) = 4 from rfl, show ((15 : Nat) : Int) = 9 + 6 from rfl] at this
    omega
  · have := putI_parts (t / 16 * 16) n 4 16 16 65536 1048576 (by decide) (by decide) rfl rfl rfl (by omega) (by omega) n0
    rw [show ((4 : Nat) : Int) = 4 from rfl, show ((16 : Nat) : Int) = 9 + 7 from rfl] at this
    omega
theorem lay_bd (t n : Int) (t0 : 0 ≤ t) (t1 : t ≤ 18446744073709551615) (_n0 : 0 ≤ n) : 0 ≤ t / (16 * entI t) * (16 * entI t) + 16 * (n % entI t) ∧ t / (16 * entI t) * (16 * entI t) + 16 * (n % entI t) ≤ 18446744073709551615 := by
  rcases ent_or t with ⟨h, e⟩ | ⟨h, e⟩ | ⟨h, e⟩ | ⟨h, e⟩ | ⟨h, e⟩ | ⟨h, e⟩ | ⟨h, e⟩ | ⟨h, e⟩ <;> rw [e] <;> omega
theorem lay_split (t n s : Int) (t0 : 0 ≤ t) (t1 : t ≤ 18446744073709551615) (n0 : 0 ≤ n) (hs : 0 ≤ s ∧ s ≤ 1) : putI (putI (putI t 0 4 0) 4 (9 + t % 8) n) (13 + t % 8) 1 s = t / (32 * entI t) * (32 * entI t) + (16 * (n % entI t) + 16 * entI t * s) := by
  rw [lay_un t n t0 t1 n0]
  have hb := lay_bd t n t0 t1 n0
  rcases ent_or t with ⟨h, e⟩ | ⟨h, e⟩ | ⟨h, e⟩ | ⟨h, e⟩ | ⟨h, e⟩ | ⟨h, e⟩ | ⟨h, e⟩ | ⟨h, e⟩ <;> rw [h, e] <;> rw [e] at hb
  · have := putI_parts _ s 13 1 8192 2 16384 (by decide) (by decide) rfl rfl rfl hb.1 hb.2 hs.1
    rw [show ((13 : Nat) : Int) = 13 + 0 from rfl, show ((1 : Nat) : Int) = 1 from rfl] at this
    omega
  · have := putI_parts _ s 14 1 16384 2 32768 (by decide) (by decide) rfl rfl rfl hb.1 hb.2 hs.1
    rw [show ((14 : Nat) : Int) = 13 + 1 from rfl, show ((1 : Nat) : Int) = 1 from rfl] at this
    omega
  · have := putI_parts _ s 15 1 32768 2 65536 (by decide) (by decide) rfl rfl rfl hb.1 hb.2 hs.1
    rw [show ((15 : Nat) : Int) = 13 + 2 from rfl, show ((1 : Nat) : Int) = 1 from rfl] at this
    omega
  · have := putI_parts _ s 16 1 65536 2 131072 (by decide) (by decide) rfl rfl rfl hb.1 hb.2 hs.1
    rw [show ((16 : Nat) : Int) = 13 + 3 from rfl, show ((1 : Nat) : Int) = 1 from rfl] at this
    omega
  · have := putI_parts _ s 17 1 131072 2 262144 (by decide) (by decide) rfl rfl rfl hb.1 hb.2 hs.1
    rw [show ((17 : Nat) : Int) = 13 + 4 from rfl, show ((1 : Nat) : Int) = 1 from rfl] at this
    omega
  · have := putI_parts _ s 18 1 262144 2 524288 (by decide) (by decide) rfl rfl rfl hb.1 hb.2 hs.1
    rw [show ((18 : Nat) : Int) = 13 + 5 from rfl, show ((1 : Nat) : Int) = 1 from rfl] at this
    omega
  · have := putI_parts _ s 19 1 524288 2 1048576 (by decide) (by decide) rfl rfl rfl hb.1 hb.2 hs.1
    rw [show ((19 : Nat) : Int) = 13 + 6 from rfl, show ((1 : Nat) : Int) = 1 from rfl] at this
    omega
  · have := putI_parts _ s 20 1 1048576 2 2097152 (by decide) (by decide) rfl rfl rfl hb.1 hb.2 hs.1
    rw [show ((20 : Nat) : Int) = 13 + 7 from rfl, show ((1 : Nat) : Int) = 1 from rfl] at this
    omega
theorem ptr_un {t x s : Int} (t0 : 0 ≤ t) (t1 : t ≤ 18446744073709551615) (n0 : 0 ≤ x / bytesI s) (hs : isB s = true) (h : splitB t = false) : putI (putI t 0 4 0) 4 (9 + t % 8) (x / bytesI s) = ptrI t x s := by
  rw [lay_un t _ t0 t1 n0]; unfold ptrI begI wholeI atI; rw [if_pos hs, h]; simp
theorem ptr_split {t x s : Int} (t0 : 0 ≤ t) (t1 : t ≤ 18446744073709551615) (n0 : 0 ≤ x / bytesI s) (hs : isB s = true) (h : splitB t = true) : putI (putI (putI t 0 4 0) 4 (9 + t % 8) (x / bytesI s)) (13 + t % 8) 1 s = ptrI t x s := by
  have h2 := isB_true hs
  rw [lay_split t _ s t0 t1 n0 (by omega)]; unfold ptrI begI wholeI atI; rw [if_pos hs, h]
  rcases h2 with rfl | rfl <;> simp
theorem get_three (t : Int) (h0 : 0 ≤ t) : getI t 0 3 = t % 8 := by
  rw [getI_div t 0 3 (by decide) h0]; simp
theorem get_split (t : Int) (h0 : 0 ≤ t) : (getI t 12 1 == 1) = splitB t := by
  rw [getI_div t 12 1 (by decide) h0]; rfl

/-! ### What follows -/
theorem ptr_in {t x s : Int} (t0 : 0 ≤ t) (t1 : t ≤ 18446744073709551615) (n0 : 0 ≤ x / bytesI s) (hs : isB s = true) : begI t ≤ ptrI t x s ∧ ptrI t x s - begI t < wholeI t ∧ ptrI t x s % 16 = 0 ∧ ptrI t x s ≤ 18446744073709551615 ∧ 0 ≤ begI t ∧ wholeI t ≤ 2097152 ∧ 512 ≤ wholeI t := by
  have h2 := isB_true hs
  unfold ptrI begI wholeI atI; rw [if_pos hs]
  rcases ent_or t with ⟨h, e⟩ | ⟨h, e⟩ | ⟨h, e⟩ | ⟨h, e⟩ | ⟨h, e⟩ | ⟨h, e⟩ | ⟨h, e⟩ | ⟨h, e⟩ <;> rw [e] <;> cases splitB t <;> rcases h2 with rfl | rfl <;> simp <;> omega
theorem ptr_half {t x s : Int} (n0 : 0 ≤ x / bytesI s) (hs : isB s = true) (h : splitB t = true) : (16 * entI t ≤ ptrI t x s - begI t) ↔ s = 1 := by
  have h2 := isB_true hs
  unfold ptrI begI wholeI atI; rw [if_pos hs, h]
  rcases ent_or t with ⟨h, e⟩ | ⟨h, e⟩ | ⟨h, e⟩ | ⟨h, e⟩ | ⟨h, e⟩ | ⟨h, e⟩ | ⟨h, e⟩ | ⟨h, e⟩ <;> rw [e] <;> rcases h2 with rfl | rfl <;> simp <;> omega
theorem div_page (x s o : Int) (hs : sizeB s = true) : (baseI x s + offI o s) / bytesI s = x / bytesI s := by
  unfold baseI offI; rw [if_pos hs, if_pos hs]
  rcases sizeB_true hs with rfl | rfl | rfl | rfl <;> simp [bytesI] <;> omega
theorem ptr_page (t x s o : Int) (hs : isB s = true) : ptrI t (baseI x s + offI o s) s = ptrI t x s := by
  have h2 := isB_true hs
  unfold ptrI atI; rw [div_page x s o (sizeB_mk (by omega))]

/-! ### Places among so many -/
def arI (i n : Int) : Int := i % n
def idxI (x s n : Int) : Int := x / bytesI s % n
theorem tmod_or (i n : Int) (hn : 0 < n) : (i.tmod n < 0 ∧ i.tmod n + n = arI i n) ∨ (0 ≤ i.tmod n ∧ i.tmod n = arI i n) := by
  have h1 := Int.mul_tdiv_add_tmod i n
  have h2 := Int.tmod_lt_of_pos i hn
  have h3 := Int.lt_tmod_of_pos i hn
  unfold arI
  by_cases h : i.tmod n < 0
  · left
    refine ⟨h, ?_⟩
    have e : i = (i.tmod n + n) + n * (i.tdiv n - 1) := by rw [Int.mul_sub]; omega
    have : ((i.tmod n + n) + n * (i.tdiv n - 1)) % n = i.tmod n + n := by
      rw [Int.add_mul_emod_self_left, Int.emod_eq_of_lt (by omega) (by omega)]
    rw [← e] at this; exact this.symm
  · right
    refine ⟨by omega, ?_⟩
    have e : i = i.tmod n + n * i.tdiv n := by omega
    have : (i.tmod n + n * i.tdiv n) % n = i.tmod n := by
      rw [Int.add_mul_emod_self_left, Int.emod_eq_of_lt (by omega) (by omega)]
    rw [← e] at this; exact this.symm
theorem ar_bd (i n : Int) (hn : 0 < n) : 0 ≤ arI i n ∧ arI i n < n := ⟨Int.emod_nonneg _ (by omega), Int.emod_lt_of_pos _ hn⟩
theorem idx_bd (x s n : Int) (hn : 0 < n) : 0 ≤ idxI x s n ∧ idxI x s n < n := ⟨Int.emod_nonneg _ (by omega), Int.emod_lt_of_pos _ hn⟩
theorem idx_next (x s n : Int) (hs : sizeB s = true) : idxI (x + bytesI s) s n = arI (idxI x s n + 1) n := by
  have hb := bytes_pos hs
  unfold idxI arI
  have : (x + bytesI s) / bytesI s = x / bytesI s + 1 := by
    have := Int.add_mul_ediv_right x 1 (show bytesI s ≠ 0 by omega)
    rwa [Int.one_mul] at this
  rw [this, Int.emod_add_emod]
theorem ptr_whole (n f : Int) (n0 : 0 ≤ n) (n1 : n < 8) : ptrI n (f * 8192) 0 = 16 * (f % entI n) := by
  have hs : splitB n = false := by unfold splitB; rw [show n / 4096 % 2 = 0 by omega]; rfl
  have hw : n / (16 * entI n) = 0 := by
    rcases ent_or n with ⟨h, e⟩ | ⟨h, e⟩ | ⟨h, e⟩ | ⟨h, e⟩ | ⟨h, e⟩ | ⟨h, e⟩ | ⟨h, e⟩ | ⟨h, e⟩ <;> rw [e] <;> omega
  unfold ptrI begI wholeI atI
  rw [hs, show isB 0 = true by decide, show bytesI 0 = 8192 by decide, show f * 8192 / 8192 = f by omega]
  simp [hw]
end Go.Proofs.YtgdagfhdimoklaaGreat.Pt
/-
  Contracts of the functions of package field that compute, and of the document's own answers to them: each returns what the plain functions of Math say, and the world stays but for draws. Conditions: words are below 2 to the 64.
-/
namespace Go.Proofs.YtgdagfhdimoklaaGreat.Fld
open Go.ChangeShapes Go.WideShapes Go.ChangeAt Go.RowKit
set_option maxHeartbeats 400000
theorem ret_int {k : IntKind} {a b : Int} (h : a = b) : Ending.returned (.int k a) = .returned (.int k b) := by rw [h]
theorem ret_bool {a b : Bool} (h : a = b) : Ending.returned (.bool a) = .returned (.bool b) := by rw [h]
theorem ones_any (s : Int) (h0 : 1 ≤ s) (h1 : s ≤ 64) (w : World) :
    Calls Tryz.prog 85 #[.int .i64 s] w fun e w' => e = .returned (.int .u64 (onesI s)) ∧ w = w' := by
  go_enter Tryz.func85, Tryz.ntmps85
  go_wp2
  go_ret
  exact ⟨ret_int (ones_walk' s h0 h1), rfl⟩
theorem ones_same (s : Int) (h0 : 1 ≤ s) (h1 : s ≤ 64) (w : World) :
    Calls Tryz.prog 85 #[.int .i64 s] w fun e w' => e = .returned (.int .u64 (onesI s)) ∧ w' = w :=
  (ones_any s h0 h1 w).mono fun _ _ ⟨a, b⟩ => ⟨a, b.symm⟩
theorem may_yes (p s : Int) (h0 : 0 ≤ p) (h1 : 1 ≤ s) (h2 : s ≤ 64) (h3 : p ≤ 64 - s) (w : World) :
    Calls Tryz.prog 84 #[.int .i64 p, .int .i64 s] w fun e w' => e = .returned (.bool true) ∧ w = w' := by
  go_enter Tryz.func84, Tryz.ntmps84
  go_wp2
  go_ret
  exact ⟨rfl, rfl⟩
theorem may_no (p s : Int) (h : ¬ (0 ≤ p ∧ 1 ≤ s ∧ s ≤ 64 ∧ p ≤ 64 - s)) (w : World) :
    Calls Tryz.prog 84 #[.int .i64 p, .int .i64 s] w fun e w' => e = .returned (.bool false) ∧ w = w' := by
  by_cases h0 : 0 ≤ p
  · by_cases h1 : 1 ≤ s
    · by_cases h2 : s ≤ 64
      · have h3 : ¬ p ≤ 64 - s := fun x => h ⟨h0, h1, h2, x⟩
        clear h
        go_enter Tryz.func84, Tryz.ntmps84
        go_wp2
        go_ret
        exact ⟨rfl, rfl⟩
      · clear h
        go_enter Tryz.func84, Tryz.ntmps84
        go_wp2
        go_ret
        exact ⟨rfl, rfl⟩
    · clear h
      go_enter Tryz.func84, Tryz.ntmps84
      go_wp2
      go_ret
      exact ⟨rfl, rfl⟩
  · clear h
    go_enter Tryz.func84, Tryz.ntmps84
    go_wp2
    go_ret
    exact ⟨rfl, rfl⟩
theorem may_any (p s : Int) (w : World) :
    Calls Tryz.prog 84 #[.int .i64 p, .int .i64 s] w fun e w' => e = .returned (.bool (mayB p s)) ∧ w = w' := by
  cases h : mayB p s
  · exact may_no p s (mayB_false h) w
  · have h' := mayB_true h
    exact may_yes p s h'.1 h'.2.1 h'.2.2.1 h'.2.2.2 w
theorem rmay_any (p s : Int) (w : World) :
    Calls Tryz.prog 112 #[.int .i64 p, .int .i64 s] w fun e w' => e = .returned (.bool (mayB p s)) ∧ w = w' := by
  by_cases h0 : 0 ≤ p
  · by_cases h1 : p < 64
    · by_cases h2 : 1 ≤ s
      · by_cases h3 : s ≤ 64
        · by_cases h4 : p + s ≤ 64
          · have hm : mayB p s = true := mayB_mk (by omega)
            go_enter Tryz.func112, Tryz.ntmps112
            go_wp2
            go_ret
            first | exact ⟨rfl, rfl⟩ | exact ⟨ret_bool hm.symm, rfl⟩
          · have hm : mayB p s = false := mayB_mkf (by omega)
            go_enter Tryz.func112, Tryz.ntmps112
            go_wp2
            go_ret
            first | exact ⟨rfl, rfl⟩ | exact ⟨ret_bool hm.symm, rfl⟩
        · have hm : mayB p s = false := mayB_mkf (by omega)
          go_enter Tryz.func112, Tryz.ntmps112
          go_wp2
          go_ret
          first | exact ⟨rfl, rfl⟩ | exact ⟨ret_bool hm.symm, rfl⟩
      · have hm : mayB p s = false := mayB_mkf (by omega)
        go_enter Tryz.func112, Tryz.ntmps112
        go_wp2
        go_ret
        first | exact ⟨rfl, rfl⟩ | exact ⟨ret_bool hm.symm, rfl⟩
    · have hm : mayB p s = false := mayB_mkf (by omega)
      go_enter Tryz.func112, Tryz.ntmps112
      go_wp2
      go_ret
      first | exact ⟨rfl, rfl⟩ | exact ⟨ret_bool hm.symm, rfl⟩
  · have hm : mayB p s = false := mayB_mkf (by omega)
    go_enter Tryz.func112, Tryz.ntmps112
    go_wp2
    go_ret
    first | exact ⟨rfl, rfl⟩ | exact ⟨ret_bool hm.symm, rfl⟩
theorem mask_any (p s : Int) (w : World) :
    Calls Tryz.prog 63 #[.int .i64 p, .int .i64 s] w fun e w' => e = .returned (.int .u64 (maskI p s)) ∧ w = w' := by
  cases hm : mayB p s
  · have H := Lib.hid (show maskI p s = 0 by simp [maskI, hm])
    go_enter Tryz.func63, Tryz.ntmps63
    go_wp2_with (go_at_call 84; refine (may_any _ _ _).mono ?_; rintro e w' ⟨rfl, rfl⟩)
    go_ret
    exact ⟨ret_int H.out.symm, rfl⟩
  · have H := Lib.hid (mask_walk' p s hm)
    obtain ⟨h0, h1, h2, h3⟩ := mayB_true hm
    go_enter Tryz.func63, Tryz.ntmps63
    go_wp2_with (first | (go_at_call 84; refine (may_any _ _ _).mono ?_; rintro e w' ⟨rfl, rfl⟩) | (go_at_call 85; refine (ones_any _ (by omega) (by omega) _).mono ?_; rintro e w' ⟨rfl, rfl⟩))
    go_ret
    exact ⟨ret_int H.out, rfl⟩
theorem put_any (x p s v : Int) (x0 : 0 ≤ x) (x1 : x ≤ 18446744073709551615) (v0 : 0 ≤ v) (v1 : v ≤ 18446744073709551615) (w : World) :
    Calls Tryz.prog 86 #[.int .u64 x, .int .i64 p, .int .i64 s, .int .u64 v] w fun e w' => e = .returned (.int .u64 (putI x p s v)) ∧ w = w' := by
  cases hm : mayB p s
  · have H := Lib.hid (show putI x p s v = x by simp [putI, hm])
    go_enter Tryz.func86, Tryz.ntmps86
    go_wp2_with (go_at_call 84; refine (may_any _ _ _).mono ?_; rintro e w' ⟨rfl, rfl⟩)
    go_ret
    exact ⟨ret_int H.out.symm, rfl⟩
  · have H := Lib.hid (put_walk' x p s v hm x0 x1 v0 v1)
    obtain ⟨h0, h1, h2, h3⟩ := mayB_true hm
    go_enter Tryz.func86, Tryz.ntmps86
    go_wp2_with (first | (go_at_call 84; refine (may_any _ _ _).mono ?_; rintro e w' ⟨rfl, rfl⟩) | (go_at_call 85; refine (ones_any _ (by omega) (by omega) _).mono ?_; rintro e w' ⟨rfl, rfl⟩) | (go_at_call 63; refine (mask_any _ _ _).mono ?_; rintro e w' ⟨rfl, rfl⟩))
    go_ret
    exact ⟨ret_int H.out, rfl⟩
theorem get_any (x p s : Int) (x0 : 0 ≤ x) (x1 : x ≤ 18446744073709551615) (w : World) :
    Calls Tryz.prog 94 #[.int .u64 x, .int .i64 p, .int .i64 s] w fun e w' => e = .returned (.int .u64 (getI x p s)) ∧ ∃ n, w' = w.drewN n := by
  cases hm : mayB p s
  · have H := Lib.hid (show getI x p s = 0 by simp [getI, hm])
    go_enter Tryz.func94, Tryz.ntmps94
    go_wp2_with (go_at_call 84; refine (may_any _ _ _).mono ?_; rintro e w' ⟨rfl, rfl⟩)
    go_ret
    exact ⟨ret_int H.out.symm, 0, rfl⟩
  · have H := Lib.hid (get_walk' x p s hm x0 x1)
    obtain ⟨h0, h1, h2, h3⟩ := mayB_true hm
    go_enter Tryz.func94, Tryz.ntmps94
    go_wp2_with (go_at_call 84; refine (may_any _ _ _).mono ?_; rintro e w' ⟨rfl, rfl⟩)
    go_quiet ((go_at_call 85; exact Calls.quiet_of_same (ones_same _ (by omega) (by omega) _)))
    go_wp2
    go_ret
    exact ⟨ret_int H.out, _, rfl⟩
theorem fits_any (v s : Int) (v0 : 0 ≤ v) (v1 : v ≤ 18446744073709551615) (w : World) :
    Calls Tryz.prog 107 #[.int .u64 v, .int .i64 s] w fun e w' => e = .returned (.bool (fitsB v s)) ∧ w = w' := by
  by_cases h : 1 ≤ s
  · have H := Lib.hid (fits_walk v s h v0 v1)
    have h' : 0 ≤ s := by omega
    go_enter Tryz.func107, Tryz.ntmps107
    go_wp2
    go_ret
    exact ⟨ret_bool H.out, rfl⟩
  · have H := Lib.hid (show fitsB v s = false by simp [fitsB, h])
    go_enter Tryz.func107, Tryz.ntmps107
    go_wp2
    go_ret
    exact ⟨ret_bool H.out.symm, rfl⟩
theorem rbit_any (v i : Int) (v0 : 0 ≤ v) (v1 : v ≤ 18446744073709551615) (i0 : 0 ≤ i) (i1 : i ≤ 1000) (w : World) :
    Calls Tryz.prog 89 #[.int .u64 v, .int .i64 i] w fun e w' => e = .returned (.int .u64 (bitI v i)) ∧ w = w' := by
  obtain ⟨n, rfl⟩ := Int.eq_ofNat_of_zero_le i0
  go_enter Tryz.func89, Tryz.ntmps89
  go_wp2
  go_loop [0, 5] (fun t k => ∃ j : Nat, j ≤ n ∧ k = .int .i64 j ∧ t = .int .u64 (shI v j)) (fun _ k => n - (intOf k).toNat)
  case atStart => exact ⟨0, by omega, rfl, by rw [shI_zero v v0]⟩
  case round =>
    obtain ⟨j, hj, rfl, rfl⟩ := hrel
    have hb := shI_bd v j v1
    by_cases hlt : j < n
    · go_wp2
      go_round
      case rel => exact ⟨j + 1, by omega, by go_num, by rw [shI_succ]⟩
      case measure => simp [intOf]; omega
    · obtain rfl : j = n := by omega
      go_wp2
      go_ret
      exact ⟨ret_int (shI_mod v j), rfl⟩
end Go.Proofs.YtgdagfhdimoklaaGreat.Fld
/-
  Contracts of package page's functions that compute, and of the document's own answers to them: each returns what the plain functions of PMath say, and the world stays but for draws. Conditions: words are below 2 to the 64.
-/
namespace Go.Proofs.YtgdagfhdimoklaaGreat.Fld
open Go.ChangeShapes Go.WideShapes Go.ChangeAt Go.RowKit
set_option maxHeartbeats 400000
theorem ret_two {a b : Int} {c d : Bool} (h1 : a = b) (h2 : c = d) : Ending.returned (.tuple #[.int .u64 a, .bool c]) = .returned (.tuple #[.int .u64 b, .bool d]) := by rw [h1, h2]
theorem same_sym {P : Program} {f : FuncId} {args : Array Value} {w : World} {v : Value} (h : Calls P f args w fun e w' => e = .returned v ∧ w = w') : Calls P f args w fun e w' => e = .returned v ∧ w' = w :=
  h.mono fun _ _ ⟨a, b⟩ => ⟨a, b.symm⟩
theorem pmay_any (s : Int) (w : World) :
    Calls Tryz.prog 60 #[.int .i64 s] w fun e w' => e = .returned (.bool (sizeB s)) ∧ w = w' := by
  by_cases h0 : 0 ≤ s
  · by_cases h1 : s < 4
    · have H := Lib.hid (show sizeB s = true from sizeB_mk (by omega))
      go_enter Tryz.func60, Tryz.ntmps60
      go_wp2
      go_ret
      exact ⟨ret_bool H.out.symm, rfl⟩
    · have H := Lib.hid (show sizeB s = false by simp only [sizeB, decide_eq_false_iff_not]; omega)
      go_enter Tryz.func60, Tryz.ntmps60
      go_wp2
      go_ret
      exact ⟨ret_bool H.out.symm, rfl⟩
  · have H := Lib.hid (show sizeB s = false by simp only [sizeB, decide_eq_false_iff_not]; omega)
    go_enter Tryz.func60, Tryz.ntmps60
    go_wp2
    go_ret
    exact ⟨ret_bool H.out.symm, rfl⟩
theorem rpmay_any (s : Int) (w : World) :
    Calls Tryz.prog 75 #[.int .i64 s] w fun e w' => e = .returned (.bool (sizeB s)) ∧ w = w' := by
  by_cases h0 : 0 ≤ s
  · by_cases h1 : s ≤ 3
    · have H := Lib.hid (show sizeB s = true from sizeB_mk (by omega))
      go_enter Tryz.func75, Tryz.ntmps75
      go_wp2
      go_ret
      exact ⟨ret_bool H.out.symm, rfl⟩
    · have H := Lib.hid (show sizeB s = false by simp only [sizeB, decide_eq_false_iff_not]; omega)
      go_enter Tryz.func75, Tryz.ntmps75
      go_wp2
      go_ret
      exact ⟨ret_bool H.out.symm, rfl⟩
  · have H := Lib.hid (show sizeB s = false by simp only [sizeB, decide_eq_false_iff_not]; omega)
    go_enter Tryz.func75, Tryz.ntmps75
    go_wp2
    go_ret
    exact ⟨ret_bool H.out.symm, rfl⟩
theorem rbytes_any (s : Int) (w : World) :
    Calls Tryz.prog 66 #[.int .i64 s] w fun e w' => e = .returned (.int .u64 (bytesI s)) ∧ w = w' := by
  cases h : sizeB s
  · have H := Lib.hid (bytes_none h)
    have hs := sizeB_false h
    have h0 : (s == 0) = false := beq_eq_false_iff_ne.2 (by omega)
    have h1 : (s == 1) = false := beq_eq_false_iff_ne.2 (by omega)
    have h2 : (s == 2) = false := beq_eq_false_iff_ne.2 (by omega)
    have h3 : (s == 3) = false := beq_eq_false_iff_ne.2 (by omega)
    clear hs h
    go_enter Tryz.func66, Tryz.ntmps66
    go_wp2
    go_ret
    exact ⟨ret_int H.out.symm, rfl⟩
  · rcases sizeB_true h with rfl | rfl | rfl | rfl <;>
      (clear h
       go_enter Tryz.func66, Tryz.ntmps66
       go_wp2
       go_ret
       exact ⟨rfl, rfl⟩)
theorem bits_any (s : Int) (w : World) :
    Calls Tryz.prog 83 #[.int .i64 s] w fun e w' => e = .returned (.int .i64 (bitsI s)) ∧ w = w' := by
  cases h : sizeB s
  · have H := Lib.hid (bits_none h)
    go_enter Tryz.func83, Tryz.ntmps83
    go_wp2_with (go_at_call 60; refine (pmay_any _ _).mono ?_; rintro e w' ⟨rfl, rfl⟩)
    go_ret
    exact ⟨ret_int H.out.symm, rfl⟩
  · have H := Lib.hid (show bitsI s = 13 + 3 * s by unfold bitsI; rw [if_pos h])
    have hb : 0 ≤ s ∧ s ≤ 3 := by have := sizeB_true h; omega
    go_enter Tryz.func83, Tryz.ntmps83
    go_wp2_with (go_at_call 60; refine (pmay_any _ _).mono ?_; rintro e w' ⟨rfl, rfl⟩)
    go_ret
    exact ⟨ret_int H.out.symm, rfl⟩
theorem bytes_any (s : Int) (w : World) :
    Calls Tryz.prog 61 #[.int .i64 s] w fun e w' => e = .returned (.int .u64 (bytesI s)) ∧ w = w' := by
  cases h : sizeB s
  · have H := Lib.hid (bytes_none h)
    go_enter Tryz.func61, Tryz.ntmps61
    go_wp2_with (go_at_call 60; refine (pmay_any _ _).mono ?_; rintro e w' ⟨rfl, rfl⟩)
    go_ret
    exact ⟨ret_int H.out.symm, rfl⟩
  · have H := Lib.hid (mask_bytes h)
    go_enter Tryz.func61, Tryz.ntmps61
    go_wp2_with (first | (go_at_call 60; refine (pmay_any _ _).mono ?_; rintro e w' ⟨rfl, rfl⟩) | (go_at_call 83; refine (bits_any _ _).mono ?_; rintro e w' ⟨rfl, rfl⟩) | (go_at_call 63; refine (mask_any _ _ _).mono ?_; rintro e w' ⟨rfl, rfl⟩))
    go_ret
    exact ⟨ret_int H.out, rfl⟩
theorem base_any (x s : Int) (x0 : 0 ≤ x) (x1 : x ≤ 18446744073709551615) (w : World) :
    Calls Tryz.prog 110 #[.int .u64 x, .int .i64 s] w fun e w' => e = .returned (.int .u64 (baseI x s)) ∧ w = w' := by
  cases h : sizeB s
  · have H := Lib.hid (show baseI x s = 0 by unfold baseI; rw [h]; rfl)
    go_enter Tryz.func110, Tryz.ntmps110
    go_wp2_with (go_at_call 60; refine (pmay_any _ _).mono ?_; rintro e w' ⟨rfl, rfl⟩)
    go_ret
    exact ⟨ret_int H.out.symm, rfl⟩
  · have H := Lib.hid (put_base h x0 x1)
    go_enter Tryz.func110, Tryz.ntmps110
    go_wp2_with (first | (go_at_call 60; refine (pmay_any _ _).mono ?_; rintro e w' ⟨rfl, rfl⟩) | (go_at_call 83; refine (bits_any _ _).mono ?_; rintro e w' ⟨rfl, rfl⟩) | (go_at_call 86; refine (put_any _ _ _ _ x0 x1 (by omega) (by omega) _).mono ?_; rintro e w' ⟨rfl, rfl⟩))
    go_ret
    exact ⟨ret_int H.out, rfl⟩
theorem off_any (x s : Int) (x0 : 0 ≤ x) (x1 : x ≤ 18446744073709551615) (w : World) :
    Calls Tryz.prog 114 #[.int .u64 x, .int .i64 s] w fun e w' => e = .returned (.int .u64 (offI x s)) ∧ ∃ n, w' = w.drewN n := by
  have H := Lib.hid (get_off (s := s) x0)
  go_enter Tryz.func114, Tryz.ntmps114
  go_wp2_with (first | (go_at_call 83; refine (bits_any _ _).mono ?_; rintro e w' ⟨rfl, rfl⟩) | (go_at_call 94; refine (get_any _ _ _ x0 x1 _).mono ?_; rintro e w' ⟨rfl, n, rfl⟩))
  go_ret
  exact ⟨ret_int H.out, n, rfl⟩
theorem starts_any (x s : Int) (x0 : 0 ≤ x) (x1 : x ≤ 18446744073709551615) (w : World) :
    Calls Tryz.prog 106 #[.int .u64 x, .int .i64 s] w fun e w' => e = .returned (.bool (startsB x s)) ∧ ∃ n, w' = w.drewN n := by
  have H := Lib.hid (starts_walk x s)
  cases h : sizeB s
  · rw [h] at H
    go_enter Tryz.func106, Tryz.ntmps106
    go_wp2_with (go_at_call 60; refine (pmay_any _ _).mono ?_; rintro e w' ⟨rfl, rfl⟩)
    go_ret
    exact ⟨ret_bool H.out.symm, 0, rfl⟩
  · rw [h] at H
    go_enter Tryz.func106, Tryz.ntmps106
    go_wp2_with (first | (go_at_call 60; refine (pmay_any _ _).mono ?_; rintro e w' ⟨rfl, rfl⟩) | (go_at_call 114; refine (off_any _ _ x0 x1 _).mono ?_; rintro e w' ⟨rfl, n, rfl⟩))
    go_ret
    exact ⟨ret_bool H.out.symm, n, rfl⟩
theorem in_any (x y s : Int) (x0 : 0 ≤ x) (x1 : x ≤ 18446744073709551615) (y0 : 0 ≤ y) (y1 : y ≤ 18446744073709551615) (w : World) :
    Calls Tryz.prog 103 #[.int .u64 x, .int .u64 y, .int .i64 s] w fun e w' => e = .returned (.bool (inB x y s)) ∧ w = w' := by
  have H := Lib.hid (in_walk x y s)
  cases h : sizeB s
  · rw [h] at H
    go_enter Tryz.func103, Tryz.ntmps103
    go_wp2_with (go_at_call 60; refine (pmay_any _ _).mono ?_; rintro e w' ⟨rfl, rfl⟩)
    go_ret
    exact ⟨ret_bool H.out.symm, rfl⟩
  · rw [h] at H
    go_enter Tryz.func103, Tryz.ntmps103
    go_wp2_with (first | (go_at_call 60; refine (pmay_any _ _).mono ?_; rintro e w' ⟨rfl, rfl⟩) | (go_at_call 110; refine (base_any _ _ (by omega) (by omega) _).mono ?_; rintro e w' ⟨rfl, rfl⟩))
    go_ret
    exact ⟨ret_bool H.out.symm, rfl⟩
theorem tag_any (x : Int) (x0 : 0 ≤ x) (x1 : x ≤ 18446744073709551615) (w : World) :
    Calls Tryz.prog 109 #[.int .u64 x] w fun e w' => e = .returned (.int .u64 (tagI x)) ∧ ∃ n, w' = w.drewN n := by
  have H := Lib.hid (get_tag x x0)
  go_enter Tryz.func109, Tryz.ntmps109
  go_wp2_with (go_at_call 94; refine (get_any _ _ _ x0 x1 _).mono ?_; rintro e w' ⟨rfl, n, rfl⟩)
  go_ret
  exact ⟨ret_int H.out, n, rfl⟩
theorem mask21_any (w : World) :
    Calls Tryz.prog 63 #[.int .i64 0, .int .i64 21] w fun e w' => e = .returned (.int .u64 2097151) ∧ w = w' :=
  (mask_any 0 21 w).mono fun _ _ ⟨a, b⟩ => ⟨a.trans (ret_int mask_21), b⟩
theorem hole_any (x : Int) (x0 : 0 ≤ x) (x1 : x ≤ 18446744073709551615) (w : World) :
    Calls Tryz.prog 100 #[.int .u64 x] w fun e w' => e = .returned (.bool (holeB x)) ∧ ∃ n, w' = w.drewN n := by
  have H := Lib.hid (hole_walk x x0 x1)
  go_enter Tryz.func100, Tryz.ntmps100
  go_wp2_with fail
  refine (get_any _ _ _ x0 x1 _).mono ?_
  rintro e w' ⟨rfl, n, rfl⟩
  generalize getI x 43 21 = g at *
  cases h : g != 0
  · rw [h, Bool.false_and] at H
    go_wp2
    go_ret
    exact ⟨ret_bool H.out.symm, n, rfl⟩
  · rw [h, Bool.true_and] at H
    go_wp2_with fail
    refine (mask21_any _).mono ?_
    rintro e w' ⟨rfl, rfl⟩
    go_wp2
    go_ret
    exact ⟨ret_bool H.out.symm, n, rfl⟩
end Go.Proofs.YtgdagfhdimoklaaGreat.Fld
/-
  Contracts of page.Next, and of the document's own answers for pages: each returns what the plain functions of PMath say, and the world stays but for draws. Conditions: words are below 2 to the 64.
-/
namespace Go.Proofs.YtgdagfhdimoklaaGreat.Fld
open Go.ChangeShapes Go.WideShapes Go.ChangeAt Go.RowKit
set_option maxHeartbeats 400000
theorem rbase_any (x s : Int) (x0 : 0 ≤ x) (x1 : x ≤ 18446744073709551615) (w : World) :
    Calls Tryz.prog 67 #[.int .u64 x, .int .i64 s] w fun e w' => e = .returned (.int .u64 (baseI x s)) ∧ ∃ n, w' = w.drewN n := by
  cases h : sizeB s
  · have H := Lib.hid (show baseI x s = 0 by unfold baseI; rw [h]; rfl)
    go_enter Tryz.func67, Tryz.ntmps67
    go_wp2_with (go_at_call 75; refine (rpmay_any _ _).mono ?_; rintro e w' ⟨rfl, rfl⟩)
    go_ret
    exact ⟨ret_int H.out.symm, 0, rfl⟩
  · have H := Lib.hid (show baseI x s = x / bytesI s * bytesI s by unfold baseI; rw [if_pos h])
    have hb := bytes_pos h
    have hb2 := bytes_bd s
    have hd := div_mul_bd x (bytesI s) x0 (by omega)
    have hn : bytesI s ≠ 0 := by omega
    go_enter Tryz.func67, Tryz.ntmps67
    go_wp2_with (go_at_call 75; refine (rpmay_any _ _).mono ?_; rintro e w' ⟨rfl, rfl⟩)
    go_quiet ((go_at_call 66; exact Calls.quiet_of_same (same_sym (rbytes_any _ _))))
    go_wp2
    go_ret
    exact ⟨ret_int H.out.symm, _, rfl⟩
theorem rtag_any (x : Int) (x0 : 0 ≤ x) (x1 : x ≤ 18446744073709551615) (w : World) :
    Calls Tryz.prog 98 #[.int .u64 x] w fun e w' => e = .returned (.int .u64 (tagI x)) ∧ w = w' := by
  go_enter Tryz.func98, Tryz.ntmps98
  go_wp2
  go_ret
  exact ⟨rfl, rfl⟩
theorem rhole_any (x : Int) (x0 : 0 ≤ x) (x1 : x ≤ 18446744073709551615) (w : World) :
    Calls Tryz.prog 99 #[.int .u64 x] w fun e w' => e = .returned (.bool (holeB x)) ∧ w = w' := by
  have H := Lib.hid (hole_bits x x0 x1)
  go_enter Tryz.func99, Tryz.ntmps99
  go_wp2
  go_loop [3] (fun t => ∃ i : Int, 44 ≤ i ∧ i ≤ 64 ∧ t = .int .i64 i ∧ Hid (∀ j : Int, 44 ≤ j → j < i → bitI x j = bitI x 43)) (fun t => (64 - intOf t).toNat)
  case atStart => exact ⟨44, by omega, by omega, rfl, Lib.hid (fun j a b => by omega)⟩
  case round =>
    obtain ⟨i, hi0, hi1, rfl, HB⟩ := hrel
    by_cases hlt : i < 64
    · cases hq : bitI x i != bitI x 43
      · have hz := Lib.hid (show bitI x i = bitI x 43 by simpa using hq)
        go_wp2_with (go_at_call 89; refine (rbit_any _ _ (by omega) (by omega) (by omega) (by omega) _).mono ?_; rintro e w' ⟨rfl, rfl⟩)
        go_round
        case rel => exact ⟨i + 1, by omega, by omega, rfl, Lib.hid (fun j a b => by
          by_cases e : j = i
          · rw [e]; exact hz.out
          · exact HB.out j a (by omega))⟩
        case measure => simp [intOf]; omega
      · have hF := Lib.hid (show holeB x = true from H.out.2 ⟨i, hi0, hlt, bne_iff_ne.1 hq⟩)
        go_wp2_with (go_at_call 89; refine (rbit_any _ _ (by omega) (by omega) (by omega) (by omega) _).mono ?_; rintro e w' ⟨rfl, rfl⟩)
        go_ret
        exact ⟨ret_bool hF.out.symm, rfl⟩
    · have hF := Lib.hid (show holeB x = false by
        cases h : holeB x
        · rfl
        · obtain ⟨j, a, b, c⟩ := H.out.1 h
          exact absurd (HB.out j a (by omega)) c)
      go_wp2
      go_ret
      exact ⟨ret_bool hF.out.symm, rfl⟩
theorem rva_any (x : Int) (x0 : 0 ≤ x) (x1 : x ≤ 18446744073709551615) (w : World) :
    Calls Tryz.prog 68 #[.int .u64 x] w fun e w' => e = .returned (.int .u64 (vaI x)) ∧ w = w' := by
  have hb := bitI_bd x 43
  cases hq : bitI x 43 == 1
  · have H := Lib.hid (show vaI x = x % 8796093022208 by unfold vaI; rw [if_neg (by simpa using hq)])
    go_enter Tryz.func68, Tryz.ntmps68
    go_wp2_with (go_at_call 89; refine (rbit_any _ _ (by omega) (by omega) (by omega) (by omega) _).mono ?_; rintro e w' ⟨rfl, rfl⟩)
    go_ret
    exact ⟨ret_int H.out.symm, rfl⟩
  · have H := Lib.hid (show vaI x = x % 8796093022208 + 18446735277616529408 by unfold vaI; rw [if_pos (by simpa using hq)])
    go_enter Tryz.func68, Tryz.ntmps68
    go_wp2_with (go_at_call 89; refine (rbit_any _ _ (by omega) (by omega) (by omega) (by omega) _).mono ?_; rintro e w' ⟨rfl, rfl⟩)
    go_ret
    exact ⟨ret_int H.out.symm, rfl⟩
end Go.Proofs.YtgdagfhdimoklaaGreat.Fld
/-
  Contracts of package point: each function returns what the plain functions of QMath say, and the world stays but for draws and boxes of its own. Conditions: words are below 2 to the 64.
-/
namespace Go.Proofs.YtgdagfhdimoklaaGreat.Pt
open Fld
open Go.ChangeShapes Go.WideShapes Go.ChangeAt Go.RowKit
set_option maxHeartbeats 1000000
set_option maxRecDepth 100000
theorem qbit_any (x p : Int) (x0 : 0 ≤ x) (x1 : x ≤ 18446744073709551615) (w : World) :
    Calls Tryz.prog 87 #[.int .u64 x, .int .i64 p] w fun e w' => e = .returned (.bool (getI x p 1 == 1)) ∧ ∃ n, w' = w.drewN n := by
  go_enter Tryz.func87, Tryz.ntmps87
  go_wp2_with (go_at_call 94; refine (get_any _ _ _ x0 x1 _).mono ?_; rintro e w' ⟨rfl, n, rfl⟩)
  go_ret
  exact ⟨rfl, n, rfl⟩
theorem number_any (x s : Int) (x0 : 0 ≤ x) (x1 : x ≤ 18446744073709551615) (hs : sizeB s = true) (w : World) :
    Calls Tryz.prog 88 #[.int .u64 x, .int .i64 s] w fun e w' => e = .returned (.int .u64 (x / bytesI s)) ∧ ∃ n, w' = w.drewN n := by
  have hb := bytes_pos hs
  have hb2 := bytes_bd s
  have hn : bytesI s ≠ 0 := by omega
  go_enter Tryz.func88, Tryz.ntmps88
  go_wp2_with (go_at_call 61; refine (bytes_any _ _).mono ?_; rintro e w' ⟨rfl, rfl⟩)
  go_ret
  exact ⟨rfl, 0, rfl⟩
theorem index_any (x s n : Int) (x0 : 0 ≤ x) (x1 : x ≤ 18446744073709551615) (hs : sizeB s = true) (n0 : 1 ≤ n) (n1 : n ≤ 4096) (w : World) :
    Calls Tryz.prog 65 #[.int .u64 x, .int .i64 s, .int .i64 n] w fun e w' => e = .returned (.int .i64 (idxI x s n)) ∧ ∃ n, w' = w.drewN n := by
  have C := fun w => (pmay_any s w)
  rw [hs] at C
  have CN := Lib.hid (fun w => number_any x s x0 x1 hs w)
  have hb := bytes_pos hs
  have hx : 0 ≤ x / bytesI s := Int.ediv_nonneg x0 (by omega)
  have hx1 : x / bytesI s ≤ 18446744073709551615 := Int.le_trans (Int.ediv_le_self _ x0) x1
  have hi := idx_bd x s n (by omega)
  unfold idxI at *
  clear hb
  generalize x / bytesI s = q at *
  go_enter Tryz.func65, Tryz.ntmps65
  go_wp2_with (first | (go_at_call 60; refine (C _).mono ?_; rintro e w' ⟨rfl, rfl⟩) | (go_at_call 88; refine (CN.out _).mono ?_; rintro e w' ⟨rfl, m, rfl⟩))
  go_ret
  exact ⟨rfl, m, rfl⟩
def slotI (b k : Int) : Int := if b + 16 * k ≤ 18446744073709551615 then b + 16 * k else b + 16 * k - 18446744073709551616
def lastI (b n : Int) : Int := if b + 16 * (n - 1) ≤ 18446744073709551615 then b + 16 * (n - 1) else b + 16 * (n - 1) - 18446744073709551616
theorem wrap_over (v : Int) (h0 : 18446744073709551615 < v) (h1 : v < 36893488147419103232) : IntKind.u64.wrap v = v - 18446744073709551616 := by
  unfold IntKind.wrap; simp [IntKind.signed, IntKind.bits]; omega
theorem wrap_under (v : Int) (h0 : v < 0) (h1 : -18446744073709551616 ≤ v) : IntKind.u64.wrap v = v + 18446744073709551616 := by
  unfold IntKind.wrap; simp [IntKind.signed, IntKind.bits]; omega
theorem slot_any (b n x s : Int) (b0 : 0 ≤ b) (b1 : b ≤ 18446744073709551615) (x0 : 0 ≤ x) (x1 : x ≤ 18446744073709551615) (hs : sizeB s = true) (n0 : 1 ≤ n) (n1 : n ≤ 4096) (w : World) :
    Calls Tryz.prog 78 #[.int .u64 b, .int .i64 n, .int .u64 x, .int .i64 s] w fun e w' => e = .returned (.int .u64 (slotI b (idxI x s n))) ∧ ∃ n, w' = w.drewN n := by
  have C := Lib.hid (fun w => index_any x s n x0 x1 hs n0 n1 w)
  have hi := idx_bd x s n (by omega)
  generalize idxI x s n = k at *
  by_cases h : b + 16 * k ≤ 18446744073709551615
  · have H := Lib.hid (show slotI b k = b + 16 * k from if_pos h)
    go_enter Tryz.func78, Tryz.ntmps78
    go_wp2_with (go_at_call 65; refine (C.out _).mono ?_; rintro e w' ⟨rfl, m, rfl⟩)
    go_ret
    exact ⟨ret_int H.out.symm, m, rfl⟩
  · have H := Lib.hid (show slotI b k = b + 16 * k - 18446744073709551616 from if_neg h)
    have hw := wrap_over (b + 16 * k) (by omega) (by omega)
    go_enter Tryz.func78, Tryz.ntmps78
    go_wp2_with (go_at_call 65; refine (C.out _).mono ?_; rintro e w' ⟨rfl, m, rfl⟩)
    go_ret
    exact ⟨ret_int H.out.symm, m, rfl⟩
theorem last_any (b n : Int) (b0 : 0 ≤ b) (b1 : b ≤ 18446744073709551615) (n0 : 1 ≤ n) (n1 : n ≤ 4096) (w : World) :
    Calls Tryz.prog 48 #[.int .u64 b, .int .i64 n] w fun e w' => e = .returned (.int .u64 (lastI b n)) ∧ ∃ n, w' = w.drewN n := by
  by_cases h : b + 16 * n ≤ 18446744073709551615
  · have H := Lib.hid (show b + 16 * n - 16 = lastI b n by unfold lastI; rw [if_pos (by omega)]; omega)
    go_enter Tryz.func48, Tryz.ntmps48
    go_wp2
    go_ret
    exact ⟨ret_int H.out, 0, rfl⟩
  · have hw := wrap_over (b + 16 * n) (by omega) (by omega)
    by_cases h2 : b + 16 * (n - 1) ≤ 18446744073709551615
    · have H := Lib.hid (show b + 16 * n - 18446744073709551616 - 16 + 18446744073709551616 = lastI b n by unfold lastI; rw [if_pos h2]; omega)
      have hw2 := wrap_under (b + 16 * n - 18446744073709551616 - 16) (by omega) (by omega)
      go_enter Tryz.func48, Tryz.ntmps48
      go_wp2
      go_ret
      exact ⟨ret_int H.out, 0, rfl⟩
    · have H := Lib.hid (show b + 16 * n - 18446744073709551616 - 16 = lastI b n by unfold lastI; rw [if_neg h2]; omega)
      go_enter Tryz.func48, Tryz.ntmps48
      go_wp2
      go_ret
      exact ⟨ret_int H.out, 0, rfl⟩
theorem heap_set {w : World} {b o : Nat} {c : Array Value} {e : TypeId} {f : Nat × Nat} (h : w.heap[b]? = some (.cells c e f)) (v : Value) : (w.setCell ⟨b, o, none⟩ v).heap[b]? = some (.cells (c.setIfInBounds o v) e f) := by
  simp [World.setCell, Array.getElem?_modify, h]
theorem heap_new (w : World) (o : Obj) : (w.alloc o).heap[w.heap.size]? = some o := heap_alloc_new _ _
/-- Since w: the boxed register, and the boxed place. -/
structure Two (w wr : World) (x p : Int) : Prop where
  bel : Below w.heap.size w wr
  a : wr.heap[w.heap.size]? = some (.cells #[.int .u64 x] 31 (0, 0))
  b : wr.heap[w.heap.size + 1]? = some (.cells #[.int .i64 p] 3 (0, 0))
theorem Two.cells {w wr : World} {x p : Int} (h : Two w wr x p) : wr.cell? ⟨w.heap.size, 0, none⟩ = some (.int .u64 x) ∧ wr.cell? ⟨w.heap.size + 1, 0, none⟩ = some (.int .i64 p) ∧ wr.frozen? ⟨w.heap.size, 0, none⟩ = false ∧ wr.frozen? ⟨w.heap.size + 1, 0, none⟩ = false :=
  ⟨by simp [World.cell?, h.a], by simp [World.cell?, h.b], by simp [World.frozen?, h.a], by simp [World.frozen?, h.b]⟩
theorem Two.drewN {w wr : World} {x p : Int} (h : Two w wr x p) (n : Nat) : Two w (wr.drewN n) x p := ⟨below_drewN h.bel _, h.a, h.b⟩
theorem Two.drew {w wr : World} {x p : Int} (h : Two w wr x p) : Two w wr.drew x p := h.drewN 1
theorem Two.set {w wr : World} {x p : Int} (h : Two w wr x p) (y q : Int) : Two w ((wr.setCell ⟨w.heap.size, 0, none⟩ (.int .u64 y)).setCell ⟨w.heap.size + 1, 0, none⟩ (.int .i64 q)) y q where
  bel := (h.bel.setCell (Nat.le_refl _) _).setCell (by simp) _
  a := (Below.heap_setCell _ _ _ _ (by simp)).trans (by rw [heap_set h.a]; rfl)
  b := by rw [heap_set (b := w.heap.size + 1) ((Below.heap_setCell _ _ _ _ (by simp)).trans h.b)]; rfl
end Go.Proofs.YtgdagfhdimoklaaGreat.Pt
/-
  Contracts of page.Next, and of the document's own Next and Meet: each returns what the plain functions of PMath say, and the world stays but for draws. Conditions: words are below 2 to the 64.
-/
namespace Go.Proofs.YtgdagfhdimoklaaGreat.Fld
open Go.ChangeShapes Go.WideShapes Go.ChangeAt Go.RowKit
set_option maxHeartbeats 400000
theorem next_wrap (x s : Int) (h : baseI x s + bytesI s = 18446744073709551616) : IntKind.u64.wrap (baseI x s + bytesI s) = 0 := by rw [h]; decide
end Go.Proofs.YtgdagfhdimoklaaGreat.Fld
/-
  Contracts of the document's own answers for fields (Get, Put, Fits, bit by bit): each returns what the plain functions of Math say, and the world stays. Conditions: words are below 2 to the 64.
-/
namespace Go.Proofs.YtgdagfhdimoklaaGreat.Fld
open Go.ChangeShapes Go.WideShapes Go.ChangeAt Go.RowKit
set_option maxHeartbeats 400000
theorem rget_any (x p s : Int) (x0 : 0 ≤ x) (x1 : x ≤ 18446744073709551615) (w : World) :
    Calls Tryz.prog 104 #[.int .u64 x, .int .i64 p, .int .i64 s] w fun e w' => e = .returned (.int .u64 (getI x p s)) ∧ w = w' := by
  cases hm : mayB p s
  · have H := Lib.hid (show getI x p s = 0 by simp [getI, hm])
    go_enter Tryz.func104, Tryz.ntmps104
    go_wp2_with (go_at_call 112; refine (rmay_any _ _ _).mono ?_; rintro e w' ⟨rfl, rfl⟩)
    go_loop [8, 9] (fun n _ => n = .int .u64 0) (fun _ _ => 0)
    case atStart => rfl
    case round =>
      obtain rfl := hrel
      go_wp2
      go_ret
      exact ⟨ret_int H.out.symm, rfl⟩
  · have H := Lib.hid (getI_up x p s hm)
    obtain ⟨h0, h1, h2, h3⟩ := mayB_true hm
    go_enter Tryz.func104, Tryz.ntmps104
    go_wp2_with (go_at_call 112; refine (rmay_any _ _ _).mono ?_; rintro e w' ⟨rfl, rfl⟩)
    go_loop [8, 9] (fun n t => ∃ i : Int, -1 ≤ i ∧ i < s ∧ t = .int .i64 i ∧ n = .int .u64 (upI (getF x p) s.toNat (i + 1))) (fun _ t => (intOf t + 1).toNat)
    case atStart => exact ⟨s - 1, by omega, by omega, rfl, by rw [upI_top _ _ _ (by omega)]⟩
    case round =>
      obtain ⟨i, hi0, hi1, rfl, rfl⟩ := hrel
      by_cases hlt : 0 ≤ i
      · have hb := upI_bd (getF x p) s.toNat (by omega) i hlt
        have hb2 := bitI_bd x (p + i)
        have HS := Lib.hid (upI_step (getF x p) s.toNat i hlt (by omega))
        have HF := Lib.hid (getF_bit x p i h0 hlt)
        go_wp2_with (go_at_call 89; refine (rbit_any _ _ x0 x1 (by omega) (by omega) _).mono ?_; rintro e w' ⟨rfl, rfl⟩)
        go_round
        case rel => exact ⟨i - 1, by omega, by omega, rfl, by rw [← HF.out, HS.out, show i - 1 + 1 = i by omega]⟩
        case measure => simp [intOf]; omega
      · obtain rfl : i = -1 := by omega
        go_wp2
        go_ret
        exact ⟨ret_int H.out.symm, rfl⟩
end Go.Proofs.YtgdagfhdimoklaaGreat.Fld
/-
  Contracts of Hex of package field, of the document's Hex, and of the example that every law asks for: Hex returns the word's sixteen signs; what was in memory stays. Conditions: the word is below 2 to the 64.
-/
namespace Go.Proofs.YtgdagfhdimoklaaGreat.Fld
open Go.ChangeShapes Go.WideShapes Go.ChangeAt Go.RowKit
set_option maxHeartbeats 400000
theorem infoByte : (Tryz.prog.info? 5).map (fun i => (i.zero, i.size, i.bytes)) = some (some (.int .u8 0), 1, 1) := by kernel_rfl
theorem index_sign (n : Int) (h0 : 0 ≤ n) (h1 : n ≤ 15) (w : World) :
    (Instr.index 9 (.string ⟨#[48, 49, 50, 51, 52, 53, 54, 55, 56, 57, 97, 98, 99, 100, 101, 102]⟩) (.int .u64 n)).run Tryz.prog w = .ok (.int .u8 ((signOf n).toNat : Int)) w := by
  have h : n = 0 ∨ n = 1 ∨ n = 2 ∨ n = 3 ∨ n = 4 ∨ n = 5 ∨ n = 6 ∨ n = 7 ∨ n = 8 ∨ n = 9 ∨ n = 10 ∨ n = 11 ∨ n = 12 ∨ n = 13 ∨ n = 14 ∨ n = 15 := by omega
  rcases h with rfl | rfl | rfl | rfl | rfl | rfl | rfl | rfl | rfl | rfl | rfl | rfl | rfl | rfl | rfl | rfl <;> (clear h0 h1; show _ = _; kernel_rfl)
theorem news_one (w : World) (n : Nat) (t : TypeId) (v : Value) : ∀ j u, [v][j]? = some u → ((w.drewN n).alloc (.cells #[v] t)).cell? ((⟨w.heap.size, 0, none⟩ : Addr).add j) = some u := by
  intro j u hj
  match j, hj with
  | 0, hj =>
    simp at hj; subst hj
    exact (World.cell?_alloc_mark (w.drewN n) #[v] t (0, 0) 0).trans rfl
end Go.Proofs.YtgdagfhdimoklaaGreat.Fld
/-
  The contract of the example that every law asks for at its end: it answers true, and what was in memory stays. Conditions: none.
-/
namespace Go.Proofs.YtgdagfhdimoklaaGreat.Fld
open Go.ChangeShapes Go.WideShapes Go.ChangeAt Go.RowKit
set_option maxHeartbeats 400000
theorem put_ex : (putI 0 4 4 10 == 160) = true := by kernel_rfl
theorem hex_ex : hexS 255 = ⟨#[48, 48, 48, 48, 48, 48, 48, 48, 48, 48, 48, 48, 48, 48, 102, 102]⟩ := by kernel_rfl
theorem may_ex : mayB 0 64 = true := by kernel_rfl
end Go.Proofs.YtgdagfhdimoklaaGreat.Fld
/-
  Contracts of Set and Bit of package field: bits are fields of size 1; the world stays but for draws. Conditions: the word is below 2 to the 64.
-/
namespace Go.Proofs.YtgdagfhdimoklaaGreat.Fld
open Go.ChangeShapes Go.WideShapes Go.ChangeAt Go.RowKit
set_option maxHeartbeats 400000
theorem set_any (x p : Int) (b : Bool) (x0 : 0 ≤ x) (x1 : x ≤ 18446744073709551615) (w : World) :
    Calls Tryz.prog 93 #[.int .u64 x, .int .i64 p, .bool b] w fun e w' => e = .returned (.int .u64 (putI x p 1 (b.toNat : Int))) ∧ w = w' := by
  cases b
  all_goals
    go_enter Tryz.func93, Tryz.ntmps93
    go_wp2_with (go_at_call 86; refine (put_any _ _ _ _ x0 x1 (by omega) (by omega) _).mono ?_; rintro e w' ⟨rfl, rfl⟩)
    go_ret
    exact ⟨rfl, rfl⟩
theorem bit_any (x p : Int) (x0 : 0 ≤ x) (x1 : x ≤ 18446744073709551615) (w : World) :
    Calls Tryz.prog 87 #[.int .u64 x, .int .i64 p] w fun e w' => e = .returned (.bool (getI x p 1 == 1)) ∧ ∃ n, w' = w.drewN n := by
  go_enter Tryz.func87, Tryz.ntmps87
  go_wp2_with (go_at_call 94; refine (get_any _ _ _ x0 x1 _).mono ?_; rintro e w' ⟨rfl, n, rfl⟩)
  go_ret
  exact ⟨rfl, n, rfl⟩
end Go.Proofs.YtgdagfhdimoklaaGreat.Fld
