/-
  Contracts and plain facts: Math, MMath. Conditions: each says its own.
-/
import Derived.Laws.Bits64b
import Derived.IntWalk
namespace Go.Proofs.Ytnbdoemnepfhdaa.Fld

/-- The number whose bits below n are f's. -/
def ob (f : Nat → Bool) : Nat → Nat
  | 0 => 0
  | n + 1 => ob f n + (f n).toNat * 2 ^ n

theorem ob_lt (f : Nat → Bool) (n : Nat) : ob f n < 2 ^ n := by
  induction n with
  | zero => simp [ob]
  | succ n ih =>
    simp only [ob, Nat.pow_succ]
    cases f n <;> simp <;> omega

theorem ob_testBit (f : Nat → Bool) (n i : Nat) : (ob f n).testBit i = (decide (i < n) && f i) := by
  induction n with
  | zero => simp [ob]
  | succ n ih =>
    have hl := ob_lt f n
    have e : ob f (n + 1) = 2 ^ n * (f n).toNat + ob f n := by simp only [ob, Nat.mul_comm]; omega
    rw [e, Nat.testBit_two_pow_mul_add _ hl]
    by_cases h : i < n
    · rw [if_pos h, ih]; simp [h, Nat.lt_succ_of_lt h]
    · rw [if_neg h]
      by_cases h2 : i = n
      · subst h2; cases f i <;> simp
      · have h3 : ¬ i < n + 1 := by omega
        have h4 : i - n ≠ 0 := by omega
        cases f n
        · simp [h3]
        · have h5 : (true.toNat).testBit (i - n) = false := Nat.testBit_lt_two_pow (by
            have : 2 ^ 1 ≤ 2 ^ (i - n) := Nat.pow_le_pow_right (by decide) (by omega)
            simp; omega)
          rw [h5]; simp [h3]

/-! ### Fields -/
def mayB (p s : Int) : Bool := decide (0 ≤ p ∧ 1 ≤ s ∧ s ≤ 64 ∧ p ≤ 64 - s)
theorem mayB_true {p s : Int} (h : mayB p s = true) : 0 ≤ p ∧ 1 ≤ s ∧ s ≤ 64 ∧ p ≤ 64 - s := by simpa [mayB] using h
theorem mayB_false {p s : Int} (h : mayB p s = false) : ¬ (0 ≤ p ∧ 1 ≤ s ∧ s ≤ 64 ∧ p ≤ 64 - s) := by simpa only [mayB, decide_eq_false_iff_not] using h
theorem mayB_mk {p s : Int} (h : 0 ≤ p ∧ 1 ≤ s ∧ s ≤ 64 ∧ p ≤ 64 - s) : mayB p s = true := by simpa [mayB] using h
/-- The bits of the field at p of size s. -/
def inF (p s i : Nat) : Bool := decide (p ≤ i ∧ i < p + s)
def getN (w p s : Nat) : Nat := ob (fun j => w.testBit (p + j)) s
def maskN (p s : Nat) : Nat := ob (inF p s) 64

def getI (w p s : Int) : Int := if mayB p s then (getN w.toNat p.toNat s.toNat : Nat) else 0
def maskI (p s : Int) : Int := if mayB p s then (maskN p.toNat s.toNat : Nat) else 0
def onesI (s : Int) : Int := ((2 ^ s.toNat - 1 : Nat) : Int)
def bitI (w i : Int) : Int := ((w.toNat.testBit i.toNat).toNat : Nat)
theorem maskN_testBit (p s i : Nat) : (maskN p s).testBit i = (decide (i < 64) && inF p s i) := by simp [maskN, ob_testBit]
theorem maskN_lt (p s : Nat) : maskN p s < 18446744073709551616 := ob_lt _ 64
theorem pow_le_word {s : Nat} (h : s ≤ 64) : 2 ^ s ≤ 18446744073709551616 := Nat.pow_le_pow_right (n := 2) (j := 64) (by decide) h
theorem testBit_hi {x i : Nat} (h : x < 18446744073709551616) (hi : 64 ≤ i) : x.testBit i = false :=
  Nat.testBit_lt_two_pow (Nat.lt_of_lt_of_le (show x < 2 ^ 64 from h) (Nat.pow_le_pow_right (by decide) hi))

theorem mask_eq (p s : Nat) (h : p + s ≤ 64) : (2 ^ s - 1) * 2 ^ p = maskN p s := by
  apply Nat.eq_of_testBit_eq; intro i
  rw [maskN_testBit, Nat.mul_comm, Nat.testBit_two_pow_mul, Nat.testBit_two_pow_sub_one, Bool.eq_iff_iff]
  simp [inF]; omega

/-! ### The same over integers -/
theorem min64 {p : Int} (h : p ≤ 64) : min p.toNat 64 = p.toNat := Nat.min_eq_left (by omega)
theorem cast_pow (n : Nat) : ((2 : Int) ^ n) = ((2 ^ n : Nat) : Int) := by simp
theorem ones_walk (s : Int) (h0 : 1 ≤ s) (h1 : s ≤ 64) : IntKind.u64.wrap (IntKind.u64.wrap (2 ^ min s.toNat 64) - 1) = onesI s := by
  rw [min64 h1, cast_pow, IntKind.wrap_u64, IntKind.wrap_u64]; unfold onesI
  by_cases e : s = 64
  · subst e; decide
  · have h2 := pow_le_word (s := s.toNat + 1) (by omega)
    have h3 := Nat.two_pow_pos s.toNat
    rw [Nat.pow_succ] at h2
    omega
theorem mask_walk (p s : Int) (hm : mayB p s = true) : IntKind.u64.wrap (onesI s * 2 ^ min p.toNat 64) = maskI p s := by
  have hm' := mayB_true hm
  rw [min64 (by omega), cast_pow]
  unfold maskI onesI; rw [if_pos hm, ← Int.natCast_mul, mask_eq _ _ (by omega), IntKind.wrap_u64]
  have := maskN_lt p.toNat s.toNat; omega
theorem ones_walk' (s : Int) (h0 : 1 ≤ s) (h1 : s ≤ 64) : IntKind.u64.wrap (IntKind.u64.wrap (2 ^ s.toNat) - 1) = onesI s := by
  have := ones_walk s h0 h1; rwa [min64 h1] at this
theorem mask_walk' (p s : Int) (hm : mayB p s = true) : IntKind.u64.wrap (onesI s * 2 ^ p.toNat) = maskI p s := by
  have := mask_walk p s hm; have hm' := mayB_true hm; rwa [min64 (by omega)] at this
def putF (x p s v : Int) : Nat → Bool := fun i => if inF p.toNat s.toNat i then v.toNat.testBit (i - p.toNat) else x.toNat.testBit i
/-! ### Signs -/
end Go.Proofs.Ytnbdoemnepfhdaa.Fld

namespace Go.Proofs.Ytnbdoemnepfhdaa.Mem

/-- The number of j bytes of g from k on, the highest first. -/
def wordN (g : Nat → Nat) (k : Nat) : Nat → Nat
  | 0 => 0
  | j + 1 => 256 * wordN g k j + g (k + j)
def word (g : Nat → Nat) (k : Nat) : Nat := wordN g k 8
def byteW (w j : Nat) : Nat := w / 2 ^ (8 * (7 - j)) % 256
/-- The bytes g, but those of the word at k are w's. -/
def setW (g : Nat → Nat) (k w : Nat) : Nat → Nat := fun a => if k ≤ a ∧ a < k + 8 then byteW w (a - k) else g a
theorem wordN_testBit (g : Nat → Nat) (h : ∀ a, g a < 256) (k j i : Nat) : (wordN g k j).testBit i = (decide (i < 8 * j) && (g (k + (j - 1 - i / 8))).testBit (i % 8)) := by
  induction j generalizing i with
  | zero => simp [wordN]
  | succ j ih =>
    have e : wordN g k (j + 1) = 2 ^ 8 * wordN g k j + g (k + j) := rfl
    rw [e, Nat.testBit_two_pow_mul_add _ (show g (k + j) < 2 ^ 8 from h _)]
    by_cases hi : i < 8
    · rw [if_pos hi]
      have h1 : i / 8 = 0 := by omega
      have h2 : i % 8 = i := by omega
      have h3 : i < 8 * (j + 1) := by omega
      simp [h1, h2, h3]
    · rw [if_neg hi, ih]
      by_cases hj : i < 8 * (j + 1)
      · have h1 : i - 8 < 8 * j := by omega
        have h2 : (i - 8) % 8 = i % 8 := by omega
        have h3 : j - 1 - (i - 8) / 8 = j + 1 - 1 - i / 8 := by omega
        simp only [hj, h1, h2, h3]
      · have h1 : ¬ i - 8 < 8 * j := by omega
        simp [hj, h1]
theorem word_testBit (g : Nat → Nat) (h : ∀ a, g a < 256) (k i : Nat) : (word g k).testBit i = (decide (i < 64) && (g (k + (7 - i / 8))).testBit (i % 8)) := wordN_testBit g h k 8 i
theorem wordN_lt (g : Nat → Nat) (h : ∀ a, g a < 256) (k j : Nat) : wordN g k j < 256 ^ j := by
  induction j with
  | zero => simp [wordN]
  | succ j ih => have := h (k + j); simp only [wordN, Nat.pow_succ]; omega
theorem word_lt (g : Nat → Nat) (h : ∀ a, g a < 256) (k : Nat) : word g k < 18446744073709551616 := wordN_lt g h k 8
theorem byteW_lt (w j : Nat) : byteW w j < 256 := Nat.mod_lt _ (by decide)
theorem byteW_testBit (w j i : Nat) : (byteW w j).testBit i = (decide (i < 8) && w.testBit (i + 8 * (7 - j))) := by
  unfold byteW
  rw [show (256 : Nat) = 2 ^ 8 from rfl, Nat.testBit_mod_two_pow, Nat.testBit_div_two_pow]
theorem testBit_hi {x i : Nat} (h : x < 18446744073709551616) (hi : 64 ≤ i) : x.testBit i = false :=
  Nat.testBit_lt_two_pow (Nat.lt_of_lt_of_le (show x < 2 ^ 64 from h) (Nat.pow_le_pow_right (by decide) hi))
theorem testBit_hi8 {x i : Nat} (h : x < 256) (hi : 8 ≤ i) : x.testBit i = false :=
  Nat.testBit_lt_two_pow (Nat.lt_of_lt_of_le (show x < 2 ^ 8 from h) (Nat.pow_le_pow_right (by decide) hi))
theorem byteW_word (g : Nat → Nat) (h : ∀ a, g a < 256) (k j : Nat) (hj : j < 8) : byteW (word g k) j = g (k + j) := by
  apply Nat.eq_of_testBit_eq; intro i
  rw [byteW_testBit, word_testBit g h]
  by_cases hi : i < 8
  · have h1 : i + 8 * (7 - j) < 64 := by omega
    have h2 : 7 - (i + 8 * (7 - j)) / 8 = j := by omega
    have h3 : (i + 8 * (7 - j)) % 8 = i := by omega
    simp [hi, h1, h2, h3]
  · have h1 : (g (k + j)).testBit i = false := testBit_hi8 (h (k + j)) (by omega)
    simp [hi, h1]
theorem word_ext {g g' : Nat → Nat} {k : Nat} (h : ∀ j, j < 8 → g (k + j) = g' (k + j)) : word g k = word g' k := by
  have : ∀ n, n ≤ 8 → wordN g k n = wordN g' k n := by
    intro n hn
    induction n with
    | zero => rfl
    | succ n ih => simp only [wordN]; rw [ih (by omega), h n (by omega)]
  exact this 8 (by omega)
theorem setW_lt {g : Nat → Nat} (h : ∀ a, g a < 256) (k w a : Nat) : setW g k w a < 256 := by
  unfold setW; split
  · exact byteW_lt _ _
  · exact h a
theorem word_of_bytes {w k : Nat} {g : Nat → Nat} (h : ∀ a, g a < 256) (hw : w < 18446744073709551616) (hg : ∀ j, j < 8 → g (k + j) = byteW w j) : word g k = w := by
  apply Nat.eq_of_testBit_eq; intro i
  rw [word_testBit g h]
  by_cases hi : i < 64
  · rw [hg _ (by omega), byteW_testBit]
    have h1 : i % 8 < 8 := by omega
    have h2 : i % 8 + 8 * (7 - (7 - i / 8)) = i := by omega
    simp [hi, h1, h2]
  · rw [testBit_hi hw (by omega)]; simp [hi]
theorem word_setW_same {g : Nat → Nat} (h : ∀ a, g a < 256) (k : Nat) {w : Nat} (hw : w < 18446744073709551616) : word (setW g k w) k = w :=
  word_of_bytes (setW_lt h k w) hw (fun j hj => by
    unfold setW; rw [if_pos (by omega), Nat.add_sub_cancel_left])
theorem word_setW_other {g : Nat → Nat} {k k' : Nat} (hk : k % 8 = 0) (hk' : k' % 8 = 0) (hne : k' ≠ k) (w : Nat) : word (setW g k w) k' = word g k' :=
  word_ext (fun j hj => by unfold setW; rw [if_neg (by omega)])
theorem word_zero {g : Nat → Nat} {k : Nat} (h : ∀ a, g a < 256) (hz : word g k = 0) (j : Nat) (hj : j < 8) : g (k + j) = 0 := by
  rw [← byteW_word g h k j hj, hz]; simp [byteW]
theorem word_eq_zero {g : Nat → Nat} {k : Nat} (hz : ∀ j, j < 8 → g (k + j) = 0) : word g k = 0 := by
  rw [word_ext (g' := fun _ => 0) hz]; rfl

/-! ### How many there can be -/
theorem nodup_le (N : Nat) : ∀ l : List Nat, l.Nodup → (∀ x ∈ l, x < N) → l.length ≤ N := by
  induction N with
  | zero => intro l _ h; cases l with
    | nil => simp
    | cons x r => have := h x (by simp); omega
  | succ N ih =>
    intro l hn h
    by_cases hm : N ∈ l
    · have h1 := ih (l.erase N) (hn.erase N) (fun x hx => by
        have h2 := (hn.mem_erase_iff).1 hx
        have h3 := h x h2.2; have := h2.1; omega)
      rw [List.length_erase_of_mem hm] at h1; omega
    · have := ih l hn (fun x hx => by
        have h1 := h x hx
        have h2 : x ≠ N := fun e => hm (e ▸ hx)
        omega)
      omega
end Go.Proofs.Ytnbdoemnepfhdaa.Mem

