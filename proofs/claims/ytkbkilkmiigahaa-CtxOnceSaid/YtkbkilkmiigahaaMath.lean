/-
  Plain facts on fields of words (numbers below 2 to the 64 as rows of bits): no Go text is named here. Conditions: none.
-/
import Derived.Laws.Bits64b
import Derived.IntWalk
namespace Go.Proofs.Ytkbkilkmiigahaa.Fld

/-- The number whose bits below n are f's. -/
def ob (f : Nat → Bool) : Nat → Nat
  | 0 => 0
  | n + 1 => ob f n + (f n).toNat * 2 ^ n

theorem ob_lt (f : Nat → Bool) (n : Nat) : ob f n < 2 ^ n := by
  induction n with
  | zero => simp [ob]
  | succ n ih =>
    simp only [ob, Nat.pow_succ]
    cases f n <;> simp <;> omega

theorem ob_testBit (f : Nat → Bool) (n i : Nat) : (ob f n).testBit i = (decide (i < n) && f i) := by
  induction n with
  | zero => simp [ob]
  | succ n ih =>
    have hl := ob_lt f n
    have e : ob f (n + 1) = 2 ^ n * (f n).toNat + ob f n := by simp only [ob, Nat.mul_comm]; omega
    rw [e, Nat.testBit_two_pow_mul_add _ hl]
    by_cases h : i < n
    · rw [if_pos h, ih]; simp [h, Nat.lt_succ_of_lt h]
    · rw [if_neg h]
      by_cases h2 : i = n
      · subst h2; cases f i <;> simp
      · have h3 : ¬ i < n + 1 := by omega
        have h4 : i - n ≠ 0 := by omega
        cases f n
        · simp [h3]
        · have h5 : (true.toNat).testBit (i - n) = false := Nat.testBit_lt_two_pow (by
            have : 2 ^ 1 ≤ 2 ^ (i - n) := Nat.pow_le_pow_right (by decide) (by omega)
            simp; omega)
          rw [h5]; simp [h3]

theorem ob_low (f : Nat → Bool) (n : Nat) : ob f (n + 1) = 2 * ob (fun j => f (j + 1)) n + (f 0).toNat := by
  induction n with
  | zero => simp [ob]
  | succ n ih =>
    have e : ob f (n + 1 + 1) = ob f (n + 1) + (f (n + 1)).toNat * 2 ^ (n + 1) := rfl
    rw [e, ih]; simp only [ob, Nat.pow_succ]
    generalize (f (n + 1)).toNat = c
    have e2 : c * (2 ^ n * 2) = 2 * (c * 2 ^ n) := by rw [Nat.mul_comm (2 ^ n) 2, Nat.mul_left_comm]
    rw [e2, Nat.mul_add]; omega

theorem ob_ext {f g : Nat → Bool} {n : Nat} (h : ∀ i, i < n → f i = g i) : ob f n = ob g n := by
  induction n with
  | zero => rfl
  | succ n ih => simp only [ob]; rw [ih (fun i hi => h i (Nat.lt_succ_of_lt hi)), h n (Nat.lt_succ_self n)]

theorem ob_self {x n : Nat} (h : x < 2 ^ n) : ob x.testBit n = x := by
  apply Nat.eq_of_testBit_eq; intro i
  rw [ob_testBit]
  by_cases hi : i < n
  · simp [hi]
  · simp [hi]
    have : x < 2 ^ i := Nat.lt_of_lt_of_le h (Nat.pow_le_pow_right (by decide) (by omega))
    exact (Nat.testBit_lt_two_pow this)

/-! ### Fields -/
def mayB (p s : Int) : Bool := decide (0 ≤ p ∧ 1 ≤ s ∧ s ≤ 64 ∧ p ≤ 64 - s)
theorem mayB_true {p s : Int} (h : mayB p s = true) : 0 ≤ p ∧ 1 ≤ s ∧ s ≤ 64 ∧ p ≤ 64 - s := by simpa [mayB] using h
theorem mayB_false {p s : Int} (h : mayB p s = false) : ¬ (0 ≤ p ∧ 1 ≤ s ∧ s ≤ 64 ∧ p ≤ 64 - s) := by simpa only [mayB, decide_eq_false_iff_not] using h
theorem mayB_mk {p s : Int} (h : 0 ≤ p ∧ 1 ≤ s ∧ s ≤ 64 ∧ p ≤ 64 - s) : mayB p s = true := by simpa [mayB] using h
theorem mayB_mkf {p s : Int} (h : ¬ (0 ≤ p ∧ 1 ≤ s ∧ s ≤ 64 ∧ p ≤ 64 - s)) : mayB p s = false := by simpa only [mayB, decide_eq_false_iff_not] using h

/-- The bits of the field at p of size s. -/
def inF (p s i : Nat) : Bool := decide (p ≤ i ∧ i < p + s)
def getN (w p s : Nat) : Nat := ob (fun j => w.testBit (p + j)) s
def putN (w p s v : Nat) : Nat := ob (fun i => if inF p s i then v.testBit (i - p) else w.testBit i) 64
def maskN (p s : Nat) : Nat := ob (inF p s) 64

def getI (w p s : Int) : Int := if mayB p s then (getN w.toNat p.toNat s.toNat : Nat) else 0
def putI (w p s v : Int) : Int := if mayB p s then (putN w.toNat p.toNat s.toNat v.toNat : Nat) else w
def maskI (p s : Int) : Int := if mayB p s then (maskN p.toNat s.toNat : Nat) else 0
def onesI (s : Int) : Int := ((2 ^ s.toNat - 1 : Nat) : Int)
def bitI (w i : Int) : Int := ((w.toNat.testBit i.toNat).toNat : Nat)
def fitsB (v s : Int) : Bool := decide (1 ≤ s) && decide (v < 2 ^ s.toNat)

theorem getN_testBit (w p s i : Nat) : (getN w p s).testBit i = (decide (i < s) && w.testBit (p + i)) := by simp [getN, ob_testBit]
theorem putN_testBit (w p s v i : Nat) : (putN w p s v).testBit i = (decide (i < 64) && (if inF p s i then v.testBit (i - p) else w.testBit i)) := by simp [putN, ob_testBit]
theorem maskN_testBit (p s i : Nat) : (maskN p s).testBit i = (decide (i < 64) && inF p s i) := by simp [maskN, ob_testBit]
theorem getN_lt (w p s : Nat) : getN w p s < 2 ^ s := ob_lt _ _
theorem putN_lt (w p s v : Nat) : putN w p s v < 18446744073709551616 := ob_lt _ 64
theorem maskN_lt (p s : Nat) : maskN p s < 18446744073709551616 := ob_lt _ 64
theorem pow_le_word {s : Nat} (h : s ≤ 64) : 2 ^ s ≤ 18446744073709551616 := Nat.pow_le_pow_right (n := 2) (j := 64) (by decide) h
theorem getN_lt64 (w p s : Nat) (h : s ≤ 64) : getN w p s < 18446744073709551616 := Nat.lt_of_lt_of_le (getN_lt w p s) (pow_le_word h)

theorem testBit_hi {x i : Nat} (h : x < 18446744073709551616) (hi : 64 ≤ i) : x.testBit i = false :=
  Nat.testBit_lt_two_pow (Nat.lt_of_lt_of_le (show x < 2 ^ 64 from h) (Nat.pow_le_pow_right (by decide) hi))

theorem get_eq (w p s : Nat) : w / 2 ^ p &&& (2 ^ s - 1) = getN w p s := by
  apply Nat.eq_of_testBit_eq; intro i
  rw [getN_testBit, Nat.testBit_and, Nat.testBit_two_pow_sub_one, Nat.testBit_div_two_pow, Nat.add_comm i p, Bool.and_comm]

theorem mask_eq (p s : Nat) (h : p + s ≤ 64) : (2 ^ s - 1) * 2 ^ p = maskN p s := by
  apply Nat.eq_of_testBit_eq; intro i
  rw [maskN_testBit, Nat.mul_comm, Nat.testBit_two_pow_mul, Nat.testBit_two_pow_sub_one, Bool.eq_iff_iff]
  simp [inF]; omega

theorem lift_eq (v p s : Nat) (h : p + s ≤ 64) : (v &&& (2 ^ s - 1)) * 2 ^ p = ob (fun i => inF p s i && v.testBit (i - p)) 64 := by
  apply Nat.eq_of_testBit_eq; intro i
  rw [ob_testBit, Nat.mul_comm, Nat.testBit_two_pow_mul, Nat.testBit_and, Nat.testBit_two_pow_sub_one, Bool.eq_iff_iff]
  simp [inF]
  constructor
  · rintro ⟨a, b, c⟩; exact ⟨by omega, ⟨by omega, by omega⟩, b⟩
  · rintro ⟨a, ⟨b, c⟩, d⟩; exact ⟨by omega, d, by omega⟩

/-- A word without some bits. -/
theorem bits_andNot_u64_nat (a b : Nat) (ha : a < 18446744073709551616) (hb : b < 18446744073709551616) :
    bits .andNot .u64 (a : Int) (b : Int) = ((ob (fun i => a.testBit i && !b.testBit i) 64 : Nat) : Int) := by
  have h1 : (BitVec.ofInt 64 (a : Int)).toNat = a := by
    rw [BitVec.ofInt_natCast, BitVec.toNat_ofNat]; exact Nat.mod_eq_of_lt (by omega)
  have h2 : (BitVec.ofInt 64 (b : Int)).toNat = b := by
    rw [BitVec.ofInt_natCast, BitVec.toNat_ofNat]; exact Nat.mod_eq_of_lt (by omega)
  show IntKind.u64.wrap ((BitVec.ofInt 64 (a : Int) &&& ~~~ BitVec.ofInt 64 (b : Int)).toNat : Int) = _
  have e : (BitVec.ofInt 64 (a : Int) &&& ~~~ BitVec.ofInt 64 (b : Int)).toNat = ob (fun i => a.testBit i && !b.testBit i) 64 := by
    apply Nat.eq_of_testBit_eq; intro i
    rw [ob_testBit, BitVec.testBit_toNat, BitVec.getLsbD_and, BitVec.getLsbD_not, ← BitVec.testBit_toNat, ← BitVec.testBit_toNat, h1, h2]
    cases a.testBit i <;> simp
  rw [e, IntKind.wrap_u64]
  have := ob_lt (fun i => a.testBit i && !b.testBit i) 64
  omega

theorem put_eq (w p s v : Nat) : ob (fun i => w.testBit i && !(maskN p s).testBit i) 64 ||| ob (fun i => inF p s i && v.testBit (i - p)) 64 = putN w p s v := by
  apply Nat.eq_of_testBit_eq; intro i
  rw [Nat.testBit_or, ob_testBit, ob_testBit, putN_testBit, maskN_testBit]
  by_cases hi : i < 64 <;> cases h : inF p s i <;> simp [hi]

theorem ob_lt64 (f : Nat → Bool) : ob f 64 < 18446744073709551616 := ob_lt f 64

/-! ### The same over integers -/
theorem cast_toNat {w : Int} (h : 0 ≤ w) : ((w.toNat : Nat) : Int) = w := Int.toNat_of_nonneg h
theorem min64 {p : Int} (h : p ≤ 64) : min p.toNat 64 = p.toNat := Nat.min_eq_left (by omega)
theorem getI_bd (w p s : Int) : 0 ≤ getI w p s ∧ getI w p s ≤ 18446744073709551615 := by
  unfold getI; split
  · rename_i h; have hm := mayB_true h
    have := getN_lt64 w.toNat p.toNat s.toNat (by omega); omega
  · omega
theorem putI_bd (w p s v : Int) (h0 : 0 ≤ w) (h1 : w ≤ 18446744073709551615) : 0 ≤ putI w p s v ∧ putI w p s v ≤ 18446744073709551615 := by
  unfold putI; split
  · have := putN_lt w.toNat p.toNat s.toNat v.toNat; omega
  · omega
theorem maskI_bd (p s : Int) : 0 ≤ maskI p s ∧ maskI p s ≤ 18446744073709551615 := by
  unfold maskI; split
  · have := maskN_lt p.toNat s.toNat; omega
  · omega
theorem onesI_bd (s : Int) (h : s ≤ 64) : 0 ≤ onesI s ∧ onesI s ≤ 18446744073709551615 := by
  unfold onesI
  have := pow_le_word (s := s.toNat) (by omega)
  have := Nat.two_pow_pos s.toNat
  omega
theorem bitI_bd (w i : Int) : 0 ≤ bitI w i ∧ bitI w i ≤ 1 := by
  unfold bitI; cases w.toNat.testBit i.toNat <;> simp

theorem cast_pow (n : Nat) : ((2 : Int) ^ n) = ((2 ^ n : Nat) : Int) := by simp
theorem ones_walk (s : Int) (h0 : 1 ≤ s) (h1 : s ≤ 64) : IntKind.u64.wrap (IntKind.u64.wrap (2 ^ min s.toNat 64) - 1) = onesI s := by
  rw [min64 h1, cast_pow, IntKind.wrap_u64, IntKind.wrap_u64]; unfold onesI
  by_cases e : s = 64
  · subst e; decide
  · have h2 := pow_le_word (s := s.toNat + 1) (by omega)
    have h3 := Nat.two_pow_pos s.toNat
    rw [Nat.pow_succ] at h2
    omega
theorem get_walk (w p s : Int) (hm : mayB p s = true) (h0 : 0 ≤ w) (h1 : w ≤ 18446744073709551615) : bits .and .u64 (w / 2 ^ min p.toNat 64) (onesI s) = getI w p s := by
  have hm' := mayB_true hm
  have hs := pow_le_word (s := s.toNat) (by omega)
  have h2 := Nat.two_pow_pos s.toNat
  rw [min64 (by omega), cast_pow]
  unfold getI onesI; rw [if_pos hm]
  generalize hw : w.toNat = a at *
  obtain rfl : w = (a : Int) := by omega
  rw [← Int.natCast_ediv, bits_and_u64_nat _ _ ?_ (by omega), get_eq]
  · exact Nat.lt_of_le_of_lt (Nat.div_le_self _ _) (by omega)
theorem mask_walk (p s : Int) (hm : mayB p s = true) : IntKind.u64.wrap (onesI s * 2 ^ min p.toNat 64) = maskI p s := by
  have hm' := mayB_true hm
  rw [min64 (by omega), cast_pow]
  unfold maskI onesI; rw [if_pos hm, ← Int.natCast_mul, mask_eq _ _ (by omega), IntKind.wrap_u64]
  have := maskN_lt p.toNat s.toNat; omega
theorem put_walk (w p s v : Int) (hm : mayB p s = true) (h0 : 0 ≤ w) (h1 : w ≤ 18446744073709551615) (g0 : 0 ≤ v) (g1 : v ≤ 18446744073709551615) :
    bits .or .u64 (bits .andNot .u64 w (maskI p s)) (IntKind.u64.wrap (bits .and .u64 v (onesI s) * 2 ^ min p.toNat 64)) = putI w p s v := by
  have hm' := mayB_true hm
  have hs := pow_le_word (s := s.toNat) (by omega)
  have h2 := Nat.two_pow_pos s.toNat
  have h3 := maskN_lt p.toNat s.toNat
  rw [min64 (by omega), cast_pow]
  unfold putI maskI onesI; rw [if_pos hm, if_pos hm]
  generalize hw : w.toNat = a at *
  generalize hv : v.toNat = b at *
  obtain rfl : w = (a : Int) := by omega
  obtain rfl : v = (b : Int) := by omega
  rw [bits_andNot_u64_nat _ _ (by omega) h3, bits_and_u64_nat _ _ (by omega) (by omega), ← Int.natCast_mul, lift_eq _ _ _ (by omega), IntKind.wrap_u64]
  have h4 := ob_lt64 (fun i => inF p.toNat s.toNat i && b.testBit (i - p.toNat))
  have h5 := ob_lt64 (fun i => a.testBit i && !(maskN p.toNat s.toNat).testBit i)
  rw [Int.emod_eq_of_lt (by omega) (by omega), bits_or_u64_nat _ _ h5 h4, put_eq]
theorem ones_walk' (s : Int) (h0 : 1 ≤ s) (h1 : s ≤ 64) : IntKind.u64.wrap (IntKind.u64.wrap (2 ^ s.toNat) - 1) = onesI s := by
  have := ones_walk s h0 h1; rwa [min64 h1] at this
theorem get_walk' (w p s : Int) (hm : mayB p s = true) (h0 : 0 ≤ w) (h1 : w ≤ 18446744073709551615) : bits .and .u64 (w / 2 ^ p.toNat) (onesI s) = getI w p s := by
  have := get_walk w p s hm h0 h1; have hm' := mayB_true hm; rwa [min64 (by omega)] at this
theorem mask_walk' (p s : Int) (hm : mayB p s = true) : IntKind.u64.wrap (onesI s * 2 ^ p.toNat) = maskI p s := by
  have := mask_walk p s hm; have hm' := mayB_true hm; rwa [min64 (by omega)] at this
theorem put_walk' (w p s v : Int) (hm : mayB p s = true) (h0 : 0 ≤ w) (h1 : w ≤ 18446744073709551615) (g0 : 0 ≤ v) (g1 : v ≤ 18446744073709551615) :
    bits .or .u64 (bits .andNot .u64 w (maskI p s)) (IntKind.u64.wrap (bits .and .u64 v (onesI s) * 2 ^ p.toNat)) = putI w p s v := by
  have := put_walk w p s v hm h0 h1 g0 g1; have hm' := mayB_true hm; rwa [min64 (by omega)] at this
theorem fits_walk (v s : Int) (h : 1 ≤ s) (h0 : 0 ≤ v) (h1 : v ≤ 18446744073709551615) : (v / 2 ^ min s.toNat 64 == 0) = fitsB v s := by
  unfold fitsB
  obtain ⟨a, rfl⟩ := Int.eq_ofNat_of_zero_le h0
  rw [Bool.eq_iff_iff]
  simp only [beq_iff_eq, Bool.and_eq_true, decide_eq_true_eq, h, true_and]
  rw [cast_pow, cast_pow]
  have e : ((a : Int) / ((2 ^ min s.toNat 64 : Nat) : Int) = 0) ↔ a < 2 ^ min s.toNat 64 := by
    rw [← Int.natCast_ediv, ← Int.natCast_zero, Int.natCast_inj, Nat.div_eq_zero_iff]
    have := Nat.two_pow_pos (min s.toNat 64); omega
  rw [e]
  by_cases hs : s ≤ 64
  · rw [min64 hs]; omega
  · have h64 : min s.toNat 64 = 64 := by omega
    rw [h64]
    have h3 : 2 ^ 64 ≤ 2 ^ s.toNat := Nat.pow_le_pow_right (by decide) (by omega)
    have h4 : a < 2 ^ 64 := by omega
    constructor
    · intro _; exact_mod_cast Nat.lt_of_lt_of_le h4 h3
    · intro _; exact h4

/-- A word, moved down. -/
def shI (v : Int) (j : Nat) : Int := ((v.toNat / 2 ^ j : Nat) : Int)
theorem shI_zero (v : Int) (h : 0 ≤ v) : shI v 0 = v := by unfold shI; simp; omega
theorem shI_succ (v : Int) (j : Nat) : shI v j / 2 = shI v (j + 1) := by
  unfold shI; rw [Nat.pow_succ, ← Nat.div_div_eq_div_mul]; omega
theorem shI_bd (v : Int) (j : Nat) (h1 : v ≤ 18446744073709551615) : 0 ≤ shI v j ∧ shI v j ≤ 18446744073709551615 := by
  unfold shI; have := Nat.div_le_self v.toNat (2 ^ j)
  generalize v.toNat / 2 ^ j = q at *; omega
theorem shI_mod (v : Int) (j : Nat) : shI v j % 2 = bitI v j := by
  unfold shI bitI
  have : v.toNat / 2 ^ j % 2 = (v.toNat.testBit j).toNat := by
    rw [Nat.testBit_eq_decide_div_mod_eq]
    have := Nat.mod_two_eq_zero_or_one (v.toNat / 2 ^ j)
    rcases this with h | h <;> simp [h]
  rw [Int.toNat_natCast]
  omega

/-- What the document's Get and Put have made of the bits from i on, of S. -/
def upI (f : Nat → Bool) (S : Nat) (i : Int) : Int := ((ob (fun j => f (j + i.toNat)) (S - i.toNat) : Nat) : Int)
theorem upI_top (f : Nat → Bool) (S : Nat) (i : Int) (h : (S : Int) ≤ i) : upI f S i = 0 := by
  have : S - i.toNat = 0 := by omega
  simp [upI, this, ob]
theorem upI_all (f : Nat → Bool) (S : Nat) : upI f S 0 = ((ob f S : Nat) : Int) := by simp [upI]
theorem upI_step (f : Nat → Bool) (S : Nat) (i : Int) (h0 : 0 ≤ i) (h : i < S) : 2 * upI f S (i + 1) + ((f i.toNat).toNat : Int) = upI f S i := by
  unfold upI
  obtain ⟨k, rfl⟩ := Int.eq_ofNat_of_zero_le h0
  have e1 : ((k : Int) + 1).toNat = k + 1 := by omega
  rw [e1, Int.toNat_natCast]
  obtain ⟨m, hm⟩ : ∃ m, S - k = m + 1 := ⟨S - k - 1, by omega⟩
  have e : S - (k + 1) = m := by omega
  rw [hm, e, ob_low]
  have : (fun j => f (j + (k + 1))) = fun j => f (j + 1 + k) := by funext j; congr 1; omega
  rw [this]; simp
theorem upI_bd (f : Nat → Bool) (S : Nat) (hS : S ≤ 64) (i : Int) (h : 0 ≤ i) : 0 ≤ upI f S (i + 1) ∧ upI f S (i + 1) ≤ 9223372036854775807 := by
  unfold upI
  have h1 := ob_lt (fun j => f (j + (i + 1).toNat)) (S - (i + 1).toNat)
  have h2 : 2 ^ (S - (i + 1).toNat) ≤ 2 ^ 63 := Nat.pow_le_pow_right (by decide) (by omega)
  omega

def getF (x p : Int) : Nat → Bool := fun j => x.toNat.testBit (p.toNat + j)
def putF (x p s v : Int) : Nat → Bool := fun i => if inF p.toNat s.toNat i then v.toNat.testBit (i - p.toNat) else x.toNat.testBit i
theorem getI_up (x p s : Int) (hm : mayB p s = true) : getI x p s = upI (getF x p) s.toNat 0 := by
  rw [upI_all]; unfold getI getN getF; rw [if_pos hm]
theorem putI_up (x p s v : Int) (hm : mayB p s = true) : putI x p s v = upI (putF x p s v) 64 0 := by
  rw [upI_all]; unfold putI putN putF; rw [if_pos hm]
theorem getF_bit (x p i : Int) (hp : 0 ≤ p) (hi : 0 ≤ i) : ((getF x p i.toNat).toNat : Int) = bitI x (p + i) := by
  unfold getF bitI; rw [show (p + i).toNat = p.toNat + i.toNat by omega]
theorem putF_in (x p s v i : Int) (hp : 0 ≤ p) (h1 : p ≤ i) (h2 : i < p + s) : ((putF x p s v i.toNat).toNat : Int) = bitI v (i - p) := by
  unfold putF bitI; rw [if_pos (by simp [inF]; omega), show (i - p).toNat = i.toNat - p.toNat by omega]
theorem putF_out (x p s v i : Int) (hp : 0 ≤ p) (hi : 0 ≤ i) (_hs : 0 ≤ s) (h : ¬ (p ≤ i ∧ i < p + s)) : ((putF x p s v i.toNat).toNat : Int) = bitI x i := by
  unfold putF bitI; rw [if_neg (by simp [inF]; omega)]

/-- No bit from i on. -/
theorem fits_bits (v s : Int) (hs : 1 ≤ s) (h0 : 0 ≤ v) (h1 : v ≤ 18446744073709551615) : fitsB v s = true ↔ ∀ i : Int, s ≤ i → i < 64 → bitI v i = 0 := by
  unfold fitsB bitI
  simp only [Bool.and_eq_true, decide_eq_true_eq, hs, true_and]
  obtain ⟨a, rfl⟩ := Int.eq_ofNat_of_zero_le h0
  rw [cast_pow]
  constructor
  · intro h i h2 h3
    have hp : a < 2 ^ i.toNat := Nat.lt_of_lt_of_le (by omega : a < 2 ^ s.toNat) (Nat.pow_le_pow_right (by decide) (by omega))
    rw [Int.toNat_natCast, Nat.testBit_lt_two_pow hp]; rfl
  · intro h
    have : a < 2 ^ s.toNat := by
      apply Nat.lt_pow_two_of_testBit
      intro i hi
      by_cases h64 : i < 64
      · have := h (i : Int) (by omega) (by omega)
        rw [Int.toNat_natCast, Int.toNat_natCast] at this
        cases hb : a.testBit i
        · rfl
        · rw [hb] at this; simp at this
      · exact testBit_hi (by omega) (by omega)
    omega

/-! ### Signs -/
/-- The sign of a number below 16, as a byte. -/
def signOf (n : Int) : UInt8 := UInt8.ofNat (if n < 10 then 48 + n.toNat else 87 + n.toNat)
/-- A word's k-th sign, its highest first. -/
def hexAt (x : Int) (k : Nat) : UInt8 := signOf (getI x (60 - 4 * (k : Int)) 4)
def hexL (x : Int) (k : Nat) : List UInt8 := (List.range k).map (hexAt x)
def cellsOf (l : List UInt8) : List Value := l.map (fun b => Value.int .u8 (b.toNat : Int))
def hexS (x : Int) : ByteArray := ⟨(hexL x 16).toArray⟩
theorem hexL_succ (x : Int) (k : Nat) : hexL x (k + 1) = hexL x k ++ [hexAt x k] := by simp [hexL, List.range_succ]
theorem hexL_length (x : Int) (k : Nat) : (hexL x k).length = k := by simp [hexL]
theorem cellsOf_succ (x : Int) (k : Nat) : cellsOf (hexL x (k + 1)) = cellsOf (hexL x k) ++ [Value.int .u8 ((hexAt x k).toNat : Int)] := by simp [hexL_succ, cellsOf]
theorem cellsOf_length (l : List UInt8) : (cellsOf l).length = l.length := by simp [cellsOf]
theorem get4_bd (x p : Int) : 0 ≤ getI x p 4 ∧ getI x p 4 ≤ 15 := by
  unfold getI; split
  · have h := getN_lt x.toNat p.toNat (Int.toNat 4)
    have e : 2 ^ Int.toNat 4 = 16 := by decide
    rw [e] at h; omega
  · omega
theorem signOf_lo (n : Int) (h0 : 0 ≤ n) (h : n < 10) : ((signOf n).toNat : Int) = 48 + n := by
  unfold signOf; rw [if_pos h, UInt8.toNat_ofNat']; omega
theorem signOf_hi (n : Int) (h0 : 10 ≤ n) (h : n ≤ 15) : ((signOf n).toNat : Int) = 87 + n := by
  unfold signOf; rw [if_neg (by omega), UInt8.toNat_ofNat']; omega
end Go.Proofs.Ytkbkilkmiigahaa.Fld
