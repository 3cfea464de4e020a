/-
  Plain facts on places of entries (numbers below 2 to the 64): no Go text is named here. Conditions: none.
-/
import Derived.Test.YtjnmipcjmeifoaaPMathB
import Derived.Test.YtjnmipcjmeifoaaMathB
namespace Go.Proofs.Ytjnmipcjmeifoaa.Pt
open Fld
/-- A number's bits laid into a word are the word's above, the number's, and the word's below. -/
theorem putN_parts (x p s v : Nat) (h : p + s ≤ 64) (hx : x < 2 ^ 64) : putN x p s v = 2 ^ (p + s) * (x / 2 ^ (p + s)) + (2 ^ p * (v % 2 ^ s) + x % 2 ^ p) := by
  have l1 : x % 2 ^ p < 2 ^ p := Nat.mod_lt _ (Nat.two_pow_pos p)
  have l2 : v % 2 ^ s < 2 ^ s := Nat.mod_lt _ (Nat.two_pow_pos s)
  have l3 : 2 ^ p * (v % 2 ^ s) + x % 2 ^ p < 2 ^ (p + s) := by
    have : 2 ^ p * (v % 2 ^ s + 1) ≤ 2 ^ p * 2 ^ s := Nat.mul_le_mul_left _ l2
    rw [Nat.mul_add, Nat.mul_one, ← Nat.pow_add] at this
    omega
  apply Nat.eq_of_testBit_eq
  intro i
  rw [putN_testBit, Nat.testBit_two_pow_mul_add _ l3, Nat.testBit_two_pow_mul_add _ l1]
  by_cases hi : i < 64
  · by_cases h1 : i < p
    · have h2 : i < p + s := by omega
      have h3 : inF p s i = false := by unfold inF; simp; omega
      simp [hi, h1, h2, h3]
    · by_cases h2 : i < p + s
      · have h3 : inF p s i = true := by unfold inF; simp; omega
        have h4 : i - p < s := by omega
        simp [hi, h1, h2, h3, h4]
      · have h3 : inF p s i = false := by unfold inF; simp; omega
        have h4 : i - (p + s) + (p + s) = i := by omega
        simp only [hi, h2, h3, Nat.testBit_div_two_pow, h4]; simp
  · have h1 : ¬ i < p + s := by omega
    have h2 : x.testBit i = false := Nat.testBit_lt_two_pow (Nat.lt_of_lt_of_le hx (Nat.pow_le_pow_right (by decide) (by omega)))
    have h4 : i - (p + s) + (p + s) = i := by omega
    simp only [hi, h1, Nat.testBit_div_two_pow, h4, h2]; simp
theorem putI_parts (x v : Int) (p s P S Q : Nat) (hs : 1 ≤ s) (h : p + s ≤ 64) (hP : 2 ^ p = P) (hS : 2 ^ s = S) (hQ : 2 ^ (p + s) = Q) (x0 : 0 ≤ x) (x1 : x ≤ 18446744073709551615) (v0 : 0 ≤ v) : putI x (p : Int) (s : Int) v = Q * (x / Q) + (P * (v % S) + x % P) := by
  obtain ⟨n, rfl⟩ := Int.eq_ofNat_of_zero_le x0
  obtain ⟨m, rfl⟩ := Int.eq_ofNat_of_zero_le v0
  have hm : mayB (p : Int) (s : Int) = true := mayB_mk (by omega)
  unfold putI
  rw [if_pos hm]
  simp only [Int.toNat_natCast]
  rw [putN_parts n p s m h (by omega), hP, hS, hQ]
  simp

/-- How many entries, by the number N. -/
def eI (k : Int) : Int := if k = 0 then 512 else if k = 1 then 1024 else if k = 2 then 2048 else if k = 3 then 4096 else if k = 4 then 8192 else if k = 5 then 16384 else if k = 6 then 32768 else 65536
def entI (t : Int) : Int := eI (t % 8)
def splitB (t : Int) : Bool := t / 4096 % 2 == 1
def isB (s : Int) : Bool := decide (0 ≤ s ∧ s ≤ 1)
def wholeI (t : Int) : Int := if splitB t then 32 * entI t else 16 * entI t
def begI (t : Int) : Int := t / wholeI t * wholeI t
def atI (t x s : Int) : Int := 16 * (x / bytesI s % entI t) + if splitB t && s == 1 then 16 * entI t else 0
def ptrI (t x s : Int) : Int := if isB s then begI t + atI t x s else 0
theorem eight {k : Int} (h0 : 0 ≤ k) (h1 : k < 8) : k = 0 ∨ k = 1 ∨ k = 2 ∨ k = 3 ∨ k = 4 ∨ k = 5 ∨ k = 6 ∨ k = 7 := by omega
theorem ent_or (t : Int) : (t % 8 = 0 ∧ entI t = 512) ∨ (t % 8 = 1 ∧ entI t = 1024) ∨ (t % 8 = 2 ∧ entI t = 2048) ∨ (t % 8 = 3 ∧ entI t = 4096) ∨ (t % 8 = 4 ∧ entI t = 8192) ∨ (t % 8 = 5 ∧ entI t = 16384) ∨ (t % 8 = 6 ∧ entI t = 32768) ∨ (t % 8 = 7 ∧ entI t = 65536) := by
  unfold entI
  rcases eight (k := t % 8) (by omega) (by omega) with h | h | h | h | h | h | h | h <;> rw [h] <;> simp [eI]
theorem isB_true {s : Int} (h : isB s = true) : s = 0 ∨ s = 1 := by
  have : 0 ≤ s ∧ s ≤ 1 := by simpa [isB] using h
  omega
theorem isB_mk {s : Int} (h : 0 ≤ s ∧ s ≤ 1) : isB s = true := by simpa [isB] using h
theorem isB_no {s : Int} (h : ¬ (0 ≤ s ∧ s ≤ 1)) : isB s = false := by simpa only [isB, decide_eq_false_iff_not] using h

/-! ### The pointer, laid bit by bit -/
theorem lay_zero (t : Int) (t0 : 0 ≤ t) (t1 : t ≤ 18446744073709551615) : putI t 0 4 0 = t / 16 * 16 := by
  have := putI_parts t 0 0 4 1 16 16 (by decide) (by decide) rfl rfl rfl t0 t1 (by decide)
  rw [show ((0 : Nat) : Int) = 0 from rfl, show ((4 : Nat) : Int) = 4 from rfl] at this
  omega
theorem lay_un (t n : Int) (t0 : 0 ≤ t) (t1 : t ≤ 18446744073709551615) (n0 : 0 ≤ n) : putI (putI t 0 4 0) 4 (9 + t % 8) n = t / (16 * entI t) * (16 * entI t) + 16 * (n % entI t) := by
  rw [lay_zero t t0 t1]
  rcases ent_or t with ⟨h, e⟩ | ⟨h, e⟩ | ⟨h, e⟩ | ⟨h, e⟩ | ⟨h, e⟩ | ⟨h, e⟩ | ⟨h, e⟩ | ⟨h, e⟩ <;> rw [h, e]
  · have := putI_parts (t / 16 * 16) n 4 9 16 512 8192 (by decide) (by decide) rfl rfl rfl (by omega) (by omega) n0
    rw [show ((4 : Nat) : Int) = 4 from rfl, show ((9 : Nat) : Int) = 9 + 0 from rfl] at this
    omega
  · have := putI_parts (t / 16 * 16) n 4 10 16 1024 16384 (by decide) (by decide) rfl rfl rfl (by omega) (by omega) n0
    rw [show ((4 : Nat) : Int) = 4 from rfl, show ((10 : Nat) : Int) = 9 + 1 from rfl] at this
    omega
  · have := putI_parts (t / 16 * 16) n 4 11 16 2048 32768 (by decide) (by decide) rfl rfl rfl (by omega) (by omega) n0
    rw [show ((4 : Nat) : Int) = 4 from rfl, show ((11 : Nat) : Int) = 9 + 2 from rfl] at this
    omega
  · have := putI_parts (t / 16 * 16) n 4 12 16 4096 65536 (by decide) (by decide) rfl rfl rfl (by omega) (by omega) n0
    rw [show ((4 : Nat) : Int) = 4 from rfl, show ((12 : Nat) : Int) = 9 + 3 from rfl] at this
    omega
  · have := putI_parts (t / 16 * 16) n 4 13 16 8192 131072 (by decide) (by decide) rfl rfl rfl (by omega) (by omega) n0
    rw [show ((4 : Nat) : Int) = 4 from rfl, show ((13 : Nat) : Int) = 9 + 4 from rfl] at this
    omega
  · have := putI_parts (t / 16 * 16) n 4 14 16 16384 262144 (by decide) (by decide) rfl rfl rfl (by omega) (by omega) n0
    rw [show ((4 : Nat) : Int) = 4 from rfl, show ((14 : Nat) : Int) = 9 + 5 from rfl] at this
    omega
  · have := putI_parts (t / 16 * 16) n 4 15 16 32768 524288 (by decide) (by decide) rfl rfl rfl (by omega) (by omega) n0
    rw [show ((4 : Nat) : Int) = 4 from rfl, show ((15 : Nat) : Int) = 9 + 6 from rfl] at this
    omega
  · have := putI_parts (t / 16 * 16) n 4 16 16 65536 1048576 (by decide) (by decide) rfl rfl rfl (by omega) (by omega) n0
    rw [show ((4 : Nat) : Int) = 4 from rfl, show ((16 : Nat) : Int) = 9 + 7 from rfl] at this
    omega
theorem lay_bd (t n : Int) (t0 : 0 ≤ t) (t1 : t ≤ 18446744073709551615) (_n0 : 0 ≤ n) : 0 ≤ t / (16 * entI t) * (16 * entI t) + 16 * (n % entI t) ∧ t / (16 * entI t) * (16 * entI t) + 16 * (n % entI t) ≤ 18446744073709551615 := by
  rcases ent_or t with ⟨h, e⟩ | ⟨h, e⟩ | ⟨h, e⟩ | ⟨h, e⟩ | ⟨h, e⟩ | ⟨h, e⟩ | ⟨h, e⟩ | ⟨h, e⟩ <;> rw [e] <;> omega
theorem lay_split (t n s : Int) (t0 : 0 ≤ t) (t1 : t ≤ 18446744073709551615) (n0 : 0 ≤ n) (hs : 0 ≤ s ∧ s ≤ 1) : putI (putI (putI t 0 4 0) 4 (9 + t % 8) n) (13 + t % 8) 1 s = t / (32 * entI t) * (32 * entI t) + (16 * (n % entI t) + 16 * entI t * s) := by
  rw [lay_un t n t0 t1 n0]
  have hb := lay_bd t n t0 t1 n0
  rcases ent_or t with ⟨h, e⟩ | ⟨h, e⟩ | ⟨h, e⟩ | ⟨h, e⟩ | ⟨h, e⟩ | ⟨h, e⟩ | ⟨h, e⟩ | ⟨h, e⟩ <;> rw [h, e] <;> rw [e] at hb
  · have := putI_parts _ s 13 1 8192 2 16384 (by decide) (by decide) rfl rfl rfl hb.1 hb.2 hs.1
    rw [show ((13 : Nat) : Int) = 13 + 0 from rfl, show ((1 : Nat) : Int) = 1 from rfl] at this
    omega
  · have := putI_parts _ s 14 1 16384 2 32768 (by decide) (by decide) rfl rfl rfl hb.1 hb.2 hs.1
    rw [show ((14 : Nat) : Int) = 13 + 1 from rfl, show ((1 : Nat) : Int) = 1 from rfl] at this
    omega
  · have := putI_parts _ s 15 1 32768 2 65536 (by decide) (by decide) rfl rfl rfl hb.1 hb.2 hs.1
    rw [show ((15 : Nat) : Int) = 13 + 2 from rfl, show ((1 : Nat) : Int) = 1 from rfl] at this
    omega
  · have := putI_parts _ s 16 1 65536 2 131072 (by decide) (by decide) rfl rfl rfl hb.1 hb.2 hs.1
    rw [show ((16 : Nat) : Int) = 13 + 3 from rfl, show ((1 : Nat) : Int) = 1 from rfl] at this
    omega
  · have := putI_parts _ s 17 1 131072 2 262144 (by decide) (by decide) rfl rfl rfl hb.1 hb.2 hs.1
    rw [show ((17 : Nat) : Int) = 13 + 4 from rfl, show ((1 : Nat) : Int) = 1 from rfl] at this
    omega
  · have := putI_parts _ s 18 1 262144 2 524288 (by decide) (by decide) rfl rfl rfl hb.1 hb.2 hs.1
    rw [show ((18 : Nat) : Int) = 13 + 5 from rfl, show ((1 : Nat) : Int) = 1 from rfl] at this
    omega
  · have := putI_parts _ s 19 1 524288 2 1048576 (by decide) (by decide) rfl rfl rfl hb.1 hb.2 hs.1
    rw [show ((19 : Nat) : Int) = 13 + 6 from rfl, show ((1 : Nat) : Int) = 1 from rfl] at this
    omega
  · have := putI_parts _ s 20 1 1048576 2 2097152 (by decide) (by decide) rfl rfl rfl hb.1 hb.2 hs.1
    rw [show ((20 : Nat) : Int) = 13 + 7 from rfl, show ((1 : Nat) : Int) = 1 from rfl] at this
    omega
theorem ptr_un {t x s : Int} (t0 : 0 ≤ t) (t1 : t ≤ 18446744073709551615) (n0 : 0 ≤ x / bytesI s) (hs : isB s = true) (h : splitB t = false) : putI (putI t 0 4 0) 4 (9 + t % 8) (x / bytesI s) = ptrI t x s := by
  rw [lay_un t _ t0 t1 n0]; unfold ptrI begI wholeI atI; rw [if_pos hs, h]; simp
theorem ptr_split {t x s : Int} (t0 : 0 ≤ t) (t1 : t ≤ 18446744073709551615) (n0 : 0 ≤ x / bytesI s) (hs : isB s = true) (h : splitB t = true) : putI (putI (putI t 0 4 0) 4 (9 + t % 8) (x / bytesI s)) (13 + t % 8) 1 s = ptrI t x s := by
  have h2 := isB_true hs
  rw [lay_split t _ s t0 t1 n0 (by omega)]; unfold ptrI begI wholeI atI; rw [if_pos hs, h]
  rcases h2 with rfl | rfl <;> simp
theorem get_three (t : Int) (h0 : 0 ≤ t) : getI t 0 3 = t % 8 := by
  rw [getI_div t 0 3 (by decide) h0]; simp
theorem get_split (t : Int) (h0 : 0 ≤ t) : (getI t 12 1 == 1) = splitB t := by
  rw [getI_div t 12 1 (by decide) h0]; rfl

/-! ### What follows -/
theorem ptr_in {t x s : Int} (t0 : 0 ≤ t) (t1 : t ≤ 18446744073709551615) (n0 : 0 ≤ x / bytesI s) (hs : isB s = true) : begI t ≤ ptrI t x s ∧ ptrI t x s - begI t < wholeI t ∧ ptrI t x s % 16 = 0 ∧ ptrI t x s ≤ 18446744073709551615 ∧ 0 ≤ begI t ∧ wholeI t ≤ 2097152 ∧ 512 ≤ wholeI t := by
  have h2 := isB_true hs
  unfold ptrI begI wholeI atI; rw [if_pos hs]
  rcases ent_or t with ⟨h, e⟩ | ⟨h, e⟩ | ⟨h, e⟩ | ⟨h, e⟩ | ⟨h, e⟩ | ⟨h, e⟩ | ⟨h, e⟩ | ⟨h, e⟩ <;> rw [e] <;> cases splitB t <;> rcases h2 with rfl | rfl <;> simp <;> omega
theorem ptr_half {t x s : Int} (n0 : 0 ≤ x / bytesI s) (hs : isB s = true) (h : splitB t = true) : (16 * entI t ≤ ptrI t x s - begI t) ↔ s = 1 := by
  have h2 := isB_true hs
  unfold ptrI begI wholeI atI; rw [if_pos hs, h]
  rcases ent_or t with ⟨h, e⟩ | ⟨h, e⟩ | ⟨h, e⟩ | ⟨h, e⟩ | ⟨h, e⟩ | ⟨h, e⟩ | ⟨h, e⟩ | ⟨h, e⟩ <;> rw [e] <;> rcases h2 with rfl | rfl <;> simp <;> omega
theorem div_page (x s o : Int) (hs : sizeB s = true) : (baseI x s + offI o s) / bytesI s = x / bytesI s := by
  unfold baseI offI; rw [if_pos hs, if_pos hs]
  rcases sizeB_true hs with rfl | rfl | rfl | rfl <;> simp [bytesI] <;> omega
theorem ptr_page (t x s o : Int) (hs : isB s = true) : ptrI t (baseI x s + offI o s) s = ptrI t x s := by
  have h2 := isB_true hs
  unfold ptrI atI; rw [div_page x s o (sizeB_mk (by omega))]

/-! ### Places among so many -/
def arI (i n : Int) : Int := i % n
def idxI (x s n : Int) : Int := x / bytesI s % n
theorem tmod_or (i n : Int) (hn : 0 < n) : (i.tmod n < 0 ∧ i.tmod n + n = arI i n) ∨ (0 ≤ i.tmod n ∧ i.tmod n = arI i n) := by
  have h1 := Int.mul_tdiv_add_tmod i n
  have h2 := Int.tmod_lt_of_pos i hn
  have h3 := Int.lt_tmod_of_pos i hn
  unfold arI
  by_cases h : i.tmod n < 0
  · left
    refine ⟨h, ?_⟩
    have e : i = (i.tmod n + n) + n * (i.tdiv n - 1) := by rw [Int.mul_sub]; omega
    have : ((i.tmod n + n) + n * (i.tdiv n - 1)) % n = i.tmod n + n := by
      rw [Int.add_mul_emod_self_left, Int.emod_eq_of_lt (by omega) (by omega)]
    rw [← e] at this; exact this.symm
  · right
    refine ⟨by omega, ?_⟩
    have e : i = i.tmod n + n * i.tdiv n := by omega
    have : (i.tmod n + n * i.tdiv n) % n = i.tmod n := by
      rw [Int.add_mul_emod_self_left, Int.emod_eq_of_lt (by omega) (by omega)]
    rw [← e] at this; exact this.symm
theorem ar_bd (i n : Int) (hn : 0 < n) : 0 ≤ arI i n ∧ arI i n < n := ⟨Int.emod_nonneg _ (by omega), Int.emod_lt_of_pos _ hn⟩
theorem idx_bd (x s n : Int) (hn : 0 < n) : 0 ≤ idxI x s n ∧ idxI x s n < n := ⟨Int.emod_nonneg _ (by omega), Int.emod_lt_of_pos _ hn⟩
theorem idx_next (x s n : Int) (hs : sizeB s = true) : idxI (x + bytesI s) s n = arI (idxI x s n + 1) n := by
  have hb := bytes_pos hs
  unfold idxI arI
  have : (x + bytesI s) / bytesI s = x / bytesI s + 1 := by
    have := Int.add_mul_ediv_right x 1 (show bytesI s ≠ 0 by omega)
    rwa [Int.one_mul] at this
  rw [this, Int.emod_add_emod]
theorem ptr_whole (n f : Int) (n0 : 0 ≤ n) (n1 : n < 8) : ptrI n (f * 8192) 0 = 16 * (f % entI n) := by
  have hs : splitB n = false := by unfold splitB; rw [show n / 4096 % 2 = 0 by omega]; rfl
  have hw : n / (16 * entI n) = 0 := by
    rcases ent_or n with ⟨h, e⟩ | ⟨h, e⟩ | ⟨h, e⟩ | ⟨h, e⟩ | ⟨h, e⟩ | ⟨h, e⟩ | ⟨h, e⟩ | ⟨h, e⟩ <;> rw [e] <;> omega
  unfold ptrI begI wholeI atI
  rw [hs, show isB 0 = true by decide, show bytesI 0 = 8192 by decide, show f * 8192 / 8192 = f by omega]
  simp [hw]
end Go.Proofs.Ytjnmipcjmeifoaa.Pt
