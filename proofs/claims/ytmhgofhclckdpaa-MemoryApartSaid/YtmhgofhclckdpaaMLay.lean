/-
  Contract of lay of package memory: eight bytes are laid over others, at any address. Conditions: those that are not 0 come to stand in the memory.
-/
import Derived.Test.YtmhgofhclckdpaaMClear2
namespace Go.Proofs.Ytmhgofhclckdpaa.Mem
open Go.ChangeShapes Go.WideShapes Go.ChangeAt Go.RowKit Go.Maps
set_option maxHeartbeats 400000
theorem byteW_or (a b j : Nat) : byteW (a ||| b) j = byteW a j ||| byteW b j := by
  apply Nat.eq_of_testBit_eq; intro i
  rw [Nat.testBit_or, byteW_testBit, byteW_testBit, byteW_testBit, Nat.testBit_or]
  cases decide (i < 8) <;> simp
theorem byteW_shr {w : Nat} (hw : w < 18446744073709551616) (s j : Nat) (hj : j < 8) (hs : s < 8) : byteW (w / 2 ^ (s * 8)) j = if s ≤ j then byteW w (j - s) else 0 := by
  apply Nat.eq_of_testBit_eq; intro i
  rw [byteW_testBit, Nat.testBit_div_two_pow]
  by_cases h : s ≤ j
  · rw [if_pos h, byteW_testBit, show i + 8 * (7 - j) + s * 8 = i + 8 * (7 - (j - s)) by omega]
  · rw [if_neg h, testBit_hi hw (by omega)]; simp
theorem byteW_shl (w s j : Nat) (hj : j < 8) (hs : s < 8) : byteW (w * 2 ^ (64 - s * 8) % 18446744073709551616) j = if j < s then byteW w (8 - s + j) else 0 := by
  apply Nat.eq_of_testBit_eq; intro i
  rw [byteW_testBit, shlN_testBit]
  by_cases hi : i < 8
  · by_cases h : j < s
    · rw [if_pos h, byteW_testBit]
      have h1 : i + 8 * (7 - j) < 64 := by omega
      have h2 : 64 - s * 8 ≤ i + 8 * (7 - j) := by omega
      have h3 : i + 8 * (7 - j) - (64 - s * 8) = i + 8 * (7 - (8 - s + j)) := by omega
      simp [hi, h1, h2, h3]
    · rw [if_neg h]
      have h2 : ¬ 64 - s * 8 ≤ i + 8 * (7 - j) := by omega
      simp [h2]
  · by_cases h : j < s
    · rw [if_pos h, byteW_testBit]; simp [hi]
    · rw [if_neg h]; simp [hi]
/-- The bytes g, and bits' laid over them from a on, round. -/
def layG (S : Nat) (g : Nat → Nat) (a bits : Nat) : Nat → Nat := fun x => if x < S ∧ (x + 18446744073709551616 - a) % 18446744073709551616 < 8 then g x ||| byteW bits ((x + 18446744073709551616 - a) % 18446744073709551616) else g x
def lay1 (g : Nat → Nat) (a bits : Nat) : Nat → Nat := setW g (a - a % 8) (word g (a - a % 8) ||| bits / 2 ^ (a % 8 * 8))
def nextW (a : Nat) : Nat := (a - a % 8 + 8) % 18446744073709551616
def lay2 (g : Nat → Nat) (a bits : Nat) : Nat → Nat := setW (lay1 g a bits) (nextW a) (word (lay1 g a bits) (nextW a) ||| bits * 2 ^ (64 - a % 8 * 8) % 18446744073709551616)
theorem lay1_at {g : Nat → Nat} (hg : ∀ a, g a < 256) {a bits : Nat} (hb : bits < 18446744073709551616) (x : Nat) : lay1 g a bits x = if a ≤ x ∧ x < a - a % 8 + 8 then g x ||| byteW bits (x - a) else g x := by
  unfold lay1 setW
  by_cases h1 : a - a % 8 ≤ x ∧ x < a - a % 8 + 8
  · rw [if_pos h1, byteW_or, byteW_word g hg _ _ (by omega), byteW_shr hb _ _ (by omega) (by omega), show a - a % 8 + (x - (a - a % 8)) = x by omega]
    by_cases h2 : a % 8 ≤ x - (a - a % 8)
    · rw [if_pos h2, if_pos (by omega), show x - (a - a % 8) - a % 8 = x - a by omega]
    · rw [if_neg h2, if_neg (by omega), Nat.or_zero]
  · rw [if_neg h1, if_neg (by omega)]
theorem lay2_at {g : Nat → Nat} (hg : ∀ a, g a < 256) {a bits : Nat} (x : Nat) : lay2 g a bits x = if nextW a ≤ x ∧ x < nextW a + a % 8 then lay1 g a bits x ||| byteW bits (8 - a % 8 + (x - nextW a)) else lay1 g a bits x := by
  have h1g : ∀ y, lay1 g a bits y < 256 := setW_lt hg _ _
  unfold lay2
  generalize lay1 g a bits = g1 at h1g
  unfold setW
  by_cases h1 : nextW a ≤ x ∧ x < nextW a + 8
  · rw [if_pos h1, byteW_or, byteW_word g1 h1g _ _ (by omega), byteW_shl _ _ _ (by omega) (by omega), show nextW a + (x - nextW a) = x by omega]
    by_cases h2 : x - nextW a < a % 8
    · rw [if_pos h2, if_pos (by omega)]
    · rw [if_neg h2, if_neg (by omega), Nat.or_zero]
  · rw [if_neg h1, if_neg (by omega)]
theorem lay2_eq {S : Nat} {g : Nat → Nat} (hg : Good S g) {a bits : Nat} (ha : a < 18446744073709551616) (hb : bits < 18446744073709551616) (hin : ∀ j, j < 8 → byteW bits j ≠ 0 → (a + j) % 18446744073709551616 < S) : lay2 g a bits = layG S g a bits := by
  have hS := hg.le
  funext x
  have L : lay2 g a bits x = if (a - a % 8 + 8) % 18446744073709551616 ≤ x ∧ x < (a - a % 8 + 8) % 18446744073709551616 + a % 8 then lay1 g a bits x ||| byteW bits (8 - a % 8 + (x - (a - a % 8 + 8) % 18446744073709551616)) else lay1 g a bits x := lay2_at hg.lt x
  have L1 := lay1_at hg.lt hb (a := a) x
  by_cases hx : x < S
  · by_cases hd : (x + 18446744073709551616 - a) % 18446744073709551616 < 8
    · have R : layG S g a bits x = g x ||| byteW bits ((x + 18446744073709551616 - a) % 18446744073709551616) := by unfold layG; rw [if_pos ⟨hx, hd⟩]
      rw [R]
      by_cases h1 : a ≤ x ∧ x < a - a % 8 + 8
      · rw [if_pos h1] at L1
        rw [L, if_neg (by omega), L1, show (x + 18446744073709551616 - a) % 18446744073709551616 = x - a by omega]
      · rw [if_neg h1] at L1
        rw [L, if_pos (by omega), L1]
        congr 2; omega
    · have R : layG S g a bits x = g x := by unfold layG; rw [if_neg (fun h => hd h.2)]
      rw [if_neg (by omega)] at L1
      rw [R, L, if_neg (by omega), L1]
  · have R : layG S g a bits x = 0 := by unfold layG; rw [if_neg (fun h => hx h.1)]; exact hg.out x (by omega)
    have z : ∀ j, j < 8 → (a + j) % 18446744073709551616 = x → byteW bits j = 0 := fun j hj e => Classical.byContradiction fun hne => hx (e ▸ hin j hj hne)
    rw [hg.out x (by omega)] at L1
    rw [R, L]
    by_cases h1 : a ≤ x ∧ x < a - a % 8 + 8
    · rw [if_pos h1, z _ (by omega) (by omega)] at L1
      rw [if_neg (by omega), L1]; rfl
    · rw [if_neg h1] at L1
      by_cases h2 : (a - a % 8 + 8) % 18446744073709551616 ≤ x ∧ x < (a - a % 8 + 8) % 18446744073709551616 + a % 8
      · rw [if_pos h2, L1, z _ (by omega) (by omega)]; rfl
      · rw [if_neg h2, L1]
theorem layG_good {S : Nat} {g : Nat → Nat} (hg : Good S g) (a bits : Nat) : Good S (layG S g a bits) :=
  ⟨hg.le, fun x => by
    unfold layG; split
    · exact Nat.or_lt_two_pow (n := 8) (hg.lt x) (byteW_lt _ _)
    · exact hg.lt x, fun x hx => by unfold layG; rw [if_neg (by omega)]; exact hg.out x hx⟩
theorem lay1_good {S : Nat} {g : Nat → Nat} (hg : Good S g) {a bits : Nat} (ha : a < 18446744073709551616) (hb : bits < 18446744073709551616) (hin : ∀ j, j < 8 → byteW bits j ≠ 0 → (a + j) % 18446744073709551616 < S) : Good S (lay1 g a bits) :=
  ⟨hg.le, setW_lt hg.lt _ _, fun x hx => by
    rw [lay1_at hg.lt hb, hg.out x hx]
    by_cases h1 : a ≤ x ∧ x < a - a % 8 + 8
    · rw [if_pos h1, Nat.zero_or]
      exact Classical.byContradiction fun hne => by have := hin _ (by omega) hne; omega
    · rw [if_neg h1]⟩
end Go.Proofs.Ytmhgofhclckdpaa.Mem
