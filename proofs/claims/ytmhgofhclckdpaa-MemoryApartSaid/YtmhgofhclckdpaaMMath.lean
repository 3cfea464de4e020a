/-
  Plain facts on bytes and words of eight of them (the highest first): no Go text is named here. Conditions: none.
-/
import Derived.Laws.Bits64b
import Derived.IntWalk
namespace Go.Proofs.Ytmhgofhclckdpaa.Mem

/-- The number of j bytes of g from k on, the highest first. -/
def wordN (g : Nat → Nat) (k : Nat) : Nat → Nat
  | 0 => 0
  | j + 1 => 256 * wordN g k j + g (k + j)
def word (g : Nat → Nat) (k : Nat) : Nat := wordN g k 8
def byteW (w j : Nat) : Nat := w / 2 ^ (8 * (7 - j)) % 256
/-- The bytes g, but those of the word at k are w's. -/
def setW (g : Nat → Nat) (k w : Nat) : Nat → Nat := fun a => if k ≤ a ∧ a < k + 8 then byteW w (a - k) else g a
def setB (g : Nat → Nat) (k b : Nat) : Nat → Nat := fun a => if a = k then b else g a

theorem wordN_testBit (g : Nat → Nat) (h : ∀ a, g a < 256) (k j i : Nat) : (wordN g k j).testBit i = (decide (i < 8 * j) && (g (k + (j - 1 - i / 8))).testBit (i % 8)) := by
  induction j generalizing i with
  | zero => simp [wordN]
  | succ j ih =>
    have e : wordN g k (j + 1) = 2 ^ 8 * wordN g k j + g (k + j) := rfl
    rw [e, Nat.testBit_two_pow_mul_add _ (show g (k + j) < 2 ^ 8 from h _)]
    by_cases hi : i < 8
    · rw [if_pos hi]
      have h1 : i / 8 = 0 := by omega
      have h2 : i % 8 = i := by omega
      have h3 : i < 8 * (j + 1) := by omega
      simp [h1, h2, h3]
    · rw [if_neg hi, ih]
      by_cases hj : i < 8 * (j + 1)
      · have h1 : i - 8 < 8 * j := by omega
        have h2 : (i - 8) % 8 = i % 8 := by omega
        have h3 : j - 1 - (i - 8) / 8 = j + 1 - 1 - i / 8 := by omega
        simp only [hj, h1, h2, h3]
      · have h1 : ¬ i - 8 < 8 * j := by omega
        simp [hj, h1]
theorem word_testBit (g : Nat → Nat) (h : ∀ a, g a < 256) (k i : Nat) : (word g k).testBit i = (decide (i < 64) && (g (k + (7 - i / 8))).testBit (i % 8)) := wordN_testBit g h k 8 i
theorem wordN_lt (g : Nat → Nat) (h : ∀ a, g a < 256) (k j : Nat) : wordN g k j < 256 ^ j := by
  induction j with
  | zero => simp [wordN]
  | succ j ih => have := h (k + j); simp only [wordN, Nat.pow_succ]; omega
theorem word_lt (g : Nat → Nat) (h : ∀ a, g a < 256) (k : Nat) : word g k < 18446744073709551616 := wordN_lt g h k 8
theorem byteW_lt (w j : Nat) : byteW w j < 256 := Nat.mod_lt _ (by decide)
theorem byteW_testBit (w j i : Nat) : (byteW w j).testBit i = (decide (i < 8) && w.testBit (i + 8 * (7 - j))) := by
  unfold byteW
  rw [show (256 : Nat) = 2 ^ 8 from rfl, Nat.testBit_mod_two_pow, Nat.testBit_div_two_pow]
theorem testBit_hi {x i : Nat} (h : x < 18446744073709551616) (hi : 64 ≤ i) : x.testBit i = false :=
  Nat.testBit_lt_two_pow (Nat.lt_of_lt_of_le (show x < 2 ^ 64 from h) (Nat.pow_le_pow_right (by decide) hi))
theorem testBit_hi8 {x i : Nat} (h : x < 256) (hi : 8 ≤ i) : x.testBit i = false :=
  Nat.testBit_lt_two_pow (Nat.lt_of_lt_of_le (show x < 2 ^ 8 from h) (Nat.pow_le_pow_right (by decide) hi))
theorem byteW_word (g : Nat → Nat) (h : ∀ a, g a < 256) (k j : Nat) (hj : j < 8) : byteW (word g k) j = g (k + j) := by
  apply Nat.eq_of_testBit_eq; intro i
  rw [byteW_testBit, word_testBit g h]
  by_cases hi : i < 8
  · have h1 : i + 8 * (7 - j) < 64 := by omega
    have h2 : 7 - (i + 8 * (7 - j)) / 8 = j := by omega
    have h3 : (i + 8 * (7 - j)) % 8 = i := by omega
    simp [hi, h1, h2, h3]
  · have h1 : (g (k + j)).testBit i = false := testBit_hi8 (h (k + j)) (by omega)
    simp [hi, h1]
theorem word_ext {g g' : Nat → Nat} {k : Nat} (h : ∀ j, j < 8 → g (k + j) = g' (k + j)) : word g k = word g' k := by
  have : ∀ n, n ≤ 8 → wordN g k n = wordN g' k n := by
    intro n hn
    induction n with
    | zero => rfl
    | succ n ih => simp only [wordN]; rw [ih (by omega), h n (by omega)]
  exact this 8 (by omega)
theorem setW_lt {g : Nat → Nat} (h : ∀ a, g a < 256) (k w a : Nat) : setW g k w a < 256 := by
  unfold setW; split
  · exact byteW_lt _ _
  · exact h a
theorem setB_lt {g : Nat → Nat} (h : ∀ a, g a < 256) (k b : Nat) (hb : b < 256) (a : Nat) : setB g k b a < 256 := by
  unfold setB; split
  · exact hb
  · exact h a
theorem word_of_bytes {w k : Nat} {g : Nat → Nat} (h : ∀ a, g a < 256) (hw : w < 18446744073709551616) (hg : ∀ j, j < 8 → g (k + j) = byteW w j) : word g k = w := by
  apply Nat.eq_of_testBit_eq; intro i
  rw [word_testBit g h]
  by_cases hi : i < 64
  · rw [hg _ (by omega), byteW_testBit]
    have h1 : i % 8 < 8 := by omega
    have h2 : i % 8 + 8 * (7 - (7 - i / 8)) = i := by omega
    simp [hi, h1, h2]
  · rw [testBit_hi hw (by omega)]; simp [hi]
theorem word_setW_same {g : Nat → Nat} (h : ∀ a, g a < 256) (k : Nat) {w : Nat} (hw : w < 18446744073709551616) : word (setW g k w) k = w :=
  word_of_bytes (setW_lt h k w) hw (fun j hj => by
    unfold setW; rw [if_pos (by omega), Nat.add_sub_cancel_left])
theorem word_setW_other {g : Nat → Nat} {k k' : Nat} (hk : k % 8 = 0) (hk' : k' % 8 = 0) (hne : k' ≠ k) (w : Nat) : word (setW g k w) k' = word g k' :=
  word_ext (fun j hj => by unfold setW; rw [if_neg (by omega)])
theorem byte_of_word (g : Nat → Nat) (h : ∀ a, g a < 256) (a : Nat) : byteW (word g (a - a % 8)) (a % 8) = g a := by
  rw [byteW_word g h _ _ (by omega)]; congr 1; omega
theorem ext_of_words {g g' : Nat → Nat} (h : ∀ a, g a < 256) (h' : ∀ a, g' a < 256) (hw : ∀ k, k % 8 = 0 → word g k = word g' k) : g = g' := by
  funext a
  rw [← byte_of_word g h a, ← byte_of_word g' h' a, hw _ (by omega)]
theorem setW_word {g : Nat → Nat} (h : ∀ a, g a < 256) (k : Nat) : setW g k (word g k) = g := by
  funext a; unfold setW; split
  · rw [byteW_word g h _ _ (by omega)]; congr 1; omega
  · rfl
theorem word_zero {g : Nat → Nat} {k : Nat} (h : ∀ a, g a < 256) (hz : word g k = 0) (j : Nat) (hj : j < 8) : g (k + j) = 0 := by
  rw [← byteW_word g h k j hj, hz]; simp [byteW]
theorem word_eq_zero {g : Nat → Nat} {k : Nat} (hz : ∀ j, j < 8 → g (k + j) = 0) : word g k = 0 := by
  rw [word_ext (g' := fun _ => 0) hz]; rfl

/-! ### How many there can be -/
theorem nodup_le (N : Nat) : ∀ l : List Nat, l.Nodup → (∀ x ∈ l, x < N) → l.length ≤ N := by
  induction N with
  | zero => intro l _ h; cases l with
    | nil => simp
    | cons x r => have := h x (by simp); omega
  | succ N ih =>
    intro l hn h
    by_cases hm : N ∈ l
    · have h1 := ih (l.erase N) (hn.erase N) (fun x hx => by
        have h2 := (hn.mem_erase_iff).1 hx
        have h3 := h x h2.2; have := h2.1; omega)
      rw [List.length_erase_of_mem hm] at h1; omega
    · have := ih l hn (fun x hx => by
        have h1 := h x hx
        have h2 : x ≠ N := fun e => hm (e ▸ hx)
        omega)
      omega
theorem nodup_sub : ∀ (l m : List Nat), l.Nodup → (∀ x ∈ l, x ∈ m) → l.length ≤ m.length := by
  intro l
  induction l with
  | nil => intros; simp
  | cons x r ih =>
    intro m hn hs
    have hx := hs x (by simp)
    have h1 := ih (m.erase x) (List.nodup_cons.1 hn).2 (fun y hy => by
      have hne : y ≠ x := fun e => (List.nodup_cons.1 hn).1 (e ▸ hy)
      exact (List.mem_erase_of_ne hne).2 (hs y (by simp [hy])))
    have h2 : 0 < m.length := List.length_pos_of_mem hx
    rw [List.length_erase_of_mem hx] at h1; simp; omega
end Go.Proofs.Ytmhgofhclckdpaa.Mem
