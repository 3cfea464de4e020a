/-
  Plain facts on pages that the laws of layer 2 ask for; no Go text is named here. Conditions: none.
-/
import Derived.Test.YtilijnalhkeggaaPMath
import Derived.Test.YtilijnalhkeggaaMathB
namespace Go.Proofs.Ytilijnalhkeggaa.Fld
theorem bits_bd (s : Int) : 0 ≤ bitsI s ∧ bitsI s ≤ 22 := by
  cases h : sizeB s
  · rw [bits_none h]; omega
  · rcases sizeB_true h with rfl | rfl | rfl | rfl <;> decide
theorem half_more (s : Int) (k : Nat) (hk : (k : Int) ≤ bitsI s) : 1 < shI (bytesI s) k ↔ (k : Int) < bitsI s := by
  cases h : sizeB s
  · rw [bits_none h] at hk ⊢
    rw [bytes_none h]
    have : k = 0 := by omega
    subst this; decide
  · rcases sizeB_true h with rfl | rfl | rfl | rfl
    · have e : ∀ k : Fin 14, (1 < shI (bytesI 0) k.val ↔ ((k.val : Nat) : Int) < bitsI 0) := by decide
      exact e ⟨k, by have : bitsI 0 = 13 := rfl; omega⟩
    · have e : ∀ k : Fin 17, (1 < shI (bytesI 1) k.val ↔ ((k.val : Nat) : Int) < bitsI 1) := by decide
      exact e ⟨k, by have : bitsI 1 = 16 := rfl; omega⟩
    · have e : ∀ k : Fin 20, (1 < shI (bytesI 2) k.val ↔ ((k.val : Nat) : Int) < bitsI 2) := by decide
      exact e ⟨k, by have : bitsI 2 = 19 := rfl; omega⟩
    · have e : ∀ k : Fin 23, (1 < shI (bytesI 3) k.val ↔ ((k.val : Nat) : Int) < bitsI 3) := by decide
      exact e ⟨k, by have : bitsI 3 = 22 := rfl; omega⟩
/-- A lesser page's first and last address are in the greater page of any of its addresses. -/
theorem base_base (x s t : Int) (hs : sizeB s = true) (ht : sizeB t = true) (h : s ≤ t) : baseI (baseI x s) t = baseI x t ∧ baseI (baseI x s + bytesI s - 1) t = baseI x t := by
  unfold baseI
  rw [hs, ht]
  rcases sizeB_true hs with rfl | rfl | rfl | rfl <;> rcases sizeB_true ht with rfl | rfl | rfl | rfl <;>
    first
    | (exfalso; clear hs ht; omega)
    | (simp only [bytesI, if_true, Int.reduceEq, if_false]; clear hs ht h; omega)
theorem base_off (x s : Int) (hs : sizeB s = true) : baseI x s + offI x s = x ∧ offI x s < bytesI s := by
  unfold baseI offI
  rw [hs]
  rcases sizeB_true hs with rfl | rfl | rfl | rfl <;> (simp only [bytesI, if_true, Int.reduceEq, if_false]; clear hs; omega)
theorem in_base (x s t : Int) (hs : sizeB s = true) (ht : sizeB t = true) (h : s ≤ t) : inB (baseI x s) x t = true := by
  rw [in_walk, ht, (base_base x s t hs ht h).1]; simp
theorem tag_bd (x : Int) : 0 ≤ tagI x ∧ tagI x < 4194304 := by unfold tagI; omega
theorem tag_base (x : Int) : tagI (baseI x 3) = tagI x := by
  unfold tagI baseI; rw [if_pos (by decide)]; simp only [bytesI, if_true, Int.reduceEq, if_false]; omega
theorem tag_next (x : Int) (_h0 : 0 ≤ x) : tagI (baseI x 3 + 4194304) = (tagI (baseI x 3) + 1) % 4194304 := by
  unfold tagI baseI; rw [if_pos (by decide)]; simp only [bytesI, if_true, Int.reduceEq, if_false]; omega
/-- Pages one behind the other. -/
def walkI (x s : Int) : Nat → Int
  | 0 => x
  | k + 1 => baseI (walkI x s k) s + bytesI s
theorem walk_at (x s : Int) (hs : sizeB s = true) (k : Nat) : baseI (walkI x s k) s = baseI x s + (k : Int) * bytesI s := by
  induction k with
  | zero => simp [walkI]
  | succ k ih =>
    have e : baseI (walkI x s k) s + bytesI s = baseI x s + ((k + 1 : Nat) : Int) * bytesI s := by rw [ih, Int.natCast_succ, Int.add_mul]; omega
    have e2 : baseI (baseI (walkI x s k) s + bytesI s) s = baseI (walkI x s k) s + bytesI s := by
      unfold baseI
      rw [hs]
      rcases sizeB_true hs with rfl | rfl | rfl | rfl <;> (simp only [bytesI, if_true, Int.reduceEq, if_false]; clear hs; omega)
    show baseI (baseI (walkI x s k) s + bytesI s) s = _
    rw [e2, e]
theorem walk_bd (x s : Int) (x0 : 0 ≤ x) (x1 : x < 4398046511104) (k : Nat) (hk : k ≤ 21) : 0 ≤ walkI x s k ∧ walkI x s k ≤ 4398046511104 + (k : Int) * 4194304 := by
  induction k with
  | zero => simp [walkI]; omega
  | succ k ih =>
    have i := ih (by omega)
    have b := base_bd (walkI x s k) s i.1 (by omega)
    have c := bytes_bd s
    show 0 ≤ baseI (walkI x s k) s + bytesI s ∧ baseI (walkI x s k) s + bytesI s ≤ _
    omega
theorem walk_next (x s : Int) (hs : sizeB s = true) (x0 : 0 ≤ x) (x1 : x < 4398046511104) (k : Nat) (hk : k ≤ 20) :
    nextB (walkI x s k) s = true ∧ nextI (walkI x s k) s = walkI x s (k + 1) ∧ holeB (walkI x s (k + 1)) = false ∧ startsB (walkI x s (k + 1)) s = true := by
  have b := walk_bd x s x0 x1 k (by omega)
  have c := walk_bd x s x0 x1 (k + 1) (by omega)
  have e : walkI x s (k + 1) = baseI (walkI x s k) s + bytesI s := rfl
  have hh : holeB (walkI x s (k + 1)) = false := by unfold holeB; rw [decide_eq_false_iff_not]; omega
  have hn : nextB (walkI x s k) s = true := by
    unfold nextB; rw [hs, ← e, hh]; simp; omega
  refine ⟨hn, ?_, hh, ?_⟩
  · rw [next_yes hn, e]
  · rw [e]; unfold startsB baseI
    rw [hs]
    rcases sizeB_true hs with rfl | rfl | rfl | rfl <;> (simp only [bytesI, if_true, Int.reduceEq, if_false, Bool.true_and, decide_eq_true_eq]; clear hs hn hh; omega)
end Go.Proofs.Ytilijnalhkeggaa.Fld
