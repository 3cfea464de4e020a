/-
  Plain facts on copied bytes: what stands there, piece by piece. Conditions: none.
-/
import Derived.Test.YtmhgofhclckdpaaMLay2
namespace Go.Proofs.Ytmhgofhclckdpaa.Mem
open Go.ChangeShapes Go.WideShapes Go.ChangeAt Go.RowKit Go.Maps
set_option maxHeartbeats 400000
/-- The bytes g, but those from t on are the n that stand from f on. -/
def cp (g : Nat → Nat) (f t n : Nat) : Nat → Nat := fun x => if t ≤ x ∧ x < t + n then g (x - t + f) else g x
/-- .. as far as they come out of the words ks, the others 0. -/
def cpP (g : Nat → Nat) (f t n : Nat) (ks : List Nat) : Nat → Nat := fun x => if t ≤ x ∧ x < t + n then (if (x - t + f) - (x - t + f) % 8 ∈ ks then g (x - t + f) else 0) else g x
theorem cpP_nil (g : Nat → Nat) (f t n : Nat) : cpP g f t n [] = clr g t n := by funext x; simp [cpP, clr]
theorem cpP_all {g : Nat → Nat} (h : ∀ a, g a < 256) {f t n : Nat} {P : List (Nat × Nat)} (hP : All g f n P) : cpP g f t n (P.map Prod.fst) = cp g f t n := by
  funext x
  unfold cpP cp
  by_cases hx : t ≤ x ∧ x < t + n
  · rw [if_pos hx, if_pos hx]
    by_cases hm : (x - t + f) - (x - t + f) % 8 ∈ P.map Prod.fst
    · rw [if_pos hm]
    · rw [if_neg hm]
      apply Classical.byContradiction; intro hg
      apply hm
      generalize hy : x - t + f = y at hg
      refine List.mem_map.2 ⟨(y - y % 8, word (cut g f n) (y - y % 8)), (hP.mem _ _).2 ⟨by omega, rfl, fun hz => hg ?_, trivial⟩, rfl⟩
      have := word_zero (cut_lt h f n) hz (y % 8) (by omega)
      rw [show y - y % 8 + y % 8 = y by omega] at this
      unfold cut at this; rw [if_pos (by omega)] at this; exact this.symm
  · rw [if_neg hx, if_neg hx]
theorem Good.cp {S : Nat} {g : Nat → Nat} (h : Good S g) {f t n : Nat} (ht : n = 0 ∨ t + n ≤ S) : Good S (cp g f t n) :=
  ⟨h.le, fun x => by unfold Mem.cp; split <;> exact h.lt _, fun x hx => by unfold Mem.cp; rw [if_neg (by omega)]; exact h.out x hx⟩
/-- Where a piece comes to stand. -/
def atP (f t k : Nat) : Nat := (k + 18446744073709551616 + t - f) % 18446744073709551616
theorem cpP_in {S : Nat} {g : Nat → Nat} (h : ∀ a, g a < 256) (hS : S ≤ 2199023255552) {f t n k : Nat} (hf : f + n ≤ S) (ht : t + n ≤ S) : ∀ j, j < 8 → byteW (word (cut g f n) k) j ≠ 0 → (atP f t k + j) % 18446744073709551616 < S := by
  intro j hj hne
  rw [byteW_word _ (cut_lt h f n) _ _ hj] at hne
  have hc : f ≤ k + j ∧ k + j < f + n := Classical.byContradiction fun hc => hne (by unfold cut; rw [if_neg hc])
  unfold atP
  omega
theorem cpP_step {S : Nat} {g : Nat → Nat} (hg : Good S g) {f t n k : Nat} {ks : List Nat} (hk : k % 8 = 0) (hkS : k < S) (hn : k ∉ ks) (hf : f + n ≤ S) (ht : t + n ≤ S) :
    layG S (cpP g f t n ks) (atP f t k) (word (cut g f n) k) = cpP g f t n (ks ++ [k]) := by
  have hS := hg.le
  funext x
  unfold layG
  by_cases hx : x < S ∧ (x + 18446744073709551616 - atP f t k) % 18446744073709551616 < 8
  · rw [if_pos hx]
    obtain ⟨x1, x2⟩ := hx
    have hd : t ≤ x + f ∧ k ≤ x + f - t ∧ x + f - t < k + 8 ∧ (x + 18446744073709551616 - atP f t k) % 18446744073709551616 = x + f - t - k := by unfold atP at x2 ⊢; omega
    obtain ⟨d0, d1, d2, d3⟩ := hd
    rw [d3, byteW_word _ (cut_lt hg.lt f n) _ _ (by omega), show k + (x + f - t - k) = x + f - t by omega]
    unfold cpP cut
    by_cases hr : t ≤ x ∧ x < t + n
    · have e : x - t + f = x + f - t := by omega
      have e2 : x + f - t - (x + f - t) % 8 = k := by omega
      have e3 : f ≤ x + f - t ∧ x + f - t < f + n := by omega
      rw [e, e2]
      simp [hr, hn, e3]
    · have e3 : ¬ (f ≤ x + f - t ∧ x + f - t < f + n) := by omega
      rw [if_neg hr, if_neg e3, if_neg hr, Nat.or_zero]
  · rw [if_neg hx]
    unfold cpP
    by_cases hr : t ≤ x ∧ x < t + n
    · rw [if_pos hr, if_pos hr]
      have e2 : x - t + f - (x - t + f) % 8 ≠ k := by
        intro e
        apply hx
        unfold atP
        omega
      simp [e2]
    · rw [if_neg hr, if_neg hr]
end Go.Proofs.Ytmhgofhclckdpaa.Mem
