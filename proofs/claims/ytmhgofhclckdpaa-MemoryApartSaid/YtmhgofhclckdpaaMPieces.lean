/-
  Contract of pieces of package memory: the words that have a byte in range that is not 0, each once, in whatever row. Conditions: the bytes are in the memory.
-/
import Derived.Test.YtmhgofhclckdpaaMPiece
namespace Go.Proofs.Ytmhgofhclckdpaa.Mem
open Go.ChangeShapes Go.WideShapes Go.ChangeAt Go.RowKit Go.Maps
set_option maxHeartbeats 400000
/-- The bytes g from a on, n of them; the others are 0. -/
def cut (g : Nat → Nat) (a n : Nat) : Nat → Nat := fun x => if a ≤ x ∧ x < a + n then g x else 0
theorem cut_lt {g : Nat → Nat} (h : ∀ a, g a < 256) (a n x : Nat) : cut g a n x < 256 := by
  unfold cut; split
  · exact h x
  · omega
theorem mask_cut {g : Nat → Nat} (h : ∀ a, g a < 256) (a n k : Nat) (hn : 0 < n) : word g k &&& maskW a (a + n - 1) k = word (cut g a n) k := by
  apply Nat.eq_of_testBit_eq; intro i
  rw [Nat.testBit_and, maskW_testBit, word_testBit _ h, word_testBit _ (cut_lt h a n)]
  unfold cut
  by_cases hi : i < 64
  · by_cases hc : a ≤ k + (7 - i / 8) ∧ k + (7 - i / 8) < a + n
    · rw [if_pos hc]
      have h1 : a ≤ k + (7 - i / 8) ∧ k + (7 - i / 8) ≤ a + n - 1 := by omega
      simp [hi, h1]
    · rw [if_neg hc]
      have h1 : ¬ (a ≤ k + (7 - i / 8) ∧ k + (7 - i / 8) ≤ a + n - 1) := by omega
      simp [h1]
  · simp [hi]
theorem cut_word {g : Nat → Nat} {a n k : Nat} (hg : ∀ a, g a < 256) (h : word (cut g a n) k ≠ 0) : a < k + 8 ∧ k < a + n ∧ word g k ≠ 0 := by
  have hx : ¬ ∀ j, j < 8 → cut g a n (k + j) = 0 := fun hz => h (word_eq_zero hz)
  have ⟨j, hj⟩ : ∃ j, j < 8 ∧ cut g a n (k + j) ≠ 0 := Classical.byContradiction fun hne => hx fun j hj => Classical.byContradiction fun h1 => hne ⟨j, hj, h1⟩
  obtain ⟨h1, h2⟩ := hj
  have h3 : a ≤ k + j ∧ k + j < a + n := Classical.byContradiction fun hc => h2 (by unfold cut; rw [if_neg hc])
  refine ⟨by omega, by omega, fun hz => ?_⟩
  exact h2 (by unfold cut; rw [if_pos h3]; exact word_zero hg hz j h1)
/-- P has, of the words that have a byte of g in range that is not 0, and are such as L says, each once. -/
structure Some (g : Nat → Nat) (a n : Nat) (L : Nat → Prop) (P : List (Nat × Nat)) : Prop where
  nodup : (P.map Prod.fst).Nodup
  mem : ∀ k b, (k, b) ∈ P ↔ k % 8 = 0 ∧ b = word (cut g a n) k ∧ b ≠ 0 ∧ L k
abbrev All (g : Nat → Nat) (a n : Nat) (P : List (Nat × Nat)) : Prop := Some g a n (fun _ => True) P
theorem Some.nil {g : Nat → Nat} {a n : Nat} {L : Nat → Prop} (h : ∀ k, k % 8 = 0 → word (cut g a n) k ≠ 0 → ¬ L k) : Some g a n L [] where
  nodup := List.nodup_nil
  mem k b := ⟨fun hm => (by cases hm), fun ⟨h1, h2, h3, h4⟩ => absurd h4 (h k h1 (h2 ▸ h3))⟩
theorem Some.cong {g : Nat → Nat} {a n : Nat} {L L' : Nat → Prop} {P : List (Nat × Nat)} (h : Some g a n L P) (hL : ∀ k, k % 8 = 0 → word (cut g a n) k ≠ 0 → (L k ↔ L' k)) : Some g a n L' P where
  nodup := h.nodup
  mem k b := ⟨fun hm => by
      obtain ⟨h1, h2, h3, h4⟩ := (h.mem k b).1 hm
      exact ⟨h1, h2, h3, (hL k h1 (h2 ▸ h3)).1 h4⟩, fun ⟨h1, h2, h3, h4⟩ => (h.mem k b).2 ⟨h1, h2, h3, (hL k h1 (h2 ▸ h3)).2 h4⟩⟩
theorem Some.add {g : Nat → Nat} {a n : Nat} {L L' : Nat → Prop} {P : List (Nat × Nat)} (h : Some g a n L P) (k : Nat) (hk : k % 8 = 0) (hn : ¬ L k) (hL : ∀ k', k' % 8 = 0 → (L' k' ↔ L k' ∨ k' = k)) : Some g a n L' (addP P k (word (cut g a n) k)) := by
  unfold addP
  by_cases hz : word (cut g a n) k = 0
  · rw [if_pos hz]
    refine h.cong fun k' h0 h2 => ?_
    rw [hL k' h0]; exact ⟨.inl, fun h3 => h3.elim id fun e => absurd (e ▸ hz) h2⟩
  · rw [if_neg hz]
    have hnk : k ∉ P.map Prod.fst := fun hm => by
      obtain ⟨⟨k', b⟩, hp, rfl⟩ := List.mem_map.1 hm
      exact hn ((h.mem _ _).1 hp).2.2.2
    constructor
    · rw [List.map_append]
      refine List.nodup_append.2 ⟨h.nodup, by simp, ?_⟩
      intro x hx y hy e
      simp at hy; subst hy; subst e; exact hnk hx
    · intro k' b
      rw [List.mem_append, h.mem]
      constructor
      · rintro (⟨h1, h2, h3, h4⟩ | h1)
        · exact ⟨h1, h2, h3, (hL k' h1).2 (.inl h4)⟩
        · simp at h1; obtain ⟨rfl, rfl⟩ := h1; exact ⟨hk, rfl, hz, (hL _ hk).2 (.inr rfl)⟩
      · rintro ⟨h1, h2, h3, h4⟩
        rcases (hL k' h1).1 h4 with h5 | rfl
        · exact .inl ⟨h1, h2, h3, h5⟩
        · exact .inr (by simp [h2])
theorem Some.few {g : Nat → Nat} {a n S : Nat} {L : Nat → Prop} {P : List (Nat × Nat)} (h : Some g a n L P) (hg : Good S g) : P.length ≤ 274877906944 := by
  have := hg.few h.nodup (fun k hk => by
    obtain ⟨⟨k', b⟩, hp, rfl⟩ := List.mem_map.1 hk
    obtain ⟨h1, h2, h3, _⟩ := (h.mem _ _).1 hp
    exact ⟨h1, (cut_word hg.lt (h2 ▸ h3)).2.2⟩)
  simpa using this
theorem Cap.keep {w0 w w1 : World} {ab lb vb a l : Nat} {P : List (Nat × Nat)} {row : Option Nat} (h : Cap w0 w ab lb vb a l P) (hg : w.grownBy w1 row) (hr : ∀ j, row = some j → w0.heap.size ≤ j ∧ ∀ c e f, w.heap[j]? ≠ some (Obj.cells c e f)) : Cap w0 w1 ab lb vb a l P := by
  have kp : ∀ i c e f, w.heap[i]? = some (Obj.cells c e f) → w1.heap[i]? = some (Obj.cells c e f) := fun i c e f hi =>
    (hg.block i (lt_of_block hi) (fun e1 => (hr i e1.symm).2 _ _ _ hi)).trans hi
  obtain ⟨v, cv, ho⟩ := h.cv
  refine ⟨h.below.grown hg h.below.size (fun j hj => (hr j hj).1), kp _ _ _ _ h.ca, kp _ _ _ _ h.cl, ⟨v, kp _ _ _ _ cv, ho.kept hg ?_⟩, h.hv⟩
  rcases ho.2 with ⟨rfl, _⟩ | ⟨g, cap, cur, rfl, _, hgg, _⟩
  · exact .inl rfl
  · exact .inr (fun e1 => (hr g e1.symm).2 _ _ _ hgg)
theorem ranges_still {w w' : World} {b r n cnt : Nat} {D : DataW Unit} {left : Lit → Bool} (h : w.ranges Try.prog 22 (plainElem Try.prog 22) b r n D left cnt) (hs : Still w w') : w'.ranges Try.prog 22 (plainElem Try.prog 22) b r n D left cnt := by
  obtain ⟨es, clock, since, seen, c0, hb, F, hz, hD, hr, rest⟩ := h
  exact ⟨es, clock, since, seen, c0, hs _ _ hb (fun c e f h => by cases h), F, hz, hD, hs _ _ hr (fun c e f h => by cases h), rest⟩
theorem ranges_iter {w : World} {b r n cnt : Nat} {D : DataW Unit} {left : Lit → Bool} (h : w.ranges Try.prog 22 (plainElem Try.prog 22) b r n D left cnt) : ∀ c e f, w.heap[r]? ≠ some (Obj.cells c e f) := by
  obtain ⟨es, clock, since, seen, c0, hb, F, hz, hD, hr, rest⟩ := h
  intro c e f h; rw [hr] at h; cases h
end Go.Proofs.Ytmhgofhclckdpaa.Mem
