/-
  Contracts and plain facts: MPiece, MPieces. Conditions: each says its own.
-/
import Derived.Test.YtnbdoemnepfhdaaR12
import Derived.OneCell
import Derived.Maps.AppendAt
namespace Go.Proofs.Ytnbdoemnepfhdaa.Mem
open Go.ChangeShapes Go.WideShapes Go.ChangeAt Go.RowKit Go.Maps
set_option maxHeartbeats 400000
/-- The pieces P, and the one of b at k, if that is not 0. -/
def addP (P : List (Nat × Nat)) (k b : Nat) : List (Nat × Nat) := if b = 0 then P else P ++ [(k, b)]
/-- What is no row of cells stays. -/
def Still (w w' : World) : Prop := ∀ (i : Nat) (o : Obj), w.heap[i]? = some o → (∀ c e f, o ≠ Obj.cells c e f) → w'.heap[i]? = some o
theorem Still.refl (w : World) : Still w w := fun _ _ h _ => h
theorem own_shape {w : World} {B : Nat} {e : TypeId} {z : Nat} {v : Value} {n : Nat} {xs : List Value} (h : w.ownsRow B e z v n xs) : ∃ ao cap, v = .slice ao n cap := by
  rcases h.2 with ⟨rfl, rfl⟩ | ⟨g, cap, cur, rfl, _⟩
  · exact ⟨none, 0, rfl⟩
  · exact ⟨_, _, rfl⟩
end Go.Proofs.Ytnbdoemnepfhdaa.Mem

namespace Go.Proofs.Ytnbdoemnepfhdaa.Mem
open Go.ChangeShapes Go.WideShapes Go.ChangeAt Go.RowKit Go.Maps
set_option maxHeartbeats 400000
/-- The bytes g from a on, n of them; the others are 0. -/
def cut (g : Nat → Nat) (a n : Nat) : Nat → Nat := fun x => if a ≤ x ∧ x < a + n then g x else 0
theorem cut_word {g : Nat → Nat} {a n k : Nat} (hg : ∀ a, g a < 256) (h : word (cut g a n) k ≠ 0) : a < k + 8 ∧ k < a + n ∧ word g k ≠ 0 := by
  have hx : ¬ ∀ j, j < 8 → cut g a n (k + j) = 0 := fun hz => h (word_eq_zero hz)
  have ⟨j, hj⟩ : ∃ j, j < 8 ∧ cut g a n (k + j) ≠ 0 := Classical.byContradiction fun hne => hx fun j hj => Classical.byContradiction fun h1 => hne ⟨j, hj, h1⟩
  obtain ⟨h1, h2⟩ := hj
  have h3 : a ≤ k + j ∧ k + j < a + n := Classical.byContradiction fun hc => h2 (by unfold cut; rw [if_neg hc])
  refine ⟨by omega, by omega, fun hz => ?_⟩
  exact h2 (by unfold cut; rw [if_pos h3]; exact word_zero hg hz j h1)
/-- P has, of the words that have a byte of g in range that is not 0, and are such as L says, each once. -/
structure Some (g : Nat → Nat) (a n : Nat) (L : Nat → Prop) (P : List (Nat × Nat)) : Prop where
  nodup : (P.map Prod.fst).Nodup
  mem : ∀ k b, (k, b) ∈ P ↔ k % 8 = 0 ∧ b = word (cut g a n) k ∧ b ≠ 0 ∧ L k
abbrev All (g : Nat → Nat) (a n : Nat) (P : List (Nat × Nat)) : Prop := Some g a n (fun _ => True) P
theorem Some.nil {g : Nat → Nat} {a n : Nat} {L : Nat → Prop} (h : ∀ k, k % 8 = 0 → word (cut g a n) k ≠ 0 → ¬ L k) : Some g a n L [] where
  nodup := List.nodup_nil
  mem k b := ⟨fun hm => (by cases hm), fun ⟨h1, h2, h3, h4⟩ => absurd h4 (h k h1 (h2 ▸ h3))⟩
theorem Some.cong {g : Nat → Nat} {a n : Nat} {L L' : Nat → Prop} {P : List (Nat × Nat)} (h : Some g a n L P) (hL : ∀ k, k % 8 = 0 → word (cut g a n) k ≠ 0 → (L k ↔ L' k)) : Some g a n L' P where
  nodup := h.nodup
  mem k b := ⟨fun hm => by
      obtain ⟨h1, h2, h3, h4⟩ := (h.mem k b).1 hm
      exact ⟨h1, h2, h3, (hL k h1 (h2 ▸ h3)).1 h4⟩, fun ⟨h1, h2, h3, h4⟩ => (h.mem k b).2 ⟨h1, h2, h3, (hL k h1 (h2 ▸ h3)).2 h4⟩⟩
theorem Some.add {g : Nat → Nat} {a n : Nat} {L L' : Nat → Prop} {P : List (Nat × Nat)} (h : Some g a n L P) (k : Nat) (hk : k % 8 = 0) (hn : ¬ L k) (hL : ∀ k', k' % 8 = 0 → (L' k' ↔ L k' ∨ k' = k)) : Some g a n L' (addP P k (word (cut g a n) k)) := by
  unfold addP
  by_cases hz : word (cut g a n) k = 0
  · rw [if_pos hz]
    refine h.cong fun k' h0 h2 => ?_
    rw [hL k' h0]; exact ⟨.inl, fun h3 => h3.elim id fun e => absurd (e ▸ hz) h2⟩
  · rw [if_neg hz]
    have hnk : k ∉ P.map Prod.fst := fun hm => by
      obtain ⟨⟨k', b⟩, hp, rfl⟩ := List.mem_map.1 hm
      exact hn ((h.mem _ _).1 hp).2.2.2
    constructor
    · rw [List.map_append]
      refine List.nodup_append.2 ⟨h.nodup, by simp, ?_⟩
      intro x hx y hy e
      simp at hy; subst hy; subst e; exact hnk hx
    · intro k' b
      rw [List.mem_append, h.mem]
      constructor
      · rintro (⟨h1, h2, h3, h4⟩ | h1)
        · exact ⟨h1, h2, h3, (hL k' h1).2 (.inl h4)⟩
        · simp at h1; obtain ⟨rfl, rfl⟩ := h1; exact ⟨hk, rfl, hz, (hL _ hk).2 (.inr rfl)⟩
      · rintro ⟨h1, h2, h3, h4⟩
        rcases (hL k' h1).1 h4 with h5 | rfl
        · exact .inl ⟨h1, h2, h3, h5⟩
        · exact .inr (by simp [h2])
theorem Some.few {g : Nat → Nat} {a n S : Nat} {L : Nat → Prop} {P : List (Nat × Nat)} (h : Some g a n L P) (hg : Good S g) : P.length ≤ 274877906944 := by
  have := hg.few h.nodup (fun k hk => by
    obtain ⟨⟨k', b⟩, hp, rfl⟩ := List.mem_map.1 hk
    obtain ⟨h1, h2, h3, _⟩ := (h.mem _ _).1 hp
    exact ⟨h1, (cut_word hg.lt (h2 ▸ h3)).2.2⟩)
  simpa using this
end Go.Proofs.Ytnbdoemnepfhdaa.Mem

