/-
  Contract of Clear of package memory: the bytes in range are 0 then, or the error. Conditions: words are below 2 to the 64.
-/
import Derived.Test.YtmhgofhclckdpaaMPieces2
import Derived.StillTailTactics
namespace Go.Proofs.Ytmhgofhclckdpaa.Mem
open Go.ChangeShapes Go.WideShapes Go.ChangeAt Go.RowKit Go.Maps
set_option maxHeartbeats 400000
/-- The bytes g, without those from a on, n of them. -/
def clr (g : Nat → Nat) (a n : Nat) : Nat → Nat := fun x => if a ≤ x ∧ x < a + n then 0 else g x
/-- .. as far as they are in the words ks. -/
def clrP (g : Nat → Nat) (a n : Nat) (ks : List Nat) : Nat → Nat := fun x => if x - x % 8 ∈ ks ∧ a ≤ x ∧ x < a + n then 0 else g x
theorem clr_lt {g : Nat → Nat} (h : ∀ a, g a < 256) (a n x : Nat) : clr g a n x < 256 := by
  unfold clr; split
  · omega
  · exact h x
theorem Good.clr {S : Nat} {g : Nat → Nat} (h : Good S g) (a n : Nat) : Good S (clr g a n) :=
  ⟨h.le, clr_lt h.lt a n, fun x hx => by unfold Mem.clr; split; rfl; exact h.out x hx⟩
theorem Good.clrP {S : Nat} {g : Nat → Nat} (h : Good S g) (a n : Nat) (ks : List Nat) : Good S (clrP g a n ks) :=
  ⟨h.le, fun x => by unfold Mem.clrP; split; omega; exact h.lt x, fun x hx => by unfold Mem.clrP; split; rfl; exact h.out x hx⟩
theorem clrP_nil (g : Nat → Nat) (a n : Nat) : clrP g a n [] = g := by funext x; simp [clrP]
theorem not_cut {g : Nat → Nat} (h : ∀ a, g a < 256) (a n k : Nat) : notN (word g k) (word (cut g a n) k) = word (clr g a n) k := by
  apply Nat.eq_of_testBit_eq; intro i
  rw [notN_testBit, word_testBit _ h, word_testBit _ (cut_lt h a n), word_testBit _ (clr_lt h a n)]
  unfold cut clr
  by_cases hc : a ≤ k + (7 - i / 8) ∧ k + (7 - i / 8) < a + n
  · rw [if_pos hc, if_pos hc]; simp
  · rw [if_neg hc, if_neg hc]; simp
theorem clrP_word {g : Nat → Nat} {a n k : Nat} {ks : List Nat} (hk : k % 8 = 0) (hn : k ∉ ks) : word (clrP g a n ks) k = word g k :=
  word_ext (fun j hj => by
    unfold clrP
    rw [if_neg]
    rintro ⟨h1, _⟩
    rw [show k + j - (k + j) % 8 = k by omega] at h1; exact hn h1)
theorem clrP_step {g : Nat → Nat} (h : ∀ a, g a < 256) {a n k : Nat} {ks : List Nat} (hk : k % 8 = 0) : setW (clrP g a n ks) k (word (clr g a n) k) = clrP g a n (ks ++ [k]) := by
  funext x
  unfold setW
  by_cases hx : k ≤ x ∧ x < k + 8
  · rw [if_pos hx, byteW_word _ (clr_lt h a n) _ _ (by omega), show k + (x - k) = x by omega]
    unfold clr clrP
    have e : x - x % 8 = k := by omega
    rw [e]; simp
  · rw [if_neg hx]
    unfold clrP
    have e : x - x % 8 ≠ k := by omega
    simp [e]
theorem clrP_all {g : Nat → Nat} (h : ∀ a, g a < 256) {a n : Nat} {P : List (Nat × Nat)} (hP : All g a n P) : clrP g a n (P.map Prod.fst) = clr g a n := by
  funext x
  unfold clrP clr
  by_cases hx : a ≤ x ∧ x < a + n
  · rw [if_pos hx]
    by_cases hm : x - x % 8 ∈ P.map Prod.fst
    · rw [if_pos ⟨hm, hx⟩]
    · rw [if_neg (fun hh => hm hh.1)]
      apply Classical.byContradiction; intro hg
      apply hm
      refine List.mem_map.2 ⟨(x - x % 8, word (cut g a n) (x - x % 8)), (hP.mem _ _).2 ⟨by omega, rfl, fun hz => hg ?_, trivial⟩, rfl⟩
      have := word_zero (cut_lt h a n) hz (x % 8) (by omega)
      rw [show x - x % 8 + x % 8 = x by omega] at this
      unfold cut at this; rw [if_pos hx] at this; exact this
  · rw [if_neg hx, if_neg (fun hh => hx hh.2)]
/-- The cells of piece i. -/
theorem flat_at : ∀ (P : List (Nat × Nat)) (i : Nat) (k b : Nat), P[i]? = some (k, b) → (flat P)[i * 2]? = some (.int .u64 (k : Int)) ∧ (flat P)[i * 2 + 1]? = some (.int .u64 (b : Int))
  | [], i, k, b, h => by simp at h
  | p :: r, 0, k, b, h => by simp at h; subst h; exact ⟨rfl, rfl⟩
  | p :: r, i + 1, k, b, h => by
    have := flat_at r i k b (by simpa using h)
    rw [show (i + 1) * 2 = i * 2 + 1 + 1 by omega]
    simpa [flat] using this
theorem own_turn {w w' : World} {sb bm S B n : Nat} {g : Nat → Nat} {v : Value} {xs : List Value} (ho : w.ownsRow B 62 2 v n xs) (h : MemAt w sb bm S g) (t : Turn w w' sb bm) : w'.ownsRow B 62 2 v n xs := by
  refine ⟨ho.1, ?_⟩
  rcases ho.2 with hn | ⟨gb, cap, cur, rfl, hb, hg, rest⟩
  · exact .inl hn
  · refine .inr ⟨gb, cap, cur, rfl, hb, ?_, rest⟩
    rw [t.block gb (lt_of_block hg) (fun e => by
      obtain ⟨m, _, hr⟩ := h.row
      rw [← e, hg] at hr; simp at hr) (fun e => by
      obtain ⟨D, ⟨es, clock, hb2, _⟩, _⟩ := h.words
      rw [← e, hg] at hb2; cases hb2)]
    exact hg
end Go.Proofs.Ytmhgofhclckdpaa.Mem
