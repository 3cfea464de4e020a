/-
  Rows of runs that were taken, in memory, beside frames; what taking and giving runs that do not meet does. Conditions: none.
-/
import Derived.Test.YtdjpanmokojpdaaFLaw
import Derived.Maps.AppendAt
import Derived.WalkSmall
namespace Go.Proofs.Ytdjpanmokojpdaa.Frm
open Fld
open Go.ChangeShapes Go.WideShapes Go.ChangeAt Go.RowKit
set_option maxHeartbeats 400000
theorem infoT : (Try.prog.info? 46).map (fun i => (i.zero, i.size, i.bytes)) = some (some (.agg #[.int .i64 0, .int .i64 0]), 2, 16) := by kernel_rfl
def flatT : List (Nat × Nat) → List Value
  | [] => []
  | p :: r => .int .i64 (p.1 : Int) :: .int .i64 (p.2 : Int) :: flatT r
theorem flatT_one (P : List (Nat × Nat)) (k b : Nat) : flatT (P ++ [(k, b)]) = flatT P ++ [.int .i64 (k : Int), .int .i64 (b : Int)] := by
  induction P with
  | nil => rfl
  | cons p r ih => simp [flatT, ih]
theorem flatT_at : ∀ (P : List (Nat × Nat)) (i : Nat) (k b : Nat), P[i]? = some (k, b) → (flatT P)[i * 2]? = some (.int .i64 (k : Int)) ∧ (flatT P)[i * 2 + 1]? = some (.int .i64 (b : Int))
  | [], i, k, b, h => by simp at h
  | p :: r, 0, k, b, h => by simp at h; subst h; exact ⟨rfl, rfl⟩
  | p :: r, i + 1, k, b, h => by
    have := flatT_at r i k b (by simpa using h)
    rw [show (i + 1) * 2 = i * 2 + 1 + 1 by omega]
    simpa [flatT] using this
theorem two_oneT (x y : Int) : ∀ u ∈ [Value.int .i64 x, Value.int .i64 y], u.oneCell' = true := by
  intro u hu; simp at hu; rcases hu with rfl | rfl <;> rfl
theorem addr_add0 (b j : Nat) : (⟨b, 0, none⟩ : Addr).add j = ⟨b, j, none⟩ := by simp [Addr.add]; exact fun h => h.symm
abbrev OwnT (w : World) (B : Nat) (v : Value) (l : List (Nat × Nat)) : Prop := w.ownsRow B 46 2 v l.length (flatT l)
/-- The cells of run i of a list. -/
theorem rowT_at {w : World} {B cap : Nat} {ao : Option Addr} {l : List (Nat × Nat)} (h : OwnT w B (.slice ao l.length cap) l) (i : Nat) (hi : i < l.length) :
    ∃ gb k b, ao = some ⟨gb, 0, none⟩ ∧ l.length ≤ cap ∧ cap ≤ maxLen ∧ B ≤ gb ∧ l[i]? = some (k, b) ∧ w.cell? ⟨gb, i * 2, none⟩ = some (.int .i64 (k : Int)) ∧ w.cell? ⟨gb, i * 2 + 1, none⟩ = some (.int .i64 (b : Int)) := by
  have hh := h
  rcases h.2 with ⟨_, hz⟩ | ⟨gb, cap', cur, hv, hB, _, hc1, hc2, _⟩
  · omega
  · obtain ⟨rfl, rfl⟩ : ao = some ⟨gb, 0, none⟩ ∧ cap = cap' := by injection hv with a b c; exact ⟨a, c⟩
    have hkb : l[i]? = some (l[i].1, l[i].2) := List.getElem?_eq_getElem hi
    obtain ⟨u1, u2⟩ := flatT_at l i _ _ hkb
    have cc := hh.cells (g := gb) rfl
    have k1 := cc _ _ u1
    have k2 := cc _ _ u2
    rw [addr_add0] at k1 k2
    exact ⟨gb, _, _, rfl, hc1, hc2, hB, hkb, k1, k2⟩
theorem own_turn {w wr w' : World} {e z n k : Nat} {v : Value} {xs : List Value} (h : wr.ownsRow (w.heap.size + 2) e z v n xs) (ht : Turn wr w' (w.heap.size + 1) w.heap.size) (_ : k = k) : w'.ownsRow (w.heap.size + 2) e z v n xs := by
  refine ⟨h.1, ?_⟩
  rcases h.2 with hn | ⟨g, cap, cur, rfl, hb2, hg, rest⟩
  · exact .inl hn
  · refine .inr ⟨g, cap, cur, rfl, hb2, ?_, rest⟩
    rw [ht.block g (Array.getElem?_eq_some_iff.1 hg).1 (by omega) (by omega)]; exact hg
/-- Frames, and a row of runs beside them. -/
structure ApIn (w : World) (n : Nat) (T : Nat → Bool) (v : Value) (l : List (Nat × Nat)) (wr : World) : Prop where
  fr : FrIn w n T wr
  own : OwnT wr (w.heap.size + 2) v l
  two : w.heap.size + 2 ≤ wr.heap.size
theorem ApIn.turn {w wr w' : World} {n : Nat} {T U : Nat → Bool} {v : Value} {l : List (Nat × Nat)} (h : ApIn w n T v l wr) (hf : FrAt w' (w.heap.size + 1) w.heap.size n U) (ht : Turn wr w' (w.heap.size + 1) w.heap.size) : ApIn w n U v l w' :=
  ⟨h.fr.turn hf ht, own_turn (k := 0) h.own ht rfl, Nat.le_trans h.two ht.size⟩
theorem ApIn.below {w wr w' : World} {n : Nat} {T : Nat → Bool} {v : Value} {l : List (Nat × Nat)} (h : ApIn w n T v l wr) (hb : Below wr.heap.size wr w') : ApIn w n T v l w' :=
  ⟨h.fr.below hb, own_below h.own hb, Nat.le_trans h.two hb.size⟩
theorem ApIn.drew {w wr : World} {n : Nat} {T : Nat → Bool} {v : Value} {l : List (Nat × Nat)} (h : ApIn w n T v l wr) : ApIn w n T v l wr.drew := h.below (below_drewN (Below.refl _ _) 1)
theorem ApIn.add {w wr w1 : World} {n : Nat} {T : Nat → Bool} {v v1 : Value} {l : List (Nat × Nat)} {k b : Nat} {o : Obj} (h : ApIn w n T v l wr) (hg : (wr.alloc o).grownBy w1 v.ownBlock) (ho : w1.ownsRow (w.heap.size + 2) 46 2 v1 (l.length + 1) (flatT l ++ [.int .i64 (k : Int), .int .i64 (b : Int)])) : ApIn w n T v1 (l ++ [(k, b)]) w1 := by
  have h2 := h.two
  have kp : ∀ i, i < w.heap.size + 2 → w1.heap[i]? = wr.heap[i]? := fun i hi =>
    (hg.block i (by simp; omega) (fun e => by have := (h.own.lt i e.symm).1; omega)).trans (Below.heap_alloc _ _ _ (by omega))
  refine ⟨⟨h.fr.fr.same (kp _ (by omega)) (kp _ (by omega)), (h.fr.bel.alloc h.fr.bel.size _).grown hg (by simp; omega) (fun j hj => by have := (h.own.lt j hj).1; omega)⟩, ?_, ?_⟩
  · unfold OwnT; rw [flatT_one, List.length_append]; exact ho
  · have := hg.size; simp at this; omega
theorem ap_take {w wr : World} {n : Nat} {T : Nat → Bool} {v : Value} {l : List (Nat × Nat)} (h : ApIn w n T v l wr) (s : Int) :
    Calls Try.prog 19 #[.pointer (some ⟨w.heap.size + 1, 0, none⟩), .int .i64 s] wr fun e w' => e = .returned (.tuple #[.int .i64 (takeI T n s), .int .i64 (takeE T n s)]) ∧ ApIn w n (takeT T n s) v l w' :=
  (ftake_any s wr h.fr.fr).mono fun _ _ ⟨a, b, c⟩ => ⟨a, h.turn b c⟩
theorem ap_many {w wr : World} {n : Nat} {T : Nat → Bool} {v : Value} {l : List (Nat × Nat)} (h : ApIn w n T v l wr) (k : Int) :
    Calls Try.prog 22 #[.pointer (some ⟨w.heap.size + 1, 0, none⟩), .int .i64 k] wr fun e w' => e = .returned (.tuple #[.int .i64 (manyI T n k), .int .i64 (manyE T n k)]) ∧ ApIn w n (manyT T n k) v l w' :=
  (fmany_any k wr h.fr.fr).mono fun _ _ ⟨a, b, c⟩ => ⟨a, h.turn b c⟩
theorem ap_give {w wr : World} {n : Nat} {T : Nat → Bool} {v : Value} {l : List (Nat × Nat)} (h : ApIn w n T v l wr) (f k : Int) (f0 : -9223372036854775808 ≤ f) (f1 : f ≤ 9223372036854775807) (k0 : -9223372036854775808 ≤ k) (k1 : k ≤ 9223372036854775807) :
    Calls Try.prog 21 #[.pointer (some ⟨w.heap.size + 1, 0, none⟩), .int .i64 f, .int .i64 k] wr fun e w' => e = .returned (.int .i64 (giveE T n f k)) ∧ ApIn w n (giveT T n f k) v l w' :=
  (give_any f k f0 f1 k0 k1 wr h.fr.fr).mono fun _ _ ⟨a, b, c⟩ => ⟨a, h.turn b c⟩
/-! ### Runs that do not meet -/
/-- The runs are there, do not meet, and are just what is taken. -/
structure Apart (n : Nat) (T : Nat → Bool) (l : List (Nat × Nat)) : Prop where
  inn : ∀ p ∈ l, 0 < p.2 ∧ p.1 + p.2 ≤ n
  is : ∀ q, q < n → (T q = true ↔ ∃ p ∈ l, p.1 ≤ q ∧ q < p.1 + p.2)
  no : l.Pairwise (fun p r => p.1 + p.2 ≤ r.1 ∨ r.1 + r.2 ≤ p.1)
theorem apart_new (n : Nat) : Apart n (fun _ => false) [] := ⟨by simp, by simp, .nil⟩
theorem Apart.miss {n : Nat} {T : Nat → Bool} {l : List (Nat × Nat)} (h : Apart n T l) {i k : Nat} (hk : i + k ≤ n) (h0 : 0 < k) (ha : allB T i k false = true) {p : Nat × Nat} (hp : p ∈ l) : i + k ≤ p.1 ∨ p.1 + p.2 ≤ i := by
  apply Classical.byContradiction
  intro hc
  obtain ⟨a1, a2⟩ := h.inn p hp
  rw [allB_mem] at ha
  have h1 := ha (max i p.1) (by omega) (by omega)
  have h2 := (h.is (max i p.1) (by omega)).2 ⟨p, hp, by omega, by omega⟩
  rw [h1] at h2; cases h2
theorem Apart.take {n : Nat} {T : Nat → Bool} {l : List (Nat × Nat)} (h : Apart n T l) {i k : Nat} (hk : i + k ≤ n) (h0 : 0 < k) (ha : allB T i k false = true) : Apart n (setT T i k true) (l ++ [(i, k)]) := by
  refine ⟨?_, ?_, ?_⟩
  · intro p hp
    rcases List.mem_append.1 hp with hp | hp
    · exact h.inn p hp
    · simp at hp; subst hp; exact ⟨h0, hk⟩
  · intro q hq
    by_cases hi : i ≤ q ∧ q < i + k
    · rw [setT_in hi.1 hi.2]; simp only [true_iff]; exact ⟨(i, k), by simp, hi⟩
    · rw [setT_out (by omega), h.is q hq]
      constructor
      · rintro ⟨p, hp, h2⟩; exact ⟨p, by simp [hp], h2⟩
      · rintro ⟨p, hp, h2⟩
        rcases List.mem_append.1 hp with hp | hp
        · exact ⟨p, hp, h2⟩
        · simp at hp; subst hp; exact absurd h2 hi
  · rw [List.pairwise_append]
    refine ⟨h.no, by simp, fun p hp r hr => ?_⟩
    simp at hr; subst hr
    have := h.miss hk h0 ha hp
    show p.1 + p.2 ≤ i ∨ i + k ≤ p.1
    omega
theorem Apart.give {n : Nat} {T : Nat → Bool} {p : Nat × Nat} {l : List (Nat × Nat)} (h : Apart n T (p :: l)) : allB T p.1 p.2 true = true ∧ p.1 + p.2 ≤ n ∧ 0 < p.2 ∧ Apart n (setT T p.1 p.2 false) l := by
  obtain ⟨a1, a2⟩ := h.inn p (by simp)
  have hno := List.pairwise_cons.1 h.no
  refine ⟨allB_mem.2 fun q h1 h2 => (h.is q (by omega)).2 ⟨p, by simp, h1, h2⟩, a2, a1, fun r hr => h.inn r (by simp [hr]), fun q hq => ?_, hno.2⟩
  by_cases hi : p.1 ≤ q ∧ q < p.1 + p.2
  · rw [setT_in hi.1 hi.2]
    simp only [Bool.false_eq_true, false_iff]
    rintro ⟨r, hr, h2⟩
    have := hno.1 r hr
    omega
  · rw [setT_out (by omega), h.is q hq]
    constructor
    · rintro ⟨r, hr, h2⟩
      rcases List.mem_cons.1 hr with rfl | hr
      · exact absurd h2 hi
      · exact ⟨r, hr, h2⟩
    · rintro ⟨r, hr, h2⟩; exact ⟨r, by simp [hr], h2⟩
theorem Apart.last {n : Nat} {T : Nat → Bool} (h : Apart n T []) : cnt T n = n ∧ lng T n = n ∧ lst T n = [] := by
  have e : ∀ q, q < n → T q = false := fun q hq => by
    have := h.is q hq
    simp at this
    exact this
  have h1 : cnt T n = n := (cnt_congr (U := fun _ => false) e).trans (cnt_new n)
  refine ⟨h1, lng_eq ⟨0, by omega, allB_mem.2 fun q _ hq => e q (by omega)⟩ (fun i k h2 _ => by omega), ?_⟩
  have := lst_length T n
  exact List.eq_nil_of_length_eq_zero (by omega)
theorem give_ok {T : Nat → Bool} {n i k : Nat} (h0 : 0 < k) (h : i + k ≤ n) (ha : allB T i k true = true) : giveE T n (i : Int) (k : Int) = 0 ∧ giveT T n (i : Int) (k : Int) = setT T i k false := by
  have e : giveE T n (i : Int) (k : Int) = 0 := by unfold giveE; rw [if_neg (by omega), if_neg (by omega)]; simp [ha]
  exact ⟨e, by unfold giveT; rw [e]; simp⟩
theorem give_no {T : Nat → Bool} {n i k : Nat} (h0 : 0 < k) (h : i + k ≤ n) : giveE (setT T i k false) n (i : Int) (k : Int) = 11 ∧ giveT (setT T i k false) n (i : Int) (k : Int) = setT T i k false := by
  have ha : allB (setT T i k false) i k true = false := allB_not.2 ⟨0, h0, by rw [setT_in (by omega) (by omega)]; simp⟩
  have e : giveE (setT T i k false) n (i : Int) (k : Int) = 11 := by unfold giveE; rw [if_neg (by omega), if_neg (by omega)]; simp [ha]
  exact ⟨e, by unfold giveT; rw [e]; simp⟩
theorem ap_give1 {w wr : World} {n i k : Nat} {T : Nat → Bool} {v : Value} {l : List (Nat × Nat)} (h : ApIn w n T v l wr) (h0 : 0 < k) (hk : i + k ≤ n) (ha : allB T i k true = true) :
    Calls Try.prog 21 #[.pointer (some ⟨w.heap.size + 1, 0, none⟩), .int .i64 (i : Int), .int .i64 (k : Int)] wr fun e w' => e = .returned (.int .i64 0) ∧ ApIn w n (setT T i k false) v l w' := by
  have hn := h.fr.fr.le
  have := ap_give h (i : Int) (k : Int) (by omega) (by omega) (by omega) (by omega)
  rwa [(give_ok h0 hk ha).1, (give_ok h0 hk ha).2] at this
theorem ap_give2 {w wr : World} {n i k : Nat} {T : Nat → Bool} {v : Value} {l : List (Nat × Nat)} (h : ApIn w n (setT T i k false) v l wr) (h0 : 0 < k) (hk : i + k ≤ n) :
    Calls Try.prog 21 #[.pointer (some ⟨w.heap.size + 1, 0, none⟩), .int .i64 (i : Int), .int .i64 (k : Int)] wr fun e w' => e = .returned (.int .i64 11) ∧ ApIn w n (setT T i k false) v l w' := by
  have hn := h.fr.fr.le
  have := ap_give h (i : Int) (k : Int) (by omega) (by omega) (by omega) (by omega)
  rwa [(give_no h0 hk).1, (give_no h0 hk).2] at this
theorem ap_cells {w wr : World} {n gb cap j a b : Nat} {T : Nat → Bool} {l : List (Nat × Nat)} (h : ApIn w n T (.slice (some ⟨gb, 0, none⟩) l.length cap) l wr) (hk : l[j]? = some (a, b)) :
    wr.cell? ⟨gb, j * 2, none⟩ = some (.int .i64 (a : Int)) ∧ wr.cell? ⟨gb, j * 2 + 1, none⟩ = some (.int .i64 (b : Int)) := by
  obtain ⟨u1, u2⟩ := flatT_at l j _ _ hk
  have cc := h.own.cells (g := gb) rfl
  have k1 := cc _ _ u1
  have k2 := cc _ _ u2
  rw [addr_add0] at k1 k2
  exact ⟨k1, k2⟩
theorem size_four (s : Nat) (h : s < 4) : sizeB (s : Int) = true ∧ 0 < (runI (s : Int)).toNat ∧ (runI (s : Int)).toNat ≤ 512 ∧ runI (s : Int) = ((runI (s : Int)).toNat : Int) := by
  have : s = 0 ∨ s = 1 ∨ s = 2 ∨ s = 3 := by omega
  rcases this with rfl | rfl | rfl | rfl <;> decide
end Go.Proofs.Ytdjpanmokojpdaa.Frm
