/-
  Contracts and plain facts: MPiece, MPieces, MPieces2. Conditions: each says its own.
-/
import Derived.Test.YtnbdoemnepfhdaaGreatR16
import Derived.OneCell
import Derived.Maps.AppendAt
namespace Go.Proofs.YtnbdoemnepfhdaaGreat.Mem
open Go.ChangeShapes Go.WideShapes Go.ChangeAt Go.RowKit Go.Maps
set_option maxHeartbeats 400000
theorem infoP : (Tryz.prog.info? 133).map (fun i => (i.zero, i.size, i.bytes)) = some (some (.agg #[.int .u64 0, .int .u64 0]), 2, 16) := by kernel_rfl
/-- The cells of pieces. -/
def flat : List (Nat × Nat) → List Value
  | [] => []
  | p :: r => .int .u64 (p.1 : Int) :: .int .u64 (p.2 : Int) :: flat r
theorem flat_append (P Q : List (Nat × Nat)) : flat (P ++ Q) = flat P ++ flat Q := by
  induction P with
  | nil => rfl
  | cons p r ih => simp [flat, ih]
/-- The pieces P, and the one of b at k, if that is not 0. -/
def addP (P : List (Nat × Nat)) (k b : Nat) : List (Nat × Nat) := if b = 0 then P else P ++ [(k, b)]
/-- What the function literal has captured: from w0 on a, l and the list are new. -/
structure Cap (w0 w : World) (ab lb vb a l : Nat) (P : List (Nat × Nat)) : Prop where
  below : Below w0.heap.size w0 w
  ca : w.heap[ab]? = some (.cells #[.int .u64 (a : Int)] 26 (0, 0))
  cl : w.heap[lb]? = some (.cells #[.int .u64 (l : Int)] 26 (0, 0))
  cv : ∃ v, w.heap[vb]? = some (.cells #[v] 130 (0, 0)) ∧ w.ownsRow w0.heap.size 133 2 v P.length (flat P)
  hv : w0.heap.size ≤ vb
/-- What is no row of cells stays. -/
def Still (w w' : World) : Prop := ∀ (i : Nat) (o : Obj), w.heap[i]? = some o → (∀ c e f, o ≠ Obj.cells c e f) → w'.heap[i]? = some o
theorem Still.refl (w : World) : Still w w := fun _ _ h _ => h
theorem cell_two_new (w : World) (x y : Value) (t : TypeId) : ∀ j u, [x, y][j]? = some u → (w.alloc (.cells #[x, y] t)).cell? ((⟨w.heap.size, 0, none⟩ : Addr).add j) = some u := by
  intro j u hj
  match j, hj with
  | 0, hj => simp at hj; subst hj; exact (World.cell?_alloc_mark w #[x, y] t (0, 0) 0).trans rfl
  | 1, hj => simp at hj; subst hj; exact (World.cell?_alloc_mark w #[x, y] t (0, 0) 1).trans rfl
theorem piece_zero (w0 w : World) (ab lb vb a l : Nat) (P : List (Nat × Nat)) (h : Cap w0 w ab lb vb a l P) (k x : Nat) (hk : k < 4398046511104) (ha : a < 4398046511104) (hl : l < 4398046511104) (hx : x < 18446744073709551616) (hz : x &&& maskW a l k = 0) :
    Calls Tryz.prog 113 #[.int .u64 (k : Int), .int .u64 (x : Int), .pointer (some ⟨ab, 0, none⟩), .pointer (some ⟨lb, 0, none⟩), .pointer (some ⟨vb, 0, none⟩)] w fun e w' => e = .returned (.tuple #[]) ∧ Cap w0 w' ab lb vb a l (addP P k (x &&& maskW a l k)) ∧ Still w w' := by
  have c1 := cell_of_one h.ca
  have c2 := cell_of_one h.cl
  have B := bits_and_u64_nat x (maskW a l k) hx (mask_lt a l k)
  rw [hz] at B
  go_enter Tryz.func113, Tryz.ntmps113
  go_wp2_with (go_at_call 114; refine (within_any _ _ _ (by omega) (by omega) (by omega) (by omega) (by omega) (by omega) _).mono ?_; rintro e w' ⟨rfl, rfl⟩)
  go_end0
  exact ⟨rfl, by unfold addP; rw [if_pos hz]; exact h, Still.refl _⟩
theorem own_shape {w : World} {B : Nat} {e : TypeId} {z : Nat} {v : Value} {n : Nat} {xs : List Value} (h : w.ownsRow B e z v n xs) : ∃ ao cap, v = .slice ao n cap := by
  rcases h.2 with ⟨rfl, rfl⟩ | ⟨g, cap, cur, rfl, _⟩
  · exact ⟨none, 0, rfl⟩
  · exact ⟨_, _, rfl⟩
theorem two_one (x y : Int) : ∀ u ∈ [Value.int .u64 x, Value.int .u64 y], u.oneCell' = true := by
  intro u hu; simp at hu; rcases hu with rfl | rfl <;> rfl
theorem own_ne {w : World} {B e z n b t : Nat} {v : Value} {xs : List Value} {c : Array Value} (ho : w.ownsRow B e z v n xs) (hb : w.heap[b]? = some (.cells c t (0, 0))) (hne : t ≠ e) : v.ownBlock ≠ some b := by
  intro e1
  rcases ho.2 with ⟨rfl, _⟩ | ⟨g, cap, cur, rfl, _, hg, _⟩
  · cases e1
  · simp [Value.ownBlock] at e1; subst e1; rw [hb] at hg; simp at hg; exact hne hg.2
theorem own_ne' {w : World} {B e z n b : Nat} {v : Value} {xs : List Value} {o : Obj} (ho : w.ownsRow B e z v n xs) (hb : w.heap[b]? = some o) (hne : ∀ c e f, o ≠ Obj.cells c e f) : v.ownBlock ≠ some b := by
  intro e1
  rcases ho.2 with ⟨rfl, _⟩ | ⟨g, cap, cur, rfl, _, hg, _⟩
  · cases e1
  · simp [Value.ownBlock] at e1; subst e1; rw [hb] at hg; cases hg; exact hne _ _ _ rfl
theorem flat_one (P : List (Nat × Nat)) (k b : Nat) : flat (P ++ [(k, b)]) = flat P ++ [.int .u64 (k : Int), .int .u64 (b : Int)] := flat_append P [(k, b)]
theorem piece_some (w0 w : World) (ab lb vb a l : Nat) (P : List (Nat × Nat)) (h : Cap w0 w ab lb vb a l P) (k x : Nat) (hk : k < 4398046511104) (ha : a < 4398046511104) (hl : l < 4398046511104) (hx : x < 18446744073709551616) (hz : x &&& maskW a l k ≠ 0) (hP : P.length ≤ 549755813888) :
    Calls Tryz.prog 113 #[.int .u64 (k : Int), .int .u64 (x : Int), .pointer (some ⟨ab, 0, none⟩), .pointer (some ⟨lb, 0, none⟩), .pointer (some ⟨vb, 0, none⟩)] w fun e w' => e = .returned (.tuple #[]) ∧ Cap w0 w' ab lb vb a l (addP P k (x &&& maskW a l k)) ∧ Still w w' := by
  obtain ⟨v, cv, ho⟩ := h.cv
  have hv0 := h.hv
  have hb0 := h.below.size
  have c1 := cell_of_one h.ca
  have c2 := cell_of_one h.cl
  have c3 := cell_of_one cv
  have f3 := free_of_one cv
  have lv := lt_of_block cv
  have B := bits_and_u64_nat x (maskW a l k) hx (mask_lt a l k)
  have yl : x &&& maskW a l k < 18446744073709551616 := Nat.lt_of_le_of_lt Nat.and_le_left hx
  have HA := Lib.hid (show addP P k (x &&& maskW a l k) = P ++ [(k, x &&& maskW a l k)] by unfold addP; rw [if_neg hz])
  obtain ⟨i0, hi, hz0, hz1, hz2⟩ := info_parts infoP
  generalize x &&& maskW a l k = y at B yl HA hz
  have hy : ((y : Int) == 0) = false := by simpa using hz
  have hy2 : ((y : Int) != 0) = true := by simpa using hz
  go_enter Tryz.func113, Tryz.ntmps113
  go_wp2_with (first | (go_at_call 114; refine (within_any _ _ _ (by omega) (by omega) (by omega) (by omega) (by omega) (by omega) _).mono ?_; rintro e w' ⟨rfl, rfl⟩) | (at_builtin; refine wpList_append_own_at _ rfl _ _ 130 rfl w0.heap.size 133 i0 (.agg #[.int .u64 0, .int .u64 0]) 2 16 Tryz.underlying130 hi hz0 hz1 hz2 rfl (by decide) v _ _ rfl (ho.alloc _) ⟨w.heap.size, 0, none⟩ 1 1 [.int .u64 (k : Int), .int .u64 (y : Int)] rfl rfl (cell_two_new _ _ _ _) (two_one _ _) (by unfold maxLen; omega) (by omega) (by simp; omega) ?_; intro v' w1 ho1 hg1 hn1 hat1; obtain ⟨ao, cap, rfl⟩ := own_shape ho1; have k3 := (hg1.block vb (by simp; omega) (own_ne ho cv (by decide)).symm).trans ((Below.heap_alloc _ _ _ lv).trans cv); have d3 := cell_of_one k3; have d4 := free_of_one k3))
  go_end0
  rw [HA.out]
  have hsz := hg1.size
  simp at hsz
  have hrow : ∀ j, v.ownBlock = some j → w0.heap.size ≤ j ∧ j < w.heap.size := ho.lt
  have hnb : ∀ (i : Nat) (o : Obj), w.heap[i]? = some o → i ≠ vb → v.ownBlock ≠ some i → (w1.setCell ⟨vb, 0, none⟩ (Value.slice ao (P.length + 1) cap)).heap[i]? = some o := fun i o hi1 h1 h2 => by
    have li := lt_of_block hi1
    rw [Below.heap_setCell _ _ _ _ h1, hg1.block i (by simp; omega) h2.symm, Below.heap_alloc _ _ _ li]; exact hi1
  refine ⟨rfl, ⟨⟨?_, ?_, ?_, ?_, ?_⟩, ?_, ?_, ⟨Value.slice ao (P.length + 1) cap, one_setCell k3, ?_⟩, hv0⟩, ?_⟩
  · exact hg1.os.trans h.below.os
  · exact hg1.tape.trans h.below.tape
  · exact hg1.output.trans h.below.output
  · simp [World.setCell]; omega
  · intro i hi1
    have li : i < w.heap.size := by omega
    rw [Below.heap_setCell _ _ _ _ (by simp; omega), hg1.block i (by simp; omega) (fun e => by have := hrow i e.symm; omega), Below.heap_alloc _ _ _ li]
    exact h.below.block i hi1
  · exact hnb ab _ h.ca (fun e => by rw [e] at h; have := h.ca.symm.trans cv; simp at this) (own_ne ho h.ca (by decide))
  · exact hnb lb _ h.cl (fun e => by rw [e] at h; have := h.cl.symm.trans cv; simp at this) (own_ne ho h.cl (by decide))
  · rw [flat_one, List.length_append]
    exact ownsRow_setCell_other ho1 (fun e => by
      rcases hat1 with h1 | h1
      · rw [h1] at e; exact own_ne ho cv (by decide) e
      · rw [h1] at e; simp at e; omega) _
  · exact fun i o hi1 hno => hnb i o hi1 (fun e => by subst e; rw [cv] at hi1; cases hi1; exact hno _ _ _ rfl) (own_ne' ho hi1 hno)
theorem piece_any (w0 w : World) (ab lb vb a l : Nat) (P : List (Nat × Nat)) (h : Cap w0 w ab lb vb a l P) (k x : Nat) (hk : k < 4398046511104) (ha : a < 4398046511104) (hl : l < 4398046511104) (hx : x < 18446744073709551616) (hP : P.length ≤ 549755813888) :
    Calls Tryz.prog 113 #[.int .u64 (k : Int), .int .u64 (x : Int), .pointer (some ⟨ab, 0, none⟩), .pointer (some ⟨lb, 0, none⟩), .pointer (some ⟨vb, 0, none⟩)] w fun e w' => e = .returned (.tuple #[]) ∧ Cap w0 w' ab lb vb a l (addP P k (x &&& maskW a l k)) ∧ Still w w' := by
  by_cases hz : x &&& maskW a l k = 0
  · exact piece_zero w0 w ab lb vb a l P h k x hk ha hl hx hz
  · exact piece_some w0 w ab lb vb a l P h k x hk ha hl hx hz hP
end Go.Proofs.YtnbdoemnepfhdaaGreat.Mem

namespace Go.Proofs.YtnbdoemnepfhdaaGreat.Mem
open Go.ChangeShapes Go.WideShapes Go.ChangeAt Go.RowKit Go.Maps
set_option maxHeartbeats 400000
/-- The bytes g from a on, n of them; the others are 0. -/
def cut (g : Nat → Nat) (a n : Nat) : Nat → Nat := fun x => if a ≤ x ∧ x < a + n then g x else 0
theorem cut_lt {g : Nat → Nat} (h : ∀ a, g a < 256) (a n x : Nat) : cut g a n x < 256 := by
  unfold cut; split
  · exact h x
  · omega
theorem mask_cut {g : Nat → Nat} (h : ∀ a, g a < 256) (a n k : Nat) (hn : 0 < n) : word g k &&& maskW a (a + n - 1) k = word (cut g a n) k := by
  apply Nat.eq_of_testBit_eq; intro i
  rw [Nat.testBit_and, maskW_testBit, word_testBit _ h, word_testBit _ (cut_lt h a n)]
  unfold cut
  by_cases hi : i < 64
  · by_cases hc : a ≤ k + (7 - i / 8) ∧ k + (7 - i / 8) < a + n
    · rw [if_pos hc]
      have h1 : a ≤ k + (7 - i / 8) ∧ k + (7 - i / 8) ≤ a + n - 1 := by omega
      simp [hi, h1]
    · rw [if_neg hc]
      have h1 : ¬ (a ≤ k + (7 - i / 8) ∧ k + (7 - i / 8) ≤ a + n - 1) := by omega
      simp [h1]
  · simp [hi]
theorem cut_word {g : Nat → Nat} {a n k : Nat} (hg : ∀ a, g a < 256) (h : word (cut g a n) k ≠ 0) : a < k + 8 ∧ k < a + n ∧ word g k ≠ 0 := by
  have hx : ¬ ∀ j, j < 8 → cut g a n (k + j) = 0 := fun hz => h (word_eq_zero hz)
  have ⟨j, hj⟩ : ∃ j, j < 8 ∧ cut g a n (k + j) ≠ 0 := Classical.byContradiction fun hne => hx fun j hj => Classical.byContradiction fun h1 => hne ⟨j, hj, h1⟩
  obtain ⟨h1, h2⟩ := hj
  have h3 : a ≤ k + j ∧ k + j < a + n := Classical.byContradiction fun hc => h2 (by unfold cut; rw [if_neg hc])
  refine ⟨by omega, by omega, fun hz => ?_⟩
  exact h2 (by unfold cut; rw [if_pos h3]; exact word_zero hg hz j h1)
/-- P has, of the words that have a byte of g in range that is not 0, and are such as L says, each once. -/
structure Some (g : Nat → Nat) (a n : Nat) (L : Nat → Prop) (P : List (Nat × Nat)) : Prop where
  nodup : (P.map Prod.fst).Nodup
  mem : ∀ k b, (k, b) ∈ P ↔ k % 8 = 0 ∧ b = word (cut g a n) k ∧ b ≠ 0 ∧ L k
abbrev All (g : Nat → Nat) (a n : Nat) (P : List (Nat × Nat)) : Prop := Some g a n (fun _ => True) P
theorem Some.nil {g : Nat → Nat} {a n : Nat} {L : Nat → Prop} (h : ∀ k, k % 8 = 0 → word (cut g a n) k ≠ 0 → ¬ L k) : Some g a n L [] where
  nodup := List.nodup_nil
  mem k b := ⟨fun hm => (by cases hm), fun ⟨h1, h2, h3, h4⟩ => absurd h4 (h k h1 (h2 ▸ h3))⟩
theorem Some.cong {g : Nat → Nat} {a n : Nat} {L L' : Nat → Prop} {P : List (Nat × Nat)} (h : Some g a n L P) (hL : ∀ k, k % 8 = 0 → word (cut g a n) k ≠ 0 → (L k ↔ L' k)) : Some g a n L' P where
  nodup := h.nodup
  mem k b := ⟨fun hm => by
      obtain ⟨h1, h2, h3, h4⟩ := (h.mem k b).1 hm
      exact ⟨h1, h2, h3, (hL k h1 (h2 ▸ h3)).1 h4⟩, fun ⟨h1, h2, h3, h4⟩ => (h.mem k b).2 ⟨h1, h2, h3, (hL k h1 (h2 ▸ h3)).2 h4⟩⟩
theorem Some.add {g : Nat → Nat} {a n : Nat} {L L' : Nat → Prop} {P : List (Nat × Nat)} (h : Some g a n L P) (k : Nat) (hk : k % 8 = 0) (hn : ¬ L k) (hL : ∀ k', k' % 8 = 0 → (L' k' ↔ L k' ∨ k' = k)) : Some g a n L' (addP P k (word (cut g a n) k)) := by
  unfold addP
  by_cases hz : word (cut g a n) k = 0
  · rw [if_pos hz]
    refine h.cong fun k' h0 h2 => ?_
    rw [hL k' h0]; exact ⟨.inl, fun h3 => h3.elim id fun e => absurd (e ▸ hz) h2⟩
  · rw [if_neg hz]
    have hnk : k ∉ P.map Prod.fst := fun hm => by
      obtain ⟨⟨k', b⟩, hp, rfl⟩ := List.mem_map.1 hm
      exact hn ((h.mem _ _).1 hp).2.2.2
    constructor
    · rw [List.map_append]
      refine List.nodup_append.2 ⟨h.nodup, by simp, ?_⟩
      intro x hx y hy e
      simp at hy; subst hy; subst e; exact hnk hx
    · intro k' b
      rw [List.mem_append, h.mem]
      constructor
      · rintro (⟨h1, h2, h3, h4⟩ | h1)
        · exact ⟨h1, h2, h3, (hL k' h1).2 (.inl h4)⟩
        · simp at h1; obtain ⟨rfl, rfl⟩ := h1; exact ⟨hk, rfl, hz, (hL _ hk).2 (.inr rfl)⟩
      · rintro ⟨h1, h2, h3, h4⟩
        rcases (hL k' h1).1 h4 with h5 | rfl
        · exact .inl ⟨h1, h2, h3, h5⟩
        · exact .inr (by simp [h2])
theorem Some.few {g : Nat → Nat} {a n S : Nat} {L : Nat → Prop} {P : List (Nat × Nat)} (h : Some g a n L P) (hg : Good S g) : P.length ≤ 274877906944 := by
  have := hg.few h.nodup (fun k hk => by
    obtain ⟨⟨k', b⟩, hp, rfl⟩ := List.mem_map.1 hk
    obtain ⟨h1, h2, h3, _⟩ := (h.mem _ _).1 hp
    exact ⟨h1, (cut_word hg.lt (h2 ▸ h3)).2.2⟩)
  simpa using this
theorem Cap.keep {w0 w w1 : World} {ab lb vb a l : Nat} {P : List (Nat × Nat)} {row : Option Nat} (h : Cap w0 w ab lb vb a l P) (hg : w.grownBy w1 row) (hr : ∀ j, row = some j → w0.heap.size ≤ j ∧ ∀ c e f, w.heap[j]? ≠ some (Obj.cells c e f)) : Cap w0 w1 ab lb vb a l P := by
  have kp : ∀ i c e f, w.heap[i]? = some (Obj.cells c e f) → w1.heap[i]? = some (Obj.cells c e f) := fun i c e f hi =>
    (hg.block i (lt_of_block hi) (fun e1 => (hr i e1.symm).2 _ _ _ hi)).trans hi
  obtain ⟨v, cv, ho⟩ := h.cv
  refine ⟨h.below.grown hg h.below.size (fun j hj => (hr j hj).1), kp _ _ _ _ h.ca, kp _ _ _ _ h.cl, ⟨v, kp _ _ _ _ cv, ho.kept hg ?_⟩, h.hv⟩
  rcases ho.2 with ⟨rfl, _⟩ | ⟨g, cap, cur, rfl, _, hgg, _⟩
  · exact .inl rfl
  · exact .inr (fun e1 => (hr g e1.symm).2 _ _ _ hgg)
theorem ranges_still {w w' : World} {b r n cnt : Nat} {D : DataW Unit} {left : Lit → Bool} (h : w.ranges Tryz.prog 26 (plainElem Tryz.prog 26) b r n D left cnt) (hs : Still w w') : w'.ranges Tryz.prog 26 (plainElem Tryz.prog 26) b r n D left cnt := by
  obtain ⟨es, clock, since, seen, c0, hb, F, hz, hD, hr, rest⟩ := h
  exact ⟨es, clock, since, seen, c0, hs _ _ hb (fun c e f h => by cases h), F, hz, hD, hs _ _ hr (fun c e f h => by cases h), rest⟩
theorem ranges_iter {w : World} {b r n cnt : Nat} {D : DataW Unit} {left : Lit → Bool} (h : w.ranges Tryz.prog 26 (plainElem Tryz.prog 26) b r n D left cnt) : ∀ c e f, w.heap[r]? ≠ some (Obj.cells c e f) := by
  obtain ⟨es, clock, since, seen, c0, hb, F, hz, hD, hr, rest⟩ := h
  intro c e f h; rw [hr] at h; cases h
end Go.Proofs.YtnbdoemnepfhdaaGreat.Mem

namespace Go.Proofs.YtnbdoemnepfhdaaGreat.Mem
open Go.ChangeShapes Go.WideShapes Go.ChangeAt Go.RowKit Go.Maps
set_option maxHeartbeats 400000
/-- A list of pieces that was made since w. -/
def Lst (w w' : World) (v : Value) (P : List (Nat × Nat)) : Prop := w'.ownsRow w.heap.size 133 2 v P.length (flat P) ∧ Below w.heap.size w w'
def GetsL (w : World) (g : Nat → Nat) (a n : Nat) (e : Ending) (w' : World) : Prop := ∃ v P, e = .returned v ∧ Lst w w' v P ∧ All g a n P
theorem pieces_none (sb a : Nat) (g : Nat → Nat) (w : World) :
    Calls Tryz.prog 81 #[.pointer (some ⟨sb, 0, none⟩), .int .u64 (a : Int), .int .u64 0] w (GetsL w g a 0) := by
  go_enter Tryz.func81, Tryz.ntmps81
  go_wp2
  go_ret
  refine ⟨_, [], rfl, ⟨World.ownsRow_nil _ _ _ _, ?_⟩, Some.nil (fun k _ h => absurd (word_eq_zero (fun j _ => by unfold cut; rw [if_neg (by omega)])) h)⟩
  exact ((Below.refl _ _).alloc (Nat.le_refl _) _).alloc (by simp) _
theorem Cap.start (w : World) (a l : Nat) (x : Int) (hx : x = (l : Int)) : Cap w (((w.alloc (.cells #[.int .u64 (a : Int)] 26)).alloc (.cells #[.slice none 0 0] 130)).alloc (.cells #[.int .u64 x] 26)) w.heap.size (w.heap.size + 1 + 1) (w.heap.size + 1) a l [] where
  below := (((Below.refl _ _).alloc (Nat.le_refl _) _).alloc (by simp) _).alloc (by simp; omega) _
  ca := by
    rw [Below.heap_alloc _ _ _ (by simp; omega), Below.heap_alloc _ _ _ (by simp)]
    exact heap_alloc_new _ _
  cl := by
    subst hx
    have := heap_alloc_new ((w.alloc (.cells #[.int .u64 (a : Int)] 26)).alloc (.cells #[.slice none 0 0] 130)) (.cells #[.int .u64 (l : Int)] 26)
    simpa using this
  cv := by
    refine ⟨.slice none 0 0, ?_, World.ownsRow_nil _ _ _ _⟩
    rw [Below.heap_alloc _ _ _ (by simp)]
    have := heap_alloc_new (w.alloc (.cells #[.int .u64 (a : Int)] 26)) (.cells #[.slice none 0 0] 130)
    simpa using this
  hv := by omega
theorem pieces_few (sb bm S a n l : Nat) (g : Nat → Nat) (w : World) (h : MemAt w sb bm S g) (hn : 0 < n) (ha : a + n ≤ S) (hl : a + n = l + 1) :
    Calls Tryz.prog 81 #[.pointer (some ⟨sb, 0, none⟩), .int .u64 (a : Int), .int .u64 (n : Int)] w (GetsL w g a n) := by
  obtain ⟨m2, hm2, c0, c1, c2, f1, f2⟩ := h.cells
  have hS := h.good.le
  obtain ⟨D, hown, hD⟩ := h.words
  obtain ⟨lt1, lt2⟩ := h.lt
  have hsz := h.good.size_le hD (hown.canon lawU)
  have hx : (a : Int) + (n : Int) - 1 = (l : Int) := by omega
  have C0 := Cap.start w a l ((a : Int) + (n : Int) - 1) hx
  generalize hx2 : (a : Int) + (n : Int) - 1 = x at C0
  have cW := (C0.below.cell (p := ⟨sb, 1, none⟩) lt1).trans c1
  have hoW : (((w.alloc (.cells #[.int .u64 (a : Int)] 26)).alloc (.cells #[.slice none 0 0] 130)).alloc (.cells #[.int .u64 x] 26)).ownsMap Tryz.prog 26 (plainElem Tryz.prog 26) bm (Maps.size D) D := ((hown.alloc _).alloc _).alloc _
  have hlW := fun ty => hoW.len Tryz.underlying96 ty
  have MC := fun k => Lib.hid (mask_cut h.good.lt a n k hn)
  have ML : a + n - 1 = l := by omega
  rw [ML] at MC
  have HX := Lib.hid hx
  clear hx ML
  by_cases q : (n : Int) / 8 < (Maps.size D : Int)
  · go_enter Tryz.func81, Tryz.ntmps81
    go_wp2_with (go_at_call 115; refine (wordOf_any _ (by omega) (by omega) _).mono ?_; rintro e w' ⟨rfl, rfl⟩)
    have gt := h.good.lt
    clear hlW hx2
    go_loopw [10] (fun i wr => ∃ k : Nat, i = .int .u64 (k : Int) ∧ k % 8 = 0 ∧ k ≤ l + 8 ∧ ∃ P, Cap w wr w.heap.size (w.heap.size + 1 + 1) (w.heap.size + 1) a l P ∧ Some g a n (fun y => y < k) P) (fun i _ => l + 9 - (intOf i).toNat)
    case atStart =>
      exact ⟨a - a % 8, congrArg (Value.int .u64) (by omega), by omega, by omega, [], C0, Some.nil (fun k h1 h2 => by have := (cut_word gt h2).1; omega)⟩
    case round =>
      obtain ⟨k, rfl, hk8, hkl, P, C, hP⟩ := hrel
      have d1 := cell_of_one C.cl
      have d2 := (C.below.cell (p := ⟨sb, 1, none⟩) lt1).trans c1
      by_cases hlt : (k : Int) ≤ (l : Int)
      · have hlook := (h.words.same (C.below.block bm lt2)).look (k : Int) (by omega) (by omega) (by omega)
        have hPl := hP.few h.good
        have wl := word_lt g gt k
        go_wp2_with (go_at_call 113; refine (piece_any w _ _ _ _ a l P C k (word g k) (by omega) (by omega) (by omega) wl (by omega)).mono ?_; rintro e w' ⟨rfl, C2, _⟩)
        go_roundw
        case rel =>
          rw [(MC k).out] at C2
          exact ⟨k + 8, by go_num, by omega, by omega, _, C2, hP.add k hk8 (by omega) (fun k' h8 => by omega)⟩
        case measure => simp [intOf]; omega
      · obtain ⟨v, cv, ho⟩ := C.cv
        obtain ⟨ao, cap, rfl⟩ := own_shape ho
        have d3 := cell_of_one cv
        go_wp2
        go_ret
        exact ⟨_, P, rfl, ⟨ho, C.below⟩, hP.cong (fun k' h1 h2 => ⟨fun _ => trivial, fun _ => by have := (cut_word gt h2).2.1; omega⟩)⟩
  · have e1 : (((w.alloc (.cells #[.int .u64 (a : Int)] 26)).alloc (.cells #[.slice none 0 0] 130)).alloc (.cells #[.int .u64 x] 26)).heap.size = w.heap.size + 1 + 1 + 1 := by simp
    have gt := h.good.lt
    go_enter Tryz.func81, Tryz.ntmps81
    go_wp2_with (first | (at_range; refine wpList_range_own _ rfl _ 96 rfl 26 26 lawU Tryz.underlying96 _ bm _ _ rfl hoW ?_; intro w0 hrg0 hg0 hs0) | go_in)
    rw [e1] at hrg0 hs0
    clear hlW hx2 cW
    have C1 := C0.keep hg0 (fun j hj => by cases hj)
    go_loopw [11] (fun _ wr => ∃ (left : Lit → Bool) (cnt : Nat) (P : List (Nat × Nat)), wr.ranges Tryz.prog 26 (plainElem Tryz.prog 26) bm (w.heap.size + 1 + 1 + 1) (Maps.size D) D left cnt ∧ Cap w wr w.heap.size (w.heap.size + 1 + 1) (w.heap.size + 1) a l P ∧ Some g a n (fun y => left (key y) = false) P)
      (fun _ wr => wr.rangeLeft bm (w.heap.size + 1 + 1 + 1))
    case atStart =>
      exact ⟨_, _, [], hrg0, C1, Some.nil (fun k h1 h2 h3 => by rw [hD.nz k h1 (cut_word gt h2).2.2] at h3; cases h3)⟩
    case round =>
      obtain ⟨left, cnt, P, hrg, C, hP⟩ := hrel
      go_wp2_with (first
        | (at_next; refine wpList_next_ranges_ii _ rfl _ rfl 26 26 .u64 .u64 lawU Tryz.underlying26 Tryz.underlying26 bm (w.heap.size + 1 + 1 + 1) _ _ _ _ rfl hrg ?_ ?_)
        | go_in)
      · intro hc0 hl0
        obtain ⟨v, cv, ho⟩ := C.cv
        obtain ⟨ao, cap, rfl⟩ := own_shape ho
        have d3 := cell_of_one cv
        go_wp2
        go_ret
        exact ⟨_, P, rfl, ⟨ho, C.below⟩, hP.cong (fun k' h1 h2 => ⟨fun _ => trivial, fun _ => hl0 _⟩)⟩
      · intro y c w1 cnt1 hwx hwc hlx hat hrg1 hlt hg1 hs1 hen
        obtain ⟨k, hk8, hkey, hk0⟩ := hD.has_ _ (has_true_of_atKey hat)
        obtain rfl : y = (k : Int) := by injection hkey
        obtain rfl : c = ((word g k : Nat) : Int) := by
          have := (hat (elt 0)).symm.trans (hD.at_ k hk8)
          injection this with this; injection this
        have hks := h.good.word_in hk0
        have C2 := C.keep hg1 (fun j hj => by cases hj; exact ⟨by omega, ranges_iter hrg⟩)
        have hPl := hP.few h.good
        have wl := word_lt g gt k
        go_wp2_with (go_at_call 113; refine (piece_any w _ _ _ _ a l P C2 k (word g k) (by omega) (by omega) (by omega) wl (by omega)).mono ?_; rintro e w' ⟨rfl, C3, S3⟩)
        have hrg2 := ranges_still hrg1 S3
        rw [(MC k).out] at C3
        go_roundw
        case rel =>
          refine ⟨_, cnt1, _, hrg2, C3, hP.add k hk8 (by rw [hlx]; decide) (fun k' _ => ?_)⟩
          show (left (key k') && !(key k').sameKey (key k)) = false ↔ _
          by_cases e : k' = k
          · subst e; rw [WideAt.sameKey_self keyLit]; simp
          · rw [sameKey_ne (key_ne e)]; simp [e]
        case measure => rw [hrg2.left_eq, hrg.left_eq]; exact hlt
end Go.Proofs.YtnbdoemnepfhdaaGreat.Mem

