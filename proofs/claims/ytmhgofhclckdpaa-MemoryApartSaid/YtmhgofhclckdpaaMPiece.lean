/-
  Contract of the function literal of pieces of package memory: it adds the word's bits in range to the list, if there are any. Conditions: words are below 2 to the 64, addresses below 2 to the 42.
-/
import Derived.Test.YtmhgofhclckdpaaMHas
import Derived.OneCell
import Derived.Maps.AppendAt
namespace Go.Proofs.Ytmhgofhclckdpaa.Mem
open Go.ChangeShapes Go.WideShapes Go.ChangeAt Go.RowKit Go.Maps
set_option maxHeartbeats 400000
theorem infoP : (Try.prog.info? 62).map (fun i => (i.zero, i.size, i.bytes)) = some (some (.agg #[.int .u64 0, .int .u64 0]), 2, 16) := by kernel_rfl
/-- The cells of pieces. -/
def flat : List (Nat × Nat) → List Value
  | [] => []
  | p :: r => .int .u64 (p.1 : Int) :: .int .u64 (p.2 : Int) :: flat r
theorem flat_append (P Q : List (Nat × Nat)) : flat (P ++ Q) = flat P ++ flat Q := by
  induction P with
  | nil => rfl
  | cons p r ih => simp [flat, ih]
/-- The pieces P, and the one of b at k, if that is not 0. -/
def addP (P : List (Nat × Nat)) (k b : Nat) : List (Nat × Nat) := if b = 0 then P else P ++ [(k, b)]
/-- What the function literal has captured: from w0 on a, l and the list are new. -/
structure Cap (w0 w : World) (ab lb vb a l : Nat) (P : List (Nat × Nat)) : Prop where
  below : Below w0.heap.size w0 w
  ca : w.heap[ab]? = some (.cells #[.int .u64 (a : Int)] 22 (0, 0))
  cl : w.heap[lb]? = some (.cells #[.int .u64 (l : Int)] 22 (0, 0))
  cv : ∃ v, w.heap[vb]? = some (.cells #[v] 59 (0, 0)) ∧ w.ownsRow w0.heap.size 62 2 v P.length (flat P)
  hv : w0.heap.size ≤ vb
/-- What is no row of cells stays. -/
def Still (w w' : World) : Prop := ∀ (i : Nat) (o : Obj), w.heap[i]? = some o → (∀ c e f, o ≠ Obj.cells c e f) → w'.heap[i]? = some o
theorem Still.refl (w : World) : Still w w := fun _ _ h _ => h
theorem cell_two_new (w : World) (x y : Value) (t : TypeId) : ∀ j u, [x, y][j]? = some u → (w.alloc (.cells #[x, y] t)).cell? ((⟨w.heap.size, 0, none⟩ : Addr).add j) = some u := by
  intro j u hj
  match j, hj with
  | 0, hj => simp at hj; subst hj; exact (World.cell?_alloc_mark w #[x, y] t (0, 0) 0).trans rfl
  | 1, hj => simp at hj; subst hj; exact (World.cell?_alloc_mark w #[x, y] t (0, 0) 1).trans rfl
theorem piece_zero (w0 w : World) (ab lb vb a l : Nat) (P : List (Nat × Nat)) (h : Cap w0 w ab lb vb a l P) (k x : Nat) (hk : k < 4398046511104) (ha : a < 4398046511104) (hl : l < 4398046511104) (hx : x < 18446744073709551616) (hz : x &&& maskW a l k = 0) :
    Calls Try.prog 34 #[.int .u64 (k : Int), .int .u64 (x : Int), .pointer (some ⟨ab, 0, none⟩), .pointer (some ⟨lb, 0, none⟩), .pointer (some ⟨vb, 0, none⟩)] w fun e w' => e = .returned (.tuple #[]) ∧ Cap w0 w' ab lb vb a l (addP P k (x &&& maskW a l k)) ∧ Still w w' := by
  have c1 := cell_of_one h.ca
  have c2 := cell_of_one h.cl
  have B := bits_and_u64_nat x (maskW a l k) hx (mask_lt a l k)
  rw [hz] at B
  go_enter Try.func34, Try.ntmps34
  go_wp2_with (go_at_call 35; refine (within_any _ _ _ (by omega) (by omega) (by omega) (by omega) (by omega) (by omega) _).mono ?_; rintro e w' ⟨rfl, rfl⟩)
  go_end0
  exact ⟨rfl, by unfold addP; rw [if_pos hz]; exact h, Still.refl _⟩
theorem own_shape {w : World} {B : Nat} {e : TypeId} {z : Nat} {v : Value} {n : Nat} {xs : List Value} (h : w.ownsRow B e z v n xs) : ∃ ao cap, v = .slice ao n cap := by
  rcases h.2 with ⟨rfl, rfl⟩ | ⟨g, cap, cur, rfl, _⟩
  · exact ⟨none, 0, rfl⟩
  · exact ⟨_, _, rfl⟩
theorem two_one (x y : Int) : ∀ u ∈ [Value.int .u64 x, Value.int .u64 y], u.oneCell' = true := by
  intro u hu; simp at hu; rcases hu with rfl | rfl <;> rfl
theorem own_ne {w : World} {B e z n b t : Nat} {v : Value} {xs : List Value} {c : Array Value} (ho : w.ownsRow B e z v n xs) (hb : w.heap[b]? = some (.cells c t (0, 0))) (hne : t ≠ e) : v.ownBlock ≠ some b := by
  intro e1
  rcases ho.2 with ⟨rfl, _⟩ | ⟨g, cap, cur, rfl, _, hg, _⟩
  · cases e1
  · simp [Value.ownBlock] at e1; subst e1; rw [hb] at hg; simp at hg; exact hne hg.2
theorem own_ne' {w : World} {B e z n b : Nat} {v : Value} {xs : List Value} {o : Obj} (ho : w.ownsRow B e z v n xs) (hb : w.heap[b]? = some o) (hne : ∀ c e f, o ≠ Obj.cells c e f) : v.ownBlock ≠ some b := by
  intro e1
  rcases ho.2 with ⟨rfl, _⟩ | ⟨g, cap, cur, rfl, _, hg, _⟩
  · cases e1
  · simp [Value.ownBlock] at e1; subst e1; rw [hb] at hg; cases hg; exact hne _ _ _ rfl
theorem flat_one (P : List (Nat × Nat)) (k b : Nat) : flat (P ++ [(k, b)]) = flat P ++ [.int .u64 (k : Int), .int .u64 (b : Int)] := flat_append P [(k, b)]
theorem piece_some (w0 w : World) (ab lb vb a l : Nat) (P : List (Nat × Nat)) (h : Cap w0 w ab lb vb a l P) (k x : Nat) (hk : k < 4398046511104) (ha : a < 4398046511104) (hl : l < 4398046511104) (hx : x < 18446744073709551616) (hz : x &&& maskW a l k ≠ 0) (hP : P.length ≤ 549755813888) :
    Calls Try.prog 34 #[.int .u64 (k : Int), .int .u64 (x : Int), .pointer (some ⟨ab, 0, none⟩), .pointer (some ⟨lb, 0, none⟩), .pointer (some ⟨vb, 0, none⟩)] w fun e w' => e = .returned (.tuple #[]) ∧ Cap w0 w' ab lb vb a l (addP P k (x &&& maskW a l k)) ∧ Still w w' := by
  obtain ⟨v, cv, ho⟩ := h.cv
  have hv0 := h.hv
  have hb0 := h.below.size
  have c1 := cell_of_one h.ca
  have c2 := cell_of_one h.cl
  have c3 := cell_of_one cv
  have f3 := free_of_one cv
  have lv := lt_of_block cv
  have B := bits_and_u64_nat x (maskW a l k) hx (mask_lt a l k)
  have yl : x &&& maskW a l k < 18446744073709551616 := Nat.lt_of_le_of_lt Nat.and_le_left hx
  have HA := Lib.hid (show addP P k (x &&& maskW a l k) = P ++ [(k, x &&& maskW a l k)] by unfold addP; rw [if_neg hz])
  obtain ⟨i0, hi, hz0, hz1, hz2⟩ := info_parts infoP
  generalize x &&& maskW a l k = y at B yl HA hz
  have hy : ((y : Int) == 0) = false := by simpa using hz
  have hy2 : ((y : Int) != 0) = true := by simpa using hz
  go_enter Try.func34, Try.ntmps34
  go_wp2_with (first | (go_at_call 35; refine (within_any _ _ _ (by omega) (by omega) (by omega) (by omega) (by omega) (by omega) _).mono ?_; rintro e w' ⟨rfl, rfl⟩) | (at_builtin; refine wpList_append_own_at _ rfl _ _ 59 rfl w0.heap.size 62 i0 (.agg #[.int .u64 0, .int .u64 0]) 2 16 Try.underlying59 hi hz0 hz1 hz2 rfl (by decide) v _ _ rfl (ho.alloc _) ⟨w.heap.size, 0, none⟩ 1 1 [.int .u64 (k : Int), .int .u64 (y : Int)] rfl rfl (cell_two_new _ _ _ _) (two_one _ _) (by unfold maxLen; omega) (by omega) (by simp; omega) ?_; intro v' w1 ho1 hg1 hn1 hat1; obtain ⟨ao, cap, rfl⟩ := own_shape ho1; have k3 := (hg1.block vb (by simp; omega) (own_ne ho cv (by decide)).symm).trans ((Below.heap_alloc _ _ _ lv).trans cv); have d3 := cell_of_one k3; have d4 := free_of_one k3))
  go_end0
  rw [HA.out]
  have hsz := hg1.size
  simp at hsz
  have hrow : ∀ j, v.ownBlock = some j → w0.heap.size ≤ j ∧ j < w.heap.size := ho.lt
  have hnb : ∀ (i : Nat) (o : Obj), w.heap[i]? = some o → i ≠ vb → v.ownBlock ≠ some i → (w1.setCell ⟨vb, 0, none⟩ (Value.slice ao (P.length + 1) cap)).heap[i]? = some o := fun i o hi1 h1 h2 => by
    have li := lt_of_block hi1
    rw [Below.heap_setCell _ _ _ _ h1, hg1.block i (by simp; omega) h2.symm, Below.heap_alloc _ _ _ li]; exact hi1
  refine ⟨rfl, ⟨⟨?_, ?_, ?_, ?_, ?_⟩, ?_, ?_, ⟨Value.slice ao (P.length + 1) cap, one_setCell k3, ?_⟩, hv0⟩, ?_⟩
  · exact hg1.os.trans h.below.os
  · exact hg1.tape.trans h.below.tape
  · exact hg1.output.trans h.below.output
  · simp [World.setCell]; omega
  · intro i hi1
    have li : i < w.heap.size := by omega
    rw [Below.heap_setCell _ _ _ _ (by simp; omega), hg1.block i (by simp; omega) (fun e => by have := hrow i e.symm; omega), Below.heap_alloc _ _ _ li]
    exact h.below.block i hi1
  · exact hnb ab _ h.ca (fun e => by rw [e] at h; have := h.ca.symm.trans cv; simp at this) (own_ne ho h.ca (by decide))
  · exact hnb lb _ h.cl (fun e => by rw [e] at h; have := h.cl.symm.trans cv; simp at this) (own_ne ho h.cl (by decide))
  · rw [flat_one, List.length_append]
    exact ownsRow_setCell_other ho1 (fun e => by
      rcases hat1 with h1 | h1
      · rw [h1] at e; exact own_ne ho cv (by decide) e
      · rw [h1] at e; simp at e; omega) _
  · exact fun i o hi1 hno => hnb i o hi1 (fun e => by subst e; rw [cv] at hi1; cases hi1; exact hno _ _ _ rfl) (own_ne' ho hi1 hno)
theorem piece_any (w0 w : World) (ab lb vb a l : Nat) (P : List (Nat × Nat)) (h : Cap w0 w ab lb vb a l P) (k x : Nat) (hk : k < 4398046511104) (ha : a < 4398046511104) (hl : l < 4398046511104) (hx : x < 18446744073709551616) (hP : P.length ≤ 549755813888) :
    Calls Try.prog 34 #[.int .u64 (k : Int), .int .u64 (x : Int), .pointer (some ⟨ab, 0, none⟩), .pointer (some ⟨lb, 0, none⟩), .pointer (some ⟨vb, 0, none⟩)] w fun e w' => e = .returned (.tuple #[]) ∧ Cap w0 w' ab lb vb a l (addP P k (x &&& maskW a l k)) ∧ Still w w' := by
  by_cases hz : x &&& maskW a l k = 0
  · exact piece_zero w0 w ab lb vb a l P h k x hk ha hl hx hz
  · exact piece_some w0 w ab lb vb a l P h k x hk ha hl hx hz hP
end Go.Proofs.Ytmhgofhclckdpaa.Mem
