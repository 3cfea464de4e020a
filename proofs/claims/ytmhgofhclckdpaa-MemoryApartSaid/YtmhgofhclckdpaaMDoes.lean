/-
  A memory and the document's, side by side in a deed's call, and what each step does to them. Conditions: none.
-/
import Derived.Test.YtmhgofhclckdpaaMBCp
namespace Go.Proofs.Ytmhgofhclckdpaa.Mem
open Go.ChangeShapes Go.WideShapes Go.ChangeAt Go.RowKit Go.Maps
set_option maxHeartbeats 400000
/-- The document's list stays while a memory is turned. -/
theorem HasL.turn {w w' : World} {sb bm S : Nat} {g gl : Nat → Nat} {v : Value} (h : HasL w S gl v) (d : MemAt w sb bm S g) (t : Turn w w' sb bm) : HasL w' S gl v := by
  obtain ⟨ao, cap, l, rfl, ho, h3⟩ := h
  refine ⟨ao, cap, l, rfl, ⟨ho.1, ?_⟩, h3⟩
  rcases ho.2 with hn | ⟨gb, c, cur, hv, hb, hg, rest⟩
  · exact .inl hn
  · refine .inr ⟨gb, c, cur, hv, hb, ?_, rest⟩
    rw [t.block gb (lt_of_block hg) (fun e => by
      obtain ⟨m, _, hr⟩ := d.row
      rw [← e, hg] at hr; simp at hr) (fun e => by
      obtain ⟨D, ⟨es, clock, hb2, _⟩, _⟩ := d.words
      rw [← e, hg] at hb2; cases hb2)]
    exact hg
theorem cells_turn {w w' : World} {sb bm S i : Nat} {g : Nat → Nat} {c : Array Value} {e : TypeId} (hi : w.heap[i]? = some (.cells c e (0, 0))) (hne : i ≠ sb) (d : MemAt w sb bm S g) (t : Turn w w' sb bm) : w'.heap[i]? = some (.cells c e (0, 0)) := by
  rw [t.block i (lt_of_block hi) hne (fun e1 => by
    obtain ⟨D, ⟨es, clock, hb2, _⟩, _⟩ := d.words
    rw [← e1, hi] at hb2; cases hb2)]
  exact hi
/-- Since w: the memory (bytes g), the document's (bytes gl, list v), boxed, and the deed. -/
structure DW (w wr : World) (sb bm S : Nat) (g gl : Nat → Nat) (v : Value) (D : Array Value) : Prop where
  mem : MemTo w wr sb bm S g
  l : HasL wr S gl v
  m : wr.heap[w.heap.size]? = some (.cells #[.int .u64 (S : Int), v] 35 (0, 0))
  d : wr.heap[w.heap.size + 1]? = some (.cells D 50 (0, 0))
  lt : sb < w.heap.size
variable {w wr w2 : World} {sb bm S : Nat} {g g' gl gl' : Nat → Nat} {v v2 : Value} {D : Array Value}
theorem DW.base (h : DW w wr sb bm S g gl v D) : w.heap.size ≤ wr.heap.size := by obtain ⟨_, _, _, t⟩ := h.mem; exact t.size
theorem DW.below (h : DW w wr sb bm S g gl v D) (hb : Below wr.heap.size wr w2) : DW w w2 sb bm S g gl v D := by
  obtain ⟨bmi, M, b, t⟩ := h.mem
  exact ⟨⟨bmi, M.same (hb.block _ M.lt.1) (hb.block _ M.lt.2), b, t.below hb⟩, h.l.below hb, (hb.block _ (lt_of_block h.m)).trans h.m, (hb.block _ (lt_of_block h.d)).trans h.d, h.lt⟩
theorem DW.drewN (h : DW w wr sb bm S g gl v D) (n : Nat) : DW w (wr.drewN n) sb bm S g gl v D := h.below ⟨rfl, rfl, rfl, Nat.le_refl _, fun _ _ => rfl⟩
theorem DW.drew (h : DW w wr sb bm S g gl v D) : DW w wr.drew sb bm S g gl v D := h.drewN 1
theorem DW.call {f : Nat} {args : Array Value} {E : Ending} (h : DW w wr sb bm S g gl v D) (C : ∀ bmi, MemAt wr sb bmi S g → Calls Try.prog f args wr fun e w' => e = E ∧ MemTo wr w' sb bmi S g') :
    Calls Try.prog f args wr fun e w' => e = E ∧ DW w w' sb bm S g' gl v D := by
  obtain ⟨bmi, M, b, t⟩ := h.mem
  refine (C bmi M).mono ?_
  rintro e w' ⟨rfl, M2⟩
  refine ⟨rfl, ⟨M2.trans b t, ?_, ?_, ?_, h.lt⟩⟩
  all_goals
    obtain ⟨_, _, _, t2⟩ := M2
    have hl := h.lt
  · exact h.l.turn M t2
  · exact cells_turn h.m (by omega) M t2
  · exact cells_turn h.d (by omega) M t2
theorem DW.read {f : Nat} {args : Array Value} {E : Ending} (h : DW w wr sb bm S g gl v D) (C : ∀ bmi, MemAt wr sb bmi S g → Calls Try.prog f args wr fun e w' => e = E ∧ ∃ n, w' = wr.drewN n) :
    Calls Try.prog f args wr fun e w' => e = E ∧ DW w w' sb bm S g gl v D := by
  obtain ⟨bmi, M, b, t⟩ := h.mem
  refine (C bmi M).mono ?_
  rintro e w' ⟨rfl, n, rfl⟩
  exact ⟨rfl, h.drewN n⟩
theorem DW.ref {f : Nat} {args : Array Value} {E : Ending} (h : DW w wr sb bm S g gl v D) (C : HasL wr S gl v → Calls Try.prog f args wr fun e w' => e = E ∧ Below wr.heap.size wr w') :
    Calls Try.prog f args wr fun e w' => e = E ∧ DW w w' sb bm S g gl v D := by
  refine (C h.l).mono ?_
  rintro e w' ⟨rfl, hb⟩
  exact ⟨rfl, h.below hb⟩
/-- A new document's memory is stored over the boxed one. -/
theorem DW.put (h : DW w w2 sb bm S g gl v D) (hl : HasL w2 S gl' v2) : DW w ((w2.setCell ⟨w.heap.size, 0, none⟩ (.int .u64 (S : Int))).setCell ⟨w.heap.size, 1, none⟩ v2) sb bm S g gl' v2 D := by
  obtain ⟨st1, st2⟩ := hl.store h.m
  obtain ⟨bmi, M, b, t⟩ := h.mem
  have hlt := h.lt
  have nb : bmi ≠ w.heap.size := fun e => by
    obtain ⟨D, ⟨es, clock, hb2, _⟩, _⟩ := M.words
    rw [e, h.m] at hb2; cases hb2
  refine ⟨⟨bmi, M.same ?_ ?_, b, (t.setCell _ (.inr (.inr (Nat.le_refl _))) _).setCell _ (.inr (.inr (Nat.le_refl _))) _⟩, st2, st1, ?_, hlt⟩
  · rw [Below.heap_setCell _ _ _ _ (by simp; omega), Below.heap_setCell _ _ _ _ (by simp; omega)]
  · rw [Below.heap_setCell _ _ _ _ nb, Below.heap_setCell _ _ _ _ nb]
  · rw [Below.heap_setCell _ _ _ _ (by simp), Below.heap_setCell _ _ _ _ (by simp)]; exact h.d
/-- What is stored into the result's place touches nothing of it. -/
theorem DW.res (h : DW w w2 sb bm S g gl v D) (o : Nat) (u : Value) {c : Array Value} (hr : w2.heap[w.heap.size + 1 + 1]? = some (.cells c 35 (0, 0))) : DW w (w2.setCell ⟨w.heap.size + 1 + 1, o, none⟩ u) sb bm S g gl v D := by
  obtain ⟨bmi, M, b, t⟩ := h.mem
  have hlt := h.lt
  have nb : bmi ≠ w.heap.size + 1 + 1 := fun e => by
    obtain ⟨D, ⟨es, clock, hb2, _⟩, _⟩ := M.words
    rw [e, hr] at hb2; cases hb2
  exact ⟨⟨bmi, M.same (Below.heap_setCell _ _ _ _ (by simp; omega)) (Below.heap_setCell _ _ _ _ nb), b, t.setCell _ (.inr (.inr (by simp; omega))) _⟩, h.l.set hr,
    (Below.heap_setCell _ _ _ _ (by simp; omega)).trans h.m, (Below.heap_setCell _ _ _ _ (by simp)).trans h.d, hlt⟩
theorem DW.cells {k a x y : Value} (h : DW w wr sb bm S g gl v #[k, a, x, y]) : wr.cell? ⟨w.heap.size, 0, none⟩ = some (.int .u64 (S : Int)) ∧ wr.cell? ⟨w.heap.size, 1, none⟩ = some v ∧ wr.cell? ⟨w.heap.size + 1, 0, none⟩ = some k ∧ wr.cell? ⟨w.heap.size + 1, 1, none⟩ = some a ∧ wr.cell? ⟨w.heap.size + 1, 2, none⟩ = some x ∧ wr.cell? ⟨w.heap.size + 1, 3, none⟩ = some y :=
  ⟨by simp [World.cell?, h.m], by simp [World.cell?, h.m], by simp [World.cell?, h.d], by simp [World.cell?, h.d], by simp [World.cell?, h.d], by simp [World.cell?, h.d]⟩
theorem DW.free (h : DW w wr sb bm S g gl v D) : wr.frozen? ⟨w.heap.size, 0, none⟩ = false ∧ wr.frozen? ⟨w.heap.size, 1, none⟩ = false :=
  ⟨by simp [World.frozen?, h.m], by simp [World.frozen?, h.m]⟩
/-- The boxes of a deed's call. -/
theorem DW.start (h : MemAt w sb bm S g) (hl : HasL w S g v) (D : Array Value) : DW w ((w.alloc (.cells #[.int .u64 (S : Int), v] 35)).alloc (.cells D 50)) sb bm S g g v D := by
  have bl : Below w.heap.size w ((w.alloc (.cells #[.int .u64 (S : Int), v] 35)).alloc (.cells D 50)) := ((Below.refl _ _).alloc (Nat.le_refl _) _).alloc (by simp) _
  refine ⟨⟨bm, h.same (bl.block _ h.lt.1) (bl.block _ h.lt.2), .inl rfl, (Turn.refl w sb bm).below bl⟩, hl.below bl, ?_, ?_, h.lt.1⟩
  · rw [Below.heap_alloc _ _ _ (by simp)]; exact heap_alloc_new _ _
  · have := heap_alloc_new (w.alloc (.cells #[.int .u64 (S : Int), v] 35)) (.cells D 50)
    simpa using this
end Go.Proofs.Ytmhgofhclckdpaa.Mem
