/-
  Two memories and the document's of the first, side by side: what a deed, and a clearing, do to them. Conditions: none.
-/
import Derived.Test.YtmhgofhclckdpaaMDeedAll
namespace Go.Proofs.Ytmhgofhclckdpaa.Mem
open Go.ChangeShapes Go.WideShapes Go.ChangeAt Go.RowKit Go.Maps
set_option maxHeartbeats 400000
/-- Since W: a memory at sa with the bytes g, an empty one at sc, and the document's of the first, boxed at rb. -/
structure AP (W wr : World) (sa sc bc rb : Nat) (g : Nat → Nat) (v : Value) : Prop where
  below : Below W.heap.size W wr
  a : ∃ ba, MemAt wr sa ba 1000 g ∧ W.heap.size ≤ ba ∧ ba ≠ bc
  b : MemAt wr sc bc 1000 (fun _ => 0)
  r : wr.heap[rb]? = some (.cells #[.int .u64 1000, v] 35 (0, 0))
  l : HasL wr 1000 g v
  ne : sa ≠ sc ∧ rb ≠ sa ∧ rb ≠ sc ∧ W.heap.size ≤ sa ∧ W.heap.size ≤ rb
variable {W wr w2 : World} {sa sc bc rb : Nat} {g g' : Nat → Nat} {v v' : Value}
theorem AP.call (h : AP W wr sa sc bc rb g v) (hb : Below wr.heap.size wr w2) : AP W w2 sa sc bc rb g v := by
  obtain ⟨ba, M, b1, b2⟩ := h.a
  exact ⟨h.below.trans (hb.mono h.below.size), ⟨ba, M.same (hb.block _ M.lt.1) (hb.block _ M.lt.2), b1, b2⟩, h.b.same (hb.block _ h.b.lt.1) (hb.block _ h.b.lt.2), (hb.block _ (lt_of_block h.r)).trans h.r, h.l.below hb, h.ne⟩
theorem AP.drew (h : AP W wr sa sc bc rb g v) : AP W wr.drew sa sc bc rb g v := h.call ⟨rfl, rfl, rfl, Nat.le_refl _, fun _ _ => rfl⟩
/-- The first memory is turned; the document's of it is another list, not yet boxed. -/
structure AQ (W wr : World) (sa sc bc rb : Nat) (g : Nat → Nat) (v v' : Value) : Prop where
  below : Below W.heap.size W wr
  a : ∃ ba, MemAt wr sa ba 1000 g ∧ W.heap.size ≤ ba ∧ ba ≠ bc
  b : MemAt wr sc bc 1000 (fun _ => 0)
  r : wr.heap[rb]? = some (.cells #[.int .u64 1000, v] 35 (0, 0))
  l : HasL wr 1000 g v'
  ne : sa ≠ sc ∧ rb ≠ sa ∧ rb ≠ sc ∧ W.heap.size ≤ sa ∧ W.heap.size ≤ rb
theorem AQ.call (h : AQ W wr sa sc bc rb g v v') (hb : Below wr.heap.size wr w2) : AQ W w2 sa sc bc rb g v v' := by
  obtain ⟨ba, M, b1, b2⟩ := h.a
  exact ⟨h.below.trans (hb.mono h.below.size), ⟨ba, M.same (hb.block _ M.lt.1) (hb.block _ M.lt.2), b1, b2⟩, h.b.same (hb.block _ h.b.lt.1) (hb.block _ h.b.lt.2), (hb.block _ (lt_of_block h.r)).trans h.r, h.l.below hb, h.ne⟩
theorem AP.to {ba : Nat} (h : AP W wr sa sc bc rb g v) (M : MemAt wr sa ba 1000 g) (b1 : W.heap.size ≤ ba) (b2 : ba ≠ bc) (k : MemTo wr w2 sa ba 1000 g') (hl : HasL w2 1000 g' v') : AQ W w2 sa sc bc rb g' v v' := by
  obtain ⟨ba', M2, c, t⟩ := k
  obtain ⟨n1, n2, n3, n4, n5⟩ := h.ne
  have hb := h.below.size
  have lb := h.b.lt
  have k1 : sc ≠ ba := fun e => by
    obtain ⟨m, _, hr⟩ := h.b.row
    obtain ⟨D, ⟨es, clock, hb2, _⟩, _⟩ := M.words
    rw [← e, hr] at hb2; cases hb2
  have k2 : bc ≠ sa := fun e => by
    obtain ⟨m, _, hr⟩ := M.row
    obtain ⟨D, ⟨es, clock, hb2, _⟩, _⟩ := h.b.words
    rw [e, hr] at hb2; cases hb2
  refine ⟨⟨t.os.trans h.below.os, t.tape.trans h.below.tape, t.output.trans h.below.output, Nat.le_trans hb t.size, fun i hi => ?_⟩, ⟨ba', M2, by omega, by omega⟩, h.b.same (t.block _ lb.1 (fun e => n1 e.symm) k1) (t.block _ lb.2 k2 b2.symm), cells_turn h.r n2 M t, hl, h.ne⟩
  rw [t.block i (by omega) (by omega) (by omega)]; exact h.below.block i hi
theorem AP.deed (h : AP W wr sa sc bc rb g v) (k a x y : Int) (a0 : 0 ≤ a) (a1 : a < 18446744073709551616) (x0 : 0 ≤ x) (x1 : x < 18446744073709551616) (y0 : 0 ≤ y) (y1 : y < 18446744073709551616) :
    Calls Try.prog 19 #[.pointer (some ⟨sa, 0, none⟩), .agg #[.int .u64 1000, v], .agg #[.int .i64 k, .int .u64 a, .int .u64 x, .int .u64 y]] wr fun e w' => ∃ g' ao n cap, e = .returned (.tuple #[.agg #[.int .u64 1000, .slice ao n cap], .bool true]) ∧ AQ W w' sa sc bc rb g' v (.slice ao n cap) ∧ ∀ (i : Nat) (c : Array Value) (t : TypeId), wr.heap[i]? = some (.cells c t (0, 0)) → i ≠ sa → w'.heap[i]? = some (.cells c t (0, 0)) := by
  obtain ⟨ba, M, b1, b2⟩ := h.a
  refine (does_any sa ba 1000 g k a x y v wr M h.l a0 a1 x0 x1 y0 y1).mono ?_
  rintro e w' ⟨g', v', rfl, k, hl⟩
  obtain ⟨ao, n, cap, rfl⟩ := hl.shape
  refine ⟨g', ao, n, cap, rfl, h.to M b1 b2 k hl, fun i c t hi hne => ?_⟩
  obtain ⟨_, _, _, tn⟩ := k
  exact cells_turn hi hne M tn
/-- The list is boxed. -/
theorem AQ.put (h : AQ W wr sa sc bc rb g v v') : AP W ((wr.setCell ⟨rb, 0, none⟩ (.int .u64 1000)).setCell ⟨rb, 1, none⟩ v') sa sc bc rb g v' := by
  obtain ⟨st1, st2⟩ := h.l.store h.r
  obtain ⟨n1, n2, n3, n4, n5⟩ := h.ne
  obtain ⟨ba, M, b1, b2⟩ := h.a
  have nb : ∀ {s m S : Nat} {g : Nat → Nat}, MemAt wr s m S g → m ≠ rb := fun {s m S g} M e => by
    obtain ⟨D, ⟨es, clock, hb2, _⟩, _⟩ := M.words
    rw [e, h.r] at hb2; cases hb2
  have far : ∀ i, i ≠ rb → ((wr.setCell ⟨rb, 0, none⟩ (.int .u64 1000)).setCell ⟨rb, 1, none⟩ v').heap[i]? = wr.heap[i]? := fun i hi => by
    rw [Below.heap_setCell _ _ _ _ hi, Below.heap_setCell _ _ _ _ hi]
  exact ⟨(h.below.setCell n5 _).setCell n5 _, ⟨ba, M.same (far _ n2.symm) (far _ (nb M)), b1, b2⟩, h.b.same (far _ n3.symm) (far _ (nb h.b)), st1, st2, h.ne⟩
theorem AP.cells (h : AP W wr sa sc bc rb g v) : wr.cell? ⟨rb, 0, none⟩ = some (.int .u64 1000) ∧ wr.cell? ⟨rb, 1, none⟩ = some v := ⟨by simp [World.cell?, h.r], by simp [World.cell?, h.r]⟩
theorem AQ.cells (h : AQ W wr sa sc bc rb g v v') : wr.cell? ⟨rb, 0, none⟩ = some (.int .u64 1000) ∧ wr.cell? ⟨rb, 1, none⟩ = some v ∧ wr.frozen? ⟨rb, 0, none⟩ = false ∧ wr.frozen? ⟨rb, 1, none⟩ = false :=
  ⟨by simp [World.cell?, h.r], by simp [World.cell?, h.r], by simp [World.frozen?, h.r], by simp [World.frozen?, h.r]⟩
theorem none_support (k : Nat) : k ∈ ([] : List Nat) ↔ k % 8 = 0 ∧ word (fun _ => 0) k ≠ 0 := ⟨fun h => (by cases h), fun ⟨_, h⟩ => absurd (word_eq_zero (fun _ _ => rfl)) h⟩
theorem AP.usedB (h : AP W wr sa sc bc rb g v) : Calls Try.prog 20 #[.pointer (some ⟨sc, 0, none⟩)] wr fun e w' => e = .returned (.int .i64 0) ∧ wr = w' :=
  used_any sc bc 1000 _ wr h.b [] (by simp) none_support
/-- What is left at the end: the first memory is empty. -/
structure AE (W wr : World) (sa : Nat) : Prop where
  has : Has W wr sa 1000 (fun _ => 0)
theorem AP.clear (h : AP W wr sa sc bc rb g v) : Calls Try.prog 16 #[.pointer (some ⟨sa, 0, none⟩), .int .u64 0, .int .u64 1000] wr fun e w' => e = .returned (.int .i64 0) ∧ AE W w' sa := by
  obtain ⟨ba, M, b1, b2⟩ := h.a
  refine (clear_any sa ba 1000 g 0 1000 wr M (by omega) (by omega) (by omega) (by omega)).mono ?_
  rintro e w' ⟨rfl, k⟩
  have hm : mayI ((1000 : Nat) : Int) 0 1 1000 = 0 := may_ok (by omega) (by omega)
  have hz : clS 1000 g 0 1000 = fun _ => 0 := by
    unfold clS; rw [if_pos hm]; funext x; unfold clr
    by_cases hx : x < 1000
    · rw [if_pos (by simp; omega)]
    · rw [if_neg (by simp; omega)]; exact M.good.out x (by omega)
  rw [hz] at k
  exact ⟨by rw [hm], ⟨Has.to h.ne.2.2.2.1 b1 h.below M k⟩⟩
/-- A store into another place of a document's memory. -/
theorem AQ.set {nb o : Nat} {c : Array Value} {u : Value} (h : AQ W wr sa sc bc rb g v v') (hn : wr.heap[nb]? = some (.cells c 35 (0, 0))) (n1 : nb ≠ sa) (n2 : nb ≠ sc) (n3 : nb ≠ rb) (n4 : W.heap.size ≤ nb) : AQ W (wr.setCell ⟨nb, o, none⟩ u) sa sc bc rb g v v' := by
  obtain ⟨ba, M, b1, b2⟩ := h.a
  have nm : ∀ {s m S : Nat} {g : Nat → Nat}, MemAt wr s m S g → m ≠ nb := fun {s m S g} M e => by
    obtain ⟨D, ⟨es, clock, hb2, _⟩, _⟩ := M.words
    rw [e, hn] at hb2; cases hb2
  have far : ∀ i, i ≠ nb → (wr.setCell ⟨nb, o, none⟩ u).heap[i]? = wr.heap[i]? := fun i hi => Below.heap_setCell _ _ _ _ hi
  exact ⟨h.below.setCell n4 _, ⟨ba, M.same (far _ n1.symm) (far _ (nm M)), b1, b2⟩, h.b.same (far _ n2.symm) (far _ (nm h.b)), (far _ n3.symm).trans h.r, h.l.set hn, h.ne⟩
/-- Ahead of the boxing: the new list lies in a place of its own. -/
structure AN (W wr : World) (sa sc bc rb nb : Nat) (g : Nat → Nat) (v v' : Value) : Prop where
  q : AQ W wr sa sc bc rb g v v'
  n : wr.heap[nb]? = some (.cells #[.int .u64 1000, v'] 35 (0, 0))
theorem AQ.laid {nb : Nat} {x y : Value} (h : AQ W wr sa sc bc rb g v v') (hn : wr.heap[nb]? = some (.cells #[x, y] 35 (0, 0))) (n1 : nb ≠ sa) (n2 : nb ≠ sc) (n3 : nb ≠ rb) (n4 : W.heap.size ≤ nb) : AN W ((wr.setCell ⟨nb, 0, none⟩ (.int .u64 1000)).setCell ⟨nb, 1, none⟩ v') sa sc bc rb nb g v v' := by
  have h1 := heap_set hn (o := 0) (.int .u64 1000)
  have h2 := heap_set h1 (o := 1) v'
  exact ⟨(h.set hn n1 n2 n3 n4).set h1 n1 n2 n3 n4, by rw [h2]; rfl⟩
theorem AQ.fresh (h : AQ W wr sa sc bc rb g v v') : AN W (wr.alloc (.cells #[.int .u64 1000, v'] 35)) sa sc bc rb wr.heap.size g v v' :=
  ⟨h.call ((Below.refl _ _).alloc (Nat.le_refl _) _), heap_alloc_new _ _⟩
theorem AN.cells {nb : Nat} (h : AN W wr sa sc bc rb nb g v v') : wr.cell? ⟨nb, 0, none⟩ = some (.int .u64 1000) ∧ wr.cell? ⟨nb, 1, none⟩ = some v' := ⟨by simp [World.cell?, h.n], by simp [World.cell?, h.n]⟩
theorem ap_S {b off i : Nat} {k p q r : Value} (hb : Below W.heap.size W wr) (hr : wr.heap[rb]? = some (.cells #[.int .u64 1000, v] 35 (0, 0))) (lb : b < W.heap.size)
    (c0 : W.cell? ⟨b, off + i * 4, none⟩ = some k) (c1 : W.cell? ⟨b, off + i * 4 + 1, none⟩ = some p) (c2 : W.cell? ⟨b, off + i * 4 + 2, none⟩ = some q) (c3 : W.cell? ⟨b, off + i * 4 + 3, none⟩ = some r) :
    wr.cell? ⟨rb, 0, none⟩ = some (.int .u64 1000) ∧ wr.cell? ⟨rb, 1, none⟩ = some v ∧ wr.cell? ⟨b, off + i * 4, none⟩ = some k ∧ wr.cell? ⟨b, off + i * 4 + 1, none⟩ = some p ∧ wr.cell? ⟨b, off + i * 4 + 2, none⟩ = some q ∧ wr.cell? ⟨b, off + i * 4 + 3, none⟩ = some r :=
  ⟨by simp [World.cell?, hr], by simp [World.cell?, hr], (hb.cell (p := ⟨b, _, none⟩) lb).trans c0, (hb.cell (p := ⟨b, _, none⟩) lb).trans c1, (hb.cell (p := ⟨b, _, none⟩) lb).trans c2, (hb.cell (p := ⟨b, _, none⟩) lb).trans c3⟩
end Go.Proofs.Ytmhgofhclckdpaa.Mem
