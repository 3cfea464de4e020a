/-
  The place of a deed's result beside a memory and the document's. Conditions: none.
-/
import Derived.Test.YtmhgofhclckdpaaMAsks
namespace Go.Proofs.Ytmhgofhclckdpaa.Mem
open Go.ChangeShapes Go.WideShapes Go.ChangeAt Go.RowKit Go.Maps
set_option maxHeartbeats 400000
/-- As DW, and the result's place is new. -/
structure DR (w wr : World) (sb bm S : Nat) (g gl : Nat → Nat) (v : Value) (D : Array Value) : Prop where
  dw : DW w wr sb bm S g gl v D
  r : wr.heap[w.heap.size + 1 + 1]? = some (.cells #[.int .u64 0, .slice none 0 0] 35 (0, 0))
/-- What a deed's call ends in. -/
def DoneD (w : World) (sb bm S : Nat) (e : Ending) (w' : World) : Prop := ∃ g v, e = .returned (.tuple #[.agg #[.int .u64 (S : Int), v], .bool true]) ∧ MemTo w w' sb bm S g ∧ HasL w' S g v
variable {w wr w2 : World} {sb bm S : Nat} {g g' gl gl' : Nat → Nat} {v v2 : Value} {D : Array Value}
theorem DR.below (h : DR w wr sb bm S g gl v D) (hb : Below wr.heap.size wr w2) : DR w w2 sb bm S g gl v D := ⟨h.dw.below hb, (hb.block _ (lt_of_block h.r)).trans h.r⟩
theorem DR.drew (h : DR w wr sb bm S g gl v D) : DR w wr.drew sb bm S g gl v D := ⟨h.dw.drew, h.r⟩
theorem DR.call {f : Nat} {args : Array Value} {E : Ending} (h : DR w wr sb bm S g gl v D) (C : ∀ bmi, MemAt wr sb bmi S g → Calls Try.prog f args wr fun e w' => e = E ∧ MemTo wr w' sb bmi S g') :
    Calls Try.prog f args wr fun e w' => e = E ∧ DR w w' sb bm S g' gl v D := by
  obtain ⟨bmi, M, b, t⟩ := h.dw.mem
  refine (C bmi M).mono ?_
  rintro e w' ⟨rfl, M2⟩
  have hlt := h.dw.lt
  have M2' := M2
  obtain ⟨_, _, _, t2⟩ := M2'
  exact ⟨rfl, ⟨⟨M2.trans b t, h.dw.l.turn M t2, cells_turn h.dw.m (by omega) M t2, cells_turn h.dw.d (by omega) M t2, hlt⟩, cells_turn h.r (by omega) M t2⟩⟩
theorem DR.ref {f : Nat} {args : Array Value} {E : Ending} (h : DR w wr sb bm S g gl v D) (C : HasL wr S gl v → Calls Try.prog f args wr fun e w' => e = E ∧ Below wr.heap.size wr w') :
    Calls Try.prog f args wr fun e w' => e = E ∧ DR w w' sb bm S g gl v D := by
  refine (C h.dw.l).mono ?_
  rintro e w' ⟨rfl, hb⟩
  exact ⟨rfl, h.below hb⟩
/-- A call of the document that makes a new memory of it. -/
theorem DR.make {f : Nat} {args : Array Value} (h : DR w wr sb bm S g gl v D) (C : HasL wr S gl v → Calls Try.prog f args wr (GivesR wr S gl')) :
    Calls Try.prog f args wr fun e w' => ∃ ao n cap, e = .returned (.agg #[.int .u64 (S : Int), .slice ao n cap]) ∧ HasL w' S gl' (.slice ao n cap) ∧ DR w w' sb bm S g gl v D := by
  refine (C h.dw.l).mono ?_
  rintro e w' ⟨v2, rfl, hl, hb⟩
  obtain ⟨ao, n, cap, rfl⟩ := hl.shape
  exact ⟨ao, n, cap, rfl, hl, h.below hb⟩
theorem DR.put (h : DR w w2 sb bm S g gl v D) (hl : HasL w2 S gl' v2) : DR w ((w2.setCell ⟨w.heap.size, 0, none⟩ (.int .u64 (S : Int))).setCell ⟨w.heap.size, 1, none⟩ v2) sb bm S g gl' v2 D :=
  ⟨h.dw.put hl, by rw [Below.heap_setCell _ _ _ _ (by simp; omega), Below.heap_setCell _ _ _ _ (by simp; omega)]; exact h.r⟩
theorem DR.rcells (h : DR w wr sb bm S g gl v D) : wr.cell? ⟨w.heap.size + 1 + 1, 0, none⟩ = some (.int .u64 0) ∧ wr.cell? ⟨w.heap.size + 1 + 1, 1, none⟩ = some (.slice none 0 0) ∧ wr.frozen? ⟨w.heap.size + 1 + 1, 0, none⟩ = false ∧ wr.frozen? ⟨w.heap.size + 1 + 1, 1, none⟩ = false :=
  ⟨by simp [World.cell?, h.r], by simp [World.cell?, h.r], by simp [World.frozen?, h.r], by simp [World.frozen?, h.r]⟩
/-- The end of a deed's call. -/
theorem DR.done (h : DR w wr sb bm S g g v D) :
    ((wr.setCell ⟨w.heap.size + 1 + 1, 0, none⟩ (.int .u64 (S : Int))).setCell ⟨w.heap.size + 1 + 1, 1, none⟩ v).heap[w.heap.size + 1 + 1]? = some (.cells #[.int .u64 (S : Int), v] 35 (0, 0)) ∧
    DW w ((wr.setCell ⟨w.heap.size + 1 + 1, 0, none⟩ (.int .u64 (S : Int))).setCell ⟨w.heap.size + 1 + 1, 1, none⟩ v) sb bm S g g v D := by
  have h1 := heap_set h.r (o := 0) (.int .u64 (S : Int))
  have h2 := heap_set h1 (o := 1) v
  exact ⟨by rw [h2]; rfl, (h.dw.res 0 _ h.r).res 1 _ h1⟩
theorem DR.start (h : MemAt w sb bm S g) (hl : HasL w S g v) (D : Array Value) : DR w (((w.alloc (.cells #[.int .u64 (S : Int), v] 35)).alloc (.cells D 50)).alloc (.cells #[.int .u64 0, .slice none 0 0] 35)) sb bm S g g v D := by
  refine ⟨(DW.start h hl D).below ((Below.refl _ _).alloc (Nat.le_refl _) _), ?_⟩
  have := heap_alloc_new ((w.alloc (.cells #[.int .u64 (S : Int), v] 35)).alloc (.cells D 50)) (.cells #[.int .u64 0, .slice none 0 0] 35)
  simpa using this
theorem deed_S {k a x y : Value} (h : DR w wr sb bm S g gl v #[k, a, x, y]) : wr.cell? ⟨w.heap.size, 0, none⟩ = some (.int .u64 (S : Int)) ∧ wr.cell? ⟨w.heap.size, 1, none⟩ = some v ∧ wr.cell? ⟨w.heap.size + 1, 0, none⟩ = some k ∧ wr.cell? ⟨w.heap.size + 1, 1, none⟩ = some a ∧ wr.cell? ⟨w.heap.size + 1, 2, none⟩ = some x ∧ wr.cell? ⟨w.heap.size + 1, 3, none⟩ = some y := h.dw.cells
theorem deed_T {k a x y : Value} (h : DR w wr sb bm S g g v #[k, a, x, y]) : let W := (wr.setCell ⟨w.heap.size + 1 + 1, 0, none⟩ (.int .u64 (S : Int))).setCell ⟨w.heap.size + 1 + 1, 1, none⟩ v
    W.cell? ⟨w.heap.size, 0, none⟩ = some (.int .u64 (S : Int)) ∧ W.cell? ⟨w.heap.size, 1, none⟩ = some v ∧ W.cell? ⟨w.heap.size + 1, 0, none⟩ = some k ∧ W.cell? ⟨w.heap.size + 1, 1, none⟩ = some a ∧ W.cell? ⟨w.heap.size + 1, 2, none⟩ = some x ∧ W.cell? ⟨w.heap.size + 1, 3, none⟩ = some y := h.done.2.cells
/-- The answer of a deed's call is read out of its place and its slot. -/
theorem deed_ret {a : Act} {W : World} {v : Value} (hd : a.defers = []) (hs : a.tmps.getD 6 undef = .pointer (some ⟨w.heap.size + 1 + 1, 0, none⟩)) (hb : a.tmps.getD 7 undef = .bool true)
    (hr : W.heap[w.heap.size + 1 + 1]? = some (.cells #[.int .u64 (S : Int), v] 35 (0, 0))) (hX : DW w W sb bm S g g v D) : bodyPost Try.prog Try.f19 (DoneD w sb bm S) .ret a W := by
  refine bodyPost_ret (v := .tuple #[.agg #[.int .u64 (S : Int), v], .bool true]) ?_ hd ⟨g, v, rfl, hX.mem, hX.l⟩
  have c0 : W.cell? ⟨w.heap.size + 1 + 1, 0, none⟩ = some (.int .u64 (S : Int)) := by simp [World.cell?, hr]
  have c1 : W.cell? ⟨w.heap.size + 1 + 1, 1, none⟩ = some v := by simp [World.cell?, hr]
  obtain ⟨ao, n, cap, rfl⟩ := hX.l.shape
  simp only [Array.getD_eq_getD_getElem?] at hs hb
  simp [results, Try.results19, go_sem, hs, hb, c0, c1]
theorem putWord_int (S : Nat) (g : Nat → Nat) (a x : Int) (v : Value) (w : World) (h : HasL w S g v) (a0 : 0 ≤ a) (a1 : a + 8 ≤ S) (x0 : 0 ≤ x) (x1 : x < 18446744073709551616) :
    Calls Try.prog 29 #[.agg #[.int .u64 (S : Int), v], .int .u64 a, .int .u64 x] w (GivesR w S (setW g a.toNat x.toNat)) := by
  have := putWord_rel S a.toNat x.toNat g v w h (by omega) (by omega)
  rwa [Int.toNat_of_nonneg a0, Int.toNat_of_nonneg x0] at this
theorem copy_int (S : Nat) (g : Nat → Nat) (f t n : Int) (v : Value) (w : World) (h : HasL w S g v) (f0 : 0 ≤ f) (f1 : f < 18446744073709551616) (t0 : 0 ≤ t) (t1 : t < 18446744073709551616) (n0 : 0 ≤ n) (hn : n = 0 ∨ (f + n ≤ S ∧ t + n ≤ S)) :
    Calls Try.prog 31 #[.agg #[.int .u64 (S : Int), v], .int .u64 f, .int .u64 t, .int .u64 n] w (GivesR w S (cp g f.toNat t.toNat n.toNat)) := by
  have := copy_rel S f.toNat t.toNat n.toNat g v w h (by omega) (by omega) (by omega)
  rwa [Int.toNat_of_nonneg f0, Int.toNat_of_nonneg t0, Int.toNat_of_nonneg n0] at this
theorem deed_D {k a x y : Value} (h : DR w wr sb bm S g gl v #[k, a, x, y]) : wr.cell? ⟨w.heap.size + 1, 0, none⟩ = some k ∧ wr.cell? ⟨w.heap.size + 1, 1, none⟩ = some a ∧ wr.cell? ⟨w.heap.size + 1, 2, none⟩ = some x ∧ wr.cell? ⟨w.heap.size + 1, 3, none⟩ = some y := h.dw.cells.2.2
/-- A second call of the document, at what the first one made. -/
theorem DR.again {f : Nat} {args : Array Value} (h : DR w wr sb bm S g gl v D) (hl : HasL wr S gl' v2) (C : HasL wr S gl' v2 → Calls Try.prog f args wr (GivesR wr S g')) :
    Calls Try.prog f args wr fun e w' => ∃ ao n cap, e = .returned (.agg #[.int .u64 (S : Int), .slice ao n cap]) ∧ HasL w' S g' (.slice ao n cap) ∧ DR w w' sb bm S g gl v D := by
  refine (C hl).mono ?_
  rintro e w' ⟨v3, rfl, hl3, hb⟩
  obtain ⟨ao, n, cap, rfl⟩ := hl3.shape
  exact ⟨ao, n, cap, rfl, hl3, h.below hb⟩
end Go.Proofs.Ytmhgofhclckdpaa.Mem
