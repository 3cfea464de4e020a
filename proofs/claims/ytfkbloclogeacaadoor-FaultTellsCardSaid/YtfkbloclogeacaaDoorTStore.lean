/-
  A whole entry laid into a block, cell by cell: the block, and the others. Conditions: none.
-/
import Derived.Test.YtfkbloclogeacaaDoorTLaw
import Derived.Test.YtfkbloclogeacaaDoorTRRead2
namespace Go.Proofs.YtfkbloclogeacaaDoor.Fld
open Go.ChangeShapes Go.WideShapes Go.ChangeAt Go.RowKit
set_option maxHeartbeats 1000000
theorem row_eleven {w : World} {g : Nat} {T : TypeId} {z0 z1 z2 z3 z4 z5 z6 z7 z8 z9 z10 x0 x1 x2 x3 x4 x5 x6 x7 x8 x9 x10 : Value} (h : w.heap[g]? = some (.cells #[z0, z1, z2, z3, z4, z5, z6, z7, z8, z9, z10] T (0, 0))) :
    (((((((((((w.setCell ⟨g, 0, none⟩ x0).setCell ⟨g, 1, none⟩ x1).setCell ⟨g, 2, none⟩ x2).setCell ⟨g, 3, none⟩ x3).setCell ⟨g, 4, none⟩ x4).setCell ⟨g, 5, none⟩ x5).setCell ⟨g, 6, none⟩ x6).setCell ⟨g, 7, none⟩ x7).setCell ⟨g, 8, none⟩ x8).setCell ⟨g, 9, none⟩ x9).setCell ⟨g, 10, none⟩ x10).heap[g]? = some (.cells #[x0, x1, x2, x3, x4, x5, x6, x7, x8, x9, x10] T (0, 0)) := by
  have h0 := set_row h 0 x0
  have h1 := set_row h0 1 x1
  have h2 := set_row h1 2 x2
  have h3 := set_row h2 3 x3
  have h4 := set_row h3 4 x4
  have h5 := set_row h4 5 x5
  have h6 := set_row h5 6 x6
  have h7 := set_row h6 7 x7
  have h8 := set_row h7 8 x8
  have h9 := set_row h8 9 x9
  have h10 := set_row h9 10 x10
  clear h h0 h1 h2 h3 h4 h5 h6 h7 h8 h9
  simp only [List.setIfInBounds_toArray, List.set_cons_succ, List.set_cons_zero] at h10
  exact h10
theorem row_far {w : World} {g b : Nat} {x0 x1 x2 x3 x4 x5 x6 x7 x8 x9 x10 : Value} (h : b ≠ g) :
    (((((((((((w.setCell ⟨g, 0, none⟩ x0).setCell ⟨g, 1, none⟩ x1).setCell ⟨g, 2, none⟩ x2).setCell ⟨g, 3, none⟩ x3).setCell ⟨g, 4, none⟩ x4).setCell ⟨g, 5, none⟩ x5).setCell ⟨g, 6, none⟩ x6).setCell ⟨g, 7, none⟩ x7).setCell ⟨g, 8, none⟩ x8).setCell ⟨g, 9, none⟩ x9).setCell ⟨g, 10, none⟩ x10).heap[b]? = w.heap[b]? := by
  rw [Below.heap_setCell _ _ _ _ h, Below.heap_setCell _ _ _ _ h, Below.heap_setCell _ _ _ _ h, Below.heap_setCell _ _ _ _ h, Below.heap_setCell _ _ _ _ h, Below.heap_setCell _ _ _ _ h, Below.heap_setCell _ _ _ _ h, Below.heap_setCell _ _ _ _ h, Below.heap_setCell _ _ _ _ h, Below.heap_setCell _ _ _ _ h, Below.heap_setCell _ _ _ _ h]
/-- The cells of an entry in a block. -/
structure RowE (w : World) (b : Nat) (e : Ent) : Prop where
  row : w.heap[b]? = some (.cells #[.int .i64 e.size, .int .i64 e.ctx, .int .u64 e.va, .int .u64 e.pa, .bool e.att.write, .bool e.att.priv, .bool e.att.exec, .bool e.att.lock, .bool e.att.global, .bool e.att.quiet, .bool e.valid] 26 (0, 0))
theorem RowE.new (w : World) (e : Ent) : RowE (w.alloc (.cells #[.int .i64 e.size, .int .i64 e.ctx, .int .u64 e.va, .int .u64 e.pa, .bool e.att.write, .bool e.att.priv, .bool e.att.exec, .bool e.att.lock, .bool e.att.global, .bool e.att.quiet, .bool e.valid] 26)) w.heap.size e := ⟨heap_alloc_new _ _⟩
theorem RowE.below {w w' : World} {B b : Nat} {e : Ent} (h : RowE w b e) (hb : Below B w w') (hB : b < B) : RowE w' b e := ⟨(hb.block b hB).trans h.row⟩
theorem RowE.alloc {w : World} {b : Nat} {e : Ent} (h : RowE w b e) (o : Obj) (hB : b < w.heap.size) : RowE (w.alloc o) b e := ⟨(Below.heap_alloc _ _ _ hB).trans h.row⟩
theorem RowE.drewN {w : World} {b : Nat} {e : Ent} (h : RowE w b e) (n : Nat) : RowE (w.drewN n) b e := ⟨h.row⟩
theorem RowE.lt {w : World} {b : Nat} {e : Ent} (h : RowE w b e) : b < w.heap.size := by
  rcases Nat.lt_or_ge b w.heap.size with hlt | hge
  · exact hlt
  · have := h.row; rw [Array.getElem?_eq_none hge] at this; cases this
theorem RowE.cells {w : World} {b : Nat} {e : Ent} (h : RowE w b e) :
    w.cell? ⟨b, 0, none⟩ = some (.int .i64 e.size) ∧ w.cell? ⟨b, 1, none⟩ = some (.int .i64 e.ctx) ∧ w.cell? ⟨b, 2, none⟩ = some (.int .u64 e.va) ∧ w.cell? ⟨b, 3, none⟩ = some (.int .u64 e.pa) ∧ w.cell? ⟨b, 4, none⟩ = some (.bool e.att.write) ∧ w.cell? ⟨b, 5, none⟩ = some (.bool e.att.priv) ∧ w.cell? ⟨b, 6, none⟩ = some (.bool e.att.exec) ∧ w.cell? ⟨b, 7, none⟩ = some (.bool e.att.lock) ∧ w.cell? ⟨b, 8, none⟩ = some (.bool e.att.global) ∧ w.cell? ⟨b, 9, none⟩ = some (.bool e.att.quiet) ∧ w.cell? ⟨b, 10, none⟩ = some (.bool e.valid) :=
  ⟨cell_of_row _ _ 0 _ _ _ h.row, cell_of_row _ _ 1 _ _ _ h.row, cell_of_row _ _ 2 _ _ _ h.row, cell_of_row _ _ 3 _ _ _ h.row, cell_of_row _ _ 4 _ _ _ h.row, cell_of_row _ _ 5 _ _ _ h.row, cell_of_row _ _ 6 _ _ _ h.row, cell_of_row _ _ 7 _ _ _ h.row, cell_of_row _ _ 8 _ _ _ h.row, cell_of_row _ _ 9 _ _ _ h.row, cell_of_row _ _ 10 _ _ _ h.row⟩
theorem RowE.frozen {w : World} {b : Nat} {e : Ent} (h : RowE w b e) (i : Nat) : w.frozen? ⟨b, i, none⟩ = false := row_frozen h.row i
end Go.Proofs.YtfkbloclogeacaaDoor.Fld
