/-
  What stays of an entry's block over calls, new blocks and draws. Conditions: none.
-/
import Derived.Test.YtfkbloclogeacaaDoorTStore
import Derived.Deep.RegionHeld3
namespace Go.Proofs.YtfkbloclogeacaaDoor.Fld
open Go.ChangeShapes Go.WideShapes Go.ChangeAt Go.RowKit
/-- Of the world w only what is new has turned, and the block b has the entry e. -/
structure KeepE (w0 w : World) (b : Nat) (e : Ent) : Prop where
  below : Below w0.heap.size w0 w
  row : RowE w b e
theorem KeepE.call {w0 w w' : World} {b : Nat} {e : Ent} (h : KeepE w0 w b e) (hb : Below w.heap.size w w') : KeepE w0 w' b e := ⟨h.below.trans (hb.mono h.below.size), h.row.below hb h.row.lt⟩
theorem KeepE.drew {w0 w : World} {b : Nat} {e : Ent} (h : KeepE w0 w b e) : KeepE w0 w.drew b e := ⟨h.below.drew, ⟨h.row.row⟩⟩
theorem KeepE.drewN {w0 w : World} {b : Nat} {e : Ent} (h : KeepE w0 w b e) (n : Nat) : KeepE w0 (w.drewN n) b e := ⟨below_drewN h.below n, ⟨h.row.row⟩⟩
theorem KeepE.alloc {w0 w : World} {b : Nat} {e : Ent} (h : KeepE w0 w b e) (o : Obj) : KeepE w0 (w.alloc o) b e := ⟨h.below.alloc h.below.size o, h.row.alloc o h.row.lt⟩
theorem KeepE.lt2 {w0 w w' : World} {b : Nat} {e : Ent} (h : KeepE w0 w b e) (hb : Below w.heap.size w w') : b < w'.heap.size := Nat.lt_of_lt_of_le h.row.lt hb.size
theorem KeepE.realloc {w0 w : World} {b : Nat} {e : Ent} {o : Obj} (h : KeepE w0 (w.alloc o) b e) (hlt : b < w.heap.size) (h0 : w0.heap.size ≤ w.heap.size) (o' : Obj) : KeepE w0 (w.alloc o') b e :=
  ⟨⟨h.below.os, h.below.tape, h.below.output, by have := h.below.size; simp at this ⊢; omega, fun k hk => by
      rw [Below.heap_alloc _ _ _ (by omega)]
      exact (Below.heap_alloc w o k (by omega)).symm.trans (h.below.block k hk)⟩,
    ⟨(Below.heap_alloc _ _ _ hlt).trans ((Below.heap_alloc w o b hlt).symm.trans h.row.row)⟩⟩
theorem KeepE.base {w0 w w' : World} {b : Nat} {e : Ent} (h : KeepE w0 w b e) (hb : Below w.heap.size w w') : w0.heap.size ≤ w'.heap.size := Nat.le_trans h.below.size hb.size
theorem KeepE.setNew {w0 X w : World} {b : Nat} {e : Ent} {x0 x1 x2 x3 x4 x5 x6 x7 x8 x9 x10 : Value} (hX : KeepE w0 X b e) (h : KeepE w0 w b e) :
    KeepE w0 (((((((((((w.setCell ⟨X.heap.size, 0, none⟩ x0).setCell ⟨X.heap.size, 1, none⟩ x1).setCell ⟨X.heap.size, 2, none⟩ x2).setCell ⟨X.heap.size, 3, none⟩ x3).setCell ⟨X.heap.size, 4, none⟩ x4).setCell ⟨X.heap.size, 5, none⟩ x5).setCell ⟨X.heap.size, 6, none⟩ x6).setCell ⟨X.heap.size, 7, none⟩ x7).setCell ⟨X.heap.size, 8, none⟩ x8).setCell ⟨X.heap.size, 9, none⟩ x9).setCell ⟨X.heap.size, 10, none⟩ x10) b e := by
  have h0 := hX.below.size
  refine ⟨?_, ⟨(row_far (Nat.ne_of_lt hX.row.lt)).trans h.row.row⟩⟩
  iterate 11 refine below_setN ?_ h0
  exact h.below
theorem RowE.call {w w' : World} {b : Nat} {e : Ent} (h : RowE w b e) (hb : Below w.heap.size w w') : RowE w' b e := h.below hb h.lt
theorem RowE.drew {w : World} {b : Nat} {e : Ent} (h : RowE w b e) : RowE w.drew b e := ⟨h.row⟩
theorem RowE.setAll {w : World} {b : Nat} {z e : Ent} (h : RowE w b z) :
    RowE (((((((((((w.setCell ⟨b, 0, none⟩ (.int .i64 e.size)).setCell ⟨b, 1, none⟩ (.int .i64 e.ctx)).setCell ⟨b, 2, none⟩ (.int .u64 e.va)).setCell ⟨b, 3, none⟩ (.int .u64 e.pa)).setCell ⟨b, 4, none⟩ (.bool e.att.write)).setCell ⟨b, 5, none⟩ (.bool e.att.priv)).setCell ⟨b, 6, none⟩ (.bool e.att.exec)).setCell ⟨b, 7, none⟩ (.bool e.att.lock)).setCell ⟨b, 8, none⟩ (.bool e.att.global)).setCell ⟨b, 9, none⟩ (.bool e.att.quiet)).setCell ⟨b, 10, none⟩ (.bool e.valid)) b e := ⟨row_eleven h.row⟩
theorem bfacts {W w1 : World} (hb : Below W.heap.size W w1) : (∀ b o, b < W.heap.size → w1.cell? ⟨b, o, none⟩ = W.cell? ⟨b, o, none⟩) ∧ (∀ b o, b < W.heap.size → w1.frozen? ⟨b, o, none⟩ = W.frozen? ⟨b, o, none⟩) ∧ (∀ b, b < W.heap.size → b < w1.heap.size) ∧ (∀ b, b ≤ W.heap.size → b ≤ w1.heap.size) :=
  ⟨fun b o h => hb.cell (p := ⟨b, o, none⟩) h, fun b o h => hb.frozen (p := ⟨b, o, none⟩) h, fun _ h => Nat.lt_of_lt_of_le h hb.size, fun _ h => Nat.le_trans h hb.size⟩
theorem keep_cells {w0 w : World} {b : Nat} {e : Ent} (h : KeepE w0 w b e) : w.cell? ⟨b, 0, none⟩ = some (.int .i64 e.size) ∧ w.cell? ⟨b, 1, none⟩ = some (.int .i64 e.ctx) ∧ w.cell? ⟨b, 2, none⟩ = some (.int .u64 e.va) ∧ w.cell? ⟨b, 3, none⟩ = some (.int .u64 e.pa) ∧ w.cell? ⟨b, 4, none⟩ = some (.bool e.att.write) ∧ w.cell? ⟨b, 5, none⟩ = some (.bool e.att.priv) ∧ w.cell? ⟨b, 6, none⟩ = some (.bool e.att.exec) ∧ w.cell? ⟨b, 7, none⟩ = some (.bool e.att.lock) ∧ w.cell? ⟨b, 8, none⟩ = some (.bool e.att.global) ∧ w.cell? ⟨b, 9, none⟩ = some (.bool e.att.quiet) ∧ w.cell? ⟨b, 10, none⟩ = some (.bool e.valid) := h.row.cells
theorem keep_cells2 {w0 w : World} {b c : Nat} {e f : Ent} (h : KeepE w0 w b e) (k : KeepE w0 w c f) : w.cell? ⟨b, 0, none⟩ = some (.int .i64 e.size) ∧ w.cell? ⟨b, 1, none⟩ = some (.int .i64 e.ctx) ∧ w.cell? ⟨b, 2, none⟩ = some (.int .u64 e.va) ∧ w.cell? ⟨b, 3, none⟩ = some (.int .u64 e.pa) ∧ w.cell? ⟨b, 4, none⟩ = some (.bool e.att.write) ∧ w.cell? ⟨b, 5, none⟩ = some (.bool e.att.priv) ∧ w.cell? ⟨b, 6, none⟩ = some (.bool e.att.exec) ∧ w.cell? ⟨b, 7, none⟩ = some (.bool e.att.lock) ∧ w.cell? ⟨b, 8, none⟩ = some (.bool e.att.global) ∧ w.cell? ⟨b, 9, none⟩ = some (.bool e.att.quiet) ∧ w.cell? ⟨b, 10, none⟩ = some (.bool e.valid) ∧ w.cell? ⟨c, 0, none⟩ = some (.int .i64 f.size) ∧ w.cell? ⟨c, 1, none⟩ = some (.int .i64 f.ctx) ∧ w.cell? ⟨c, 2, none⟩ = some (.int .u64 f.va) ∧ w.cell? ⟨c, 3, none⟩ = some (.int .u64 f.pa) ∧ w.cell? ⟨c, 4, none⟩ = some (.bool f.att.write) ∧ w.cell? ⟨c, 5, none⟩ = some (.bool f.att.priv) ∧ w.cell? ⟨c, 6, none⟩ = some (.bool f.att.exec) ∧ w.cell? ⟨c, 7, none⟩ = some (.bool f.att.lock) ∧ w.cell? ⟨c, 8, none⟩ = some (.bool f.att.global) ∧ w.cell? ⟨c, 9, none⟩ = some (.bool f.att.quiet) ∧ w.cell? ⟨c, 10, none⟩ = some (.bool f.valid) := by
  obtain ⟨h0, h1, h2, h3, h4, h5, h6, h7, h8, h9, h10⟩ := h.row.cells
  obtain ⟨k0, k1, k2, k3, k4, k5, k6, k7, k8, k9, k10⟩ := k.row.cells
  exact ⟨h0, h1, h2, h3, h4, h5, h6, h7, h8, h9, h10, k0, k1, k2, k3, k4, k5, k6, k7, k8, k9, k10⟩
theorem keep_cells3 {w0 w : World} {b c d : Nat} {e f g : Ent} (h : KeepE w0 w b e) (k : KeepE w0 w c f) (l : KeepE w0 w d g) : w.cell? ⟨b, 0, none⟩ = some (.int .i64 e.size) ∧ w.cell? ⟨b, 1, none⟩ = some (.int .i64 e.ctx) ∧ w.cell? ⟨b, 2, none⟩ = some (.int .u64 e.va) ∧ w.cell? ⟨b, 3, none⟩ = some (.int .u64 e.pa) ∧ w.cell? ⟨b, 4, none⟩ = some (.bool e.att.write) ∧ w.cell? ⟨b, 5, none⟩ = some (.bool e.att.priv) ∧ w.cell? ⟨b, 6, none⟩ = some (.bool e.att.exec) ∧ w.cell? ⟨b, 7, none⟩ = some (.bool e.att.lock) ∧ w.cell? ⟨b, 8, none⟩ = some (.bool e.att.global) ∧ w.cell? ⟨b, 9, none⟩ = some (.bool e.att.quiet) ∧ w.cell? ⟨b, 10, none⟩ = some (.bool e.valid) ∧ w.cell? ⟨c, 0, none⟩ = some (.int .i64 f.size) ∧ w.cell? ⟨c, 1, none⟩ = some (.int .i64 f.ctx) ∧ w.cell? ⟨c, 2, none⟩ = some (.int .u64 f.va) ∧ w.cell? ⟨c, 3, none⟩ = some (.int .u64 f.pa) ∧ w.cell? ⟨c, 4, none⟩ = some (.bool f.att.write) ∧ w.cell? ⟨c, 5, none⟩ = some (.bool f.att.priv) ∧ w.cell? ⟨c, 6, none⟩ = some (.bool f.att.exec) ∧ w.cell? ⟨c, 7, none⟩ = some (.bool f.att.lock) ∧ w.cell? ⟨c, 8, none⟩ = some (.bool f.att.global) ∧ w.cell? ⟨c, 9, none⟩ = some (.bool f.att.quiet) ∧ w.cell? ⟨c, 10, none⟩ = some (.bool f.valid) ∧ w.cell? ⟨d, 0, none⟩ = some (.int .i64 g.size) ∧ w.cell? ⟨d, 1, none⟩ = some (.int .i64 g.ctx) ∧ w.cell? ⟨d, 2, none⟩ = some (.int .u64 g.va) ∧ w.cell? ⟨d, 3, none⟩ = some (.int .u64 g.pa) ∧ w.cell? ⟨d, 4, none⟩ = some (.bool g.att.write) ∧ w.cell? ⟨d, 5, none⟩ = some (.bool g.att.priv) ∧ w.cell? ⟨d, 6, none⟩ = some (.bool g.att.exec) ∧ w.cell? ⟨d, 7, none⟩ = some (.bool g.att.lock) ∧ w.cell? ⟨d, 8, none⟩ = some (.bool g.att.global) ∧ w.cell? ⟨d, 9, none⟩ = some (.bool g.att.quiet) ∧ w.cell? ⟨d, 10, none⟩ = some (.bool g.valid) := by
  obtain ⟨h0, h1, h2, h3, h4, h5, h6, h7, h8, h9, h10⟩ := h.row.cells
  obtain ⟨k0, k1, k2, k3, k4, k5, k6, k7, k8, k9, k10⟩ := k.row.cells
  obtain ⟨l0, l1, l2, l3, l4, l5, l6, l7, l8, l9, l10⟩ := l.row.cells
  exact ⟨h0, h1, h2, h3, h4, h5, h6, h7, h8, h9, h10, k0, k1, k2, k3, k4, k5, k6, k7, k8, k9, k10, l0, l1, l2, l3, l4, l5, l6, l7, l8, l9, l10⟩
end Go.Proofs.YtfkbloclogeacaaDoor.Fld
