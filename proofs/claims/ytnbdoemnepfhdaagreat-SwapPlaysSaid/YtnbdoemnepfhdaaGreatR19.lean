/-
  Contracts and plain facts: TKeep, THits. Conditions: each says its own.
-/
import Derived.Test.YtnbdoemnepfhdaaGreatR13
import Derived.Deep.RegionHeld3
import Derived.Test.YtnbdoemnepfhdaaGreatR7
namespace Go.Proofs.YtnbdoemnepfhdaaGreat.Fld
open Go.ChangeShapes Go.WideShapes Go.ChangeAt Go.RowKit
/-- Of the world w only what is new has turned, and the block b has the entry e. -/
structure KeepE (w0 w : World) (b : Nat) (e : Ent) : Prop where
  below : Below w0.heap.size w0 w
  row : RowE w b e
theorem KeepE.call {w0 w w' : World} {b : Nat} {e : Ent} (h : KeepE w0 w b e) (hb : Below w.heap.size w w') : KeepE w0 w' b e := ⟨h.below.trans (hb.mono h.below.size), h.row.below hb h.row.lt⟩
theorem KeepE.drew {w0 w : World} {b : Nat} {e : Ent} (h : KeepE w0 w b e) : KeepE w0 w.drew b e := ⟨h.below.drew, ⟨h.row.row⟩⟩
theorem KeepE.drewN {w0 w : World} {b : Nat} {e : Ent} (h : KeepE w0 w b e) (n : Nat) : KeepE w0 (w.drewN n) b e := ⟨below_drewN h.below n, ⟨h.row.row⟩⟩
theorem KeepE.alloc {w0 w : World} {b : Nat} {e : Ent} (h : KeepE w0 w b e) (o : Obj) : KeepE w0 (w.alloc o) b e := ⟨h.below.alloc h.below.size o, h.row.alloc o h.row.lt⟩
theorem KeepE.lt2 {w0 w w' : World} {b : Nat} {e : Ent} (h : KeepE w0 w b e) (hb : Below w.heap.size w w') : b < w'.heap.size := Nat.lt_of_lt_of_le h.row.lt hb.size
theorem KeepE.base {w0 w w' : World} {b : Nat} {e : Ent} (h : KeepE w0 w b e) (hb : Below w.heap.size w w') : w0.heap.size ≤ w'.heap.size := Nat.le_trans h.below.size hb.size
theorem KeepE.setNew {w0 X w : World} {b : Nat} {e : Ent} {x0 x1 x2 x3 x4 x5 x6 x7 x8 x9 x10 : Value} (hX : KeepE w0 X b e) (h : KeepE w0 w b e) :
    KeepE w0 (((((((((((w.setCell ⟨X.heap.size, 0, none⟩ x0).setCell ⟨X.heap.size, 1, none⟩ x1).setCell ⟨X.heap.size, 2, none⟩ x2).setCell ⟨X.heap.size, 3, none⟩ x3).setCell ⟨X.heap.size, 4, none⟩ x4).setCell ⟨X.heap.size, 5, none⟩ x5).setCell ⟨X.heap.size, 6, none⟩ x6).setCell ⟨X.heap.size, 7, none⟩ x7).setCell ⟨X.heap.size, 8, none⟩ x8).setCell ⟨X.heap.size, 9, none⟩ x9).setCell ⟨X.heap.size, 10, none⟩ x10) b e := by
  have h0 := hX.below.size
  refine ⟨?_, ⟨(row_far (Nat.ne_of_lt hX.row.lt)).trans h.row.row⟩⟩
  iterate 11 refine below_setN ?_ h0
  exact h.below
theorem RowE.call {w w' : World} {b : Nat} {e : Ent} (h : RowE w b e) (hb : Below w.heap.size w w') : RowE w' b e := h.below hb h.lt
theorem RowE.drew {w : World} {b : Nat} {e : Ent} (h : RowE w b e) : RowE w.drew b e := ⟨h.row⟩
theorem RowE.setAll {w : World} {b : Nat} {z e : Ent} (h : RowE w b z) :
    RowE (((((((((((w.setCell ⟨b, 0, none⟩ (.int .i64 e.size)).setCell ⟨b, 1, none⟩ (.int .i64 e.ctx)).setCell ⟨b, 2, none⟩ (.int .u64 e.va)).setCell ⟨b, 3, none⟩ (.int .u64 e.pa)).setCell ⟨b, 4, none⟩ (.bool e.att.write)).setCell ⟨b, 5, none⟩ (.bool e.att.priv)).setCell ⟨b, 6, none⟩ (.bool e.att.exec)).setCell ⟨b, 7, none⟩ (.bool e.att.lock)).setCell ⟨b, 8, none⟩ (.bool e.att.global)).setCell ⟨b, 9, none⟩ (.bool e.att.quiet)).setCell ⟨b, 10, none⟩ (.bool e.valid)) b e := ⟨row_eleven h.row⟩
theorem bfacts {W w1 : World} (hb : Below W.heap.size W w1) : (∀ b o, b < W.heap.size → w1.cell? ⟨b, o, none⟩ = W.cell? ⟨b, o, none⟩) ∧ (∀ b o, b < W.heap.size → w1.frozen? ⟨b, o, none⟩ = W.frozen? ⟨b, o, none⟩) ∧ (∀ b, b < W.heap.size → b < w1.heap.size) ∧ (∀ b, b ≤ W.heap.size → b ≤ w1.heap.size) :=
  ⟨fun b o h => hb.cell (p := ⟨b, o, none⟩) h, fun b o h => hb.frozen (p := ⟨b, o, none⟩) h, fun _ h => Nat.lt_of_lt_of_le h hb.size, fun _ h => Nat.le_trans h hb.size⟩
end Go.Proofs.YtnbdoemnepfhdaaGreat.Fld

namespace Go.Proofs.YtnbdoemnepfhdaaGreat.Fld
open Go.ChangeShapes Go.WideShapes Go.ChangeAt Go.RowKit
/-- Of the world w only what is new has turned, and the block b is the cells cs. -/
structure KeepB (w0 w : World) (b : Nat) (t : TypeId) (cs : Array Value) : Prop where
  below : Below w0.heap.size w0 w
  row : w.heap[b]? = some (.cells cs t (0, 0))
section
variable {w0 w w' : World} {b : Nat} {t : TypeId} {cs : Array Value}
theorem KeepB.lt (h : KeepB w0 w b t cs) : b < w.heap.size := by
  rcases Nat.lt_or_ge b w.heap.size with hlt | hge
  · exact hlt
  · have := h.row; rw [Array.getElem?_eq_none hge] at this; cases this
theorem KeepB.call (h : KeepB w0 w b t cs) (hb : Below w.heap.size w w') : KeepB w0 w' b t cs := ⟨h.below.trans (hb.mono h.below.size), (hb.block b h.lt).trans h.row⟩
theorem KeepB.drew (h : KeepB w0 w b t cs) : KeepB w0 w.drew b t cs := ⟨h.below.drew, h.row⟩
theorem KeepB.drewN (h : KeepB w0 w b t cs) (n : Nat) : KeepB w0 (w.drewN n) b t cs := ⟨below_drewN h.below n, h.row⟩
theorem KeepB.alloc (h : KeepB w0 w b t cs) (o : Obj) : KeepB w0 (w.alloc o) b t cs := ⟨h.below.alloc h.below.size o, (Below.heap_alloc _ _ _ h.lt).trans h.row⟩
theorem KeepB.cell (h : KeepB w0 w b t cs) {i : Nat} {v : Value} (hv : cs[i]? = some v) : w.cell? ⟨b, i, none⟩ = some v := (cell_of_row _ _ i _ _ _ h.row).trans hv
end
/-- The cells of an entry from the place o on. -/
structure PartE (cs : Array Value) (o : Nat) (e : Ent) : Prop where
  c0 : cs[o]? = some (.int .i64 e.size)
  c1 : cs[o + 1]? = some (.int .i64 e.ctx)
  c2 : cs[o + 2]? = some (.int .u64 e.va)
  c3 : cs[o + 3]? = some (.int .u64 e.pa)
  c4 : cs[o + 4]? = some (.bool e.att.write)
  c5 : cs[o + 5]? = some (.bool e.att.priv)
  c6 : cs[o + 6]? = some (.bool e.att.exec)
  c7 : cs[o + 7]? = some (.bool e.att.lock)
  c8 : cs[o + 8]? = some (.bool e.att.global)
  c9 : cs[o + 9]? = some (.bool e.att.quiet)
  c10 : cs[o + 10]? = some (.bool e.valid)
end Go.Proofs.YtnbdoemnepfhdaaGreat.Fld

