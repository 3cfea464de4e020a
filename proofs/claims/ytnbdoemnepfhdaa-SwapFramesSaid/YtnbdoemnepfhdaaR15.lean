/-
  Contracts and plain facts: THits. Conditions: each says its own.
-/
import Derived.Test.YtnbdoemnepfhdaaR9
import Derived.Test.YtnbdoemnepfhdaaR7
import Derived.Deep.RegionHeld3
namespace Go.Proofs.Ytnbdoemnepfhdaa.Fld
open Go.ChangeShapes Go.WideShapes Go.ChangeAt Go.RowKit
/-- Of the world w only what is new has turned, and the block b is the cells cs. -/
structure KeepB (w0 w : World) (b : Nat) (t : TypeId) (cs : Array Value) : Prop where
  below : Below w0.heap.size w0 w
  row : w.heap[b]? = some (.cells cs t (0, 0))
section
variable {w0 w w' : World} {b : Nat} {t : TypeId} {cs : Array Value}
theorem KeepB.lt (h : KeepB w0 w b t cs) : b < w.heap.size := by
  rcases Nat.lt_or_ge b w.heap.size with hlt | hge
  · exact hlt
  · have := h.row; rw [Array.getElem?_eq_none hge] at this; cases this
theorem KeepB.call (h : KeepB w0 w b t cs) (hb : Below w.heap.size w w') : KeepB w0 w' b t cs := ⟨h.below.trans (hb.mono h.below.size), (hb.block b h.lt).trans h.row⟩
theorem KeepB.drew (h : KeepB w0 w b t cs) : KeepB w0 w.drew b t cs := ⟨h.below.drew, h.row⟩
theorem KeepB.drewN (h : KeepB w0 w b t cs) (n : Nat) : KeepB w0 (w.drewN n) b t cs := ⟨below_drewN h.below n, h.row⟩
theorem KeepB.alloc (h : KeepB w0 w b t cs) (o : Obj) : KeepB w0 (w.alloc o) b t cs := ⟨h.below.alloc h.below.size o, (Below.heap_alloc _ _ _ h.lt).trans h.row⟩
theorem KeepB.cell (h : KeepB w0 w b t cs) {i : Nat} {v : Value} (hv : cs[i]? = some v) : w.cell? ⟨b, i, none⟩ = some v := (cell_of_row _ _ i _ _ _ h.row).trans hv
end
/-- The cells of an entry from the place o on. -/
structure PartE (cs : Array Value) (o : Nat) (e : Ent) : Prop where
  c0 : cs[o]? = some (.int .i64 e.size)
  c1 : cs[o + 1]? = some (.int .i64 e.ctx)
  c2 : cs[o + 2]? = some (.int .u64 e.va)
  c3 : cs[o + 3]? = some (.int .u64 e.pa)
  c4 : cs[o + 4]? = some (.bool e.att.write)
  c5 : cs[o + 5]? = some (.bool e.att.priv)
  c6 : cs[o + 6]? = some (.bool e.att.exec)
  c7 : cs[o + 7]? = some (.bool e.att.lock)
  c8 : cs[o + 8]? = some (.bool e.att.global)
  c9 : cs[o + 9]? = some (.bool e.att.quiet)
  c10 : cs[o + 10]? = some (.bool e.valid)
end Go.Proofs.Ytnbdoemnepfhdaa.Fld

