/-
  A block that stays over calls, and lists of entries and of words in one. Conditions: none.
-/
import Derived.Test.YtfkbloclogeacaaDoorTKeep
import Derived.Test.YtfkbloclogeacaaDoorTRefD
namespace Go.Proofs.YtfkbloclogeacaaDoor.Fld
open Go.ChangeShapes Go.WideShapes Go.ChangeAt Go.RowKit
/-- Of the world w only what is new has turned, and the block b is the cells cs. -/
structure KeepB (w0 w : World) (b : Nat) (t : TypeId) (cs : Array Value) : Prop where
  below : Below w0.heap.size w0 w
  row : w.heap[b]? = some (.cells cs t (0, 0))
section
variable {w0 w w' : World} {b : Nat} {t : TypeId} {cs : Array Value}
theorem KeepB.lt (h : KeepB w0 w b t cs) : b < w.heap.size := by
  rcases Nat.lt_or_ge b w.heap.size with hlt | hge
  · exact hlt
  · have := h.row; rw [Array.getElem?_eq_none hge] at this; cases this
theorem KeepB.call (h : KeepB w0 w b t cs) (hb : Below w.heap.size w w') : KeepB w0 w' b t cs := ⟨h.below.trans (hb.mono h.below.size), (hb.block b h.lt).trans h.row⟩
theorem KeepB.drew (h : KeepB w0 w b t cs) : KeepB w0 w.drew b t cs := ⟨h.below.drew, h.row⟩
theorem KeepB.drewN (h : KeepB w0 w b t cs) (n : Nat) : KeepB w0 (w.drewN n) b t cs := ⟨below_drewN h.below n, h.row⟩
theorem KeepB.alloc (h : KeepB w0 w b t cs) (o : Obj) : KeepB w0 (w.alloc o) b t cs := ⟨h.below.alloc h.below.size o, (Below.heap_alloc _ _ _ h.lt).trans h.row⟩
theorem KeepB.cell (h : KeepB w0 w b t cs) {i : Nat} {v : Value} (hv : cs[i]? = some v) : w.cell? ⟨b, i, none⟩ = some v := (cell_of_row _ _ i _ _ _ h.row).trans hv
end
/-- The cells of an entry from the place o on. -/
structure PartE (cs : Array Value) (o : Nat) (e : Ent) : Prop where
  c0 : cs[o]? = some (.int .i64 e.size)
  c1 : cs[o + 1]? = some (.int .i64 e.ctx)
  c2 : cs[o + 2]? = some (.int .u64 e.va)
  c3 : cs[o + 3]? = some (.int .u64 e.pa)
  c4 : cs[o + 4]? = some (.bool e.att.write)
  c5 : cs[o + 5]? = some (.bool e.att.priv)
  c6 : cs[o + 6]? = some (.bool e.att.exec)
  c7 : cs[o + 7]? = some (.bool e.att.lock)
  c8 : cs[o + 8]? = some (.bool e.att.global)
  c9 : cs[o + 9]? = some (.bool e.att.quiet)
  c10 : cs[o + 10]? = some (.bool e.valid)
def Ent.list4 (a b c d : Ent) : Array Value := #[.int .i64 a.size, .int .i64 a.ctx, .int .u64 a.va, .int .u64 a.pa, .bool a.att.write, .bool a.att.priv, .bool a.att.exec, .bool a.att.lock, .bool a.att.global, .bool a.att.quiet, .bool a.valid,
  .int .i64 b.size, .int .i64 b.ctx, .int .u64 b.va, .int .u64 b.pa, .bool b.att.write, .bool b.att.priv, .bool b.att.exec, .bool b.att.lock, .bool b.att.global, .bool b.att.quiet, .bool b.valid,
  .int .i64 c.size, .int .i64 c.ctx, .int .u64 c.va, .int .u64 c.pa, .bool c.att.write, .bool c.att.priv, .bool c.att.exec, .bool c.att.lock, .bool c.att.global, .bool c.att.quiet, .bool c.valid,
  .int .i64 d.size, .int .i64 d.ctx, .int .u64 d.va, .int .u64 d.pa, .bool d.att.write, .bool d.att.priv, .bool d.att.exec, .bool d.att.lock, .bool d.att.global, .bool d.att.quiet, .bool d.valid]
theorem list4_at (a b c d : Ent) (p q r s : Int) (k : Nat) (hk : k < 4) : ∃ (e : Ent) (v : Int), ((e = a ∧ v = p) ∨ (e = b ∧ v = q) ∨ (e = c ∧ v = r) ∨ (e = d ∧ v = s)) ∧ PartE (Ent.list4 a b c d) (k * 11) e ∧ (#[Value.int .u64 p, .int .u64 q, .int .u64 r, .int .u64 s])[k]? = some (.int .u64 v) := by
  have : k = 0 ∨ k = 1 ∨ k = 2 ∨ k = 3 := by omega
  rcases this with rfl | rfl | rfl | rfl
  · exact ⟨a, p, .inl ⟨rfl, rfl⟩, ⟨rfl, rfl, rfl, rfl, rfl, rfl, rfl, rfl, rfl, rfl, rfl⟩, rfl⟩
  · exact ⟨b, q, .inr (.inl ⟨rfl, rfl⟩), ⟨rfl, rfl, rfl, rfl, rfl, rfl, rfl, rfl, rfl, rfl, rfl⟩, rfl⟩
  · exact ⟨c, r, .inr (.inr (.inl ⟨rfl, rfl⟩)), ⟨rfl, rfl, rfl, rfl, rfl, rfl, rfl, rfl, rfl, rfl, rfl⟩, rfl⟩
  · exact ⟨d, s, .inr (.inr (.inr ⟨rfl, rfl⟩)), ⟨rfl, rfl, rfl, rfl, rfl, rfl, rfl, rfl, rfl, rfl, rfl⟩, rfl⟩
theorem keepB_cells {w0 w : World} {b c : Nat} {t u : TypeId} {cs ds : Array Value} {o k : Nat} {e : Ent} {v : Int} (hP : PartE cs o e) (hv : ds[k]? = some (.int .u64 v)) (h : KeepB w0 w b t cs) (h' : KeepB w0 w c u ds) : w.cell? ⟨b, o, none⟩ = some (.int .i64 e.size) ∧ w.cell? ⟨b, o + 1, none⟩ = some (.int .i64 e.ctx) ∧ w.cell? ⟨b, o + 2, none⟩ = some (.int .u64 e.va) ∧ w.cell? ⟨b, o + 3, none⟩ = some (.int .u64 e.pa) ∧ w.cell? ⟨b, o + 4, none⟩ = some (.bool e.att.write) ∧ w.cell? ⟨b, o + 5, none⟩ = some (.bool e.att.priv) ∧ w.cell? ⟨b, o + 6, none⟩ = some (.bool e.att.exec) ∧ w.cell? ⟨b, o + 7, none⟩ = some (.bool e.att.lock) ∧ w.cell? ⟨b, o + 8, none⟩ = some (.bool e.att.global) ∧ w.cell? ⟨b, o + 9, none⟩ = some (.bool e.att.quiet) ∧ w.cell? ⟨b, o + 10, none⟩ = some (.bool e.valid) ∧ w.cell? ⟨c, k, none⟩ = some (.int .u64 v) :=
  ⟨h.cell hP.c0, h.cell hP.c1, h.cell hP.c2, h.cell hP.c3, h.cell hP.c4, h.cell hP.c5, h.cell hP.c6, h.cell hP.c7, h.cell hP.c8, h.cell hP.c9, h.cell hP.c10, h'.cell hv⟩
end Go.Proofs.YtfkbloclogeacaaDoor.Fld
