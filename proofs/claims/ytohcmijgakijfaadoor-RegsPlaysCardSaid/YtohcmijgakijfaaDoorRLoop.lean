/-
  A law's loop over deeds: what is carried from round to round. Conditions: none.
-/
import Derived.Test.YtohcmijgakijfaaDoorRLaw
namespace Go.Proofs.YtohcmijgakijfaaDoor.Rg
open Fld
open Go.ChangeShapes Go.WideShapes Go.ChangeAt Go.RowKit Go.Deep
set_option maxHeartbeats 1000000
set_option maxRecDepth 100000
/-- Registers, and beside them the document's, in a box. -/
structure PX (w wr : World) (sb bm xb : Nat) (R : Reg) : Prop where
  pk : PK w wr sb bm R
  box : wr.heap[xb]? = some (.cells #[.int .u64 R.sI, .int .u64 R.tI, .int .u64 R.aI, .int .u64 R.pr, .int .u64 R.se, .int .u64 R.sD, .int .u64 R.ad, .int .u64 R.tD, .int .u64 R.aD] 27 (0, 0))
  far : w.heap.size ≤ xb ∧ xb ≠ sb ∧ xb ≠ bm ∧ xb ≠ 0
theorem PX.start {w wr : World} {sb bm : Nat} (h : PK w wr sb bm Reg.zero) : PX w (wr.alloc (.cells #[.int .u64 0, .int .u64 0, .int .u64 0, .int .u64 0, .int .u64 0, .int .u64 0, .int .u64 0, .int .u64 0, .int .u64 0] 27)) sb bm wr.heap.size Reg.zero := by
  have h1 := h.regs.lt; have h2 := h.regs.tab.1; have h3 := h.bel.size
  exact ⟨h.alloc _, heap_alloc_new _ _, by omega, by omega, by omega, by omega⟩
theorem PX.drew {w wr : World} {sb bm xb : Nat} {R : Reg} (h : PX w wr sb bm xb R) : PX w wr.drew sb bm xb R := ⟨h.pk.drew, h.box, h.far⟩
theorem PX.call {w wr w2 : World} {sb bm xb : Nat} {R : Reg} (h : PX w wr sb bm xb R) (b : Below wr.heap.size wr w2) : PX w w2 sb bm xb R := ⟨h.pk.call b, (b.block _ (lt_row h.box)).trans h.box, h.far⟩
theorem PX.low {w wr : World} {sb bm xb : Nat} {R : Reg} (h : PX w wr sb bm xb R) (o : Obj) : PX w (wr.alloc o) sb bm xb R := h.call ((Below.refl _ _).alloc (Nat.le_refl _) o)
/-- Behind does: the box has the elder ones. -/
structure PY (w wr : World) (sb bm xb : Nat) (R Q : Reg) : Prop where
  pk : PK w wr sb bm Q
  box : wr.heap[xb]? = some (.cells #[.int .u64 R.sI, .int .u64 R.tI, .int .u64 R.aI, .int .u64 R.pr, .int .u64 R.se, .int .u64 R.sD, .int .u64 R.ad, .int .u64 R.tD, .int .u64 R.aD] 27 (0, 0))
  far : w.heap.size ≤ xb ∧ xb ≠ sb ∧ xb ≠ bm ∧ xb ≠ 0
theorem PX.does {w wr w2 : World} {sb bm xb : Nat} {R Q : Reg} (h : PX w wr sb bm xb R) (t : RegsTo wr w2 sb bm Q) : PY w w2 sb bm xb R Q := ⟨h.pk.to t, (t.2.block _ (lt_row h.box) h.far.2.2.1).trans h.box, h.far⟩
theorem PY.low {w wr : World} {sb bm xb : Nat} {R Q : Reg} (h : PY w wr sb bm xb R Q) (o : Obj) : PY w (wr.alloc o) sb bm xb R Q := ⟨h.pk.alloc o, (Below.heap_alloc _ _ _ (lt_row h.box)).trans h.box, h.far⟩
theorem PY.cells {w wr : World} {sb bm xb : Nat} {R Q : Reg} (h : PY w wr sb bm xb R Q) : (∀ i, wr.frozen? ⟨xb, i, none⟩ = false) := fun i => row_frozen h.box i
theorem PY.put {w wr : World} {sb bm xb : Nat} {R Q : Reg} (h : PY w wr sb bm xb R Q) :
    PX w (((((((((wr.setCell ⟨xb, 0, none⟩ (.int .u64 Q.sI)).setCell ⟨xb, 1, none⟩ (.int .u64 Q.tI)).setCell ⟨xb, 2, none⟩ (.int .u64 Q.aI)).setCell ⟨xb, 3, none⟩ (.int .u64 Q.pr)).setCell ⟨xb, 4, none⟩ (.int .u64 Q.se)).setCell ⟨xb, 5, none⟩ (.int .u64 Q.sD)).setCell ⟨xb, 6, none⟩ (.int .u64 Q.ad)).setCell ⟨xb, 7, none⟩ (.int .u64 Q.tD)).setCell ⟨xb, 8, none⟩ (.int .u64 Q.aD)) sb bm xb Q :=
  ⟨⟨below_nine h.pk.bel h.far.1, h.pk.regs.nine h.far.2, h.pk.far⟩, row_nine h.box, h.far⟩
/-- A deed's cells, in a later world. -/
theorem old_deed {w wr : World} {b o : Nat} {d : DeedV} (hb : Below w.heap.size w wr) (lt : b < w.heap.size) (h : w.cell? ⟨b, o, none⟩ = some (.int .i64 d.kind) ∧ w.cell? ⟨b, o + 1, none⟩ = some (.int .i64 d.asi) ∧ w.cell? ⟨b, o + 2, none⟩ = some (.int .i64 d.unit) ∧ w.cell? ⟨b, o + 3, none⟩ = some (.int .i64 d.n) ∧ w.cell? ⟨b, o + 4, none⟩ = some (.int .u64 d.place) ∧ w.cell? ⟨b, o + 5, none⟩ = some (.int .u64 d.v) ∧ w.cell? ⟨b, o + 6, none⟩ = some (.bool d.store) ∧ w.cell? ⟨b, o + 7, none⟩ = some (.bool d.priv)) :
    wr.cell? ⟨b, o, none⟩ = some (.int .i64 d.kind) ∧ wr.cell? ⟨b, o + 1, none⟩ = some (.int .i64 d.asi) ∧ wr.cell? ⟨b, o + 2, none⟩ = some (.int .i64 d.unit) ∧ wr.cell? ⟨b, o + 3, none⟩ = some (.int .i64 d.n) ∧ wr.cell? ⟨b, o + 4, none⟩ = some (.int .u64 d.place) ∧ wr.cell? ⟨b, o + 5, none⟩ = some (.int .u64 d.v) ∧ wr.cell? ⟨b, o + 6, none⟩ = some (.bool d.store) ∧ wr.cell? ⟨b, o + 7, none⟩ = some (.bool d.priv) := by
  have hc : ∀ i, wr.cell? ⟨b, i, none⟩ = w.cell? ⟨b, i, none⟩ := fun i => hb.cell (p := ⟨b, i, none⟩) lt
  simp only [hc]
  exact h
end Go.Proofs.YtohcmijgakijfaaDoor.Rg
