/-
  Contracts of package tte's functions that only compute. Conditions: words are below 2 to the 64.
-/
import Derived.Test.YtfkbloclogeacaaDoorPNext
import Derived.Test.YtfkbloclogeacaaDoorBits
import Derived.Test.YtfkbloclogeacaaDoorTMath
import Derived.Below
namespace Go.Proofs.YtfkbloclogeacaaDoor.Fld
open Go.ChangeShapes Go.WideShapes Go.ChangeAt Go.RowKit
set_option maxHeartbeats 400000
def Ent.ctxB (e : Ent) : Bool := if e.att.global then e.ctx == 0 else decide (0 ≤ e.ctx ∧ e.ctx ≤ 8191)
def Ent.vaB (e : Ent) : Bool := !holeB e.va && startsB e.va e.size
def Ent.paB (e : Ent) : Bool := fitsB e.pa 41 && startsB e.pa e.size
theorem Ent.may_parts (e : Ent) (p0 : 0 ≤ e.pa) : e.mayB = (e.valid && sizeB e.size && e.ctxB && e.vaB && e.paB) := by
  have hf : fitsB e.pa 41 = decide (e.pa < 2199023255552) := by unfold fitsB; rfl
  unfold Ent.mayB Ent.ctxB Ent.vaB Ent.paB startsB
  rw [hf]
  cases e.valid <;> cases sizeB e.size <;> cases hg : e.att.global <;> cases holeB e.va <;> simp
  · rw [Bool.eq_iff_iff]; simp [and_assoc, and_comm, and_left_comm]
  · rw [Bool.eq_iff_iff]; simp; omega
theorem bcell {W w1 : World} {B : Nat} (hb : Below B W w1) : (∀ b o, b < B → w1.cell? ⟨b, o, none⟩ = W.cell? ⟨b, o, none⟩) ∧ (∀ b o, b < B → w1.frozen? ⟨b, o, none⟩ = W.frozen? ⟨b, o, none⟩) :=
  ⟨fun b o h => hb.cell (p := ⟨b, o, none⟩) h, fun b o h => hb.frozen (p := ⟨b, o, none⟩) h⟩
theorem below_box {w u : World} {o : Obj} (h : Below (w.alloc o).heap.size (w.alloc o) u) : Below w.heap.size w u :=
  ((Below.refl _ _).alloc (Nat.le_refl _) _).trans (h.mono (by simp))
end Go.Proofs.YtfkbloclogeacaaDoor.Fld
