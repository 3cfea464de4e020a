/-
  What a law of registers carries from call to call. Conditions: none.
-/
import Derived.Test.YtohcmijgakijfaaDoorROpen
namespace Go.Proofs.YtohcmijgakijfaaDoor.Rg
open Fld
open Go.ChangeShapes Go.WideShapes Go.ChangeAt Go.RowKit Go.Deep
set_option maxHeartbeats 1000000
set_option maxRecDepth 100000
/-- Of the world w only what is new has turned, and there are registers. -/
structure PK (w wr : World) (sb bm : Nat) (R : Reg) : Prop where
  bel : Below w.heap.size w wr
  regs : RegsAt wr sb bm R
  far : w.heap.size ≤ bm ∧ w.heap.size ≤ sb
theorem PK.new {w w1 : World} {R : Reg} (h : RegsAt w1 (w.heap.size + 1) w.heap.size R) (b : Below w.heap.size w w1) : PK w w1 (w.heap.size + 1) w.heap.size R := ⟨b, h, Nat.le_refl _, by omega⟩
theorem PK.alloc {w wr : World} {sb bm : Nat} {R : Reg} (h : PK w wr sb bm R) (o : Obj) : PK w (wr.alloc o) sb bm R := ⟨h.bel.alloc h.bel.size o, h.regs.alloc o, h.far⟩
theorem PK.drew {w wr : World} {sb bm : Nat} {R : Reg} (h : PK w wr sb bm R) : PK w wr.drew sb bm R := ⟨h.bel.drew, h.regs.drew, h.far⟩
theorem PK.drewN {w wr : World} {sb bm : Nat} {R : Reg} (h : PK w wr sb bm R) (n : Nat) : PK w (wr.drewN n) sb bm R := ⟨below_drewN h.bel n, h.regs.drewN n, h.far⟩
theorem PK.call {w wr w2 : World} {sb bm : Nat} {R : Reg} (h : PK w wr sb bm R) (b : Below wr.heap.size wr w2) : PK w w2 sb bm R := ⟨h.bel.trans (b.mono h.bel.size), h.regs.below b (Nat.le_refl _), h.far⟩
theorem PK.to {w wr w2 : World} {sb bm : Nat} {R Q : Reg} (h : PK w wr sb bm R) (t : RegsTo wr w2 sb bm Q) : PK w w2 sb bm Q := ⟨h.bel.trans (t.2.toBelow h.far.1 h.bel.size), t.1, h.far⟩
theorem PK.tab {w wr : World} {sb bm : Nat} {R : Reg} (h : PK w wr sb bm R) : Tab wr := h.regs.tab
theorem nrm_neg_or (a m : Int) : (RowKit.Hid (-((a + 1).tmod m) = nrm a m) ∧ a < 0) ∨ (RowKit.Hid (a % m = nrm a m) ∧ ¬ a < 0) := nrm_or a m
end Go.Proofs.YtohcmijgakijfaaDoor.Rg
