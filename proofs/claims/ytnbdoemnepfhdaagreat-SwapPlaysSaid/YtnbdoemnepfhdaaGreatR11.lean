/-
  Contracts and plain facts: TOpen. Conditions: each says its own.
-/
import Derived.Test.YtnbdoemnepfhdaaGreatR7
import Derived.ChangeSame
import Derived.Lib.SmallJoins
namespace Go.Proofs.YtnbdoemnepfhdaaGreat.Fld
open Go.ChangeShapes Go.WideShapes Go.ChangeAt Go.RowKit
set_option maxHeartbeats 1000000
set_option maxRecDepth 100000
def Ent.lits (e : Ent) : Prop := (Lit.int .i64 e.size).wf = true ∧ (Lit.int .i64 e.ctx).wf = true ∧ (Lit.int .u64 e.va).wf = true ∧ (Lit.int .u64 e.pa).wf = true
theorem Ent.lits_wf {e : Ent} (h : e.lits) : e.wf := by
  obtain ⟨h1, h2, h3, h4⟩ := h
  exact ⟨bounds_i64 h1, bounds_i64 h2, bounds_u64 h3, bounds_u64 h4⟩
section
variable {H : Type} {enc : TypeId × Value → H} {w : World} {base : Nat} {spare : Nat → Bool} {held : Bool}
theorem cells_attr : Tryz.prog.cellsOf 28 = 6 := by kernel_rfl
theorem cells_entry : Tryz.prog.cellsOf 30 = 11 := by kernel_rfl
theorem cells_int : Tryz.prog.cellsOf 3 = 1 := by kernel_rfl
theorem cells_u64 : Tryz.prog.cellsOf 26 = 1 := by kernel_rfl
theorem cells_bool : Tryz.prog.cellsOf 4 = 1 := by kernel_rfl
end
end Go.Proofs.YtnbdoemnepfhdaaGreat.Fld

