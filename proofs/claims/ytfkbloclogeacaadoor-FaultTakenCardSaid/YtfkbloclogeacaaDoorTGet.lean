/-
  The contract of package tte's getAttr. Conditions: words are below 2 to the 64.
-/
import Derived.Test.YtfkbloclogeacaaDoorTPut
import Derived.Deep.RegionWith
namespace Go.Proofs.YtfkbloclogeacaaDoor.Fld
open Go.ChangeShapes Go.WideShapes Go.ChangeAt Go.RowKit
set_option maxHeartbeats 1000000
set_option maxRecDepth 100000
def Att.cells (a : Att) : Array Value := #[.bool a.write, .bool a.priv, .bool a.exec, .bool a.lock, .bool a.global, .bool a.quiet]
/-- The attributes of the bits below k of a word. -/
def attGet (d : Int) (k : Nat) : Att :=
  ⟨decide (1 < k) && (getI d 1 1 == 1), decide (2 < k) && (getI d 2 1 == 1), decide (3 < k) && (getI d 3 1 == 1), decide (6 < k) && (getI d 6 1 == 1), decide (0 < k) && (getI d 0 1 == 1), decide (60 < k) && (getI d 60 1 == 1)⟩
def attOf (d : Int) : Att := ⟨getI d 1 1 == 1, getI d 2 1 == 1, getI d 3 1 == 1, getI d 6 1 == 1, getI d 0 1 == 1, getI d 60 1 == 1⟩
theorem attGet_zero (d : Int) : attGet d 0 = ⟨false, false, false, false, false, false⟩ := rfl
theorem attGet_all (d : Int) : attGet d 61 = attOf d := rfl
theorem get_cases (d : Int) (b k : Nat) : (flagAt b k = .pointer none ∧ attGet d (k + 1) = attGet d k) ∨ ∃ o, o < 6 ∧ flagAt b k = .pointer (some ⟨b, o, none⟩) ∧ (attGet d (k + 1)).cells = (attGet d k).cells.setIfInBounds o (.bool (getI d k 1 == 1)) := by
  unfold flagAt
  split
  · exact .inr ⟨4, by omega, rfl, rfl⟩
  · exact .inr ⟨0, by omega, rfl, rfl⟩
  · exact .inr ⟨1, by omega, rfl, rfl⟩
  · exact .inr ⟨2, by omega, rfl, rfl⟩
  · exact .inr ⟨3, by omega, rfl, rfl⟩
  · exact .inr ⟨5, by omega, rfl, rfl⟩
  · rename_i h0 h1 h2 h3 h6 h60
    refine .inl ⟨rfl, ?_⟩
    have e : ∀ j : Nat, k ≠ j → decide (j < k + 1) = decide (j < k) := fun j hj => by
      rw [Bool.eq_iff_iff]; simp; omega
    unfold attGet
    rw [e 1 h1, e 2 h2, e 3 h3, e 6 h6, e 0 h0, e 60 h60]
theorem cells_at (a : Att) (o : Nat) (h : o < 6) : ∃ v, a.cells[o]? = some (.bool v) := by
  have : o = 0 ∨ o = 1 ∨ o = 2 ∨ o = 3 ∨ o = 4 ∨ o = 5 := by omega
  rcases this with rfl | rfl | rfl | rfl | rfl | rfl <;> exact ⟨_, rfl⟩
theorem set_row {w : World} {g : Nat} {t : TypeId} {cs : Array Value} (h : w.heap[g]? = some (.cells cs t (0, 0))) (i : Nat) (u : Value) : (w.setCell ⟨g, i, none⟩ u).heap[g]? = some (.cells (cs.setIfInBounds i u) t (0, 0)) := by
  simp [World.setCell, Array.getElem?_modify, h]
theorem row_frozen {w : World} {g : Nat} {t : TypeId} {cs : Array Value} (h : w.heap[g]? = some (.cells cs t (0, 0))) (i : Nat) : w.frozen? ⟨g, i, none⟩ = false := by
  simp [World.frozen?, h]
end Go.Proofs.YtfkbloclogeacaaDoor.Fld
