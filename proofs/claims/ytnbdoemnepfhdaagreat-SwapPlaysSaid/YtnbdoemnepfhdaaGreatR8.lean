/-
  Contracts and plain facts: TFlag. Conditions: each says its own.
-/
import Derived.Test.YtnbdoemnepfhdaaGreatR7
import Derived.BigRegion
import Derived.StillTailTactics
import Derived.Deep.WholeRow
import Derived.Laws.CopyOwn
namespace Go.Proofs.YtnbdoemnepfhdaaGreat.Fld
open Go.ChangeShapes Go.WideShapes Go.ChangeAt Go.RowKit
set_option maxHeartbeats 1000000
set_option maxRecDepth 100000
/-- Where the attributes stand, by the numbers of their bits: where they are kept in memory. -/
def flagAt (b : Nat) : Nat → Value
  | 0 => .pointer (some ⟨b, 4, none⟩)
  | 1 => .pointer (some ⟨b, 0, none⟩)
  | 2 => .pointer (some ⟨b, 1, none⟩)
  | 3 => .pointer (some ⟨b, 2, none⟩)
  | 6 => .pointer (some ⟨b, 3, none⟩)
  | 60 => .pointer (some ⟨b, 5, none⟩)
  | _ => .pointer none
def flagCells (b : Nat) : Array Value := ((List.range 61).map (flagAt b)).toArray
theorem flagCells_size (b : Nat) : (flagCells b).size = 61 := by simp [flagCells]
theorem flags_any (b : Nat) (w : World) :
    Calls Tryz.prog 136 #[.pointer (some ⟨b, 0, none⟩)] w fun r w' => r = .returned (.agg (flagCells b)) ∧ Below w.heap.size w w' := by
  go_enter Tryz.func136, Tryz.ntmps136
  go_wp2_with fail
  obtain ⟨W, hW⟩ : ∃ W, W = w.alloc (.cells (Array.replicate 61 (.pointer none)) 167) := ⟨_, rfl⟩
  have hg := Lib.hid (show W.heap[w.heap.size]? = some (.cells (Array.replicate 61 (.pointer none)) 167 (0, 0)) by rw [hW]; exact heap_alloc_new _ _)
  have hb := Lib.hid (show Below w.heap.size w W by rw [hW]; exact (Below.refl _ _).alloc (Nat.le_refl _) _)
  change Code.wp _ _ _ _ (w.alloc (.cells (Array.replicate 61 (.pointer none)) 167))
  rw [← hW]
  clear hW
  go_still_tail 25, (by kernel_rfl)
  refine wpList_plain rfl (fun K hK => wp_store_row 167 _ _ rfl w.heap.size (flagCells b) rfl (by kernel_rfl) 167 _ (show W.heap[w.heap.size]? = _ from hg.out) (by kernel_rfl) (by simp [flagCells_size]) (by kernel_rfl) (hK _ _ ?_))
  change wpList _ _ _ _ _ (W.drew.setRow w.heap.size (flagCells b))
  have hb2 := Lib.hid (below_setRow (g := w.heap.size) hb.out.drew (Nat.le_refl _) (flagCells b))
  have hg2 := Lib.hid (setRow_heap W.drew w.heap.size _ (flagCells b) 167 _ hg.out)
  generalize W.drew.setRow w.heap.size (flagCells b) = W2 at hb2 hg2 ⊢
  go_wp2
  refine bodyPost_ret (v := .agg (flagCells b)) ?_ rfl ⟨rfl, hb2.out⟩
  exact results_cell_row rfl _ _ w.heap.size 167 (flagCells b) (0, 0) _ rfl hg2.out Tryz.underlying167 (by kernel_rfl) (by kernel_rfl)
end Go.Proofs.YtnbdoemnepfhdaaGreat.Fld

