/-
  The contract of package tte's getAttr. Conditions: words are below 2 to the 64.
-/
import Derived.Test.YtambpmbgepgkdaaTPut
import Derived.Deep.RegionWith
namespace Go.Proofs.Ytambpmbgepgkdaa.Fld
open Go.ChangeShapes Go.WideShapes Go.ChangeAt Go.RowKit
set_option maxHeartbeats 1000000
set_option maxRecDepth 100000
def Att.cells (a : Att) : Array Value := #[.bool a.write, .bool a.priv, .bool a.exec, .bool a.lock, .bool a.global, .bool a.quiet]
/-- The attributes of the bits below k of a word. -/
def attGet (d : Int) (k : Nat) : Att :=
  ⟨decide (1 < k) && (getI d 1 1 == 1), decide (2 < k) && (getI d 2 1 == 1), decide (3 < k) && (getI d 3 1 == 1), decide (6 < k) && (getI d 6 1 == 1), decide (0 < k) && (getI d 0 1 == 1), decide (60 < k) && (getI d 60 1 == 1)⟩
def attOf (d : Int) : Att := ⟨getI d 1 1 == 1, getI d 2 1 == 1, getI d 3 1 == 1, getI d 6 1 == 1, getI d 0 1 == 1, getI d 60 1 == 1⟩
theorem attGet_zero (d : Int) : attGet d 0 = ⟨false, false, false, false, false, false⟩ := rfl
theorem attGet_all (d : Int) : attGet d 61 = attOf d := rfl
theorem get_cases (d : Int) (b k : Nat) : (flagAt b k = .pointer none ∧ attGet d (k + 1) = attGet d k) ∨ ∃ o, o < 6 ∧ flagAt b k = .pointer (some ⟨b, o, none⟩) ∧ (attGet d (k + 1)).cells = (attGet d k).cells.setIfInBounds o (.bool (getI d k 1 == 1)) := by
  unfold flagAt
  split
  · exact .inr ⟨4, by omega, rfl, rfl⟩
  · exact .inr ⟨0, by omega, rfl, rfl⟩
  · exact .inr ⟨1, by omega, rfl, rfl⟩
  · exact .inr ⟨2, by omega, rfl, rfl⟩
  · exact .inr ⟨3, by omega, rfl, rfl⟩
  · exact .inr ⟨5, by omega, rfl, rfl⟩
  · rename_i h0 h1 h2 h3 h6 h60
    refine .inl ⟨rfl, ?_⟩
    have e : ∀ j : Nat, k ≠ j → decide (j < k + 1) = decide (j < k) := fun j hj => by
      rw [Bool.eq_iff_iff]; simp; omega
    unfold attGet
    rw [e 1 h1, e 2 h2, e 3 h3, e 6 h6, e 0 h0, e 60 h60]
theorem cells_at (a : Att) (o : Nat) (h : o < 6) : ∃ v, a.cells[o]? = some (.bool v) := by
  have : o = 0 ∨ o = 1 ∨ o = 2 ∨ o = 3 ∨ o = 4 ∨ o = 5 := by omega
  rcases this with rfl | rfl | rfl | rfl | rfl | rfl <;> exact ⟨_, rfl⟩
theorem set_row {w : World} {g : Nat} {t : TypeId} {cs : Array Value} (h : w.heap[g]? = some (.cells cs t (0, 0))) (i : Nat) (u : Value) : (w.setCell ⟨g, i, none⟩ u).heap[g]? = some (.cells (cs.setIfInBounds i u) t (0, 0)) := by
  simp [World.setCell, Array.getElem?_modify, h]
theorem row_frozen {w : World} {g : Nat} {t : TypeId} {cs : Array Value} (h : w.heap[g]? = some (.cells cs t (0, 0))) (i : Nat) : w.frozen? ⟨g, i, none⟩ = false := by
  simp [World.frozen?, h]
theorem getattr_any (d : Int) (d0 : 0 ≤ d) (d1 : d ≤ 18446744073709551615) (w : World) :
    Calls Try.prog 62 #[.int .u64 d] w fun r w' => r = .returned (.agg #[.bool (attOf d).write, .bool (attOf d).priv, .bool (attOf d).exec, .bool (attOf d).lock, .bool (attOf d).global, .bool (attOf d).quiet]) ∧ Below w.heap.size w w' := by
  go_enter Try.func62, Try.ntmps62
  go_wp2_with fail
  refine (flags_any _ _).mono ?_; rintro r w1 ⟨rfl, hb1⟩
  have hz : w.heap.size + 1 < w1.heap.size := by have := hb1.size; simp at this; omega
  have hbA := Lib.hid (show w1.heap[w.heap.size + 1]? = some (.cells #[.bool false, .bool false, .bool false, .bool false, .bool false, .bool false] 24 (0, 0)) from (hb1.block _ (by simp)).trans (heap_alloc2_new _ _ _))
  have hbR := Lib.hid (show w1.heap[w.heap.size]? = some (.cells #[.bool false, .bool false, .bool false, .bool false, .bool false, .bool false] 24 (0, 0)) from (hb1.block _ (by simp; omega)).trans ((Below.heap_alloc _ _ _ (by simp)).trans (heap_alloc_new _ _)))
  have hbw := Lib.hid (show Below w.heap.size w w1 from (((Below.refl _ _).alloc (Nat.le_refl _) _).alloc (by simp) _).trans (hb1.mono (by simp; omega)))
  clear hb1
  go_wp2
  go_loopw [7] (fun i wr => ∃ k : Nat, k ≤ 61 ∧ i = .int .i64 (k : Int) ∧ Hid (wr.heap[w.heap.size + 1]? = some (.cells (attGet d k).cells 24 (0, 0))) ∧ Hid (Below (w.heap.size + 1) w1 wr)) (fun i _ => 61 - (intOf i).toNat)
  case atStart => exact ⟨0, by omega, rfl, hbA, Below.refl _ _⟩
  case round =>
    obtain ⟨k, hk, rfl, hA, hbl⟩ := hrel
    have hzr : w.heap.size + 1 < wr.heap.size := by have := hbl.out.size; omega
    by_cases hlt : k < 61
    · have hat := run_index_flag (w.heap.size + 1) k hlt _ (flagCells_at (w.heap.size + 1) k hlt)
      have hlt' : (k : Int) < 61 := by omega
      rcases get_cases d (w.heap.size + 1) k with ⟨h1, h2⟩ | ⟨o, ho, h1, h2⟩
      · rw [h1] at hat
        have H2 := Lib.hid h2
        clear h1 h2
        go_wp2
        go_roundw
        case rel => exact ⟨k + 1, by omega, by go_num, by rw [H2.out]; exact (Below.heap_alloc _ _ _ hzr).trans hA.out, hbl.out.alloc (by omega) _⟩
        case measure => simp [intOf]; omega
      · rw [h1] at hat
        have H2 := Lib.hid h2
        obtain ⟨v, hv⟩ := cells_at (attGet d k) o ho
        have hcell : wr.cell? ⟨w.heap.size + 1, o, none⟩ = some (.bool v) := by rw [cell_of_row _ _ _ _ _ _ hA.out]; exact hv
        have hfro : wr.frozen? ⟨w.heap.size + 1, o, none⟩ = false := row_frozen hA.out o
        clear h1 h2 hv
        go_wp2_with fail
        go_region_with (go_at_call 47; refine (bit_any _ _ d0 d1 _).mono ?_; rintro r w2 ⟨rfl, n, rfl⟩)
        all_goals
          go_wp2
          go_roundw
          case rel => exact ⟨k + 1, by omega, by go_num, by rw [H2.out]; exact set_row (w := World.drewN _ _) ((Below.heap_alloc _ _ _ hzr).trans hA.out) o _, (below_drewN (hbl.out.alloc (by omega) _) _).setCell (Nat.le_refl _) _⟩
          case measure => simp [intOf]; omega
    · obtain rfl : k = 61 := by omega
      rw [attGet_all] at hA
      have a0 := (cell_of_row _ _ 0 _ _ _ hA.out).trans (show (attOf d).cells[0]? = some (.bool (attOf d).write) from rfl)
      have a1 := (cell_of_row _ _ 1 _ _ _ hA.out).trans (show (attOf d).cells[1]? = some (.bool (attOf d).priv) from rfl)
      have a2 := (cell_of_row _ _ 2 _ _ _ hA.out).trans (show (attOf d).cells[2]? = some (.bool (attOf d).exec) from rfl)
      have a3 := (cell_of_row _ _ 3 _ _ _ hA.out).trans (show (attOf d).cells[3]? = some (.bool (attOf d).lock) from rfl)
      have a4 := (cell_of_row _ _ 4 _ _ _ hA.out).trans (show (attOf d).cells[4]? = some (.bool (attOf d).global) from rfl)
      have a5 := (cell_of_row _ _ 5 _ _ _ hA.out).trans (show (attOf d).cells[5]? = some (.bool (attOf d).quiet) from rfl)
      have hR := (hbl.out.block w.heap.size (by omega)).trans hbR.out
      have r0 := cell_of_row _ _ 0 _ _ _ hR
      have r1 := cell_of_row _ _ 1 _ _ _ hR
      have r2 := cell_of_row _ _ 2 _ _ _ hR
      have r3 := cell_of_row _ _ 3 _ _ _ hR
      have r4 := cell_of_row _ _ 4 _ _ _ hR
      have r5 := cell_of_row _ _ 5 _ _ _ hR
      have hfr : ∀ i, wr.frozen? ⟨w.heap.size, i, none⟩ = false := fun i => row_frozen hR i
      clear hR
      obtain ⟨A, hAA⟩ : ∃ A, attOf d = A := ⟨_, rfl⟩
      rw [hAA] at a0 a1 a2 a3 a4 a5
      have HA := Lib.hid hAA
      clear hAA
      go_wp2
      refine bodyPost_ret (v := .agg #[.bool A.write, .bool A.priv, .bool A.exec, .bool A.lock, .bool A.global, .bool A.quiet]) (by simp [results, Try.results62, go_sem, r0, r1, r2, r3, r4, r5]) rfl ⟨by rw [HA.out], ?_⟩
      have hq := hbw.out.trans (hbl.out.mono (by omega))
      exact (((((hq.setCell (Nat.le_refl _) _).setCell (Nat.le_refl _) _).setCell (Nat.le_refl _) _).setCell (Nat.le_refl _) _).setCell (Nat.le_refl _) _).setCell (Nat.le_refl _) _
end Go.Proofs.Ytambpmbgepgkdaa.Fld
