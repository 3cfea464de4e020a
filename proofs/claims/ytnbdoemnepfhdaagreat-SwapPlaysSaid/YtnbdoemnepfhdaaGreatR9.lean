/-
  Contracts and plain facts: TPut. Conditions: each says its own.
-/
import Derived.Test.YtnbdoemnepfhdaaGreatR8
namespace Go.Proofs.YtnbdoemnepfhdaaGreat.Fld
open Go.ChangeShapes Go.WideShapes Go.ChangeAt Go.RowKit
set_option maxHeartbeats 1000000
set_option maxRecDepth 100000
/-- The attribute at a bit's number: its place in memory, and its truth. -/
def attBit (a : Att) : Nat → Option (Nat × Bool)
  | 0 => some (4, a.global)
  | 1 => some (0, a.write)
  | 2 => some (1, a.priv)
  | 3 => some (2, a.exec)
  | 6 => some (3, a.lock)
  | 60 => some (5, a.quiet)
  | _ => none
def putUp (a : Att) (x : Int) : Nat → Int
  | 0 => x
  | k + 1 => match attBit a k with | some (_, v) => putI (putUp a x k) k 1 ((v.toNat : Nat) : Int) | none => putUp a x k
theorem putUp_bd (a : Att) (x : Int) (h0 : 0 ≤ x) (h1 : x ≤ 18446744073709551615) (k : Nat) : 0 ≤ putUp a x k ∧ putUp a x k ≤ 18446744073709551615 := by
  induction k with
  | zero => exact ⟨h0, h1⟩
  | succ k ih =>
    unfold putUp
    split
    · exact putI_bd _ _ _ _ ih.1 ih.2
    · exact ih
theorem flagCells_at (b k : Nat) (h : k < 61) : (flagCells b)[k]? = some (flagAt b k) := by
  simp [flagCells, h]
theorem att_cases (a : Att) (b k : Nat) : (flagAt b k = .pointer none ∧ attBit a k = none) ∨ ∃ o v, o < 6 ∧ flagAt b k = .pointer (some ⟨b, o, none⟩) ∧ attBit a k = some (o, v) ∧ (#[Value.bool a.write, .bool a.priv, .bool a.exec, .bool a.lock, .bool a.global, .bool a.quiet])[o]? = some (.bool v) := by
  unfold flagAt attBit
  split
  · exact .inr ⟨4, a.global, by omega, rfl, rfl, rfl⟩
  · exact .inr ⟨0, a.write, by omega, rfl, rfl, rfl⟩
  · exact .inr ⟨1, a.priv, by omega, rfl, rfl, rfl⟩
  · exact .inr ⟨2, a.exec, by omega, rfl, rfl, rfl⟩
  · exact .inr ⟨3, a.lock, by omega, rfl, rfl, rfl⟩
  · exact .inr ⟨5, a.quiet, by omega, rfl, rfl, rfl⟩
  · exact .inl ⟨rfl, by split <;> simp_all⟩
theorem extract_one {α : Type} (xs : Array α) (k : Nat) (v : α) (h : xs[k]? = some v) : xs.extract k (k + 1) = #[v] := by
  obtain ⟨hk, hv⟩ := Array.getElem?_eq_some_iff.1 h
  apply Array.ext
  · simp; omega
  · intro i h1 h2
    simp at h2
    subst h2
    simp [hv]
theorem run_index_flag (b k : Nat) (h : k < 61) (v : Value) (hv : (flagCells b)[k]? = some v) (W : World) :
    Sem.run Tryz.prog (Instr.index 167 (.agg (flagCells b)) (.int .i64 (k : Int))) W = .ok (.agg #[v]) W := by
  have hs := flagCells_size b
  have h1 : (k : Int) < 61 := by omega
  unfold Instr.index
  go_simp
  exact extract_one _ _ _ hv
theorem putattr_any (x : Int) (a : Att) (x0 : 0 ≤ x) (x1 : x ≤ 18446744073709551615) (w : World) :
    Calls Tryz.prog 124 #[.int .u64 x, .agg #[.bool a.write, .bool a.priv, .bool a.exec, .bool a.lock, .bool a.global, .bool a.quiet]] w fun r w' => r = .returned (.int .u64 (putUp a x 61)) ∧ Below w.heap.size w w' := by
  go_enter Tryz.func124, Tryz.ntmps124
  go_wp2_with fail
  refine (flags_any _ _).mono ?_; rintro r w1 ⟨rfl, hb1⟩
  obtain ⟨hc, hf⟩ := bcell hb1
  have hz : w.heap.size < w1.heap.size := by have := hb1.size; simp at this; omega
  have hs := Lib.hid (flagCells_size w.heap.size)
  have ha0 := hc w.heap.size 0 (by simp)
  have hblk := Lib.hid (show w1.heap[w.heap.size]? = some (.cells #[Value.bool a.write, .bool a.priv, .bool a.exec, .bool a.lock, .bool a.global, .bool a.quiet] 28 (0, 0)) from (hb1.block _ (by simp)).trans (heap_alloc_new _ _))
  have hbw := Lib.hid (below_box hb1)
  clear hb1 hc hf ha0
  go_wp2
  go_loopw [0, 8] (fun d i wr => ∃ k : Nat, k ≤ 61 ∧ i = .int .i64 (k : Int) ∧ d = .int .u64 (putUp a x k) ∧ Hid (Below w1.heap.size w1 wr)) (fun _ i _ => 61 - (intOf i).toNat)
  case atStart => exact ⟨0, by omega, rfl, rfl, Below.refl _ _⟩
  case round =>
    obtain ⟨k, hk, rfl, rfl, hbl⟩ := hrel
    have hp := putUp_bd a x x0 x1 k
    by_cases hlt : k < 61
    · have hat := run_index_flag w.heap.size k hlt _ (flagCells_at w.heap.size k hlt)
      have hlt' : (k : Int) < 61 := by omega
      rcases att_cases a w.heap.size k with ⟨h1, h2⟩ | ⟨o, v, ho, h1, h2, h3⟩
      · have H2 := Lib.hid (show putUp a x (k + 1) = putUp a x k by rw [putUp, h2])
        rw [h1] at hat
        clear h1 h2
        go_wp2
        go_roundw
        case rel => exact ⟨k + 1, by omega, by go_num, by rw [H2.out], hbl.out.alloc hbl.out.size _⟩
        case measure => simp [intOf]; omega
      · have H2 := Lib.hid (show putUp a x (k + 1) = putI (putUp a x k) k 1 ((v.toNat : Nat) : Int) by rw [putUp, h2])
        have hcell : wr.cell? ⟨w.heap.size, o, none⟩ = some (.bool v) := by
          rw [hbl.out.cell (p := ⟨w.heap.size, o, none⟩) hz, cell_of_row _ _ _ _ _ _ hblk.out]; exact h3
        have hzr : w.heap.size < wr.heap.size := by have := hbl.out.size; omega
        rw [h1] at hat
        clear h1 h2 h3
        go_wp2_with fail
        refine (set_any _ _ _ (by omega) (by omega) _).mono ?_; rintro r w2 ⟨rfl, rfl⟩
        go_wp2
        go_roundw
        case rel => exact ⟨k + 1, by omega, by go_num, by rw [H2.out], hbl.out.alloc hbl.out.size _⟩
        case measure => simp [intOf]; omega
    · obtain rfl : k = 61 := by omega
      go_wp2
      go_ret
      exact ⟨rfl, hbw.out.trans (hbl.out.mono (by omega))⟩
end Go.Proofs.YtnbdoemnepfhdaaGreat.Fld

