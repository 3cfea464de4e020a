/-
  Contracts of New, Run, Len, Free, Is, all, mark, take, next of package frames. Conditions: those that read or write frames read frames that are there.
-/
import Derived.Test.YtdjpanmokojpdaaFState
import Derived.BigQuiet
namespace Go.Proofs.Ytdjpanmokojpdaa.Frm
open Fld
open Go.ChangeShapes Go.WideShapes Go.ChangeAt Go.RowKit
set_option maxHeartbeats 400000
theorem infoB : (Try.prog.info? 4).map (fun i => (i.zero, i.size, i.bytes)) = some (some (.bool false), 1, 1) := by kernel_rfl
/-- How many frames New makes. -/
def newN (n : Int) : Nat := (min (max n 0) 65536).toNat
theorem new_any (n : Int) (w : World) :
    Calls Try.prog 8 #[.int .i64 n] w fun e w' => e = .returned (.pointer (some ⟨w.heap.size + 1, 0, none⟩)) ∧ FrAt w' (w.heap.size + 1) w.heap.size (newN n) (fun _ => false) ∧ Below w.heap.size w w' := by
  obtain ⟨N, hN⟩ : ∃ N, newN n = N := ⟨_, rfl⟩
  have hle : N ≤ 65536 := by rw [← hN]; unfold newN; omega
  have hmn : min (max n 0) 65536 = (N : Int) := by rw [← hN]; unfold newN; omega
  have hmk : ∀ w : World, (Instr.makeSlice 52 (.int .i64 (N : Int)) (.int .i64 (N : Int))).run Try.prog w = .ok (.slice (some ⟨w.heap.size, 0, none⟩) N N) (w.alloc (.cells (rowB (fun _ => false) N) 4)) := fun w => by
    rw [← made_rowB]; exact run_make_row' (P := Try.prog) 52 4 (.bool false) 1 Try.underlying52 infoB rfl .i64 .i64 N (by omega) (by omega) w
  rw [hN]
  clear hN
  go_enter Try.func8, Try.ntmps8
  go_wp2
  go_ret
  refine ⟨rfl, ⟨?_, ?_, hle⟩, ((Below.refl _ _).alloc (Nat.le_refl _) _).alloc (by simp) _⟩
  · rw [cnt_new]
    have := heap_alloc_new (w.alloc (.cells (rowB (fun _ => false) N) 4)) (.cells #[.slice (some ⟨w.heap.size, 0, none⟩) N N, .int .i64 (N : Int)] 54)
    simpa using this
  · have := heap_alloc_new w (.cells (rowB (fun _ => false) N) 4)
    exact (Below.heap_alloc _ _ _ (by simp)).trans this
theorem bytes_run (s : Int) : bytesI s / 8192 = runI s := by
  unfold bytesI runI
  split
  · decide
  · split
    · decide
    · split
      · decide
      · split <;> decide
theorem bytes_bd' (s : Int) : 0 ≤ bytesI s ∧ bytesI s ≤ 4194304 := by
  unfold bytesI
  split
  · decide
  · split
    · decide
    · split
      · decide
      · split <;> decide
theorem run_any (s : Int) (w : World) :
    Calls Try.prog 20 #[.int .i64 s] w fun e w' => e = .returned (.int .i64 (runI s)) ∧ w = w' := by
  have hb := bytes_bd' s
  have hb0 : bytesI 0 = 8192 := by decide
  have E := Lib.hid (bytes_run s)
  obtain ⟨h0, h1⟩ := hb
  go_enter Try.func20, Try.ntmps20
  go_wp2_with (go_at_call 34; refine (bytes_any _ _).mono ?_; rintro e w' ⟨rfl, rfl⟩)
  go_ret
  exact ⟨ret_int E.out, rfl⟩
theorem len_any {sb bb n : Nat} {T : Nat → Bool} {fr : Int} (w : World) (h : FrRow w sb bb n T fr) :
    Calls Try.prog 12 #[.pointer (some ⟨sb, 0, none⟩)] w fun e w' => e = .returned (.int .i64 (n : Int)) ∧ w = w' := by
  have c0 := h.c0
  go_enter Try.func12, Try.ntmps12
  go_wp2
  go_ret
  exact ⟨rfl, rfl⟩
theorem free_any {sb bb n : Nat} {T : Nat → Bool} {fr : Int} (w : World) (h : FrRow w sb bb n T fr) :
    Calls Try.prog 11 #[.pointer (some ⟨sb, 0, none⟩)] w fun e w' => e = .returned (.int .i64 fr) ∧ w = w' := by
  have c1 := h.c1
  go_enter Try.func11, Try.ntmps11
  go_wp2
  go_ret
  exact ⟨rfl, rfl⟩
def isB (T : Nat → Bool) (n : Nat) (i : Int) : Bool := decide (0 ≤ i) && decide (i < n) && T i.toNat
theorem is_any {sb bb n : Nat} {T : Nat → Bool} {fr : Int} (i : Int) (w : World) (h : FrRow w sb bb n T fr) :
    Calls Try.prog 23 #[.pointer (some ⟨sb, 0, none⟩), .int .i64 i] w fun e w' => e = .returned (.bool (isB T n i)) ∧ w = w' := by
  have c0 := h.c0
  by_cases h0 : 0 ≤ i
  · by_cases h1 : i < (n : Int)
    · have cb := h.cb (j := i.toNat) (by omega)
      have E := Lib.hid (show isB T n i = T i.toNat by unfold isB; simp [h0, h1])
      generalize T i.toNat = b at *
      go_enter Try.func23, Try.ntmps23
      go_wp2
      go_ret
      exact ⟨ret_bool E.out.symm, rfl⟩
    · have E := Lib.hid (show isB T n i = false by unfold isB; simp [h1])
      go_enter Try.func23, Try.ntmps23
      go_wp2
      go_ret
      exact ⟨ret_bool E.out.symm, rfl⟩
  · have E := Lib.hid (show isB T n i = false by unfold isB; simp [h0])
    go_enter Try.func23, Try.ntmps23
    go_wp2
    go_ret
    exact ⟨ret_bool E.out.symm, rfl⟩
end Go.Proofs.Ytdjpanmokojpdaa.Frm
