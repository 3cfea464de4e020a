/-
  Contract of the law's does: else it is asked. Conditions: both memories have the same bytes.
-/
import Derived.Test.YtmhgofhclckdpaaMDeed
namespace Go.Proofs.Ytmhgofhclckdpaa.Mem
open Go.ChangeShapes Go.WideShapes Go.ChangeAt Go.RowKit Go.Maps
set_option maxHeartbeats 4000000
set_option linter.unusedVariables false
set_option maxRecDepth 100000 in
theorem does_d (sb bm S : Nat) (g : Nat → Nat) (k a x y : Int) (v : Value) (w : World) (h : MemAt w sb bm S g) (hl : HasL w S g v) (a0 : 0 ≤ a) (a1 : a < 18446744073709551616) (x0 : 0 ≤ x) (x1 : x < 18446744073709551616) (y0 : 0 ≤ y) (y1 : y < 18446744073709551616) (k0 : k ≠ 0) (k1 : k ≠ 1) (k2 : k ≠ 2) (k6 : k ≠ 6) (k7 : k ≠ 7) :
    Calls Try.prog 19 #[.pointer (some ⟨sb, 0, none⟩), .agg #[.int .u64 (S : Int), v], .agg #[.int .i64 k, .int .u64 a, .int .u64 x, .int .u64 y]] w (DoneD w sb bm S) := by
  have hS := h.good.le
  obtain ⟨ao, n, cap, rfl⟩ := hl.shape
  have X0 := DR.start h hl #[.int .i64 k, .int .u64 a, .int .u64 x, .int .u64 y]
  have k0' : (k == 0) = false := by simpa using k0
  have k1' : (k == 1) = false := by simpa using k1
  have k2' : (k == 2) = false := by simpa using k2
  have k6' : (k == 6) = false := by simpa using k6
  have k7' : (k == 7) = false := by simpa using k7
  go_enter Try.func19, Try.ntmps19
  go_wp2_with fail
  clear k0 k1 k2 k6 k7 hl h
  go_region_held3 (fun w1 => w1.cell? ⟨w.heap.size, 0, none⟩ = some (.int .u64 (S : Int)) ∧ w1.cell? ⟨w.heap.size, 1, none⟩ = some (.slice ao n cap) ∧ w1.cell? ⟨w.heap.size + 1, 0, none⟩ = some (.int .i64 k) ∧ w1.cell? ⟨w.heap.size + 1, 1, none⟩ = some (.int .u64 a) ∧ w1.cell? ⟨w.heap.size + 1, 2, none⟩ = some (.int .u64 x) ∧ w1.cell? ⟨w.heap.size + 1, 3, none⟩ = some (.int .u64 y))
    ((first | (refine deed_S (sb := sb) (bm := bm) (g := g) (gl := g) ?_; first | assumption | (refine DR.drew ?_; assumption)) | (refine deed_S (sb := sb) (bm := bm) (g := g) (gl := g) ?_; assumption) | (refine deed_T (sb := sb) (bm := bm) (g := g) ?_; assumption)))
    (first | (go_at_call 32; (with_reducible refine (DR.call X0.drew (fun bmi M => asks_any sb bmi S g _ _ _ _ _ _ M X0.drew.dw.l (by omega) (by omega))).mono ?_); rintro e w6 ⟨rfl, X6⟩; obtain ⟨r0, r1, r2, r3⟩ := X6.rcells))
  obtain ⟨L1, L2⟩ := DR.done (by assumption : DR w _ sb bm S (g) (g) (.slice ao n cap) #[.int .i64 k, .int .u64 a, .int .u64 x, .int .u64 y])
  go_wp2
  exact deed_ret rfl rfl rfl L1 L2
end Go.Proofs.Ytmhgofhclckdpaa.Mem
