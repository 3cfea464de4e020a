/-
  Contract of the law's does: a byte is put. Conditions: both memories have the same bytes.
-/
import Derived.Test.YtmhgofhclckdpaaMDeed
namespace Go.Proofs.Ytmhgofhclckdpaa.Mem
open Go.ChangeShapes Go.WideShapes Go.ChangeAt Go.RowKit Go.Maps
set_option maxHeartbeats 4000000
set_option linter.unusedVariables false
set_option maxRecDepth 100000 in
theorem does_0 (sb bm S : Nat) (g : Nat → Nat) (a x y : Int) (v : Value) (w : World) (h : MemAt w sb bm S g) (hl : HasL w S g v) (a0 : 0 ≤ a) (a1 : a < 18446744073709551616) (x0 : 0 ≤ x) (x1 : x < 18446744073709551616) (y0 : 0 ≤ y) (y1 : y < 18446744073709551616) :
    Calls Try.prog 19 #[.pointer (some ⟨sb, 0, none⟩), .agg #[.int .u64 (S : Int), v], .agg #[.int .i64 0, .int .u64 a, .int .u64 x, .int .u64 y]] w (DoneD w sb bm S) := by
  have hS := h.good.le
  obtain ⟨ao, n, cap, rfl⟩ := hl.shape
  have X0 := DR.start h hl #[.int .i64 0, .int .u64 a, .int .u64 x, .int .u64 y]
  by_cases hm : mayI S a 1 1 = 0
  · have q := (may_zero hm).2
    have HST := Lib.hid (show stB S g a (x % 256) = setB g a.toNat (x % 256).toNat by unfold stB; rw [if_pos hm])
    go_enter Try.func19, Try.ntmps19
    go_wp2_with (first | (go_at_call 15; refine (DR.ref X0 (fun hl => rmay_any S _ _ _ _ _ (by omega) (by omega) (by omega) (by omega) (by omega) (by omega) (by omega) (by omega) hl.shape)).mono ?_; rintro e w3 ⟨rfl, X3⟩; obtain ⟨m0, m1, d0, d1, d2, d3⟩ := X3.dw.cells) | (go_at_call 28; refine (DR.make X3 (fun hl => put_rel S _ _ _ _ _ hl (by omega) (by omega) (by omega) (by omega))).mono ?_; rintro e w4 ⟨ao2, n2, cap2, rfl, hl2, X4⟩; obtain ⟨p0, p1, e0, e1, e2, e3⟩ := X4.dw.cells; obtain ⟨fr0, fr1⟩ := X4.dw.free))
    have X5 := X4.put hl2
    generalize (w4.setCell ⟨w.heap.size, 0, none⟩ (.int .u64 (S : Int))).setCell ⟨w.heap.size, 1, none⟩ (.slice ao2 n2 cap2) = W5 at X5 ⊢
    clear hl2 X4 X3 X0 p0 p1 e0 e1 e2 e3 fr0 fr1 m0 m1 d0 d1 d2 d3 hl h
    have WX : IntKind.u8.wrap x = x % 256 := IntKind.wrap_u8 x
    go_region_held3 (fun w1 => w1.cell? ⟨w.heap.size, 0, none⟩ = some (.int .u64 (S : Int)) ∧ w1.cell? ⟨w.heap.size, 1, none⟩ = some (.slice ao2 n2 cap2) ∧ w1.cell? ⟨w.heap.size + 1, 0, none⟩ = some (.int .i64 0) ∧ w1.cell? ⟨w.heap.size + 1, 1, none⟩ = some (.int .u64 a) ∧ w1.cell? ⟨w.heap.size + 1, 2, none⟩ = some (.int .u64 x) ∧ w1.cell? ⟨w.heap.size + 1, 3, none⟩ = some (.int .u64 y))
      ((first | (refine deed_S (sb := sb) (bm := bm) (g := g) (gl := setB g a.toNat (x % 256).toNat) ?_; first | assumption | (refine DR.drew ?_; assumption)) | (refine deed_S (sb := sb) (bm := bm) (g := setB g a.toNat (x % 256).toNat) (gl := setB g a.toNat (x % 256).toNat) ?_; assumption) | (refine deed_T (sb := sb) (bm := bm) (g := setB g a.toNat (x % 256).toNat) ?_; assumption)))
      (first | (go_at_call 18; (with_reducible refine (DR.call X5.drew (fun bmi M => putByte_any sb bmi S g _ _ _ M (by omega) (by omega) (by omega) (by omega))).mono ?_); rintro e w6 ⟨rfl, X6⟩; rw [HST.out] at X6; obtain ⟨r0, r1, r2, r3⟩ := X6.rcells))
    obtain ⟨L1, L2⟩ := DR.done (by assumption : DR w _ sb bm S (setB g a.toNat (x % 256).toNat) (setB g a.toNat (x % 256).toNat) (.slice ao2 n2 cap2) #[.int .i64 0, .int .u64 a, .int .u64 x, .int .u64 y])
    go_wp2
    exact deed_ret rfl rfl rfl L1 L2
  · have HST := Lib.hid (show stB S g a (x % 256) = g by unfold stB; rw [if_neg hm])
    go_enter Try.func19, Try.ntmps19
    go_wp2_with (go_at_call 15; refine (DR.ref X0 (fun hl => rmay_any S _ _ _ _ _ (by omega) (by omega) (by omega) (by omega) (by omega) (by omega) (by omega) (by omega) hl.shape)).mono ?_; rintro e w3 ⟨rfl, X3⟩; obtain ⟨m0, m1, d0, d1, d2, d3⟩ := X3.dw.cells)
    clear X0 hl h m0 m1 d0 d1 d2 d3
    have WX : IntKind.u8.wrap x = x % 256 := IntKind.wrap_u8 x
    go_region_held3 (fun w1 => w1.cell? ⟨w.heap.size, 0, none⟩ = some (.int .u64 (S : Int)) ∧ w1.cell? ⟨w.heap.size, 1, none⟩ = some (.slice ao n cap) ∧ w1.cell? ⟨w.heap.size + 1, 0, none⟩ = some (.int .i64 0) ∧ w1.cell? ⟨w.heap.size + 1, 1, none⟩ = some (.int .u64 a) ∧ w1.cell? ⟨w.heap.size + 1, 2, none⟩ = some (.int .u64 x) ∧ w1.cell? ⟨w.heap.size + 1, 3, none⟩ = some (.int .u64 y))
      ((first | (refine deed_S (sb := sb) (bm := bm) (g := g) (gl := g) ?_; first | assumption | (refine DR.drew ?_; assumption)) | (refine deed_S (sb := sb) (bm := bm) (g := g) (gl := g) ?_; assumption) | (refine deed_T (sb := sb) (bm := bm) (g := g) ?_; assumption)))
      (first | (go_at_call 18; (with_reducible refine (DR.call X3.drew (fun bmi M => putByte_any sb bmi S g _ _ _ M (by omega) (by omega) (by omega) (by omega))).mono ?_); rintro e w6 ⟨rfl, X6⟩; rw [HST.out] at X6; obtain ⟨r0, r1, r2, r3⟩ := X6.rcells))
    obtain ⟨L1, L2⟩ := DR.done (by assumption : DR w _ sb bm S (g) (g) (.slice ao n cap) #[.int .i64 0, .int .u64 a, .int .u64 x, .int .u64 y])
    go_wp2
    exact deed_ret rfl rfl rfl L1 L2
end Go.Proofs.Ytmhgofhclckdpaa.Mem
