/-
  Contracts and plain facts: QPoint, QLaw. Conditions: each says its own.
-/
import Derived.Test.YtnbdoemnepfhdaaR2
import Derived.Test.YtnbdoemnepfhdaaR4
namespace Go.Proofs.Ytnbdoemnepfhdaa.Pt
open Fld
open Go.ChangeShapes Go.WideShapes Go.ChangeAt Go.RowKit
set_option maxHeartbeats 1000000
set_option maxRecDepth 100000
def lastI (b n : Int) : Int := if b + 16 * (n - 1) ≤ 18446744073709551615 then b + 16 * (n - 1) else b + 16 * (n - 1) - 18446744073709551616
theorem wrap_over (v : Int) (h0 : 18446744073709551615 < v) (h1 : v < 36893488147419103232) : IntKind.u64.wrap v = v - 18446744073709551616 := by
  unfold IntKind.wrap; simp [IntKind.signed, IntKind.bits]; omega
theorem wrap_under (v : Int) (h0 : v < 0) (h1 : -18446744073709551616 ≤ v) : IntKind.u64.wrap v = v + 18446744073709551616 := by
  unfold IntKind.wrap; simp [IntKind.signed, IntKind.bits]; omega
theorem last_any (b n : Int) (b0 : 0 ≤ b) (b1 : b ≤ 18446744073709551615) (n0 : 1 ≤ n) (n1 : n ≤ 4096) (w : World) :
    Calls Try.prog 34 #[.int .u64 b, .int .i64 n] w fun e w' => e = .returned (.int .u64 (lastI b n)) ∧ ∃ n, w' = w.drewN n := by
  by_cases h : b + 16 * n ≤ 18446744073709551615
  · have H := Lib.hid (show b + 16 * n - 16 = lastI b n by unfold lastI; rw [if_pos (by omega)]; omega)
    go_enter Try.func34, Try.ntmps34
    go_wp2
    go_ret
    exact ⟨ret_int H.out, 0, rfl⟩
  · have hw := wrap_over (b + 16 * n) (by omega) (by omega)
    by_cases h2 : b + 16 * (n - 1) ≤ 18446744073709551615
    · have H := Lib.hid (show b + 16 * n - 18446744073709551616 - 16 + 18446744073709551616 = lastI b n by unfold lastI; rw [if_pos h2]; omega)
      have hw2 := wrap_under (b + 16 * n - 18446744073709551616 - 16) (by omega) (by omega)
      go_enter Try.func34, Try.ntmps34
      go_wp2
      go_ret
      exact ⟨ret_int H.out, 0, rfl⟩
    · have H := Lib.hid (show b + 16 * n - 18446744073709551616 - 16 = lastI b n by unfold lastI; rw [if_neg h2]; omega)
      go_enter Try.func34, Try.ntmps34
      go_wp2
      go_ret
      exact ⟨ret_int H.out, 0, rfl⟩
theorem heap_set {w : World} {b o : Nat} {c : Array Value} {e : TypeId} {f : Nat × Nat} (h : w.heap[b]? = some (.cells c e f)) (v : Value) : (w.setCell ⟨b, o, none⟩ v).heap[b]? = some (.cells (c.setIfInBounds o v) e f) := by
  simp [World.setCell, Array.getElem?_modify, h]
/-- Since w: the boxed register, and the boxed place. -/
structure Two (w wr : World) (x p : Int) : Prop where
  bel : Below w.heap.size w wr
  a : wr.heap[w.heap.size]? = some (.cells #[.int .u64 x] 38 (0, 0))
  b : wr.heap[w.heap.size + 1]? = some (.cells #[.int .i64 p] 3 (0, 0))
theorem Two.cells {w wr : World} {x p : Int} (h : Two w wr x p) : wr.cell? ⟨w.heap.size, 0, none⟩ = some (.int .u64 x) ∧ wr.cell? ⟨w.heap.size + 1, 0, none⟩ = some (.int .i64 p) ∧ wr.frozen? ⟨w.heap.size, 0, none⟩ = false ∧ wr.frozen? ⟨w.heap.size + 1, 0, none⟩ = false :=
  ⟨by simp [World.cell?, h.a], by simp [World.cell?, h.b], by simp [World.frozen?, h.a], by simp [World.frozen?, h.b]⟩
theorem Two.drewN {w wr : World} {x p : Int} (h : Two w wr x p) (n : Nat) : Two w (wr.drewN n) x p := ⟨below_drewN h.bel _, h.a, h.b⟩
theorem Two.drew {w wr : World} {x p : Int} (h : Two w wr x p) : Two w wr.drew x p := h.drewN 1
theorem Two.set {w wr : World} {x p : Int} (h : Two w wr x p) (y q : Int) : Two w ((wr.setCell ⟨w.heap.size, 0, none⟩ (.int .u64 y)).setCell ⟨w.heap.size + 1, 0, none⟩ (.int .i64 q)) y q where
  bel := (h.bel.setCell (Nat.le_refl _) _).setCell (by simp) _
  a := (Below.heap_setCell _ _ _ _ (by simp)).trans (by rw [heap_set h.a]; rfl)
  b := by rw [heap_set (b := w.heap.size + 1) ((Below.heap_setCell _ _ _ _ (by simp)).trans h.b)]; rfl
end Go.Proofs.Ytnbdoemnepfhdaa.Pt

namespace Go.Proofs.Ytnbdoemnepfhdaa.Pt
open Fld
open Go.ChangeShapes Go.WideShapes Go.ChangeAt Go.RowKit
set_option maxHeartbeats 2000000
set_option maxRecDepth 100000
theorem raround_any (i n : Int) (_i0 : -9223372036854775808 ≤ i) (_i1 : i ≤ 9223372036854775807) (n0 : 1 ≤ n) (n1 : n ≤ 4096) (w : World) :
    Calls Try.prog 6 #[.int .i64 i, .int .i64 n] w fun e w' => e = .returned (.int .i64 (arI i n)) ∧ ∃ n, w' = w.drewN n := by
  have hb := ar_bd i n (by omega)
  have hn : n ≠ 0 := by omega
  rcases tmod_or i n (by omega) with ⟨h, e⟩ | ⟨h, e⟩
  all_goals
    generalize arI i n = r at *
    generalize ht : i.tmod n = t at *
    go_enter Try.func6, Try.ntmps6
    go_wp2
    go_ret
    exact ⟨rfl, 0, rfl⟩
end Go.Proofs.Ytnbdoemnepfhdaa.Pt

