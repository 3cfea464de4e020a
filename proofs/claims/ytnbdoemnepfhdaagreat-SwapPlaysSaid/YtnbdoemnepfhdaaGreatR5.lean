/-
  Contracts and plain facts: QPoint, QPtr, QLaw. Conditions: each says its own.
-/
import Derived.Test.YtnbdoemnepfhdaaGreatR2
import Derived.Test.YtnbdoemnepfhdaaGreatR4
namespace Go.Proofs.YtnbdoemnepfhdaaGreat.Pt
open Fld
open Go.ChangeShapes Go.WideShapes Go.ChangeAt Go.RowKit
set_option maxHeartbeats 1000000
set_option maxRecDepth 100000
theorem qbit_any (x p : Int) (x0 : 0 ≤ x) (x1 : x ≤ 18446744073709551615) (w : World) :
    Calls Tryz.prog 106 #[.int .u64 x, .int .i64 p] w fun e w' => e = .returned (.bool (getI x p 1 == 1)) ∧ ∃ n, w' = w.drewN n := by
  go_enter Tryz.func106, Tryz.ntmps106
  go_wp2_with (go_at_call 123; refine (get_any _ _ _ x0 x1 _).mono ?_; rintro e w' ⟨rfl, n, rfl⟩)
  go_ret
  exact ⟨rfl, n, rfl⟩
theorem number_any (x s : Int) (x0 : 0 ≤ x) (x1 : x ≤ 18446744073709551615) (hs : sizeB s = true) (w : World) :
    Calls Tryz.prog 108 #[.int .u64 x, .int .i64 s] w fun e w' => e = .returned (.int .u64 (x / bytesI s)) ∧ ∃ n, w' = w.drewN n := by
  have hb := bytes_pos hs
  have hb2 := bytes_bd s
  have hn : bytesI s ≠ 0 := by omega
  go_enter Tryz.func108, Tryz.ntmps108
  go_wp2_with (go_at_call 66; refine (bytes_any _ _).mono ?_; rintro e w' ⟨rfl, rfl⟩)
  go_ret
  exact ⟨rfl, 0, rfl⟩
theorem index_any (x s n : Int) (x0 : 0 ≤ x) (x1 : x ≤ 18446744073709551615) (hs : sizeB s = true) (n0 : 1 ≤ n) (n1 : n ≤ 4096) (w : World) :
    Calls Tryz.prog 72 #[.int .u64 x, .int .i64 s, .int .i64 n] w fun e w' => e = .returned (.int .i64 (idxI x s n)) ∧ ∃ n, w' = w.drewN n := by
  have C := fun w => (pmay_any s w)
  rw [hs] at C
  have CN := Lib.hid (fun w => number_any x s x0 x1 hs w)
  have hb := bytes_pos hs
  have hx : 0 ≤ x / bytesI s := Int.ediv_nonneg x0 (by omega)
  have hx1 : x / bytesI s ≤ 18446744073709551615 := Int.le_trans (Int.ediv_le_self _ x0) x1
  have hi := idx_bd x s n (by omega)
  unfold idxI at *
  clear hb
  generalize x / bytesI s = q at *
  go_enter Tryz.func72, Tryz.ntmps72
  go_wp2_with (first | (go_at_call 67; refine (C _).mono ?_; rintro e w' ⟨rfl, rfl⟩) | (go_at_call 108; refine (CN.out _).mono ?_; rintro e w' ⟨rfl, m, rfl⟩))
  go_ret
  exact ⟨rfl, m, rfl⟩
def slotI (b k : Int) : Int := if b + 16 * k ≤ 18446744073709551615 then b + 16 * k else b + 16 * k - 18446744073709551616
def lastI (b n : Int) : Int := if b + 16 * (n - 1) ≤ 18446744073709551615 then b + 16 * (n - 1) else b + 16 * (n - 1) - 18446744073709551616
theorem wrap_over (v : Int) (h0 : 18446744073709551615 < v) (h1 : v < 36893488147419103232) : IntKind.u64.wrap v = v - 18446744073709551616 := by
  unfold IntKind.wrap; simp [IntKind.signed, IntKind.bits]; omega
theorem wrap_under (v : Int) (h0 : v < 0) (h1 : -18446744073709551616 ≤ v) : IntKind.u64.wrap v = v + 18446744073709551616 := by
  unfold IntKind.wrap; simp [IntKind.signed, IntKind.bits]; omega
theorem slot_any (b n x s : Int) (b0 : 0 ≤ b) (b1 : b ≤ 18446744073709551615) (x0 : 0 ≤ x) (x1 : x ≤ 18446744073709551615) (hs : sizeB s = true) (n0 : 1 ≤ n) (n1 : n ≤ 4096) (w : World) :
    Calls Tryz.prog 76 #[.int .u64 b, .int .i64 n, .int .u64 x, .int .i64 s] w fun e w' => e = .returned (.int .u64 (slotI b (idxI x s n))) ∧ ∃ n, w' = w.drewN n := by
  have C := Lib.hid (fun w => index_any x s n x0 x1 hs n0 n1 w)
  have hi := idx_bd x s n (by omega)
  generalize idxI x s n = k at *
  by_cases h : b + 16 * k ≤ 18446744073709551615
  · have H := Lib.hid (show slotI b k = b + 16 * k from if_pos h)
    go_enter Tryz.func76, Tryz.ntmps76
    go_wp2_with (go_at_call 72; refine (C.out _).mono ?_; rintro e w' ⟨rfl, m, rfl⟩)
    go_ret
    exact ⟨ret_int H.out.symm, m, rfl⟩
  · have H := Lib.hid (show slotI b k = b + 16 * k - 18446744073709551616 from if_neg h)
    have hw := wrap_over (b + 16 * k) (by omega) (by omega)
    go_enter Tryz.func76, Tryz.ntmps76
    go_wp2_with (go_at_call 72; refine (C.out _).mono ?_; rintro e w' ⟨rfl, m, rfl⟩)
    go_ret
    exact ⟨ret_int H.out.symm, m, rfl⟩
theorem last_any (b n : Int) (b0 : 0 ≤ b) (b1 : b ≤ 18446744073709551615) (n0 : 1 ≤ n) (n1 : n ≤ 4096) (w : World) :
    Calls Tryz.prog 101 #[.int .u64 b, .int .i64 n] w fun e w' => e = .returned (.int .u64 (lastI b n)) ∧ ∃ n, w' = w.drewN n := by
  by_cases h : b + 16 * n ≤ 18446744073709551615
  · have H := Lib.hid (show b + 16 * n - 16 = lastI b n by unfold lastI; rw [if_pos (by omega)]; omega)
    go_enter Tryz.func101, Tryz.ntmps101
    go_wp2
    go_ret
    exact ⟨ret_int H.out, 0, rfl⟩
  · have hw := wrap_over (b + 16 * n) (by omega) (by omega)
    by_cases h2 : b + 16 * (n - 1) ≤ 18446744073709551615
    · have H := Lib.hid (show b + 16 * n - 18446744073709551616 - 16 + 18446744073709551616 = lastI b n by unfold lastI; rw [if_pos h2]; omega)
      have hw2 := wrap_under (b + 16 * n - 18446744073709551616 - 16) (by omega) (by omega)
      go_enter Tryz.func101, Tryz.ntmps101
      go_wp2
      go_ret
      exact ⟨ret_int H.out, 0, rfl⟩
    · have H := Lib.hid (show b + 16 * n - 18446744073709551616 - 16 = lastI b n by unfold lastI; rw [if_neg h2]; omega)
      go_enter Tryz.func101, Tryz.ntmps101
      go_wp2
      go_ret
      exact ⟨ret_int H.out, 0, rfl⟩
theorem heap_set {w : World} {b o : Nat} {c : Array Value} {e : TypeId} {f : Nat × Nat} (h : w.heap[b]? = some (.cells c e f)) (v : Value) : (w.setCell ⟨b, o, none⟩ v).heap[b]? = some (.cells (c.setIfInBounds o v) e f) := by
  simp [World.setCell, Array.getElem?_modify, h]
/-- Since w: the boxed register, and the boxed place. -/
structure Two (w wr : World) (x p : Int) : Prop where
  bel : Below w.heap.size w wr
  a : wr.heap[w.heap.size]? = some (.cells #[.int .u64 x] 26 (0, 0))
  b : wr.heap[w.heap.size + 1]? = some (.cells #[.int .i64 p] 3 (0, 0))
theorem Two.cells {w wr : World} {x p : Int} (h : Two w wr x p) : wr.cell? ⟨w.heap.size, 0, none⟩ = some (.int .u64 x) ∧ wr.cell? ⟨w.heap.size + 1, 0, none⟩ = some (.int .i64 p) ∧ wr.frozen? ⟨w.heap.size, 0, none⟩ = false ∧ wr.frozen? ⟨w.heap.size + 1, 0, none⟩ = false :=
  ⟨by simp [World.cell?, h.a], by simp [World.cell?, h.b], by simp [World.frozen?, h.a], by simp [World.frozen?, h.b]⟩
theorem Two.drewN {w wr : World} {x p : Int} (h : Two w wr x p) (n : Nat) : Two w (wr.drewN n) x p := ⟨below_drewN h.bel _, h.a, h.b⟩
theorem Two.drew {w wr : World} {x p : Int} (h : Two w wr x p) : Two w wr.drew x p := h.drewN 1
theorem Two.set {w wr : World} {x p : Int} (h : Two w wr x p) (y q : Int) : Two w ((wr.setCell ⟨w.heap.size, 0, none⟩ (.int .u64 y)).setCell ⟨w.heap.size + 1, 0, none⟩ (.int .i64 q)) y q where
  bel := (h.bel.setCell (Nat.le_refl _) _).setCell (by simp) _
  a := (Below.heap_setCell _ _ _ _ (by simp)).trans (by rw [heap_set h.a]; rfl)
  b := by rw [heap_set (b := w.heap.size + 1) ((Below.heap_setCell _ _ _ _ (by simp)).trans h.b)]; rfl
end Go.Proofs.YtnbdoemnepfhdaaGreat.Pt

namespace Go.Proofs.YtnbdoemnepfhdaaGreat.Pt
open Fld
open Go.ChangeShapes Go.WideShapes Go.ChangeAt Go.RowKit
set_option maxHeartbeats 2000000
set_option maxRecDepth 100000
theorem putI_bd (x p s v : Int) (x0 : 0 ≤ x) (x1 : x ≤ 18446744073709551615) : 0 ≤ putI x p s v ∧ putI x p s v ≤ 18446744073709551615 := by
  unfold putI; split
  · have := putN_lt x.toNat p.toNat s.toNat v.toNat; omega
  · exact ⟨x0, x1⟩
end Go.Proofs.YtnbdoemnepfhdaaGreat.Pt

namespace Go.Proofs.YtnbdoemnepfhdaaGreat.Pt
open Fld
open Go.ChangeShapes Go.WideShapes Go.ChangeAt Go.RowKit
set_option maxHeartbeats 2000000
set_option maxRecDepth 100000
theorem raround_any (i n : Int) (_i0 : -9223372036854775808 ≤ i) (_i1 : i ≤ 9223372036854775807) (n0 : 1 ≤ n) (n1 : n ≤ 4096) (w : World) :
    Calls Tryz.prog 10 #[.int .i64 i, .int .i64 n] w fun e w' => e = .returned (.int .i64 (arI i n)) ∧ ∃ n, w' = w.drewN n := by
  have hb := ar_bd i n (by omega)
  have hn : n ≠ 0 := by omega
  rcases tmod_or i n (by omega) with ⟨h, e⟩ | ⟨h, e⟩
  all_goals
    generalize arI i n = r at *
    generalize ht : i.tmod n = t at *
    go_enter Tryz.func10, Tryz.ntmps10
    go_wp2
    go_ret
    exact ⟨rfl, 0, rfl⟩
end Go.Proofs.YtnbdoemnepfhdaaGreat.Pt

