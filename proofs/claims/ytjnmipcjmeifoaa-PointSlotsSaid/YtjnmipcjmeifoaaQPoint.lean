/-
  Contracts of package point: each function returns what the plain functions of QMath say, and the world stays but for draws and boxes of its own. Conditions: words are below 2 to the 64.
-/
import Derived.Test.YtjnmipcjmeifoaaQMath
import Derived.Test.YtjnmipcjmeifoaaPRef
namespace Go.Proofs.Ytjnmipcjmeifoaa.Pt
open Fld
open Go.ChangeShapes Go.WideShapes Go.ChangeAt Go.RowKit
set_option maxHeartbeats 1000000
set_option maxRecDepth 100000
theorem qbit_any (x p : Int) (x0 : 0 ≤ x) (x1 : x ≤ 18446744073709551615) (w : World) :
    Calls Try.prog 30 #[.int .u64 x, .int .i64 p] w fun e w' => e = .returned (.bool (getI x p 1 == 1)) ∧ ∃ n, w' = w.drewN n := by
  go_enter Try.func30, Try.ntmps30
  go_wp2_with (go_at_call 36; refine (get_any _ _ _ x0 x1 _).mono ?_; rintro e w' ⟨rfl, n, rfl⟩)
  go_ret
  exact ⟨rfl, n, rfl⟩
theorem split_any (t : Int) (x0 : 0 ≤ t) (x1 : t ≤ 18446744073709551615) (w : World) :
    Calls Try.prog 12 #[.int .u64 t] w fun e w' => e = .returned (.bool (splitB t)) ∧ ∃ n, w' = w.drewN n := by
  have H := Lib.hid (get_split t x0)
  go_enter Try.func12, Try.ntmps12
  go_wp2_with (go_at_call 30; refine (qbit_any _ _ x0 x1 _).mono ?_; rintro e w' ⟨rfl, n, rfl⟩)
  go_ret
  exact ⟨ret_bool H.out, n, rfl⟩
theorem bitsOf_any (t : Int) (x0 : 0 ≤ t) (x1 : t ≤ 18446744073709551615) (w : World) :
    Calls Try.prog 28 #[.int .u64 t] w fun e w' => e = .returned (.int .i64 (9 + t % 8)) ∧ ∃ n, w' = w.drewN n := by
  have H := Lib.hid (get_three t x0)
  have h0 : 0 ≤ t % 8 := by omega
  have h1 : t % 8 < 8 := by omega
  generalize t % 8 = k at *
  go_enter Try.func28, Try.ntmps28
  go_wp2_with (go_at_call 36; refine (get_any _ _ _ x0 x1 _).mono ?_; rw [H.out]; rintro e w' ⟨rfl, n, rfl⟩)
  go_ret
  exact ⟨rfl, n, rfl⟩
theorem number_any (x s : Int) (x0 : 0 ≤ x) (x1 : x ≤ 18446744073709551615) (hs : sizeB s = true) (w : World) :
    Calls Try.prog 29 #[.int .u64 x, .int .i64 s] w fun e w' => e = .returned (.int .u64 (x / bytesI s)) ∧ ∃ n, w' = w.drewN n := by
  have hb := bytes_pos hs
  have hb2 := bytes_bd s
  have hn : bytesI s ≠ 0 := by omega
  go_enter Try.func29, Try.ntmps29
  go_wp2_with (go_at_call 37; refine (bytes_any _ _).mono ?_; rintro e w' ⟨rfl, rfl⟩)
  go_ret
  exact ⟨rfl, 0, rfl⟩
theorem entries_any (t : Int) (x0 : 0 ≤ t) (x1 : t ≤ 18446744073709551615) (w : World) :
    Calls Try.prog 10 #[.int .u64 t] w fun e w' => e = .returned (.int .i64 (entI t)) ∧ ∃ n, w' = w.drewN n := by
  have C := fun w => bitsOf_any t x0 x1 w
  rcases ent_or t with ⟨h, e⟩ | ⟨h, e⟩ | ⟨h, e⟩ | ⟨h, e⟩ | ⟨h, e⟩ | ⟨h, e⟩ | ⟨h, e⟩ | ⟨h, e⟩
  all_goals
    rw [h] at C
    rw [e]
    clear h e
    go_enter Try.func10, Try.ntmps10
    go_wp2_with (go_at_call 28; refine (C _).mono ?_; rintro e w' ⟨rfl, n, rfl⟩)
    go_ret
    exact ⟨rfl, n, rfl⟩
theorem index_any (x s n : Int) (x0 : 0 ≤ x) (x1 : x ≤ 18446744073709551615) (hs : sizeB s = true) (n0 : 1 ≤ n) (n1 : n ≤ 4096) (w : World) :
    Calls Try.prog 19 #[.int .u64 x, .int .i64 s, .int .i64 n] w fun e w' => e = .returned (.int .i64 (idxI x s n)) ∧ ∃ n, w' = w.drewN n := by
  have C := fun w => (pmay_any s w)
  rw [hs] at C
  have CN := Lib.hid (fun w => number_any x s x0 x1 hs w)
  have hb := bytes_pos hs
  have hx : 0 ≤ x / bytesI s := Int.ediv_nonneg x0 (by omega)
  have hx1 : x / bytesI s ≤ 18446744073709551615 := Int.le_trans (Int.ediv_le_self _ x0) x1
  have hi := idx_bd x s n (by omega)
  unfold idxI at *
  clear hb
  generalize x / bytesI s = q at *
  go_enter Try.func19, Try.ntmps19
  go_wp2_with (first | (go_at_call 32; refine (C _).mono ?_; rintro e w' ⟨rfl, rfl⟩) | (go_at_call 29; refine (CN.out _).mono ?_; rintro e w' ⟨rfl, m, rfl⟩))
  go_ret
  exact ⟨rfl, m, rfl⟩
theorem around_any (i n : Int) (_i0 : -9223372036854775808 ≤ i) (_i1 : i ≤ 9223372036854775807) (n0 : 1 ≤ n) (n1 : n ≤ 4096) (w : World) :
    Calls Try.prog 24 #[.int .i64 i, .int .i64 n] w fun e w' => e = .returned (.int .i64 (arI i n)) ∧ ∃ n, w' = w.drewN n := by
  have hb := ar_bd i n (by omega)
  have hn : n ≠ 0 := by omega
  rcases tmod_or i n (by omega) with ⟨h, e⟩ | ⟨h, e⟩
  · generalize arI i n = r at *
    generalize ht : i.tmod n = t at *
    go_enter Try.func24, Try.ntmps24
    go_wp2
    go_ret
    exact ⟨rfl, 0, rfl⟩
  · generalize arI i n = r at *
    generalize ht : i.tmod n = t at *
    go_enter Try.func24, Try.ntmps24
    go_wp2
    go_ret
    exact ⟨rfl, 0, rfl⟩
def slotI (b k : Int) : Int := if b + 16 * k ≤ 18446744073709551615 then b + 16 * k else b + 16 * k - 18446744073709551616
def lastI (b n : Int) : Int := if b + 16 * (n - 1) ≤ 18446744073709551615 then b + 16 * (n - 1) else b + 16 * (n - 1) - 18446744073709551616
theorem wrap_over (v : Int) (h0 : 18446744073709551615 < v) (h1 : v < 36893488147419103232) : IntKind.u64.wrap v = v - 18446744073709551616 := by
  unfold IntKind.wrap; simp [IntKind.signed, IntKind.bits]; omega
theorem wrap_under (v : Int) (h0 : v < 0) (h1 : -18446744073709551616 ≤ v) : IntKind.u64.wrap v = v + 18446744073709551616 := by
  unfold IntKind.wrap; simp [IntKind.signed, IntKind.bits]; omega
theorem slot_any (b n x s : Int) (b0 : 0 ≤ b) (b1 : b ≤ 18446744073709551615) (x0 : 0 ≤ x) (x1 : x ≤ 18446744073709551615) (hs : sizeB s = true) (n0 : 1 ≤ n) (n1 : n ≤ 4096) (w : World) :
    Calls Try.prog 21 #[.int .u64 b, .int .i64 n, .int .u64 x, .int .i64 s] w fun e w' => e = .returned (.int .u64 (slotI b (idxI x s n))) ∧ ∃ n, w' = w.drewN n := by
  have C := Lib.hid (fun w => index_any x s n x0 x1 hs n0 n1 w)
  have hi := idx_bd x s n (by omega)
  generalize idxI x s n = k at *
  by_cases h : b + 16 * k ≤ 18446744073709551615
  · have H := Lib.hid (show slotI b k = b + 16 * k from if_pos h)
    go_enter Try.func21, Try.ntmps21
    go_wp2_with (go_at_call 19; refine (C.out _).mono ?_; rintro e w' ⟨rfl, m, rfl⟩)
    go_ret
    exact ⟨ret_int H.out.symm, m, rfl⟩
  · have H := Lib.hid (show slotI b k = b + 16 * k - 18446744073709551616 from if_neg h)
    have hw := wrap_over (b + 16 * k) (by omega) (by omega)
    go_enter Try.func21, Try.ntmps21
    go_wp2_with (go_at_call 19; refine (C.out _).mono ?_; rintro e w' ⟨rfl, m, rfl⟩)
    go_ret
    exact ⟨ret_int H.out.symm, m, rfl⟩
theorem last_any (b n : Int) (b0 : 0 ≤ b) (b1 : b ≤ 18446744073709551615) (n0 : 1 ≤ n) (n1 : n ≤ 4096) (w : World) :
    Calls Try.prog 23 #[.int .u64 b, .int .i64 n] w fun e w' => e = .returned (.int .u64 (lastI b n)) ∧ ∃ n, w' = w.drewN n := by
  by_cases h : b + 16 * n ≤ 18446744073709551615
  · have H := Lib.hid (show b + 16 * n - 16 = lastI b n by unfold lastI; rw [if_pos (by omega)]; omega)
    go_enter Try.func23, Try.ntmps23
    go_wp2
    go_ret
    exact ⟨ret_int H.out, 0, rfl⟩
  · have hw := wrap_over (b + 16 * n) (by omega) (by omega)
    by_cases h2 : b + 16 * (n - 1) ≤ 18446744073709551615
    · have H := Lib.hid (show b + 16 * n - 18446744073709551616 - 16 + 18446744073709551616 = lastI b n by unfold lastI; rw [if_pos h2]; omega)
      have hw2 := wrap_under (b + 16 * n - 18446744073709551616 - 16) (by omega) (by omega)
      go_enter Try.func23, Try.ntmps23
      go_wp2
      go_ret
      exact ⟨ret_int H.out, 0, rfl⟩
    · have H := Lib.hid (show b + 16 * n - 18446744073709551616 - 16 = lastI b n by unfold lastI; rw [if_neg h2]; omega)
      go_enter Try.func23, Try.ntmps23
      go_wp2
      go_ret
      exact ⟨ret_int H.out, 0, rfl⟩
theorem heap_set {w : World} {b o : Nat} {c : Array Value} {e : TypeId} {f : Nat × Nat} (h : w.heap[b]? = some (.cells c e f)) (v : Value) : (w.setCell ⟨b, o, none⟩ v).heap[b]? = some (.cells (c.setIfInBounds o v) e f) := by
  simp [World.setCell, Array.getElem?_modify, h]
theorem heap_new (w : World) (o : Obj) : (w.alloc o).heap[w.heap.size]? = some o := heap_alloc_new _ _
/-- Since w: the boxed register, and the boxed place. -/
structure Two (w wr : World) (x p : Int) : Prop where
  bel : Below w.heap.size w wr
  a : wr.heap[w.heap.size]? = some (.cells #[.int .u64 x] 22 (0, 0))
  b : wr.heap[w.heap.size + 1]? = some (.cells #[.int .i64 p] 3 (0, 0))
theorem Two.cells {w wr : World} {x p : Int} (h : Two w wr x p) : wr.cell? ⟨w.heap.size, 0, none⟩ = some (.int .u64 x) ∧ wr.cell? ⟨w.heap.size + 1, 0, none⟩ = some (.int .i64 p) ∧ wr.frozen? ⟨w.heap.size, 0, none⟩ = false ∧ wr.frozen? ⟨w.heap.size + 1, 0, none⟩ = false :=
  ⟨by simp [World.cell?, h.a], by simp [World.cell?, h.b], by simp [World.frozen?, h.a], by simp [World.frozen?, h.b]⟩
theorem Two.drewN {w wr : World} {x p : Int} (h : Two w wr x p) (n : Nat) : Two w (wr.drewN n) x p := ⟨below_drewN h.bel _, h.a, h.b⟩
theorem Two.drew {w wr : World} {x p : Int} (h : Two w wr x p) : Two w wr.drew x p := h.drewN 1
theorem Two.set {w wr : World} {x p : Int} (h : Two w wr x p) (y q : Int) : Two w ((wr.setCell ⟨w.heap.size, 0, none⟩ (.int .u64 y)).setCell ⟨w.heap.size + 1, 0, none⟩ (.int .i64 q)) y q where
  bel := (h.bel.setCell (Nat.le_refl _) _).setCell (by simp) _
  a := (Below.heap_setCell _ _ _ _ (by simp)).trans (by rw [heap_set h.a]; rfl)
  b := by rw [heap_set (b := w.heap.size + 1) ((Below.heap_setCell _ _ _ _ (by simp)).trans h.b)]; rfl
/-- The closure: a number's bits laid into the register, and the place behind them. -/
theorem lay_any (w : World) (x p s v : Int) (x0 : 0 ≤ x) (x1 : x ≤ 18446744073709551615) (v0 : 0 ≤ v) (v1 : v ≤ 18446744073709551615) (p0 : 0 ≤ p) (p1 : p ≤ 100) (s0 : 0 ≤ s) (s1 : s ≤ 100) (wr : World) (h : Two w wr x p) :
    Calls Try.prog 26 #[.int .i64 s, .int .u64 v, .pointer (some ⟨w.heap.size, 0, none⟩), .pointer (some ⟨w.heap.size + 1, 0, none⟩)] wr fun e w' => e = .returned (.tuple #[]) ∧ Two w w' (putI x p s v) (p + s) := by
  have C := Lib.hid (fun w => put_any x p s v x0 x1 v0 v1 w)
  obtain ⟨c1, c2, f1, f2⟩ := h.cells
  have HS := Lib.hid (h.set (putI x p s v) (p + s))
  generalize putI x p s v = r at *
  go_enter Try.func26, Try.ntmps26
  go_wp2_with (go_at_call 27; refine (C.out _).mono ?_; rintro e w' ⟨rfl, rfl⟩)
  go_end0
  exact ⟨rfl, HS.out⟩
end Go.Proofs.Ytjnmipcjmeifoaa.Pt
