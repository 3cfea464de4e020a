/-
  What the laws of layer 14 without the document's pool carry. Conditions: none.
-/
import Derived.Test.YtkbkilkmiigahaaCLike
import Derived.Test.YtkbkilkmiigahaaCFacts
namespace Go.Proofs.Ytkbkilkmiigahaa.Cx
open Fld
open Go.ChangeShapes Go.WideShapes Go.ChangeAt Go.RowKit Go.Shelf Go.Deep
set_option maxHeartbeats 1000000
/-- Since w: a pool that was made. -/
structure PX (w wr : World) (pb bm ob : Nat) (P : Pl) : Prop where
  bel : Below w.heap.size w wr
  pool : PoolAt wr pb bm ob P
  lo : w.heap.size ≤ bm
section
variable {w wr wq : World} {pb bm ob : Nat} {P Q : Pl}
theorem PX.turn (h : PX w wr pb bm ob P) (hp : PoolAt wq pb bm ob Q) (t : Turn wr wq pb bm ob) : PX w wq pb bm ob Q := by
  have := h.lo; have := h.pool.ord
  exact ⟨h.bel.trans (t.to_below (by omega) (by omega) (by omega) h.bel.size), hp, h.lo⟩
theorem PX.low (h : PX w wr pb bm ob P) (k : Below wr.heap.size wr wq) : PX w wq pb bm ob P := ⟨h.bel.trans (k.mono h.bel.size), h.pool.low k, h.lo⟩
theorem PX.drewN (h : PX w wr pb bm ob P) (m : Nat) : PX w (wr.drewN m) pb bm ob P := h.low (below_drewN (Below.refl _ _) m)
theorem PX.drew (h : PX w wr pb bm ob P) : PX w wr.drew pb bm ob P := h.drewN 1
theorem PX.cell (h : PX w wr pb bm ob P) : wr.cell? ⟨pb, 0, none⟩ = some (.map (some bm)) := h.pool.cells.1
theorem px_new (n : Int) (w : World) : Calls Try.prog 8 #[.int .i64 n] w fun e w' => ∃ pb bm ob, e = .returned (.pointer (some ⟨pb, 0, none⟩)) ∧ PX w w' pb bm ob (Pl.new (newN n)) :=
  (new_any n w).mono (by rintro e w' ⟨pb, bm, ob, rfl, h, lo, hb⟩; exact ⟨pb, bm, ob, rfl, hb, h, lo⟩)
theorem px_rounds (h : PX w wr pb bm ob P) : Calls Try.prog 20 #[.pointer (some ⟨pb, 0, none⟩)] wr fun e w' => e = .returned (.int .i64 (P.R : Int)) ∧ PX w w' pb bm ob P :=
  (rounds_any wr h.pool).mono (by rintro e w' ⟨rfl, rfl⟩; exact ⟨rfl, h⟩)
theorem px_hand (h : PX w wr pb bm ob P) : Calls Try.prog 21 #[.pointer (some ⟨pb, 0, none⟩)] wr fun e w' => e = .returned (.int .i64 (P.h : Int)) ∧ PX w w' pb bm ob P :=
  (hand_any wr h.pool).mono (by rintro e w' ⟨rfl, rfl⟩; exact ⟨rfl, h⟩)
theorem px_free (h : PX w wr pb bm ob P) (ok : P.Ok) : Calls Try.prog 16 #[.pointer (some ⟨pb, 0, none⟩)] wr fun e w' => e = .returned (.int .i64 (frN P.T P.n : Int)) ∧ PX w w' pb bm ob P :=
  (free_any wr h.pool ok.apart).mono (by rintro e w' ⟨rfl, m, rfl⟩; exact ⟨rfl, h.drewN m⟩)
theorem px_lives (h : PX w wr pb bm ob P) : Calls Try.prog 12 #[] wr fun e w' => e = .returned (.bool true) ∧ PX w w' pb bm ob P :=
  (lives_any wr).mono (by rintro e w' ⟨rfl, hb⟩; exact ⟨rfl, h.low hb⟩)
theorem px_take (h : PX w wr pb bm ob P) (ok : P.Ok) {x : Int} (h0 : -9223372036854775808 ≤ x) (h1 : x ≤ 9223372036854775807) (hR : P.R ≤ 1000000000) : Calls Try.prog 17 #[.pointer (some ⟨pb, 0, none⟩), .int .i64 x] wr fun e w' => e = .returned (.tuple #[.int .i64 (P.takeI x : Int), .int .i64 (P.takeE x)]) ∧ PX w w' pb bm ob (P.take x) :=
  (take_any wr h.pool ok h0 h1 hR).mono (by rintro e w' ⟨rfl, hp, ht⟩; exact ⟨rfl, h.turn hp ht⟩)
theorem px_give (h : PX w wr pb bm ob P) (ok : P.Ok) {x : Int} (h0 : -9223372036854775808 ≤ x) (h1 : x ≤ 9223372036854775807) : Calls Try.prog 22 #[.pointer (some ⟨pb, 0, none⟩), .int .i64 x] wr fun e w' => e = .returned (.tuple #[.int .i64 (P.of x : Int), .int .i64 (P.giveE x)]) ∧ PX w w' pb bm ob (P.give x) :=
  (give_any wr h.pool ok h0 h1).mono (by rintro e w' ⟨rfl, hp, ht⟩; exact ⟨rfl, h.turn hp ht⟩)
theorem px_steal (h : PX w wr pb bm ob P) (ok : P.Ok) {x : Int} (m : Int) (h0 : -9223372036854775808 ≤ x) (h1 : x ≤ 9223372036854775807) (hR : P.R ≤ 1000000000) : Calls Try.prog 19 #[.pointer (some ⟨pb, 0, none⟩), .int .i64 m, .int .i64 x] wr fun e w' => e = .returned (.tuple #[.int .i64 (P.stealI m x), .int .i64 (P.stealE m x)]) ∧ PX w w' pb bm ob (P.steal m x) :=
  (steal_any wr h.pool ok m h0 h1 hR).mono (by rintro e w' ⟨rfl, hp, ht⟩; exact ⟨rfl, h.turn hp ht⟩)
theorem px_nil (h : PX w wr pb bm ob P) (ok : P.Ok) : Calls Try.prog 18 #[.pointer (some ⟨pb, 0, none⟩), .slice none 0 0] wr fun e w' => e = .returned (.tuple #[.int .i64 (P.vic [] : Int), .int .i64 (P.vicS []), .int .i64 (P.vicE [])]) ∧ PX w w' pb bm ob P :=
  (victim_any wr h.pool ok (nilInts wr)).mono (by rintro e w' ⟨rfl, hb⟩; exact ⟨rfl, h.low hb⟩)
theorem px_of (h : PX w wr pb bm ob P) {x : Int} (h0 : -9223372036854775808 ≤ x) (h1 : x ≤ 9223372036854775807) : Calls Try.prog 14 #[.pointer (some ⟨pb, 0, none⟩), .int .i64 x] wr fun e w' => e = .returned (.tuple #[.int .i64 (P.of x : Int), .bool (decide (P.of x ≠ 0))]) ∧ PX w w' pb bm ob P :=
  (of_any wr h.pool h0 h1 (Pl.tells x)).mono (by rintro e w' ⟨rfl, rfl⟩; exact ⟨rfl, h⟩)
theorem px_owner (h : PX w wr pb bm ob P) (ok : P.Ok) (m : Int) : Calls Try.prog 15 #[.pointer (some ⟨pb, 0, none⟩), .int .i64 m] wr fun e w' => e = .returned (.tuple #[.int .i64 (P.ownI m), .bool (P.ownB m)]) ∧ PX w w' pb bm ob P :=
  (owner_any wr h.pool (fun _ hi => ok.bd hi) m).mono (by rintro e w' ⟨rfl, rfl⟩; exact ⟨rfl, h⟩)
end
theorem run_quo (w : World) {t j c : Int} (hj : j ≠ 0) (hd : Int.tdiv t j = c) (hc : IntKind.i64.wrap c = c) : (binOp BinOp.quo 3 (.int .i64 t) (.int .i64 j)).run Try.prog w = .ok (.int .i64 c) w := by
  simp [binOp, Op.intDiv, hj, hd, hc]
end Go.Proofs.Ytkbkilkmiigahaa.Cx
