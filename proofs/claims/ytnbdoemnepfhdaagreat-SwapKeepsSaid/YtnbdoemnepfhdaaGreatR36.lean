/-
  Contracts and plain facts: NDFind, NDDrop, NDCtx, NDInto. Conditions: each says its own.
-/
import Derived.Test.YtnbdoemnepfhdaaGreatR28
import Derived.Deep.CutBlock
namespace Go.Proofs.YtnbdoemnepfhdaaGreat.Ts
open Fld
open Pt (idxI idx_bd)
open Tl (res_ent ret_entB)
open Go.ChangeShapes Go.WideShapes Go.ChangeAt Go.RowKit Go.Shelf
set_option maxRecDepth 100000
set_option maxHeartbeats 4000000
theorem PV.far {w X : World} {b B : Nat} {p : Par} {v u : Value} {l : List Wd} (h : PV w X (bxZ b p u) B v l) : b + 1 < X.heap.size := (Array.getElem?_eq_some_iff.1 (h.rows _ (List.mem_cons_of_mem _ (List.mem_cons_self ..))).1).1
/-- Eleven stores into a block that is new since X. -/
theorem PV.setE {w X wr : World} {L : List Bx} {B : Nat} {v : Value} {l : List Wd} {x0 x1 x2 x3 x4 x5 x6 x7 x8 x9 x10 : Value} (hX : PV w X L B v l) (h : PV w wr L B v l) :
    PV w (((((((((((wr.setCell ⟨X.heap.size, 0, none⟩ x0).setCell ⟨X.heap.size, 1, none⟩ x1).setCell ⟨X.heap.size, 2, none⟩ x2).setCell ⟨X.heap.size, 3, none⟩ x3).setCell ⟨X.heap.size, 4, none⟩ x4).setCell ⟨X.heap.size, 5, none⟩ x5).setCell ⟨X.heap.size, 6, none⟩ x6).setCell ⟨X.heap.size, 7, none⟩ x7).setCell ⟨X.heap.size, 8, none⟩ x8).setCell ⟨X.heap.size, 9, none⟩ x9).setCell ⟨X.heap.size, 10, none⟩ x10) L B v l := by
  refine ⟨below_eleven hX.bel.size h.bel _ _ _ _ _ _ _ _ _ _ _, fun q hq => ?_, ws_setNew hX.ws h.ws⟩
  obtain ⟨a, b, c⟩ := h.rows q hq
  have := (Array.getElem?_eq_some_iff.1 (hX.rows q hq).1).1
  exact ⟨(row_far (by omega)).trans a, b, c⟩
end Go.Proofs.YtnbdoemnepfhdaaGreat.Ts

namespace Go.Proofs.YtnbdoemnepfhdaaGreat.Ts
open Fld
open Pt (idxI idx_bd)
open Go.ChangeShapes Go.WideShapes Go.ChangeAt Go.RowKit Go.Shelf
set_option maxRecDepth 100000
set_option maxHeartbeats 4000000
/-- The boxes of a list that came in, and of one that is answered. -/
abbrev bxT (b : Nat) (p : Par) (v : Value) : List Bx := [(b, tcell p v, 68), (b + 1, #[.int .i64 0, .int .i64 0, .slice none 0 0], 68)]
/-- Three stores into a list's box: a list of words stays. -/
theorem tfin {w wr : World} {b D : Nat} {p : Par} {v x y u : Value} {l : List Wd} (hl : w.heap.size ≤ b) (h : Below w.heap.size w wr) (hb : wr.heap[b]? = some (.cells #[x, y, u] 68 (0, 0))) (hw : WsAt wr D v l) :
    (((wr.setCell ⟨b, 0, none⟩ (.int .i64 p.s)).setCell ⟨b, 1, none⟩ (.int .i64 (p.n : Int))).setCell ⟨b, 2, none⟩ v).heap[b]? = some (.cells #[.int .i64 p.s, .int .i64 (p.n : Int), v] 68 (0, 0)) ∧
    WsAt (((wr.setCell ⟨b, 0, none⟩ (.int .i64 p.s)).setCell ⟨b, 1, none⟩ (.int .i64 (p.n : Int))).setCell ⟨b, 2, none⟩ v) D v l ∧
    Below w.heap.size w (((wr.setCell ⟨b, 0, none⟩ (.int .i64 p.s)).setCell ⟨b, 1, none⟩ (.int .i64 (p.n : Int))).setCell ⟨b, 2, none⟩ v) := by
  have q1 := Mem.heap_set hb (o := 0) (.int .i64 p.s)
  have q2 := Mem.heap_set q1 (o := 1) (.int .i64 (p.n : Int))
  have q3 := Mem.heap_set q2 (o := 2) v
  exact ⟨q3, ws_put (ws_put (ws_put hw hb t_w _ _) q1 t_w _ _) q2 t_w _ _, ((h.setCell (p := ⟨b, 0, none⟩) hl _).setCell (p := ⟨b, 1, none⟩) hl _).setCell (p := ⟨b, 2, none⟩) hl _⟩
/-- A list's box that stays. -/
structure KC (wr : World) (b : Nat) (p : Par) (v : Value) : Prop where
  row : wr.heap[b]? = some (.cells #[.int .i64 p.s, .int .i64 (p.n : Int), v] 68 (0, 0))
theorem KC.drew {wr : World} {b : Nat} {p : Par} {v : Value} (h : KC wr b p v) : KC wr.drew b p v := ⟨h.row⟩
theorem KC.drewN {wr : World} {b : Nat} {p : Par} {v : Value} (h : KC wr b p v) (n : Nat) : KC (wr.drewN n) b p v := ⟨h.row⟩
theorem KC.low {wr w' : World} {b : Nat} {p : Par} {v : Value} (h : KC wr b p v) (hb : Below wr.heap.size wr w') : KC w' b p v := ⟨(hb.block _ (Array.getElem?_eq_some_iff.1 h.row).1).trans h.row⟩
theorem KC.alloc {wr : World} {b : Nat} {p : Par} {v : Value} (h : KC wr b p v) (o : Obj) : KC (wr.alloc o) b p v := h.low ((Below.refl _ _).alloc (Nat.le_refl _) _)
theorem KC.set3 {wr : World} {b : Nat} {p : Par} {v : Value} (h : KC wr b p v) (x y z : Value) : KC (((wr.setCell ⟨b + 1, 0, none⟩ x).setCell ⟨b + 1, 1, none⟩ y).setCell ⟨b + 1, 2, none⟩ z) b p v := ⟨(three_far (by omega)).trans h.row⟩
theorem KC.of {w wr : World} {b B : Nat} {p : Par} {u v : Value} {l : List Wd} (h : PV w wr (bxT b p v) B u l) : KC wr b p v := ⟨(h.rows _ (List.mem_cons_self ..)).1⟩
theorem KC.all {wr : World} {b : Nat} {p : Par} {v : Value} (h : KC wr b p v) : wr.cell? ⟨b, 0, none⟩ = some (.int .i64 p.s) ∧ wr.cell? ⟨b, 1, none⟩ = some (.int .i64 (p.n : Int)) ∧ wr.cell? ⟨b, 2, none⟩ = some v := ⟨cell_row 0 h.row rfl, cell_row 1 h.row rfl, cell_row 2 h.row rfl⟩
end Go.Proofs.YtnbdoemnepfhdaaGreat.Ts

namespace Go.Proofs.YtnbdoemnepfhdaaGreat.Ts
open Fld
open Pt (idxI idx_bd)
open Go.ChangeShapes Go.WideShapes Go.ChangeAt Go.RowKit Go.Shelf
set_option maxRecDepth 100000
set_option maxHeartbeats 4000000
/-- The boxes of a list that turns, and of one that is answered. -/
structure CX (w wr : World) (p : Par) (v : Value) (D : Nat) (l : List Wd) : Prop where
  bel : Below w.heap.size w wr
  row : wr.heap[w.heap.size]? = some (.cells #[.int .i64 p.s, .int .i64 (p.n : Int), v] 68 (0, 0))
  res : wr.heap[w.heap.size + 1]? = some (.cells #[.int .i64 0, .int .i64 0, .slice none 0 0] 68 (0, 0))
  le : D ≤ wr.heap.size
  ws : WsAt wr D v l
theorem CX.low {w wr w' : World} {p : Par} {v : Value} {D : Nat} {l : List Wd} (h : CX w wr p v D l) (hb : Below wr.heap.size wr w') : CX w w' p v D l :=
  ⟨h.bel.trans (hb.mono h.bel.size), (hb.block _ (Array.getElem?_eq_some_iff.1 h.row).1).trans h.row, (hb.block _ (Array.getElem?_eq_some_iff.1 h.res).1).trans h.res, Nat.le_trans h.le hb.size, ws_low h.ws hb⟩
theorem CX.drewN {w wr : World} {p : Par} {v : Value} {D : Nat} {l : List Wd} (h : CX w wr p v D l) (n : Nat) : CX w (wr.drewN n) p v D l := h.low (drewN_low wr n)
theorem CX.drew {w wr : World} {p : Par} {v : Value} {D : Nat} {l : List Wd} (h : CX w wr p v D l) : CX w wr.drew p v D l := h.drewN 1
theorem CX.alloc {w wr : World} {p : Par} {v : Value} {D : Nat} {l : List Wd} (h : CX w wr p v D l) (o : Obj) : CX w (wr.alloc o) p v D l := h.low ((Below.refl _ _).alloc (Nat.le_refl _) _)
theorem CX.put {w wr : World} {p : Par} {v u : Value} {D E : Nat} {l m : List Wd} (h : CX w wr p v D l) (hw : WsAt wr E u m) (hE : E ≤ wr.heap.size) :
    CX w (((wr.setCell ⟨w.heap.size, 0, none⟩ (.int .i64 p.s)).setCell ⟨w.heap.size, 1, none⟩ (.int .i64 (p.n : Int))).setCell ⟨w.heap.size, 2, none⟩ u) p u E m := by
  obtain ⟨a, b, c⟩ := tfin (p := p) (Nat.le_refl _) h.bel h.row hw
  exact ⟨c, a, (three_far (by omega)).trans h.res, by simp; exact hE, b⟩
end Go.Proofs.YtnbdoemnepfhdaaGreat.Ts

namespace Go.Proofs.YtnbdoemnepfhdaaGreat.Ts
open Fld
open Pt (idxI idx_bd)
open Tl (ListAt DocAt nthE doc_at doc_below list_nil)
open Go.ChangeShapes Go.WideShapes Go.ChangeAt Go.RowKit Go.Shelf
set_option maxRecDepth 100000
set_option maxHeartbeats 4000000
theorem list_put {w : World} {C b : Nat} {v : Value} {l : List Ent} {c : Array Value} {t : TypeId} (h : ListAt w C v l) (hb : w.heap[b]? = some (.cells c t (0, 0))) (ht : t ≠ 30) (o : Nat) (u : Value) : ListAt (w.setCell ⟨b, o, none⟩ u) C v l :=
  list_same h fun g cur _ hg => Below.heap_setCell _ _ _ _ (by
    show g ≠ b
    rintro rfl
    rw [hb] at hg
    simp only [Option.some.injEq, Obj.cells.injEq] at hg
    exact ht hg.2.1)
/-- The boxes of Into: the list that turns, the one that is answered, and the entries. -/
structure IX (w wr : World) (q : Par) (v : Value) (D : Nat) (l : List Wd) (lv : Value) (es : List Ent) : Prop where
  bel : Below w.heap.size w wr
  row : wr.heap[w.heap.size + 1]? = some (.cells #[.int .i64 q.s, .int .i64 (q.n : Int), v] 68 (0, 0))
  res : wr.heap[w.heap.size + 1 + 1]? = some (.cells #[.int .i64 0, .int .i64 0, .slice none 0 0] 68 (0, 0))
  le : D ≤ wr.heap.size
  ws : WsAt wr D v l
  own : ListAt wr (w.heap.size + 1 + 1 + 1) lv es
theorem IX.low {w wr w' : World} {q : Par} {v lv : Value} {D : Nat} {l : List Wd} {es : List Ent} (h : IX w wr q v D l lv es) (hb : Below wr.heap.size wr w') : IX w w' q v D l lv es :=
  ⟨h.bel.trans (hb.mono h.bel.size), (hb.block _ (Array.getElem?_eq_some_iff.1 h.row).1).trans h.row, (hb.block _ (Array.getElem?_eq_some_iff.1 h.res).1).trans h.res, Nat.le_trans h.le hb.size, ws_low h.ws hb, doc_below h.own hb⟩
theorem IX.drewN {w wr : World} {q : Par} {v lv : Value} {D : Nat} {l : List Wd} {es : List Ent} (h : IX w wr q v D l lv es) (n : Nat) : IX w (wr.drewN n) q v D l lv es := h.low (drewN_low wr n)
theorem IX.drew {w wr : World} {q : Par} {v lv : Value} {D : Nat} {l : List Wd} {es : List Ent} (h : IX w wr q v D l lv es) : IX w wr.drew q v D l lv es := h.drewN 1
theorem IX.alloc {w wr : World} {q : Par} {v lv : Value} {D : Nat} {l : List Wd} {es : List Ent} (h : IX w wr q v D l lv es) (o : Obj) : IX w (wr.alloc o) q v D l lv es := h.low ((Below.refl _ _).alloc (Nat.le_refl _) _)
theorem IX.put {w wr : World} {q : Par} {v u lv : Value} {D E : Nat} {l m : List Wd} {es : List Ent} (h : IX w wr q v D l lv es) (hw : WsAt wr E u m) (hE : E ≤ wr.heap.size) :
    IX w (((wr.setCell ⟨w.heap.size + 1, 0, none⟩ (.int .i64 q.s)).setCell ⟨w.heap.size + 1, 1, none⟩ (.int .i64 (q.n : Int))).setCell ⟨w.heap.size + 1, 2, none⟩ u) q u E m lv es := by
  obtain ⟨a, b, c⟩ := tfin (p := q) (Nat.le_succ _) h.bel h.row hw
  have q1 := Mem.heap_set h.row (o := 0) (.int .i64 q.s)
  have q2 := Mem.heap_set q1 (o := 1) (.int .i64 (q.n : Int))
  exact ⟨c, a, (three_far (by omega)).trans h.res, by simp; exact hE, b, list_put (list_put (list_put h.own h.row (by decide) _ _) q1 (by decide) _ _) q2 (by decide) _ _⟩
theorem IX.sc {w wr : World} {q : Par} {v : Value} {D g n cap : Nat} {l : List Wd} {es : List Ent} (h : IX w wr q v D l (.slice (some ⟨g, 0, none⟩) n cap) es) {i o : Nat} (hi : i < es.length) (ho : i * 11 = o) :
    wr.cell? ⟨w.heap.size + 1, 0, none⟩ = some (.int .i64 q.s) ∧ wr.cell? ⟨w.heap.size + 1, 1, none⟩ = some (.int .i64 (q.n : Int)) ∧ wr.cell? ⟨w.heap.size + 1, 2, none⟩ = some v ∧ wr.cell? ⟨g, o, none⟩ = some (.int .i64 (nthE es i).size) ∧ wr.cell? ⟨g, o + 1, none⟩ = some (.int .i64 (nthE es i).ctx) ∧ wr.cell? ⟨g, o + 2, none⟩ = some (.int .u64 (nthE es i).va) ∧ wr.cell? ⟨g, o + 3, none⟩ = some (.int .u64 (nthE es i).pa) ∧ wr.cell? ⟨g, o + 4, none⟩ = some (.bool (nthE es i).att.write) ∧ wr.cell? ⟨g, o + 5, none⟩ = some (.bool (nthE es i).att.priv) ∧ wr.cell? ⟨g, o + 6, none⟩ = some (.bool (nthE es i).att.exec) ∧ wr.cell? ⟨g, o + 7, none⟩ = some (.bool (nthE es i).att.lock) ∧ wr.cell? ⟨g, o + 8, none⟩ = some (.bool (nthE es i).att.global) ∧ wr.cell? ⟨g, o + 9, none⟩ = some (.bool (nthE es i).att.quiet) ∧ wr.cell? ⟨g, o + 10, none⟩ = some (.bool (nthE es i).valid) := by
  obtain ⟨g', cap', hv, _, _, _, _, c, _⟩ := doc_at h.own (by omega)
  simp only [Value.slice.injEq, Option.some.injEq, Addr.mk.injEq, and_true] at hv
  obtain ⟨rfl, _⟩ := hv
  exact ⟨cell_row 0 h.row rfl, cell_row 1 h.row rfl, cell_row 2 h.row rfl, c i o hi ho⟩
end Go.Proofs.YtnbdoemnepfhdaaGreat.Ts

