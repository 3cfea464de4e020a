/-
  Contracts and plain facts: NDFind, NDDrop, NDCtx, NDInto. Conditions: each says its own.
-/
import Derived.Test.YtnbdoemnepfhdaaGreatR28
import Derived.Deep.CutBlock
namespace Go.Proofs.YtnbdoemnepfhdaaGreat.Ts
open Fld
open Pt (idxI idx_bd)
open Tl (res_ent ret_entB)
open Go.ChangeShapes Go.WideShapes Go.ChangeAt Go.RowKit Go.Shelf
set_option maxRecDepth 100000
set_option maxHeartbeats 4000000
theorem PV.far {w X : World} {b B : Nat} {p : Par} {v u : Value} {l : List Wd} (h : PV w X (bxZ b p u) B v l) : b + 1 < X.heap.size := (Array.getElem?_eq_some_iff.1 (h.rows _ (List.mem_cons_of_mem _ (List.mem_cons_self ..))).1).1
/-- Eleven stores into a block that is new since X. -/
theorem PV.setE {w X wr : World} {L : List Bx} {B : Nat} {v : Value} {l : List Wd} {x0 x1 x2 x3 x4 x5 x6 x7 x8 x9 x10 : Value} (hX : PV w X L B v l) (h : PV w wr L B v l) :
    PV w (((((((((((wr.setCell ⟨X.heap.size, 0, none⟩ x0).setCell ⟨X.heap.size, 1, none⟩ x1).setCell ⟨X.heap.size, 2, none⟩ x2).setCell ⟨X.heap.size, 3, none⟩ x3).setCell ⟨X.heap.size, 4, none⟩ x4).setCell ⟨X.heap.size, 5, none⟩ x5).setCell ⟨X.heap.size, 6, none⟩ x6).setCell ⟨X.heap.size, 7, none⟩ x7).setCell ⟨X.heap.size, 8, none⟩ x8).setCell ⟨X.heap.size, 9, none⟩ x9).setCell ⟨X.heap.size, 10, none⟩ x10) L B v l := by
  refine ⟨below_eleven hX.bel.size h.bel _ _ _ _ _ _ _ _ _ _ _, fun q hq => ?_, ws_setNew hX.ws h.ws⟩
  obtain ⟨a, b, c⟩ := h.rows q hq
  have := (Array.getElem?_eq_some_iff.1 (hX.rows q hq).1).1
  exact ⟨(row_far (by omega)).trans a, b, c⟩
end Go.Proofs.YtnbdoemnepfhdaaGreat.Ts

namespace Go.Proofs.YtnbdoemnepfhdaaGreat.Ts
open Fld
open Pt (idxI idx_bd)
open Go.ChangeShapes Go.WideShapes Go.ChangeAt Go.RowKit Go.Shelf
set_option maxRecDepth 100000
set_option maxHeartbeats 4000000
/-- The boxes of a list that came in, and of one that is answered. -/
abbrev bxT (b : Nat) (p : Par) (v : Value) : List Bx := [(b, tcell p v, 68), (b + 1, #[.int .i64 0, .int .i64 0, .slice none 0 0], 68)]
theorem res_Tt {fn : Func} {p u : Tmp} (h : fn.results = #[.cell p 68, .tmp u]) (tmps : Array Value) (w : World) (g : Nat) (x y v : Value) (hp : tmps.getD p undef = .pointer (some ⟨g, 0, none⟩)) (hR : w.heap[g]? = some (.cells #[x, y, v] 68 (0, 0))) :
    (results fn tmps).run Tryz.prog w = .ok (.tuple #[.agg #[x, y, v], tmps.getD u undef]) w := by
  have hl := run_loadVar_row (P := Tryz.prog) w g 68 68 _ (0, 0) _ hR Tryz.underlying68 (by kernel_rfl) (by kernel_rfl)
  rw [results_cell_tmp h, hp]
  simp only [asAddr, Sem.run_pure, Result.andThen_ok, hl]
/-- Three stores into a list's box: a list of words stays. -/
theorem tfin {w wr : World} {b D : Nat} {p : Par} {v x y u : Value} {l : List Wd} (hl : w.heap.size ≤ b) (h : Below w.heap.size w wr) (hb : wr.heap[b]? = some (.cells #[x, y, u] 68 (0, 0))) (hw : WsAt wr D v l) :
    (((wr.setCell ⟨b, 0, none⟩ (.int .i64 p.s)).setCell ⟨b, 1, none⟩ (.int .i64 (p.n : Int))).setCell ⟨b, 2, none⟩ v).heap[b]? = some (.cells #[.int .i64 p.s, .int .i64 (p.n : Int), v] 68 (0, 0)) ∧
    WsAt (((wr.setCell ⟨b, 0, none⟩ (.int .i64 p.s)).setCell ⟨b, 1, none⟩ (.int .i64 (p.n : Int))).setCell ⟨b, 2, none⟩ v) D v l ∧
    Below w.heap.size w (((wr.setCell ⟨b, 0, none⟩ (.int .i64 p.s)).setCell ⟨b, 1, none⟩ (.int .i64 (p.n : Int))).setCell ⟨b, 2, none⟩ v) := by
  have q1 := Mem.heap_set hb (o := 0) (.int .i64 p.s)
  have q2 := Mem.heap_set q1 (o := 1) (.int .i64 (p.n : Int))
  have q3 := Mem.heap_set q2 (o := 2) v
  exact ⟨q3, ws_put (ws_put (ws_put hw hb t_w _ _) q1 t_w _ _) q2 t_w _ _, ((h.setCell (p := ⟨b, 0, none⟩) hl _).setCell (p := ⟨b, 1, none⟩) hl _).setCell (p := ⟨b, 2, none⟩) hl _⟩
/-- A list's box that stays. -/
structure KC (wr : World) (b : Nat) (p : Par) (v : Value) : Prop where
  row : wr.heap[b]? = some (.cells #[.int .i64 p.s, .int .i64 (p.n : Int), v] 68 (0, 0))
theorem KC.drew {wr : World} {b : Nat} {p : Par} {v : Value} (h : KC wr b p v) : KC wr.drew b p v := ⟨h.row⟩
theorem KC.drewN {wr : World} {b : Nat} {p : Par} {v : Value} (h : KC wr b p v) (n : Nat) : KC (wr.drewN n) b p v := ⟨h.row⟩
theorem KC.low {wr w' : World} {b : Nat} {p : Par} {v : Value} (h : KC wr b p v) (hb : Below wr.heap.size wr w') : KC w' b p v := ⟨(hb.block _ (Array.getElem?_eq_some_iff.1 h.row).1).trans h.row⟩
theorem KC.alloc {wr : World} {b : Nat} {p : Par} {v : Value} (h : KC wr b p v) (o : Obj) : KC (wr.alloc o) b p v := h.low ((Below.refl _ _).alloc (Nat.le_refl _) _)
theorem KC.set3 {wr : World} {b : Nat} {p : Par} {v : Value} (h : KC wr b p v) (x y z : Value) : KC (((wr.setCell ⟨b + 1, 0, none⟩ x).setCell ⟨b + 1, 1, none⟩ y).setCell ⟨b + 1, 2, none⟩ z) b p v := ⟨(three_far (by omega)).trans h.row⟩
theorem KC.of {w wr : World} {b B : Nat} {p : Par} {u v : Value} {l : List Wd} (h : PV w wr (bxT b p v) B u l) : KC wr b p v := ⟨(h.rows _ (List.mem_cons_self ..)).1⟩
theorem KC.all {wr : World} {b : Nat} {p : Par} {v : Value} (h : KC wr b p v) : wr.cell? ⟨b, 0, none⟩ = some (.int .i64 p.s) ∧ wr.cell? ⟨b, 1, none⟩ = some (.int .i64 (p.n : Int)) ∧ wr.cell? ⟨b, 2, none⟩ = some v := ⟨cell_row 0 h.row rfl, cell_row 1 h.row rfl, cell_row 2 h.row rfl⟩
end Go.Proofs.YtnbdoemnepfhdaaGreat.Ts

namespace Go.Proofs.YtnbdoemnepfhdaaGreat.Ts
open Fld
open Pt (idxI idx_bd)
open Go.ChangeShapes Go.WideShapes Go.ChangeAt Go.RowKit Go.Shelf
set_option maxRecDepth 100000
set_option maxHeartbeats 4000000
/-- The boxes of a list that turns, and of one that is answered. -/
structure CX (w wr : World) (p : Par) (v : Value) (D : Nat) (l : List Wd) : Prop where
  bel : Below w.heap.size w wr
  row : wr.heap[w.heap.size]? = some (.cells #[.int .i64 p.s, .int .i64 (p.n : Int), v] 68 (0, 0))
  res : wr.heap[w.heap.size + 1]? = some (.cells #[.int .i64 0, .int .i64 0, .slice none 0 0] 68 (0, 0))
  le : D ≤ wr.heap.size
  ws : WsAt wr D v l
theorem CX.low {w wr w' : World} {p : Par} {v : Value} {D : Nat} {l : List Wd} (h : CX w wr p v D l) (hb : Below wr.heap.size wr w') : CX w w' p v D l :=
  ⟨h.bel.trans (hb.mono h.bel.size), (hb.block _ (Array.getElem?_eq_some_iff.1 h.row).1).trans h.row, (hb.block _ (Array.getElem?_eq_some_iff.1 h.res).1).trans h.res, Nat.le_trans h.le hb.size, ws_low h.ws hb⟩
theorem CX.drewN {w wr : World} {p : Par} {v : Value} {D : Nat} {l : List Wd} (h : CX w wr p v D l) (n : Nat) : CX w (wr.drewN n) p v D l := h.low (drewN_low wr n)
theorem CX.drew {w wr : World} {p : Par} {v : Value} {D : Nat} {l : List Wd} (h : CX w wr p v D l) : CX w wr.drew p v D l := h.drewN 1
theorem CX.alloc {w wr : World} {p : Par} {v : Value} {D : Nat} {l : List Wd} (h : CX w wr p v D l) (o : Obj) : CX w (wr.alloc o) p v D l := h.low ((Below.refl _ _).alloc (Nat.le_refl _) _)
theorem CX.put {w wr : World} {p : Par} {v u : Value} {D E : Nat} {l m : List Wd} (h : CX w wr p v D l) (hw : WsAt wr E u m) (hE : E ≤ wr.heap.size) :
    CX w (((wr.setCell ⟨w.heap.size, 0, none⟩ (.int .i64 p.s)).setCell ⟨w.heap.size, 1, none⟩ (.int .i64 (p.n : Int))).setCell ⟨w.heap.size, 2, none⟩ u) p u E m := by
  obtain ⟨a, b, c⟩ := tfin (p := p) (Nat.le_refl _) h.bel h.row hw
  exact ⟨c, a, (three_far (by omega)).trans h.res, by simp; exact hE, b⟩
end Go.Proofs.YtnbdoemnepfhdaaGreat.Ts

namespace Go.Proofs.YtnbdoemnepfhdaaGreat.Ts
open Fld
open Pt (idxI idx_bd)
open Tl (ListAt DocAt nthE doc_at doc_below list_nil)
open Go.ChangeShapes Go.WideShapes Go.ChangeAt Go.RowKit Go.Shelf
set_option maxRecDepth 100000
set_option maxHeartbeats 4000000
theorem list_put {w : World} {C b : Nat} {v : Value} {l : List Ent} {c : Array Value} {t : TypeId} (h : ListAt w C v l) (hb : w.heap[b]? = some (.cells c t (0, 0))) (ht : t ≠ 30) (o : Nat) (u : Value) : ListAt (w.setCell ⟨b, o, none⟩ u) C v l :=
  list_same h fun g cur _ hg => Below.heap_setCell _ _ _ _ (by
    show g ≠ b
    rintro rfl
    rw [hb] at hg
    simp only [Option.some.injEq, Obj.cells.injEq] at hg
    exact ht hg.2.1)
theorem gd_U {p : Par} {T : Nat → Pl} (h : Gd p T) (i : Nat) : (T i).U := by
  rcases h i with a | ⟨e, e1, _, _, e4⟩
  · rw [a]; exact Pl.none_U
  · rw [e4]; exact ent_pl_U e1.fit
/-- The boxes of Into: the list that turns, the one that is answered, and the entries. -/
structure IX (w wr : World) (q : Par) (v : Value) (D : Nat) (l : List Wd) (lv : Value) (es : List Ent) : Prop where
  bel : Below w.heap.size w wr
  row : wr.heap[w.heap.size + 1]? = some (.cells #[.int .i64 q.s, .int .i64 (q.n : Int), v] 68 (0, 0))
  res : wr.heap[w.heap.size + 1 + 1]? = some (.cells #[.int .i64 0, .int .i64 0, .slice none 0 0] 68 (0, 0))
  le : D ≤ wr.heap.size
  ws : WsAt wr D v l
  own : ListAt wr (w.heap.size + 1 + 1 + 1) lv es
theorem IX.low {w wr w' : World} {q : Par} {v lv : Value} {D : Nat} {l : List Wd} {es : List Ent} (h : IX w wr q v D l lv es) (hb : Below wr.heap.size wr w') : IX w w' q v D l lv es :=
  ⟨h.bel.trans (hb.mono h.bel.size), (hb.block _ (Array.getElem?_eq_some_iff.1 h.row).1).trans h.row, (hb.block _ (Array.getElem?_eq_some_iff.1 h.res).1).trans h.res, Nat.le_trans h.le hb.size, ws_low h.ws hb, doc_below h.own hb⟩
theorem IX.drewN {w wr : World} {q : Par} {v lv : Value} {D : Nat} {l : List Wd} {es : List Ent} (h : IX w wr q v D l lv es) (n : Nat) : IX w (wr.drewN n) q v D l lv es := h.low (drewN_low wr n)
theorem IX.drew {w wr : World} {q : Par} {v lv : Value} {D : Nat} {l : List Wd} {es : List Ent} (h : IX w wr q v D l lv es) : IX w wr.drew q v D l lv es := h.drewN 1
theorem IX.alloc {w wr : World} {q : Par} {v lv : Value} {D : Nat} {l : List Wd} {es : List Ent} (h : IX w wr q v D l lv es) (o : Obj) : IX w (wr.alloc o) q v D l lv es := h.low ((Below.refl _ _).alloc (Nat.le_refl _) _)
theorem IX.put {w wr : World} {q : Par} {v u lv : Value} {D E : Nat} {l m : List Wd} {es : List Ent} (h : IX w wr q v D l lv es) (hw : WsAt wr E u m) (hE : E ≤ wr.heap.size) :
    IX w (((wr.setCell ⟨w.heap.size + 1, 0, none⟩ (.int .i64 q.s)).setCell ⟨w.heap.size + 1, 1, none⟩ (.int .i64 (q.n : Int))).setCell ⟨w.heap.size + 1, 2, none⟩ u) q u E m lv es := by
  obtain ⟨a, b, c⟩ := tfin (p := q) (Nat.le_succ _) h.bel h.row hw
  have q1 := Mem.heap_set h.row (o := 0) (.int .i64 q.s)
  have q2 := Mem.heap_set q1 (o := 1) (.int .i64 (q.n : Int))
  exact ⟨c, a, (three_far (by omega)).trans h.res, by simp; exact hE, b, list_put (list_put (list_put h.own h.row (by decide) _ _) q1 (by decide) _ _) q2 (by decide) _ _⟩
theorem IX.sc {w wr : World} {q : Par} {v : Value} {D g n cap : Nat} {l : List Wd} {es : List Ent} (h : IX w wr q v D l (.slice (some ⟨g, 0, none⟩) n cap) es) {i o : Nat} (hi : i < es.length) (ho : i * 11 = o) :
    wr.cell? ⟨w.heap.size + 1, 0, none⟩ = some (.int .i64 q.s) ∧ wr.cell? ⟨w.heap.size + 1, 1, none⟩ = some (.int .i64 (q.n : Int)) ∧ wr.cell? ⟨w.heap.size + 1, 2, none⟩ = some v ∧ wr.cell? ⟨g, o, none⟩ = some (.int .i64 (nthE es i).size) ∧ wr.cell? ⟨g, o + 1, none⟩ = some (.int .i64 (nthE es i).ctx) ∧ wr.cell? ⟨g, o + 2, none⟩ = some (.int .u64 (nthE es i).va) ∧ wr.cell? ⟨g, o + 3, none⟩ = some (.int .u64 (nthE es i).pa) ∧ wr.cell? ⟨g, o + 4, none⟩ = some (.bool (nthE es i).att.write) ∧ wr.cell? ⟨g, o + 5, none⟩ = some (.bool (nthE es i).att.priv) ∧ wr.cell? ⟨g, o + 6, none⟩ = some (.bool (nthE es i).att.exec) ∧ wr.cell? ⟨g, o + 7, none⟩ = some (.bool (nthE es i).att.lock) ∧ wr.cell? ⟨g, o + 8, none⟩ = some (.bool (nthE es i).att.global) ∧ wr.cell? ⟨g, o + 9, none⟩ = some (.bool (nthE es i).att.quiet) ∧ wr.cell? ⟨g, o + 10, none⟩ = some (.bool (nthE es i).valid) := by
  obtain ⟨g', cap', hv, _, _, _, _, c, _⟩ := doc_at h.own (by omega)
  simp only [Value.slice.injEq, Option.some.injEq, Addr.mk.injEq, and_true] at hv
  obtain ⟨rfl, _⟩ := hv
  exact ⟨cell_row 0 h.row rfl, cell_row 1 h.row rfl, cell_row 2 h.row rfl, c i o hi ho⟩
theorem iput {w W : World} {q : Par} (hq : q.Ok) {D : Nat} {v lv : Value} {l : List Wd} {es : List Ent} (h : IX w W q v D l lv es) (e : Ent) (he : e.Fit) (u : EntU e) (hl : l.length ≤ 99990) :
    Calls Tryz.prog 27 #[.agg #[.int .i64 q.s, .int .i64 (q.n : Int), v], .agg #[.int .i64 e.size, .int .i64 e.ctx, .int .u64 e.va, .int .u64 e.pa, .bool e.att.write, .bool e.att.priv, .bool e.att.exec, .bool e.att.lock, .bool e.att.global, .bool e.att.quiet, .bool e.valid]] W fun r w' => ∃ v' E, r = .returned (.agg #[.int .i64 q.s, .int .i64 (q.n : Int), v']) ∧ IX w w' q v D l lv es ∧ D ≤ E ∧ E ≤ w'.heap.size ∧ WsAt w' E v' (insW q l e) := by
  refine (rinsert_any hq l D v e he u hl W h.ws h.le).mono ?_
  rintro r w' ⟨v', rfl, a, b⟩
  exact ⟨v', W.heap.size, rfl, h.low b, h.le, b.size, a⟩
theorem ointo_any {p q : Par} (hp : p.Ok) (hq : q.Ok) (hs : p.s = q.s) {l l2 : List Wd} {B B2 : Nat} {v v2 : Value} {T : Nat → Pl} (ht : Tie p l T) (hG : Gd p T) (ht2 : Tie q l2 (fun _ => Pl.none)) (w : World) (h : WsAt w B v l) (h2 : WsAt w B2 v2 l2) (hB2 : B2 ≤ w.heap.size) :
    Calls Tryz.prog 63 #[.agg #[.int .i64 p.s, .int .i64 (p.n : Int), v], .agg #[.int .i64 q.s, .int .i64 (q.n : Int), v2]] w fun e w' => ∃ v' l', e = .returned (.tuple #[.agg #[.int .i64 q.s, .int .i64 (q.n : Int), v'], .int .i64 ((lstP p T p.n).length : Int)]) ∧ WsAt w' B2 v' l' ∧ Tie q l' (insAll q (lstP p T p.n)) ∧ Below w.heap.size w w' := by
  have hnb := hp.n_bd
  have hnq := hq.n_bd
  have hle := lst_le p T p.n
  have z1 : Below w.heap.size w (((w.alloc (.cells #[.int .i64 p.s, .int .i64 (p.n : Int), v] 68)).alloc (.cells #[.int .i64 q.s, .int .i64 (q.n : Int), v2] 68)).alloc (.cells #[.int .i64 0, .int .i64 0, .slice none 0 0] 68)) := (((Below.refl _ _).alloc (Nat.le_refl _) _).alloc (by simp) _).alloc (by simp; omega) _
  have b0 : (((w.alloc (.cells #[.int .i64 p.s, .int .i64 (p.n : Int), v] 68)).alloc (.cells #[.int .i64 q.s, .int .i64 (q.n : Int), v2] 68)).alloc (.cells #[.int .i64 0, .int .i64 0, .slice none 0 0] 68)).heap[w.heap.size]? = some (.cells #[.int .i64 p.s, .int .i64 (p.n : Int), v] 68 (0, 0)) := alloc_old (alloc_old (World.alloc_heap_new _ _) _) _
  have b1 : (((w.alloc (.cells #[.int .i64 p.s, .int .i64 (p.n : Int), v] 68)).alloc (.cells #[.int .i64 q.s, .int .i64 (q.n : Int), v2] 68)).alloc (.cells #[.int .i64 0, .int .i64 0, .slice none 0 0] 68)).heap[w.heap.size + 1]? = some (.cells #[.int .i64 q.s, .int .i64 (q.n : Int), v2] 68 (0, 0)) := alloc_old (alloc_new2 _ _ _) _
  have b2 := alloc_new2 (w.alloc (.cells #[.int .i64 p.s, .int .i64 (p.n : Int), v] 68)) (.cells #[.int .i64 q.s, .int .i64 (q.n : Int), v2] 68) (.cells #[.int .i64 0, .int .i64 0, .slice none 0 0] 68)
  rw [World.size_alloc] at b2
  have s3 : (((w.alloc (.cells #[.int .i64 p.s, .int .i64 (p.n : Int), v] 68)).alloc (.cells #[.int .i64 q.s, .int .i64 (q.n : Int), v2] 68)).alloc (.cells #[.int .i64 0, .int .i64 0, .slice none 0 0] 68)).heap.size = w.heap.size + 1 + 1 + 1 := by simp
  have h1 := ws_low h z1
  have h3 := ws_low h2 z1
  have CL := Lib.hid (fun W (hW : WsAt W B v l) => olist_any hp ht (fun i _ => gd_U hG i) W hW)
  have hF := Lib.hid (fun e (he : e ∈ lstP p T p.n) => lst_fine hp hG e he)
  have HS := Lib.hid hs
  generalize lstP p T p.n = es at *
  obtain ⟨m, hm⟩ : ∃ m, es.length = m := ⟨_, rfl⟩
  have HM := Lib.hid hm
  rw [hm] at hle ⊢
  have ht0 : Tie q l2 (insAll q (es.take 0)) := ht2
  have hall := Lib.hid (show insAll q (es.take m) = insAll q es by rw [← hm, List.take_length])
  obtain ⟨ao, cap, rfl⟩ := own_shape h
  obtain ⟨ao2, cap2, rfl⟩ := own_shape h2
  clear hm hs h h2 ht ht2 hG
  go_enter Tryz.func63, Tryz.ntmps63
  go_wp2_with fail
  generalize World.alloc (World.alloc (World.alloc w _) _) _ = W1 at *
  have t0 := cell_row 0 b0 rfl
  have t1 := cell_row 1 b0 rfl
  have t2 := cell_row 2 b0 rfl
  go_wp2_with fail
  refine (CL.out _ h1).mono ?_; rintro e w6 ⟨v6, rfl, hl6, hb6⟩
  obtain ⟨ao6, cap6, rfl⟩ := own_shape hl6
  have P6 : IX w w6 q (.slice ao2 l2.length cap2) B2 l2 (.slice ao6 es.length cap6) es := ⟨z1.trans (hb6.mono z1.size), (hb6.block _ (Array.getElem?_eq_some_iff.1 b1).1).trans b1, (hb6.block _ (Array.getElem?_eq_some_iff.1 b2).1).trans b2, by have := hb6.size; omega, ws_low h3 hb6, list_base hl6 (by omega)⟩
  rw [HM.out] at P6
  rw [HM.out]
  clear CL h1 h3 hl6 hb6 b0 b1 b2 z1 t0 t1 t2 s3
  go_wp2_with fail
  go_loopw [7, 8] (fun n i wr => ∃ (k D : Nat) (v' : Value) (l' : List Wd), n = .int .i64 (k : Int) ∧ i = .int .i64 (k : Int) ∧ k ≤ m ∧ IX w wr q v' D l' (.slice ao6 m cap6) es ∧ Tie q l' (insAll q (es.take k)) ∧ B2 ≤ D) (fun _ i _ => m - (intOf i).toNat)
  case atStart => exact ⟨0, B2, _, l2, rfl, rfl, Nat.zero_le _, P6, ht0, Nat.le_refl _⟩
  case round =>
    clear P6 ht0
    obtain ⟨k, D, v', l', rfl, rfl, hk, PP, ht, hD⟩ := hrel
    obtain ⟨ao', cap', rfl⟩ := own_shape PP.ws
    by_cases hkm : k < m
    · have hkl : k < es.length := by rw [HM.out]; exact hkm
      have hkm' : (k : Int) < (m : Int) := by omega
      obtain ⟨g, capg, hv, hcc1, hcc2, _⟩ := doc_at PP.own (by omega)
      rw [HM.out] at hv hcc1
      simp only [Value.slice.injEq, true_and] at hv
      obtain ⟨rfl, rfl⟩ := hv
      unfold maxLen at hcc2
      obtain ⟨o, ho⟩ : ∃ o, k * 11 = o := ⟨_, rfl⟩
      have hAK : (⟨g, 0, none⟩ : Addr).add o = ⟨g, o, none⟩ := add_at g o
      obtain ⟨okE, szE⟩ := hF.out _ (nth_mem hkl)
      rw [HS.out] at szE
      have uE := wf_u (ok_wf okE)
      have hmay := fine_may okE szE
      have CM := Lib.hid (fun W => omay_any (p := q) ao' l'.length cap' (nthE es k) uE W)
      rw [hmay] at CM
      have hlen := tie_len ht
      have CI := Lib.hid (fun W (hW : IX w W q (.slice ao' l'.length cap') D l' (.slice (some ⟨g, 0, none⟩) m cap6) es) => iput hq hW (nthE es k) okE.fit uE (by omega))
      have hT := Lib.hid (take_nth hkl)
      have hti := tie_ins hq ht hmay
      rw [← insAll_snoc, ← hT.out] at hti
      obtain ⟨t0, t1, t2, d0, d1, d2, d3, d4, d5, d6, d7, d8, d9, d10⟩ := PP.sc hkl ho
      clear szE hmay
      go_wp2_with fail
      go_cut [9] (fun a wx => a = .bool true ∧ IX w wx q (.slice ao' l'.length cap') D l' (.slice (some ⟨g, 0, none⟩) m cap6) es)
      case first =>
        go_region_held3 (fun w1 => w1.cell? ⟨w.heap.size + 1, 0, none⟩ = some (.int .i64 q.s) ∧ w1.cell? ⟨w.heap.size + 1, 1, none⟩ = some (.int .i64 (q.n : Int)) ∧ w1.cell? ⟨w.heap.size + 1, 2, none⟩ = some (.slice ao' l'.length cap') ∧ w1.cell? ⟨g, o, none⟩ = some (.int .i64 (nthE es k).size) ∧ w1.cell? ⟨g, o + 1, none⟩ = some (.int .i64 (nthE es k).ctx) ∧ w1.cell? ⟨g, o + 2, none⟩ = some (.int .u64 (nthE es k).va) ∧ w1.cell? ⟨g, o + 3, none⟩ = some (.int .u64 (nthE es k).pa) ∧ w1.cell? ⟨g, o + 4, none⟩ = some (.bool (nthE es k).att.write) ∧ w1.cell? ⟨g, o + 5, none⟩ = some (.bool (nthE es k).att.priv) ∧ w1.cell? ⟨g, o + 6, none⟩ = some (.bool (nthE es k).att.exec) ∧ w1.cell? ⟨g, o + 7, none⟩ = some (.bool (nthE es k).att.lock) ∧ w1.cell? ⟨g, o + 8, none⟩ = some (.bool (nthE es k).att.global) ∧ w1.cell? ⟨g, o + 9, none⟩ = some (.bool (nthE es k).att.quiet) ∧ w1.cell? ⟨g, o + 10, none⟩ = some (.bool (nthE es k).valid)) ((refine IX.sc (w := w) (D := D) (n := m) (cap := cap6) (l := l') (es := es) ?_ hkl ho; (repeat (first | (with_reducible assumption) | (with_reducible refine IX.drew ?_) | (with_reducible refine IX.drewN ?_ _) | (with_reducible refine IX.alloc ?_ _) | (with_reducible refine IX.low ?_ (by assumption)))) ))
          ((go_at_call 99; (with_reducible refine (CM.out _).mono ?_); rintro r w' ⟨rfl, hb⟩; obtain ⟨hcc, hf, hs1, hs2⟩ := bfacts hb))
        all_goals
          go_wp2_with fail
          go_meet
          refine ⟨rfl, ?_⟩
          (repeat (first | (with_reducible assumption) | (with_reducible refine IX.drew ?_) | (with_reducible refine IX.drewN ?_ _) | (with_reducible refine IX.alloc ?_ _) | (with_reducible refine IX.low ?_ (by assumption)))) 
      case rest =>
        obtain ⟨rfl, P7⟩ := hcut
        clear PP t0 t1 t2 d0 d1 d2 d3 d4 d5 d6 d7 d8 d9 d10 CM
        obtain ⟨t0, t1, t2, d0, d1, d2, d3, d4, d5, d6, d7, d8, d9, d10⟩ := P7.sc hkl ho
        go_wp2_with fail
        go_cut [8] (fun a wx => a = .int .i64 (k : Int) ∧ ∃ (D' : Nat) (v2 : Value), IX w wx q v2 D' (insW q l' (nthE es k)) (.slice (some ⟨g, 0, none⟩) m cap6) es ∧ D ≤ D')
        case first =>
          go_region_with ((go_at_call 27; (refine (CI.out _ (by (repeat (first | (with_reducible assumption) | (with_reducible refine IX.drew ?_) | (with_reducible refine IX.drewN ?_ _) | (with_reducible refine IX.alloc ?_ _) | (with_reducible refine IX.low ?_ (by assumption)))) )).mono ?_); rintro r w' ⟨v2, E2, rfl, PQ, hE2, hE3, hws⟩; obtain ⟨ao2', cap2', rfl⟩ := own_shape hws; have r0 := cell_row 0 PQ.row rfl; have r1 := cell_row 1 PQ.row rfl; have r2 := cell_row 2 PQ.row rfl; have f9 : ∀ i, World.frozen? w' ⟨w.heap.size + 1, i, none⟩ = false := (fun i => by simp only [World.frozen?, PQ.row]; rfl); have PZ := PQ.put hws hE3))
          all_goals
            go_wp2_with fail
            go_meet
            exact ⟨rfl, _, _, PZ, hE2⟩
        case rest =>
          obtain ⟨rfl, D', v9, P9, hD'⟩ := hcut
          clear P7 CI t0 t1 t2 d0 d1 d2 d3 d4 d5 d6 d7 d8 d9 d10
          go_wp2_with fail
          go_roundw
          case rel => exact ⟨k + 1, D', _, _, by go_num, by go_num, by omega, P9, hti, by omega⟩
          case measure => simp [intOf]; omega
    · obtain rfl : m = k := by omega
      rw [hall.out] at ht
      have t0 := cell_row 0 PP.row rfl
      have t1 := cell_row 1 PP.row rfl
      have t2 := cell_row 2 PP.row rfl
      have q9 := PP.res
      have r0 := cell_row 0 q9 rfl
      have r1 := cell_row 1 q9 rfl
      have r2 := cell_row 2 q9 rfl
      have f9 : ∀ i, World.frozen? wr ⟨w.heap.size + 1 + 1, i, none⟩ = false := fun i => by simp only [World.frozen?, q9]; rfl
      obtain ⟨z1, z2, z3⟩ := tfin (p := q) (show w.heap.size ≤ w.heap.size + 1 + 1 by omega) PP.bel q9 PP.ws
      have hne : w.heap.size + 1 ≠ w.heap.size + 1 + 1 := by omega
      go_wp2_with fail
      (try simp only [Exit.inBlock, Exit.then])
      refine bodyPost_ret (res_Tt rfl _ _ _ _ _ _ rfl z1) rfl ⟨_, _, rfl, ws_base z2 hD, ht, z3⟩
end Go.Proofs.YtnbdoemnepfhdaaGreat.Ts

