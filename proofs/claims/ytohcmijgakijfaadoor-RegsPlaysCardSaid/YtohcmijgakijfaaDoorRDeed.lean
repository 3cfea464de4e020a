/-
  Does of the laws of layer 7: a deed's value; the registers and the document's go together. Conditions: numbers are what Go's types hold.
-/
import Derived.Test.YtohcmijgakijfaaDoorRList
namespace Go.Proofs.YtohcmijgakijfaaDoor.Rg
open Fld
open Go.ChangeShapes Go.WideShapes Go.ChangeAt Go.RowKit Go.Maps
set_option maxHeartbeats 4000000
set_option maxRecDepth 100000
structure DeedV where
  kind : Int
  asi : Int
  unit : Int
  n : Int
  place : Int
  v : Int
  store : Bool
  priv : Bool
def I64 (x : Int) : Prop := -9223372036854775808 ≤ x ∧ x ≤ 9223372036854775807
structure DeedV.wf (d : DeedV) : Prop where
  kind : I64 d.kind
  asi : I64 d.asi
  unit : I64 d.unit
  n : I64 d.n
  place : U d.place
  v : U d.v
def act (R : Reg) (d : DeedV) : Reg := if d.kind = 0 then wrR R d.asi d.place d.v else if d.kind = 1 then misR R d.unit d.v d.n else if d.kind = 2 then fauR R d.unit d.n d.asi d.store d.priv d.v else if d.kind = 3 then cleR R d.unit else R
theorem act_wf (R : Reg) (h : R.Wf) (d : DeedV) (hd : d.wf) : (act R d).Wf := by
  unfold act; repeat' split
  · exact wrR_wf R h _ _ _ hd.v
  · exact misR_wf R h _ _ _ hd.v
  · exact fauR_wf R h _ _ _ _ _ _ hd.v
  · exact cleR_wf R h _
  · exact h
/-- A deed under way. -/
structure DS (w0 w : World) (bm b5 b6 b8 : Nat) (kd : Int) (d : DeedV) (Q Y : Reg) : Prop where
  box5 : w.heap[b5]? = some (.cells #[.int .i64 kd, .int .i64 d.asi, .int .i64 d.unit, .int .i64 d.n, .int .u64 d.place, .int .u64 d.v, .bool d.store, .bool d.priv] 31 (0, 0))
  box8 : w.heap[b8]? = some (.cells #[.int .u64 Q.sI, .int .u64 Q.tI, .int .u64 Q.aI, .int .u64 Q.pr, .int .u64 Q.se, .int .u64 Q.sD, .int .u64 Q.ad, .int .u64 Q.tD, .int .u64 Q.aD] 27 (0, 0))
  res : w.heap[b6]? = some (.cells #[.int .u64 Y.sI, .int .u64 Y.tI, .int .u64 Y.aI, .int .u64 Y.pr, .int .u64 Y.se, .int .u64 Y.sD, .int .u64 Y.ad, .int .u64 Y.tD, .int .u64 Y.aD] 27 (0, 0))
  far : b5 ≠ bm ∧ b6 ≠ bm ∧ b8 ≠ bm ∧ b5 ≠ b6 ∧ b6 ≠ b8
  turn : Turn w0 w bm
  base : w0.heap.size ≤ b6
theorem lt_row {w : World} {b : Nat} {o : Obj} (h : w.heap[b]? = some o) : b < w.heap.size := (Array.getElem?_eq_some_iff.1 h).1
theorem DS.drew {w0 w : World} {bm b5 b6 b8 : Nat} {kd : Int} {d : DeedV} {Q Y : Reg} (h : DS w0 w bm b5 b6 b8 kd d Q Y) : DS w0 w.drew bm b5 b6 b8 kd d Q Y := ⟨h.box5, h.box8, h.res, h.far, h.turn.drew, h.base⟩
theorem DS.call {w0 w w' : World} {bm b5 b6 b8 : Nat} {kd : Int} {d : DeedV} {Q Y : Reg} (h : DS w0 w bm b5 b6 b8 kd d Q Y) (t : Turn w w' bm) : DS w0 w' bm b5 b6 b8 kd d Q Y := by
  exact ⟨(t.block _ (lt_row h.box5) h.far.1).trans h.box5, (t.block _ (lt_row h.box8) h.far.2.2.1).trans h.box8, (t.block _ (lt_row h.res) h.far.2.1).trans h.res, h.far, h.turn.trans t, h.base⟩
theorem DS.set {w0 w : World} {bm b5 b6 b8 : Nat} {kd : Int} {d : DeedV} {Q Y : Reg} (h : DS w0 w bm b5 b6 b8 kd d Q Y) :
    DS w0 (((((((((w.setCell ⟨b6, 0, none⟩ (.int .u64 Q.sI)).setCell ⟨b6, 1, none⟩ (.int .u64 Q.tI)).setCell ⟨b6, 2, none⟩ (.int .u64 Q.aI)).setCell ⟨b6, 3, none⟩ (.int .u64 Q.pr)).setCell ⟨b6, 4, none⟩ (.int .u64 Q.se)).setCell ⟨b6, 5, none⟩ (.int .u64 Q.sD)).setCell ⟨b6, 6, none⟩ (.int .u64 Q.ad)).setCell ⟨b6, 7, none⟩ (.int .u64 Q.tD)).setCell ⟨b6, 8, none⟩ (.int .u64 Q.aD)) bm b5 b6 b8 kd d Q Q := by
  have f := h.far
  have hfar : ∀ b, b ≠ b6 → (((((((((w.setCell ⟨b6, 0, none⟩ (.int .u64 Q.sI)).setCell ⟨b6, 1, none⟩ (.int .u64 Q.tI)).setCell ⟨b6, 2, none⟩ (.int .u64 Q.aI)).setCell ⟨b6, 3, none⟩ (.int .u64 Q.pr)).setCell ⟨b6, 4, none⟩ (.int .u64 Q.se)).setCell ⟨b6, 5, none⟩ (.int .u64 Q.sD)).setCell ⟨b6, 6, none⟩ (.int .u64 Q.ad)).setCell ⟨b6, 7, none⟩ (.int .u64 Q.tD)).setCell ⟨b6, 8, none⟩ (.int .u64 Q.aD)).heap[b]? = w.heap[b]? := fun b hb => by
    rw [Below.heap_setCell _ _ _ _ hb, Below.heap_setCell _ _ _ _ hb, Below.heap_setCell _ _ _ _ hb, Below.heap_setCell _ _ _ _ hb, Below.heap_setCell _ _ _ _ hb, Below.heap_setCell _ _ _ _ hb, Below.heap_setCell _ _ _ _ hb, Below.heap_setCell _ _ _ _ hb, Below.heap_setCell _ _ _ _ hb]
  refine ⟨(hfar _ f.2.2.2.1).trans h.box5, (hfar _ f.2.2.2.2.symm).trans h.box8, row_nine h.res, h.far, ?_, h.base⟩
  have hb := h.base
  iterate 9 refine Turn.setNew ?_ (by simpa using hb) _
  exact h.turn
theorem DS.sc {w0 w : World} {bm b5 b6 b8 : Nat} {kd : Int} {d : DeedV} {Q Y : Reg} (h : DS w0 w bm b5 b6 b8 kd d Q Y) : w.cell? ⟨b5, 1, none⟩ = some (.int .i64 d.asi) ∧ w.cell? ⟨b5, 2, none⟩ = some (.int .i64 d.unit) ∧ w.cell? ⟨b5, 3, none⟩ = some (.int .i64 d.n) ∧ w.cell? ⟨b5, 4, none⟩ = some (.int .u64 d.place) ∧ w.cell? ⟨b5, 5, none⟩ = some (.int .u64 d.v) ∧ w.cell? ⟨b5, 6, none⟩ = some (.bool d.store) ∧ w.cell? ⟨b5, 7, none⟩ = some (.bool d.priv) ∧ w.cell? ⟨b8, 0, none⟩ = some (.int .u64 Q.sI) ∧ w.cell? ⟨b8, 1, none⟩ = some (.int .u64 Q.tI) ∧ w.cell? ⟨b8, 2, none⟩ = some (.int .u64 Q.aI) ∧ w.cell? ⟨b8, 3, none⟩ = some (.int .u64 Q.pr) ∧ w.cell? ⟨b8, 4, none⟩ = some (.int .u64 Q.se) ∧ w.cell? ⟨b8, 5, none⟩ = some (.int .u64 Q.sD) ∧ w.cell? ⟨b8, 6, none⟩ = some (.int .u64 Q.ad) ∧ w.cell? ⟨b8, 7, none⟩ = some (.int .u64 Q.tD) ∧ w.cell? ⟨b8, 8, none⟩ = some (.int .u64 Q.aD) := by
  have h5 := h.box5
  have h8 := h.box8
  obtain ⟨q0, q1, q2, q3, q4, q5, q6, q7, q8⟩ := nine_cells h8
  exact ⟨cell_of_row _ _ 1 _ _ _ h5, cell_of_row _ _ 2 _ _ _ h5, cell_of_row _ _ 3 _ _ _ h5, cell_of_row _ _ 4 _ _ _ h5, cell_of_row _ _ 5 _ _ _ h5, cell_of_row _ _ 6 _ _ _ h5, cell_of_row _ _ 7 _ _ _ h5, q0, q1, q2, q3, q4, q5, q6, q7, q8⟩
theorem DS.rc {w0 w : World} {bm b5 b6 b8 : Nat} {kd : Int} {d : DeedV} {Q Y : Reg} (h : DS w0 w bm b5 b6 b8 kd d Q Y) : (w.cell? ⟨b6, 0, none⟩ = some (.int .u64 Y.sI) ∧ w.cell? ⟨b6, 1, none⟩ = some (.int .u64 Y.tI) ∧ w.cell? ⟨b6, 2, none⟩ = some (.int .u64 Y.aI) ∧ w.cell? ⟨b6, 3, none⟩ = some (.int .u64 Y.pr) ∧ w.cell? ⟨b6, 4, none⟩ = some (.int .u64 Y.se) ∧ w.cell? ⟨b6, 5, none⟩ = some (.int .u64 Y.sD) ∧ w.cell? ⟨b6, 6, none⟩ = some (.int .u64 Y.ad) ∧ w.cell? ⟨b6, 7, none⟩ = some (.int .u64 Y.tD) ∧ w.cell? ⟨b6, 8, none⟩ = some (.int .u64 Y.aD)) ∧ (∀ i, w.frozen? ⟨b6, i, none⟩ = false) :=
  ⟨nine_cells h.res, fun i => row_frozen h.res i⟩
theorem RegsAt.nine {w : World} {sb bm b6 : Nat} {R : Reg} {x0 x1 x2 x3 x4 x5 x6 x7 x8 : Value} (h : RegsAt w sb bm R) (hf : b6 ≠ sb ∧ b6 ≠ bm ∧ b6 ≠ 0) :
    RegsAt (((((((((w.setCell ⟨b6, 0, none⟩ x0).setCell ⟨b6, 1, none⟩ x1).setCell ⟨b6, 2, none⟩ x2).setCell ⟨b6, 3, none⟩ x3).setCell ⟨b6, 4, none⟩ x4).setCell ⟨b6, 5, none⟩ x5).setCell ⟨b6, 6, none⟩ x6).setCell ⟨b6, 7, none⟩ x7).setCell ⟨b6, 8, none⟩ x8) sb bm R := by
  iterate 9 refine RegsAt.setNew ?_ hf.1 hf.2.1 hf.2.2 _
  exact h
theorem ret_regb {Q R : Reg} {c d : Bool} (h : Q = R) (k : c = d) : Ending.returned (.tuple #[.agg #[.int .u64 Q.sI, .int .u64 Q.tI, .int .u64 Q.aI, .int .u64 Q.pr, .int .u64 Q.se, .int .u64 Q.sD, .int .u64 Q.ad, .int .u64 Q.tD, .int .u64 Q.aD], .bool c]) = .returned (.tuple #[.agg #[.int .u64 R.sI, .int .u64 R.tI, .int .u64 R.aI, .int .u64 R.pr, .int .u64 R.se, .int .u64 R.sD, .int .u64 R.ad, .int .u64 R.tD, .int .u64 R.aD], .bool d]) := by rw [h, k]
/-- The three boxes of does. -/
theorem three_boxes (w : World) (R : Reg) (kd : Int) (d : DeedV) (W : World) (hW : W = ((w.alloc (.cells #[.int .u64 R.sI, .int .u64 R.tI, .int .u64 R.aI, .int .u64 R.pr, .int .u64 R.se, .int .u64 R.sD, .int .u64 R.ad, .int .u64 R.tD, .int .u64 R.aD] 27)).alloc (.cells #[.int .i64 kd, .int .i64 d.asi, .int .i64 d.unit, .int .i64 d.n, .int .u64 d.place, .int .u64 d.v, .bool d.store, .bool d.priv] 31)).alloc (.cells #[.int .u64 0, .int .u64 0, .int .u64 0, .int .u64 0, .int .u64 0, .int .u64 0, .int .u64 0, .int .u64 0, .int .u64 0] 27)) :
    Below w.heap.size w W ∧ W.heap.size = w.heap.size + 3 ∧ W.heap[w.heap.size]? = some (.cells #[.int .u64 R.sI, .int .u64 R.tI, .int .u64 R.aI, .int .u64 R.pr, .int .u64 R.se, .int .u64 R.sD, .int .u64 R.ad, .int .u64 R.tD, .int .u64 R.aD] 27 (0, 0)) ∧ W.heap[w.heap.size + 1]? = some (.cells #[.int .i64 kd, .int .i64 d.asi, .int .i64 d.unit, .int .i64 d.n, .int .u64 d.place, .int .u64 d.v, .bool d.store, .bool d.priv] 31 (0, 0)) ∧ W.heap[w.heap.size + 1 + 1]? = some (.cells #[.int .u64 0, .int .u64 0, .int .u64 0, .int .u64 0, .int .u64 0, .int .u64 0, .int .u64 0, .int .u64 0, .int .u64 0] 27 (0, 0)) := by
  subst hW
  refine ⟨(((Below.refl _ _).alloc (Nat.le_refl _) _).alloc (by simp) _).alloc (by simp; omega) _, by simp, ?_, ?_, ?_⟩
  · rw [Below.heap_alloc _ _ _ (by simp; omega), Below.heap_alloc _ _ _ (by simp)]; exact heap_alloc_new _ _
  · rw [Below.heap_alloc _ _ _ (by simp)]
    have := heap_alloc_new (w.alloc (.cells #[.int .u64 R.sI, .int .u64 R.tI, .int .u64 R.aI, .int .u64 R.pr, .int .u64 R.se, .int .u64 R.sD, .int .u64 R.ad, .int .u64 R.tD, .int .u64 R.aD] 27)) (.cells #[.int .i64 kd, .int .i64 d.asi, .int .i64 d.unit, .int .i64 d.n, .int .u64 d.place, .int .u64 d.v, .bool d.store, .bool d.priv] 31)
    simpa using this
  · have := heap_alloc_new ((w.alloc (.cells #[.int .u64 R.sI, .int .u64 R.tI, .int .u64 R.aI, .int .u64 R.pr, .int .u64 R.se, .int .u64 R.sD, .int .u64 R.ad, .int .u64 R.tD, .int .u64 R.aD] 27)).alloc (.cells #[.int .i64 kd, .int .i64 d.asi, .int .i64 d.unit, .int .i64 d.n, .int .u64 d.place, .int .u64 d.v, .bool d.store, .bool d.priv] 31)) (.cells #[.int .u64 0, .int .u64 0, .int .u64 0, .int .u64 0, .int .u64 0, .int .u64 0, .int .u64 0, .int .u64 0, .int .u64 0] 27)
    simpa using this
/-- What a deed does. -/
def Done (w : World) (sb bm : Nat) (R : Reg) (e : Ending) (w' : World) : Prop := e = .returned (.tuple #[.agg #[.int .u64 R.sI, .int .u64 R.tI, .int .u64 R.aI, .int .u64 R.pr, .int .u64 R.se, .int .u64 R.sD, .int .u64 R.ad, .int .u64 R.tD, .int .u64 R.aD], .bool true]) ∧ RegsTo w w' sb bm R
theorem ds_start {w W w2 : World} {sb bm : Nat} {R Q : Reg} {kd : Int} {d : DeedV} (hW : W = ((w.alloc (.cells #[.int .u64 R.sI, .int .u64 R.tI, .int .u64 R.aI, .int .u64 R.pr, .int .u64 R.se, .int .u64 R.sD, .int .u64 R.ad, .int .u64 R.tD, .int .u64 R.aD] 27)).alloc (.cells #[.int .i64 kd, .int .i64 d.asi, .int .i64 d.unit, .int .i64 d.n, .int .u64 d.place, .int .u64 d.v, .bool d.store, .bool d.priv] 31)).alloc (.cells #[.int .u64 0, .int .u64 0, .int .u64 0, .int .u64 0, .int .u64 0, .int .u64 0, .int .u64 0, .int .u64 0, .int .u64 0] 27))
    (h : RegsAt w sb bm R) (hb : Below W.heap.size W w2) : RegsAt (w2.alloc (.cells #[.int .u64 Q.sI, .int .u64 Q.tI, .int .u64 Q.aI, .int .u64 Q.pr, .int .u64 Q.se, .int .u64 Q.sD, .int .u64 Q.ad, .int .u64 Q.tD, .int .u64 Q.aD] 27)) sb bm R ∧ DS w (w2.alloc (.cells #[.int .u64 Q.sI, .int .u64 Q.tI, .int .u64 Q.aI, .int .u64 Q.pr, .int .u64 Q.se, .int .u64 Q.sD, .int .u64 Q.ad, .int .u64 Q.tD, .int .u64 Q.aD] 27)) bm (w.heap.size + 1) (w.heap.size + 1 + 1) w2.heap.size kd d Q Reg.zero := by
  obtain ⟨B0, S0, _, r5, r6⟩ := three_boxes w R kd d W hW
  have hs := hb.size
  have hl := h.lt
  refine ⟨((h.below B0 (Nat.le_refl _)).below hb (Nat.le_refl _)).alloc _, ⟨?_, heap_alloc_new _ _, (Below.heap_alloc _ _ _ (by omega)).trans ((hb.block _ (by omega)).trans r6), ⟨by omega, by omega, by omega, by omega, by omega⟩, ((((Turn.refl w bm).below B0).below hb).alloc _), by omega⟩⟩
  exact (Below.heap_alloc _ _ _ (by omega)).trans ((hb.block _ (by omega)).trans r5)
theorem does0 {sb bm : Nat} {R : Reg} (d : DeedV) (hd : d.wf) (hk : d.kind = 0) (w : World) (h : RegsAt w sb bm R) :
    Calls Tryd.prog 9 #[.pointer (some ⟨sb, 0, none⟩), .agg #[.int .u64 R.sI, .int .u64 R.tI, .int .u64 R.aI, .int .u64 R.pr, .int .u64 R.se, .int .u64 R.sD, .int .u64 R.ad, .int .u64 R.tD, .int .u64 R.aD], .agg #[.int .i64 d.kind, .int .i64 d.asi, .int .i64 d.unit, .int .i64 d.n, .int .u64 d.place, .int .u64 d.v, .bool d.store, .bool d.priv]] w (Done w sb bm (wrR R d.asi d.place d.v)) := by
  unfold Done
  rw [hk]
  obtain ⟨W, hW⟩ : ∃ W, ((w.alloc (.cells #[.int .u64 R.sI, .int .u64 R.tI, .int .u64 R.aI, .int .u64 R.pr, .int .u64 R.se, .int .u64 R.sD, .int .u64 R.ad, .int .u64 R.tD, .int .u64 R.aD] 27)).alloc (.cells #[.int .i64 0, .int .i64 d.asi, .int .i64 d.unit, .int .i64 d.n, .int .u64 d.place, .int .u64 d.v, .bool d.store, .bool d.priv] 31)).alloc (.cells #[.int .u64 0, .int .u64 0, .int .u64 0, .int .u64 0, .int .u64 0, .int .u64 0, .int .u64 0, .int .u64 0, .int .u64 0] 27) = W := ⟨_, rfl⟩
  have TB := three_boxes w R 0 d W hW.symm
  have LTS : sb < w.heap.size ∧ bm < w.heap.size ∧ 0 < w.heap.size := ⟨h.lt.1, h.lt.2, h.tab.1⟩
  have C1 := Lib.hid (dwrite_any R h.wf d.asi d.place d.v hd.v W)
  have C2 := Lib.hid (fun (X : World) (hX : RegsAt X sb bm R) => write_any sb bm R d.asi d.place d.v hd.v X hX)
  have ST := Lib.hid (fun (w2 : World) (Q : Reg) (hb : Below W.heap.size W w2) => ds_start (Q := Q) (kd := 0) hW.symm h hb)
  obtain ⟨_, _, r4, r5, r6⟩ := TB
  obtain ⟨a0, a1, a2, a3, a4, a5, a6, a7, a8⟩ := nine_cells r4
  have e0 := cell_of_row _ _ 0 _ _ _ r5
  have e1 := cell_of_row _ _ 1 _ _ _ r5
  have e2 := cell_of_row _ _ 2 _ _ _ r5
  have e3 := cell_of_row _ _ 3 _ _ _ r5
  have e4 := cell_of_row _ _ 4 _ _ _ r5
  have e5 := cell_of_row _ _ 5 _ _ _ r5
  have e6 := cell_of_row _ _ 6 _ _ _ r5
  have e7 := cell_of_row _ _ 7 _ _ _ r5
  replace e0 : W.cell? ⟨w.heap.size + 1, 0, none⟩ = some (.int .i64 0) := e0
  replace e1 : W.cell? ⟨w.heap.size + 1, 1, none⟩ = some (.int .i64 d.asi) := e1
  replace e2 : W.cell? ⟨w.heap.size + 1, 2, none⟩ = some (.int .i64 d.unit) := e2
  replace e3 : W.cell? ⟨w.heap.size + 1, 3, none⟩ = some (.int .i64 d.n) := e3
  replace e4 : W.cell? ⟨w.heap.size + 1, 4, none⟩ = some (.int .u64 d.place) := e4
  replace e5 : W.cell? ⟨w.heap.size + 1, 5, none⟩ = some (.int .u64 d.v) := e5
  replace e6 : W.cell? ⟨w.heap.size + 1, 6, none⟩ = some (.bool d.store) := e6
  replace e7 : W.cell? ⟨w.heap.size + 1, 7, none⟩ = some (.bool d.priv) := e7
  generalize hQ : wrR R d.asi d.place d.v = Q at *
  generalize hE : wrE d.asi d.place = E at *
  clear r4 r5 r6 h hd hQ hE hk
  go_enter Tryd.func9, Tryd.ntmps9
  go_wp2_with fail
  refine C1.out.mono ?_; rintro r w2 ⟨rfl, hb⟩
  obtain ⟨H3, D3⟩ := ST.out w2 Q hb
  clear C1 ST hb hW a0 a1 a2 a3 a4 a5 a6 a7 a8 e0 e1 e2 e3 e4 e5 e6 e7
  obtain ⟨W3, hW3⟩ : ∃ W3, w2.alloc (.cells #[.int .u64 Q.sI, .int .u64 Q.tI, .int .u64 Q.aI, .int .u64 Q.pr, .int .u64 Q.se, .int .u64 Q.sD, .int .u64 Q.ad, .int .u64 Q.tD, .int .u64 Q.aD] 27) = W3 := ⟨_, rfl⟩
  rw [hW3] at H3 D3
  go_wp2_with fail
  clear hW3
  have NF := Lib.hid (show w.heap.size + 1 + 1 ≠ sb ∧ w.heap.size + 1 + 1 ≠ bm ∧ w.heap.size + 1 + 1 ≠ 0 from ⟨by omega, by omega, by omega⟩)
  clear LTS
  generalize hB8 : w2.heap.size = B8 at *
  generalize hB6 : w.heap.size + 1 + 1 = B6 at *
  generalize hB5 : w.heap.size + 1 = B5 at *
  clear hB8 hB5 hB6
  obtain ⟨⟨x0, x1, x2, x3, x4, x5, x6, x7, x8⟩, frx⟩ := D3.rc
  have D3' := Lib.hid D3
  go_region_held3 (fun w1 => w1.cell? ⟨B5, 1, none⟩ = some (.int .i64 d.asi) ∧ w1.cell? ⟨B5, 2, none⟩ = some (.int .i64 d.unit) ∧ w1.cell? ⟨B5, 3, none⟩ = some (.int .i64 d.n) ∧ w1.cell? ⟨B5, 4, none⟩ = some (.int .u64 d.place) ∧ w1.cell? ⟨B5, 5, none⟩ = some (.int .u64 d.v) ∧ w1.cell? ⟨B5, 6, none⟩ = some (.bool d.store) ∧ w1.cell? ⟨B5, 7, none⟩ = some (.bool d.priv) ∧ w1.cell? ⟨B8, 0, none⟩ = some (.int .u64 Q.sI) ∧ w1.cell? ⟨B8, 1, none⟩ = some (.int .u64 Q.tI) ∧ w1.cell? ⟨B8, 2, none⟩ = some (.int .u64 Q.aI) ∧ w1.cell? ⟨B8, 3, none⟩ = some (.int .u64 Q.pr) ∧ w1.cell? ⟨B8, 4, none⟩ = some (.int .u64 Q.se) ∧ w1.cell? ⟨B8, 5, none⟩ = some (.int .u64 Q.sD) ∧ w1.cell? ⟨B8, 6, none⟩ = some (.int .u64 Q.ad) ∧ w1.cell? ⟨B8, 7, none⟩ = some (.int .u64 Q.tD) ∧ w1.cell? ⟨B8, 8, none⟩ = some (.int .u64 Q.aD)) ((apply DS.sc (w0 := w) (bm := bm) (b6 := B6) (kd := 0) (d := d) (Q := Q); (repeat (first | (with_reducible assumption) | (with_reducible apply DS.drew) | (with_reducible apply DS.set))))) (first | (go_at_call 19; (with_reducible refine (C2.out _ H3.drew).mono ?_); rintro r w5 ⟨rfl, H5, T5⟩; have D5 := D3'.out.drew.call T5; obtain ⟨⟨y0, y1, y2, y3, y4, y5, y6, y7, y8⟩, fr⟩ := D5.rc))
  all_goals (have D6 := Lib.hid D5.set)
  all_goals clear D5 D3 x0 x1 x2 x3 x4 x5 x6 x7 x8 y0 y1 y2 y3 y4 y5 y6 y7 y8
  all_goals go_wp2_with fail
  all_goals (try simp only [Exit.inBlock, Exit.then])
  all_goals (refine bodyPost_ret (res_reg rfl _ _ _ Q rfl D6.out.res) rfl ?_)
  all_goals exact ⟨rfl, RegsAt.nine H5 NF.out, D6.out.turn⟩
theorem does1 {sb bm : Nat} {R : Reg} (d : DeedV) (hd : d.wf) (hk : d.kind = 1) (w : World) (h : RegsAt w sb bm R) :
    Calls Tryd.prog 9 #[.pointer (some ⟨sb, 0, none⟩), .agg #[.int .u64 R.sI, .int .u64 R.tI, .int .u64 R.aI, .int .u64 R.pr, .int .u64 R.se, .int .u64 R.sD, .int .u64 R.ad, .int .u64 R.tD, .int .u64 R.aD], .agg #[.int .i64 d.kind, .int .i64 d.asi, .int .i64 d.unit, .int .i64 d.n, .int .u64 d.place, .int .u64 d.v, .bool d.store, .bool d.priv]] w (Done w sb bm (misR R d.unit d.v d.n)) := by
  unfold Done
  rw [hk]
  obtain ⟨W, hW⟩ : ∃ W, ((w.alloc (.cells #[.int .u64 R.sI, .int .u64 R.tI, .int .u64 R.aI, .int .u64 R.pr, .int .u64 R.se, .int .u64 R.sD, .int .u64 R.ad, .int .u64 R.tD, .int .u64 R.aD] 27)).alloc (.cells #[.int .i64 1, .int .i64 d.asi, .int .i64 d.unit, .int .i64 d.n, .int .u64 d.place, .int .u64 d.v, .bool d.store, .bool d.priv] 31)).alloc (.cells #[.int .u64 0, .int .u64 0, .int .u64 0, .int .u64 0, .int .u64 0, .int .u64 0, .int .u64 0, .int .u64 0, .int .u64 0] 27) = W := ⟨_, rfl⟩
  have TB := three_boxes w R 1 d W hW.symm
  have LTS : sb < w.heap.size ∧ bm < w.heap.size ∧ 0 < w.heap.size := ⟨h.lt.1, h.lt.2, h.tab.1⟩
  have C1 := Lib.hid (dmiss_any R d.unit d.v d.n hd.v W)
  have C2 := Lib.hid (fun (X : World) (hX : RegsAt X sb bm R) => miss_any sb bm R d.unit d.v d.n hd.v hd.n.1 hd.n.2 X hX)
  have ST := Lib.hid (fun (w2 : World) (Q : Reg) (hb : Below W.heap.size W w2) => ds_start (Q := Q) (kd := 1) hW.symm h hb)
  obtain ⟨_, _, r4, r5, r6⟩ := TB
  obtain ⟨a0, a1, a2, a3, a4, a5, a6, a7, a8⟩ := nine_cells r4
  have e0 := cell_of_row _ _ 0 _ _ _ r5
  have e1 := cell_of_row _ _ 1 _ _ _ r5
  have e2 := cell_of_row _ _ 2 _ _ _ r5
  have e3 := cell_of_row _ _ 3 _ _ _ r5
  have e4 := cell_of_row _ _ 4 _ _ _ r5
  have e5 := cell_of_row _ _ 5 _ _ _ r5
  have e6 := cell_of_row _ _ 6 _ _ _ r5
  have e7 := cell_of_row _ _ 7 _ _ _ r5
  replace e0 : W.cell? ⟨w.heap.size + 1, 0, none⟩ = some (.int .i64 1) := e0
  replace e1 : W.cell? ⟨w.heap.size + 1, 1, none⟩ = some (.int .i64 d.asi) := e1
  replace e2 : W.cell? ⟨w.heap.size + 1, 2, none⟩ = some (.int .i64 d.unit) := e2
  replace e3 : W.cell? ⟨w.heap.size + 1, 3, none⟩ = some (.int .i64 d.n) := e3
  replace e4 : W.cell? ⟨w.heap.size + 1, 4, none⟩ = some (.int .u64 d.place) := e4
  replace e5 : W.cell? ⟨w.heap.size + 1, 5, none⟩ = some (.int .u64 d.v) := e5
  replace e6 : W.cell? ⟨w.heap.size + 1, 6, none⟩ = some (.bool d.store) := e6
  replace e7 : W.cell? ⟨w.heap.size + 1, 7, none⟩ = some (.bool d.priv) := e7
  generalize hQ : misR R d.unit d.v d.n = Q at *
  generalize hE : misE d.unit d.n = E at *
  clear r4 r5 r6 h hd hQ hE hk
  go_enter Tryd.func9, Tryd.ntmps9
  go_wp2_with fail
  refine C1.out.mono ?_; rintro r w2 ⟨rfl, hb⟩
  obtain ⟨H3, D3⟩ := ST.out w2 Q hb
  clear C1 ST hb hW a0 a1 a2 a3 a4 a5 a6 a7 a8 e0 e1 e2 e3 e4 e5 e6 e7
  obtain ⟨W3, hW3⟩ : ∃ W3, w2.alloc (.cells #[.int .u64 Q.sI, .int .u64 Q.tI, .int .u64 Q.aI, .int .u64 Q.pr, .int .u64 Q.se, .int .u64 Q.sD, .int .u64 Q.ad, .int .u64 Q.tD, .int .u64 Q.aD] 27) = W3 := ⟨_, rfl⟩
  rw [hW3] at H3 D3
  go_wp2_with fail
  clear hW3
  have NF := Lib.hid (show w.heap.size + 1 + 1 ≠ sb ∧ w.heap.size + 1 + 1 ≠ bm ∧ w.heap.size + 1 + 1 ≠ 0 from ⟨by omega, by omega, by omega⟩)
  clear LTS
  generalize hB8 : w2.heap.size = B8 at *
  generalize hB6 : w.heap.size + 1 + 1 = B6 at *
  generalize hB5 : w.heap.size + 1 = B5 at *
  clear hB8 hB5 hB6
  obtain ⟨⟨x0, x1, x2, x3, x4, x5, x6, x7, x8⟩, frx⟩ := D3.rc
  have D3' := Lib.hid D3
  go_region_held3 (fun w1 => w1.cell? ⟨B5, 1, none⟩ = some (.int .i64 d.asi) ∧ w1.cell? ⟨B5, 2, none⟩ = some (.int .i64 d.unit) ∧ w1.cell? ⟨B5, 3, none⟩ = some (.int .i64 d.n) ∧ w1.cell? ⟨B5, 4, none⟩ = some (.int .u64 d.place) ∧ w1.cell? ⟨B5, 5, none⟩ = some (.int .u64 d.v) ∧ w1.cell? ⟨B5, 6, none⟩ = some (.bool d.store) ∧ w1.cell? ⟨B5, 7, none⟩ = some (.bool d.priv) ∧ w1.cell? ⟨B8, 0, none⟩ = some (.int .u64 Q.sI) ∧ w1.cell? ⟨B8, 1, none⟩ = some (.int .u64 Q.tI) ∧ w1.cell? ⟨B8, 2, none⟩ = some (.int .u64 Q.aI) ∧ w1.cell? ⟨B8, 3, none⟩ = some (.int .u64 Q.pr) ∧ w1.cell? ⟨B8, 4, none⟩ = some (.int .u64 Q.se) ∧ w1.cell? ⟨B8, 5, none⟩ = some (.int .u64 Q.sD) ∧ w1.cell? ⟨B8, 6, none⟩ = some (.int .u64 Q.ad) ∧ w1.cell? ⟨B8, 7, none⟩ = some (.int .u64 Q.tD) ∧ w1.cell? ⟨B8, 8, none⟩ = some (.int .u64 Q.aD)) ((apply DS.sc (w0 := w) (bm := bm) (b6 := B6) (kd := 1) (d := d) (Q := Q); (repeat (first | (with_reducible assumption) | (with_reducible apply DS.drew) | (with_reducible apply DS.set))))) (first | (go_at_call 20; (with_reducible refine (C2.out _ H3.drew).mono ?_); rintro r w5 ⟨rfl, H5, T5⟩; have D5 := D3'.out.drew.call T5; obtain ⟨⟨y0, y1, y2, y3, y4, y5, y6, y7, y8⟩, fr⟩ := D5.rc))
  all_goals (have D6 := Lib.hid D5.set)
  all_goals clear D5 D3 x0 x1 x2 x3 x4 x5 x6 x7 x8 y0 y1 y2 y3 y4 y5 y6 y7 y8
  all_goals go_wp2_with fail
  all_goals (try simp only [Exit.inBlock, Exit.then])
  all_goals (refine bodyPost_ret (res_reg rfl _ _ _ Q rfl D6.out.res) rfl ?_)
  all_goals exact ⟨rfl, RegsAt.nine H5 NF.out, D6.out.turn⟩
theorem does2 {sb bm : Nat} {R : Reg} (d : DeedV) (hd : d.wf) (hk : d.kind = 2) (w : World) (h : RegsAt w sb bm R) :
    Calls Tryd.prog 9 #[.pointer (some ⟨sb, 0, none⟩), .agg #[.int .u64 R.sI, .int .u64 R.tI, .int .u64 R.aI, .int .u64 R.pr, .int .u64 R.se, .int .u64 R.sD, .int .u64 R.ad, .int .u64 R.tD, .int .u64 R.aD], .agg #[.int .i64 d.kind, .int .i64 d.asi, .int .i64 d.unit, .int .i64 d.n, .int .u64 d.place, .int .u64 d.v, .bool d.store, .bool d.priv]] w (Done w sb bm (fauR R d.unit d.n d.asi d.store d.priv d.v)) := by
  unfold Done
  rw [hk]
  obtain ⟨W, hW⟩ : ∃ W, ((w.alloc (.cells #[.int .u64 R.sI, .int .u64 R.tI, .int .u64 R.aI, .int .u64 R.pr, .int .u64 R.se, .int .u64 R.sD, .int .u64 R.ad, .int .u64 R.tD, .int .u64 R.aD] 27)).alloc (.cells #[.int .i64 2, .int .i64 d.asi, .int .i64 d.unit, .int .i64 d.n, .int .u64 d.place, .int .u64 d.v, .bool d.store, .bool d.priv] 31)).alloc (.cells #[.int .u64 0, .int .u64 0, .int .u64 0, .int .u64 0, .int .u64 0, .int .u64 0, .int .u64 0, .int .u64 0, .int .u64 0] 27) = W := ⟨_, rfl⟩
  have TB := three_boxes w R 2 d W hW.symm
  have LTS : sb < w.heap.size ∧ bm < w.heap.size ∧ 0 < w.heap.size := ⟨h.lt.1, h.lt.2, h.tab.1⟩
  have C1 := Lib.hid (dfault_any R h.wf d.unit d.n d.asi d.store d.priv d.v W)
  have C2 := Lib.hid (fun (X : World) (hX : RegsAt X sb bm R) => fault_any sb bm R d.unit d.n d.asi d.store d.priv d.v hd.v hd.n.1 hd.n.2 hd.asi.1 hd.asi.2 X hX)
  have ST := Lib.hid (fun (w2 : World) (Q : Reg) (hb : Below W.heap.size W w2) => ds_start (Q := Q) (kd := 2) hW.symm h hb)
  obtain ⟨_, _, r4, r5, r6⟩ := TB
  obtain ⟨a0, a1, a2, a3, a4, a5, a6, a7, a8⟩ := nine_cells r4
  have e0 := cell_of_row _ _ 0 _ _ _ r5
  have e1 := cell_of_row _ _ 1 _ _ _ r5
  have e2 := cell_of_row _ _ 2 _ _ _ r5
  have e3 := cell_of_row _ _ 3 _ _ _ r5
  have e4 := cell_of_row _ _ 4 _ _ _ r5
  have e5 := cell_of_row _ _ 5 _ _ _ r5
  have e6 := cell_of_row _ _ 6 _ _ _ r5
  have e7 := cell_of_row _ _ 7 _ _ _ r5
  replace e0 : W.cell? ⟨w.heap.size + 1, 0, none⟩ = some (.int .i64 2) := e0
  replace e1 : W.cell? ⟨w.heap.size + 1, 1, none⟩ = some (.int .i64 d.asi) := e1
  replace e2 : W.cell? ⟨w.heap.size + 1, 2, none⟩ = some (.int .i64 d.unit) := e2
  replace e3 : W.cell? ⟨w.heap.size + 1, 3, none⟩ = some (.int .i64 d.n) := e3
  replace e4 : W.cell? ⟨w.heap.size + 1, 4, none⟩ = some (.int .u64 d.place) := e4
  replace e5 : W.cell? ⟨w.heap.size + 1, 5, none⟩ = some (.int .u64 d.v) := e5
  replace e6 : W.cell? ⟨w.heap.size + 1, 6, none⟩ = some (.bool d.store) := e6
  replace e7 : W.cell? ⟨w.heap.size + 1, 7, none⟩ = some (.bool d.priv) := e7
  generalize hQ : fauR R d.unit d.n d.asi d.store d.priv d.v = Q at *
  generalize hE : fauE d.unit d.n d.asi = E at *
  clear r4 r5 r6 h hd hQ hE hk
  go_enter Tryd.func9, Tryd.ntmps9
  go_wp2_with fail
  refine C1.out.mono ?_; rintro r w2 ⟨rfl, hb⟩
  obtain ⟨H3, D3⟩ := ST.out w2 Q hb
  clear C1 ST hb hW a0 a1 a2 a3 a4 a5 a6 a7 a8 e0 e1 e2 e3 e4 e5 e6 e7
  obtain ⟨W3, hW3⟩ : ∃ W3, w2.alloc (.cells #[.int .u64 Q.sI, .int .u64 Q.tI, .int .u64 Q.aI, .int .u64 Q.pr, .int .u64 Q.se, .int .u64 Q.sD, .int .u64 Q.ad, .int .u64 Q.tD, .int .u64 Q.aD] 27) = W3 := ⟨_, rfl⟩
  rw [hW3] at H3 D3
  go_wp2_with fail
  clear hW3
  have NF := Lib.hid (show w.heap.size + 1 + 1 ≠ sb ∧ w.heap.size + 1 + 1 ≠ bm ∧ w.heap.size + 1 + 1 ≠ 0 from ⟨by omega, by omega, by omega⟩)
  clear LTS
  generalize hB8 : w2.heap.size = B8 at *
  generalize hB6 : w.heap.size + 1 + 1 = B6 at *
  generalize hB5 : w.heap.size + 1 = B5 at *
  clear hB8 hB5 hB6
  obtain ⟨⟨x0, x1, x2, x3, x4, x5, x6, x7, x8⟩, frx⟩ := D3.rc
  have D3' := Lib.hid D3
  go_region_held3 (fun w1 => w1.cell? ⟨B5, 1, none⟩ = some (.int .i64 d.asi) ∧ w1.cell? ⟨B5, 2, none⟩ = some (.int .i64 d.unit) ∧ w1.cell? ⟨B5, 3, none⟩ = some (.int .i64 d.n) ∧ w1.cell? ⟨B5, 4, none⟩ = some (.int .u64 d.place) ∧ w1.cell? ⟨B5, 5, none⟩ = some (.int .u64 d.v) ∧ w1.cell? ⟨B5, 6, none⟩ = some (.bool d.store) ∧ w1.cell? ⟨B5, 7, none⟩ = some (.bool d.priv) ∧ w1.cell? ⟨B8, 0, none⟩ = some (.int .u64 Q.sI) ∧ w1.cell? ⟨B8, 1, none⟩ = some (.int .u64 Q.tI) ∧ w1.cell? ⟨B8, 2, none⟩ = some (.int .u64 Q.aI) ∧ w1.cell? ⟨B8, 3, none⟩ = some (.int .u64 Q.pr) ∧ w1.cell? ⟨B8, 4, none⟩ = some (.int .u64 Q.se) ∧ w1.cell? ⟨B8, 5, none⟩ = some (.int .u64 Q.sD) ∧ w1.cell? ⟨B8, 6, none⟩ = some (.int .u64 Q.ad) ∧ w1.cell? ⟨B8, 7, none⟩ = some (.int .u64 Q.tD) ∧ w1.cell? ⟨B8, 8, none⟩ = some (.int .u64 Q.aD)) ((apply DS.sc (w0 := w) (bm := bm) (b6 := B6) (kd := 2) (d := d) (Q := Q); (repeat (first | (with_reducible assumption) | (with_reducible apply DS.drew) | (with_reducible apply DS.set))))) (first | (go_at_call 15; (with_reducible refine (C2.out _ H3.drew).mono ?_); rintro r w5 ⟨rfl, H5, T5⟩; have D5 := D3'.out.drew.call T5; obtain ⟨⟨y0, y1, y2, y3, y4, y5, y6, y7, y8⟩, fr⟩ := D5.rc))
  all_goals (have D6 := Lib.hid D5.set)
  all_goals clear D5 D3 x0 x1 x2 x3 x4 x5 x6 x7 x8 y0 y1 y2 y3 y4 y5 y6 y7 y8
  all_goals go_wp2_with fail
  all_goals (try simp only [Exit.inBlock, Exit.then])
  all_goals (refine bodyPost_ret (res_reg rfl _ _ _ Q rfl D6.out.res) rfl ?_)
  all_goals exact ⟨rfl, RegsAt.nine H5 NF.out, D6.out.turn⟩
theorem does3 {sb bm : Nat} {R : Reg} (d : DeedV) (_hd : d.wf) (hk : d.kind = 3) (w : World) (h : RegsAt w sb bm R) :
    Calls Tryd.prog 9 #[.pointer (some ⟨sb, 0, none⟩), .agg #[.int .u64 R.sI, .int .u64 R.tI, .int .u64 R.aI, .int .u64 R.pr, .int .u64 R.se, .int .u64 R.sD, .int .u64 R.ad, .int .u64 R.tD, .int .u64 R.aD], .agg #[.int .i64 d.kind, .int .i64 d.asi, .int .i64 d.unit, .int .i64 d.n, .int .u64 d.place, .int .u64 d.v, .bool d.store, .bool d.priv]] w (Done w sb bm (cleR R d.unit)) := by
  unfold Done
  rw [hk]
  obtain ⟨W, hW⟩ : ∃ W, ((w.alloc (.cells #[.int .u64 R.sI, .int .u64 R.tI, .int .u64 R.aI, .int .u64 R.pr, .int .u64 R.se, .int .u64 R.sD, .int .u64 R.ad, .int .u64 R.tD, .int .u64 R.aD] 27)).alloc (.cells #[.int .i64 3, .int .i64 d.asi, .int .i64 d.unit, .int .i64 d.n, .int .u64 d.place, .int .u64 d.v, .bool d.store, .bool d.priv] 31)).alloc (.cells #[.int .u64 0, .int .u64 0, .int .u64 0, .int .u64 0, .int .u64 0, .int .u64 0, .int .u64 0, .int .u64 0, .int .u64 0] 27) = W := ⟨_, rfl⟩
  have TB := three_boxes w R 3 d W hW.symm
  have LTS : sb < w.heap.size ∧ bm < w.heap.size ∧ 0 < w.heap.size := ⟨h.lt.1, h.lt.2, h.tab.1⟩
  have C1 := Lib.hid (dclear_any R d.unit W)
  have C2 := Lib.hid (fun (X : World) (hX : RegsAt X sb bm R) => clear_any sb bm R d.unit X hX)
  have ST := Lib.hid (fun (w2 : World) (Q : Reg) (hb : Below W.heap.size W w2) => ds_start (Q := Q) (kd := 3) hW.symm h hb)
  obtain ⟨_, _, r4, r5, r6⟩ := TB
  obtain ⟨a0, a1, a2, a3, a4, a5, a6, a7, a8⟩ := nine_cells r4
  have e0 := cell_of_row _ _ 0 _ _ _ r5
  have e1 := cell_of_row _ _ 1 _ _ _ r5
  have e2 := cell_of_row _ _ 2 _ _ _ r5
  have e3 := cell_of_row _ _ 3 _ _ _ r5
  have e4 := cell_of_row _ _ 4 _ _ _ r5
  have e5 := cell_of_row _ _ 5 _ _ _ r5
  have e6 := cell_of_row _ _ 6 _ _ _ r5
  have e7 := cell_of_row _ _ 7 _ _ _ r5
  replace e0 : W.cell? ⟨w.heap.size + 1, 0, none⟩ = some (.int .i64 3) := e0
  replace e1 : W.cell? ⟨w.heap.size + 1, 1, none⟩ = some (.int .i64 d.asi) := e1
  replace e2 : W.cell? ⟨w.heap.size + 1, 2, none⟩ = some (.int .i64 d.unit) := e2
  replace e3 : W.cell? ⟨w.heap.size + 1, 3, none⟩ = some (.int .i64 d.n) := e3
  replace e4 : W.cell? ⟨w.heap.size + 1, 4, none⟩ = some (.int .u64 d.place) := e4
  replace e5 : W.cell? ⟨w.heap.size + 1, 5, none⟩ = some (.int .u64 d.v) := e5
  replace e6 : W.cell? ⟨w.heap.size + 1, 6, none⟩ = some (.bool d.store) := e6
  replace e7 : W.cell? ⟨w.heap.size + 1, 7, none⟩ = some (.bool d.priv) := e7
  generalize hQ : cleR R d.unit = Q at *
  generalize hE : cleE d.unit = E at *
  clear r4 r5 r6 h _hd hQ hE hk
  go_enter Tryd.func9, Tryd.ntmps9
  go_wp2_with fail
  refine C1.out.mono ?_; rintro r w2 ⟨rfl, hb⟩
  obtain ⟨H3, D3⟩ := ST.out w2 Q hb
  clear C1 ST hb hW a0 a1 a2 a3 a4 a5 a6 a7 a8 e0 e1 e2 e3 e4 e5 e6 e7
  obtain ⟨W3, hW3⟩ : ∃ W3, w2.alloc (.cells #[.int .u64 Q.sI, .int .u64 Q.tI, .int .u64 Q.aI, .int .u64 Q.pr, .int .u64 Q.se, .int .u64 Q.sD, .int .u64 Q.ad, .int .u64 Q.tD, .int .u64 Q.aD] 27) = W3 := ⟨_, rfl⟩
  rw [hW3] at H3 D3
  go_wp2_with fail
  clear hW3
  have NF := Lib.hid (show w.heap.size + 1 + 1 ≠ sb ∧ w.heap.size + 1 + 1 ≠ bm ∧ w.heap.size + 1 + 1 ≠ 0 from ⟨by omega, by omega, by omega⟩)
  clear LTS
  generalize hB8 : w2.heap.size = B8 at *
  generalize hB6 : w.heap.size + 1 + 1 = B6 at *
  generalize hB5 : w.heap.size + 1 = B5 at *
  clear hB8 hB5 hB6
  obtain ⟨⟨x0, x1, x2, x3, x4, x5, x6, x7, x8⟩, frx⟩ := D3.rc
  have D3' := Lib.hid D3
  go_region_held3 (fun w1 => w1.cell? ⟨B5, 1, none⟩ = some (.int .i64 d.asi) ∧ w1.cell? ⟨B5, 2, none⟩ = some (.int .i64 d.unit) ∧ w1.cell? ⟨B5, 3, none⟩ = some (.int .i64 d.n) ∧ w1.cell? ⟨B5, 4, none⟩ = some (.int .u64 d.place) ∧ w1.cell? ⟨B5, 5, none⟩ = some (.int .u64 d.v) ∧ w1.cell? ⟨B5, 6, none⟩ = some (.bool d.store) ∧ w1.cell? ⟨B5, 7, none⟩ = some (.bool d.priv) ∧ w1.cell? ⟨B8, 0, none⟩ = some (.int .u64 Q.sI) ∧ w1.cell? ⟨B8, 1, none⟩ = some (.int .u64 Q.tI) ∧ w1.cell? ⟨B8, 2, none⟩ = some (.int .u64 Q.aI) ∧ w1.cell? ⟨B8, 3, none⟩ = some (.int .u64 Q.pr) ∧ w1.cell? ⟨B8, 4, none⟩ = some (.int .u64 Q.se) ∧ w1.cell? ⟨B8, 5, none⟩ = some (.int .u64 Q.sD) ∧ w1.cell? ⟨B8, 6, none⟩ = some (.int .u64 Q.ad) ∧ w1.cell? ⟨B8, 7, none⟩ = some (.int .u64 Q.tD) ∧ w1.cell? ⟨B8, 8, none⟩ = some (.int .u64 Q.aD)) ((apply DS.sc (w0 := w) (bm := bm) (b6 := B6) (kd := 3) (d := d) (Q := Q); (repeat (first | (with_reducible assumption) | (with_reducible apply DS.drew) | (with_reducible apply DS.set))))) (first | (go_at_call 17; (with_reducible refine (C2.out _ H3.drew).mono ?_); rintro r w5 ⟨rfl, H5, T5⟩; have D5 := D3'.out.drew.call T5; obtain ⟨⟨y0, y1, y2, y3, y4, y5, y6, y7, y8⟩, fr⟩ := D5.rc))
  all_goals (have D6 := Lib.hid D5.set)
  all_goals clear D5 D3 x0 x1 x2 x3 x4 x5 x6 x7 x8 y0 y1 y2 y3 y4 y5 y6 y7 y8
  all_goals go_wp2_with fail
  all_goals (try simp only [Exit.inBlock, Exit.then])
  all_goals (refine bodyPost_ret (res_reg rfl _ _ _ Q rfl D6.out.res) rfl ?_)
  all_goals exact ⟨rfl, RegsAt.nine H5 NF.out, D6.out.turn⟩
theorem doesr {sb bm : Nat} {R : Reg} (d : DeedV) (hd : d.wf) (k0 : d.kind ≠ 0) (k1 : d.kind ≠ 1) (k2 : d.kind ≠ 2) (k3 : d.kind ≠ 3) (w : World) (h : RegsAt w sb bm R) :
    Calls Tryd.prog 9 #[.pointer (some ⟨sb, 0, none⟩), .agg #[.int .u64 R.sI, .int .u64 R.tI, .int .u64 R.aI, .int .u64 R.pr, .int .u64 R.se, .int .u64 R.sD, .int .u64 R.ad, .int .u64 R.tD, .int .u64 R.aD], .agg #[.int .i64 d.kind, .int .i64 d.asi, .int .i64 d.unit, .int .i64 d.n, .int .u64 d.place, .int .u64 d.v, .bool d.store, .bool d.priv]] w (Done w sb bm R) := by
  unfold Done
  obtain ⟨kd, hkd⟩ : ∃ kd, d.kind = kd := ⟨_, rfl⟩
  rw [hkd] at k0 k1 k2 k3 ⊢
  clear hkd
  obtain ⟨W, hW⟩ : ∃ W, ((w.alloc (.cells #[.int .u64 R.sI, .int .u64 R.tI, .int .u64 R.aI, .int .u64 R.pr, .int .u64 R.se, .int .u64 R.sD, .int .u64 R.ad, .int .u64 R.tD, .int .u64 R.aD] 27)).alloc (.cells #[.int .i64 kd, .int .i64 d.asi, .int .i64 d.unit, .int .i64 d.n, .int .u64 d.place, .int .u64 d.v, .bool d.store, .bool d.priv] 31)).alloc (.cells #[.int .u64 0, .int .u64 0, .int .u64 0, .int .u64 0, .int .u64 0, .int .u64 0, .int .u64 0, .int .u64 0, .int .u64 0] 27) = W := ⟨_, rfl⟩
  have TB := three_boxes w R kd d W hW.symm
  have LTS : sb < w.heap.size ∧ bm < w.heap.size ∧ 0 < w.heap.size := ⟨h.lt.1, h.lt.2, h.tab.1⟩
  have C1 := Lib.hid (read_any sb bm R d.asi d.place (wfI hd.asi.1 hd.asi.2) (wfU hd.place) W (h.below TB.1 (Nat.le_refl _)))
  have C2 := Lib.hid (fun (X : World) => dread_any R h.wf d.asi d.place X)
  have H0 := Lib.hid h
  obtain ⟨B0, S0, r4, r5, r6⟩ := TB
  obtain ⟨a0, a1, a2, a3, a4, a5, a6, a7, a8⟩ := nine_cells r4
  have e0 : W.cell? ⟨w.heap.size + 1, 0, none⟩ = some (.int .i64 kd) := cell_of_row _ _ 0 _ _ _ r5
  have e1 : W.cell? ⟨w.heap.size + 1, 1, none⟩ = some (.int .i64 d.asi) := cell_of_row _ _ 1 _ _ _ r5
  have e4 : W.cell? ⟨w.heap.size + 1, 4, none⟩ = some (.int .u64 d.place) := cell_of_row _ _ 4 _ _ _ r5
  generalize regV R d.asi d.place = V at *
  generalize regE d.asi d.place = E at *
  clear h hd
  go_enter Tryd.func9, Tryd.ntmps9
  go_wp2_with fail
  refine C1.out.mono ?_; rintro r w2 ⟨rfl, hb⟩
  clear a0 a1 a2 a3 a4 a5 a6 a7 a8 e0 e1 e4 hW C1
  have r4' := (hb.block _ (lt_row r4)).trans r4
  have r5' := (hb.block _ (lt_row r5)).trans r5
  have r6' := (hb.block _ (lt_row r6)).trans r6
  have B2 := B0.trans (hb.mono B0.size)
  clear r4 r5 r6 B0 hb S0
  obtain ⟨a0, a1, a2, a3, a4, a5, a6, a7, a8⟩ := nine_cells r4'
  have e1 : w2.cell? ⟨w.heap.size + 1, 1, none⟩ = some (.int .i64 d.asi) := cell_of_row _ _ 1 _ _ _ r5'
  have e4 : w2.cell? ⟨w.heap.size + 1, 4, none⟩ = some (.int .u64 d.place) := cell_of_row _ _ 4 _ _ _ r5'
  go_wp2_with fail
  refine (C2.out _).mono ?_; rintro r w3 ⟨rfl, hb⟩
  clear a0 a1 a2 a3 a4 a5 a6 a7 a8 e1 e4 C2
  have r4 := (hb.block _ (lt_row r4')).trans r4'
  have r6 := (hb.block _ (lt_row r6')).trans r6'
  have B3 := B2.trans (hb.mono B2.size)
  clear r4' r5' r6' B2 hb
  obtain ⟨a0, a1, a2, a3, a4, a5, a6, a7, a8⟩ := nine_cells r4
  obtain ⟨x0, x1, x2, x3, x4, x5, x6, x7, x8⟩ := nine_cells r6
  have FR := fun i => row_frozen r6 i
  go_wp2_with fail
  (try simp only [Exit.inBlock, Exit.then])
  refine bodyPost_ret (res_reg rfl _ _ (w.heap.size + 1 + 1) R rfl (row_nine r6)) rfl ?_
  have B4 := below_nine (g := w.heap.size + 1 + 1) (x0 := .int .u64 R.sI) (x1 := .int .u64 R.tI) (x2 := .int .u64 R.aI) (x3 := .int .u64 R.pr) (x4 := .int .u64 R.se) (x5 := .int .u64 R.sD) (x6 := .int .u64 R.ad) (x7 := .int .u64 R.tD) (x8 := .int .u64 R.aD) B3 (by omega)
  exact ⟨rfl, RegsTo.refl H0.out B4⟩
theorem does_any {sb bm : Nat} {R : Reg} (d : DeedV) (hd : d.wf) (w : World) (h : RegsAt w sb bm R) :
    Calls Tryd.prog 9 #[.pointer (some ⟨sb, 0, none⟩), .agg #[.int .u64 R.sI, .int .u64 R.tI, .int .u64 R.aI, .int .u64 R.pr, .int .u64 R.se, .int .u64 R.sD, .int .u64 R.ad, .int .u64 R.tD, .int .u64 R.aD], .agg #[.int .i64 d.kind, .int .i64 d.asi, .int .i64 d.unit, .int .i64 d.n, .int .u64 d.place, .int .u64 d.v, .bool d.store, .bool d.priv]] w (Done w sb bm (act R d)) := by
  unfold act
  by_cases k0 : d.kind = 0
  · rw [if_pos k0]; exact does0 d hd k0 w h
  rw [if_neg k0]
  by_cases k1 : d.kind = 1
  · rw [if_pos k1]; exact does1 d hd k1 w h
  rw [if_neg k1]
  by_cases k2 : d.kind = 2
  · rw [if_pos k2]; exact does2 d hd k2 w h
  rw [if_neg k2]
  by_cases k3 : d.kind = 3
  · rw [if_pos k3]; exact does3 d hd k3 w h
  rw [if_neg k3]
  exact doesr d hd k0 k1 k2 k3 w h
end Go.Proofs.YtohcmijgakijfaaDoor.Rg
