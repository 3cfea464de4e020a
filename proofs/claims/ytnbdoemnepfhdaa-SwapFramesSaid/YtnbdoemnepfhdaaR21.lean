/-
  Contracts and plain facts: NLaw, NGood, NLoop, NRef, NPut, NIns, NRun, NTie, NDRead, NTwo, WInto. Conditions: each says its own.
-/
import Derived.Test.YtnbdoemnepfhdaaR19
import Derived.Test.YtnbdoemnepfhdaaR20
import Derived.ShutString
import Derived.Deep.Slices
import Derived.Deep.Fields
import Derived.ChangeSame
import Derived.OpenShut
import Derived.Laws.StructEq
import Derived.Maps.AppendAt
import Derived.Deep.RegionHeld3
import Derived.Deep.DeepCutAuto
namespace Go.Proofs.Ytnbdoemnepfhdaa.Ts
open Fld
open Pt (idxI lastI arI ar_bd)

open Go.ChangeShapes Go.WideShapes Go.ChangeAt Go.RowKit Go.Shelf
set_option maxRecDepth 100000
set_option maxHeartbeats 2000000
/-! ### What is found of entries that were inserted -/
def Fine (p : Par) (l : List Ent) : Prop := ∀ e ∈ l, e.Ok ∧ e.size = p.s
theorem Fine.nil (p : Par) : Fine p [] := fun _ h => absurd h (by simp)
/-! ### Entries held against each other -/
end Go.Proofs.Ytnbdoemnepfhdaa.Ts

namespace Go.Proofs.Ytnbdoemnepfhdaa.Ts
open Fld
open Pt (idxI)

/-- Each place holds nothing, or the words of an entry that may be there. -/
def Gd (p : Par) (T : Nat → Pl) : Prop := ∀ i, T i = Pl.none ∨ ∃ e : Ent, e.Ok ∧ e.size = p.s ∧ p.pl e.va = i ∧ T i = Ent.pl e
/-! ### A context's entries gone -/
end Go.Proofs.Ytnbdoemnepfhdaa.Ts

namespace Go.Proofs.Ytnbdoemnepfhdaa.Ts
open Fld
open Pt (idxI lastI arI ar_bd)

open Go.ChangeShapes Go.WideShapes Go.ChangeAt Go.RowKit Go.Shelf
set_option maxRecDepth 100000
set_option maxHeartbeats 2000000
theorem add_at (g o : Nat) : (⟨g, 0, none⟩ : Addr).add o = ⟨g, o, none⟩ := by unfold Addr.add; split <;> simp_all
end Go.Proofs.Ytnbdoemnepfhdaa.Ts

namespace Go.Proofs.Ytnbdoemnepfhdaa.Ts
open Fld
open Pt (idxI)
open Go.ChangeShapes Go.WideShapes Go.ChangeAt Go.RowKit Go.Shelf
set_option maxRecDepth 100000
set_option maxHeartbeats 2000000
structure Wd where
  i : Nat
  t : Int
  d : Int
def Wd.zero : Wd := ⟨0, 0, 0⟩
def cellW (x : Wd) (k : Nat) : Value := match k with
  | 0 => .int .i64 (x.i : Int)
  | 1 => .int .u64 x.t
  | _ => .int .u64 x.d
def nthW (l : List Wd) : Nat → Wd := fun i => l.getD i Wd.zero
def rowW (R : Nat → Wd) (n : Nat) : List Value := (List.range (n * 3)).map fun m => cellW (R (m / 3)) (m % 3)
/-- A list of words that lies in new memory (from block B on). -/
abbrev WsAt (w : World) (B : Nat) (v : Value) (l : List Wd) : Prop := w.ownsRow B 106 3 v l.length (rowW (nthW l) l.length)
theorem ws_nil (w : World) (B : Nat) : WsAt w B (.slice none 0 0) [] := World.ownsRow_nil _ _ _ _
theorem ws_low {w w' : World} {B : Nat} {v : Value} {l : List Wd} (h : WsAt w B v l) (hb : Below w.heap.size w w') : WsAt w' B v l := own_below h hb
theorem ws_base {w : World} {B C : Nat} {v : Value} {l : List Wd} (h : WsAt w B v l) (hC : C ≤ B) : WsAt w C v l := by
  refine ⟨h.1, ?_⟩
  rcases h.2 with hn | ⟨g, cap, cur, rfl, hb2, rest⟩
  · exact .inl hn
  · exact .inr ⟨g, cap, cur, rfl, by omega, rest⟩
theorem ws_same {w w' : World} {C : Nat} {v : Value} {l : List Wd} (h : WsAt w C v l) (hs : ∀ g cur, C ≤ g → w.heap[g]? = some (.cells cur 106 (0, 0)) → w'.heap[g]? = w.heap[g]?) : WsAt w' C v l := by
  refine ⟨h.1, ?_⟩
  rcases h.2 with hn | ⟨g, cap, cur, rfl, hb2, hg, rest⟩
  · exact .inl hn
  · exact .inr ⟨g, cap, cur, rfl, hb2, (hs g cur hb2 hg).trans hg, rest⟩
/-! ### What stands there -/
def getW (l : List Wd) (i : Nat) : Pl := match l.find? (fun x => x.i == i) with
  | some x => ⟨x.t, x.d⟩
  | none => Pl.none
def putW (l : List Wd) (x : Wd) : List Wd := l.filter (fun y => y.i != x.i) ++ (if x.t = 9223372036854775807 ∧ x.d = 0 then [] else [x])
end Go.Proofs.Ytnbdoemnepfhdaa.Ts

namespace Go.Proofs.Ytnbdoemnepfhdaa.Ts
open Fld
open Pt (idxI)
open Go.ChangeShapes Go.WideShapes Go.ChangeAt Go.RowKit Go.Shelf
set_option maxRecDepth 100000
set_option maxHeartbeats 2000000
/-- The two boxes of put, and the list under way. -/
structure PW (w wr : World) (p : Par) (v : Value) (x : Wd) (l : List Wd) (u : Value) (f : List Wd) : Prop where
  bel : Below w.heap.size w wr
  b1 : wr.heap[w.heap.size]? = some (.cells #[.int .i64 p.s, .int .i64 (p.n : Int), v] 46 (0, 0))
  b2 : wr.heap[w.heap.size + 1]? = some (.cells #[.int .i64 (x.i : Int), .int .u64 x.t, .int .u64 x.d] 106 (0, 0))
  b3 : wr.heap[w.heap.size + 1 + 1]? = some (.cells #[.int .i64 0, .int .i64 0, .slice none 0 0] 46 (0, 0))
  old : ∃ B, B ≤ w.heap.size ∧ WsAt w B v l
  own : WsAt wr (w.heap.size + 1 + 1 + 1) u f
theorem PW.low {w wr w' : World} {p : Par} {v u : Value} {x : Wd} {l f : List Wd} (h : PW w wr p v x l u f) (hb : Below wr.heap.size wr w') : PW w w' p v x l u f :=
  ⟨h.bel.trans (hb.mono h.bel.size), (hb.block _ (Array.getElem?_eq_some_iff.1 h.b1).1).trans h.b1, (hb.block _ (Array.getElem?_eq_some_iff.1 h.b2).1).trans h.b2, (hb.block _ (Array.getElem?_eq_some_iff.1 h.b3).1).trans h.b3, h.old, ws_low h.own hb⟩
theorem PW.drewN {w wr : World} {p : Par} {v u : Value} {x : Wd} {l f : List Wd} (h : PW w wr p v x l u f) (n : Nat) : PW w (wr.drewN n) p v x l u f := h.low (drewN_low wr n)
theorem PW.alloc {w wr : World} {p : Par} {v u : Value} {x : Wd} {l f : List Wd} (h : PW w wr p v x l u f) (o : Obj) : PW w (wr.alloc o) p v x l u f := h.low ((Below.refl _ _).alloc (Nat.le_refl _) _)
theorem PW.grown {w wr w1 : World} {p : Par} {v u u' : Value} {x : Wd} {l f f' : List Wd} (h : PW w wr p v x l u f) (hg : wr.grownBy w1 u.ownBlock) (ho : WsAt w1 (w.heap.size + 1 + 1 + 1) u' f') : PW w w1 p v x l u' f' := by
  have hfar : ∀ g, u.ownBlock = some g → w.heap.size + 1 + 1 + 1 ≤ g := fun g hg2 => (h.own.lt g hg2).1
  refine ⟨h.bel.grown hg h.bel.size (fun g hg2 => by have := hfar g hg2; omega), ?_, ?_, ?_, h.old, ho⟩
  · exact (hg.block _ (Array.getElem?_eq_some_iff.1 h.b1).1 (fun e => by have := hfar _ e.symm; omega)).trans h.b1
  · exact (hg.block _ (Array.getElem?_eq_some_iff.1 h.b2).1 (fun e => by have := hfar _ e.symm; omega)).trans h.b2
  · exact (hg.block _ (Array.getElem?_eq_some_iff.1 h.b3).1 (fun e => by have := hfar _ e.symm; omega)).trans h.b3
theorem ws_far {w : World} {C b : Nat} {v : Value} {l : List Wd} (h : WsAt w C v l) (hb : b < C) (o : Nat) (u : Value) : WsAt (w.setCell ⟨b, o, none⟩ u) C v l :=
  ws_same h fun g _ hg _ => Below.heap_setCell _ _ _ _ (by show g ≠ b; omega)
/-- The end of put: the list is laid into the box, and that into the result. -/
theorem PW.fin {w wr : World} {p : Par} {v u : Value} {x : Wd} {l f : List Wd} (h : PW w wr p v x l u f) :
    ((((wr.setCell ⟨w.heap.size, 2, none⟩ u).setCell ⟨w.heap.size + 1 + 1, 0, none⟩ (.int .i64 p.s)).setCell ⟨w.heap.size + 1 + 1, 1, none⟩ (.int .i64 (p.n : Int))).setCell ⟨w.heap.size + 1 + 1, 2, none⟩ u).heap[w.heap.size + 1 + 1]? = some (.cells #[.int .i64 p.s, .int .i64 (p.n : Int), u] 46 (0, 0)) ∧
    WsAt ((((wr.setCell ⟨w.heap.size, 2, none⟩ u).setCell ⟨w.heap.size + 1 + 1, 0, none⟩ (.int .i64 p.s)).setCell ⟨w.heap.size + 1 + 1, 1, none⟩ (.int .i64 (p.n : Int))).setCell ⟨w.heap.size + 1 + 1, 2, none⟩ u) w.heap.size u f ∧
    Below w.heap.size w ((((wr.setCell ⟨w.heap.size, 2, none⟩ u).setCell ⟨w.heap.size + 1 + 1, 0, none⟩ (.int .i64 p.s)).setCell ⟨w.heap.size + 1 + 1, 1, none⟩ (.int .i64 (p.n : Int))).setCell ⟨w.heap.size + 1 + 1, 2, none⟩ u) := by
  have q0 := (Below.heap_setCell wr ⟨w.heap.size, 2, none⟩ u (w.heap.size + 1 + 1) (by show _ ≠ w.heap.size; omega)).trans h.b3
  have q1 := Mem.heap_set q0 (o := 0) (.int .i64 p.s)
  have q2 := Mem.heap_set q1 (o := 1) (.int .i64 (p.n : Int))
  have q3 := Mem.heap_set q2 (o := 2) u
  refine ⟨q3, ?_, ?_⟩
  · exact ws_base (ws_far (ws_far (ws_far (ws_far h.own (by omega) _ _) (by omega) _ _) (by omega) _ _) (by omega) _ _) (by omega)
  · exact (((h.bel.setCell (p := ⟨w.heap.size, 2, none⟩) (Nat.le_refl _) _).setCell (p := ⟨w.heap.size + 1 + 1, 0, none⟩) (by show w.heap.size ≤ w.heap.size + 1 + 1; omega) _).setCell (p := ⟨w.heap.size + 1 + 1, 1, none⟩) (by show w.heap.size ≤ w.heap.size + 1 + 1; omega) _).setCell (p := ⟨w.heap.size + 1 + 1, 2, none⟩) (by show w.heap.size ≤ w.heap.size + 1 + 1; omega) _
end Go.Proofs.Ytnbdoemnepfhdaa.Ts

namespace Go.Proofs.Ytnbdoemnepfhdaa.Ts
open Fld
open Pt (idxI)
open Go.ChangeShapes Go.WideShapes Go.ChangeAt Go.RowKit Go.Shelf
set_option maxRecDepth 100000
set_option maxHeartbeats 4000000
/-- A box of words under way. -/
structure RW (w : World) (b : Nat) (i : Nat) (t d : Int) : Prop where
  row : w.heap[b]? = some (.cells #[.int .i64 (i : Int), .int .u64 t, .int .u64 d] 106 (0, 0))
theorem RW.new (w : World) (i : Nat) (t d : Int) : RW (w.alloc (.cells #[.int .i64 (i : Int), .int .u64 t, .int .u64 d] 106)) w.heap.size i t d := ⟨World.alloc_heap_new _ _⟩
theorem RW.lt {w : World} {b i : Nat} {t d : Int} (h : RW w b i t d) : b < w.heap.size := (Array.getElem?_eq_some_iff.1 h.row).1
theorem RW.drew {w : World} {b i : Nat} {t d : Int} (h : RW w b i t d) : RW w.drew b i t d := ⟨h.row⟩
theorem RW.call {w w' : World} {b i : Nat} {t d : Int} (h : RW w b i t d) (hb : Below w.heap.size w w') : RW w' b i t d := ⟨(hb.block _ h.lt).trans h.row⟩
theorem three_far {w : World} {g b : Nat} {x0 x1 x2 : Value} (h : b ≠ g) : (((w.setCell ⟨g, 0, none⟩ x0).setCell ⟨g, 1, none⟩ x1).setCell ⟨g, 2, none⟩ x2).heap[b]? = w.heap[b]? := by
  rw [Below.heap_setCell _ _ _ _ h, Below.heap_setCell _ _ _ _ h, Below.heap_setCell _ _ _ _ h]
/-- Boxes, and a list. -/
structure PV (w wr : World) (L : List Bx) (B : Nat) (v : Value) (l : List Wd) : Prop where
  bel : Below w.heap.size w wr
  rows : Rows w wr L
  ws : WsAt wr B v l
theorem PV.low {w wr w' : World} {L : List Bx} {B : Nat} {v : Value} {l : List Wd} (h : PV w wr L B v l) (hb : Below wr.heap.size wr w') : PV w w' L B v l := ⟨h.bel.trans (hb.mono h.bel.size), h.rows.low hb, ws_low h.ws hb⟩
theorem PV.drewN {w wr : World} {L : List Bx} {B : Nat} {v : Value} {l : List Wd} (h : PV w wr L B v l) (n : Nat) : PV w (wr.drewN n) L B v l := h.low (drewN_low wr n)
theorem PV.drew {w wr : World} {L : List Bx} {B : Nat} {v : Value} {l : List Wd} (h : PV w wr L B v l) : PV w wr.drew L B v l := h.drewN 1
theorem PV.alloc {w wr : World} {L : List Bx} {B : Nat} {v : Value} {l : List Wd} (h : PV w wr L B v l) (o : Obj) : PV w (wr.alloc o) L B v l := h.low ((Below.refl _ _).alloc (Nat.le_refl _) _)
theorem PV.sc {w wr : World} {L : List Bx} {B : Nat} {v x y u : Value} {l : List Wd} {b : Nat} (h : PV w wr L B v l) (hm : (b, #[x, y, u], 46) ∈ L) : wr.cell? ⟨b, 0, none⟩ = some x ∧ wr.cell? ⟨b, 1, none⟩ = some y ∧ wr.cell? ⟨b, 2, none⟩ = some u := by
  have := (h.rows _ hm).1
  exact ⟨cell_row 0 this rfl, cell_row 1 this rfl, cell_row 2 this rfl⟩
theorem PV.fin {w wr : World} {p : Par} {v' : Value} {C : Nat} {l' : List Wd} (h : Below w.heap.size w wr) (hb : wr.heap[w.heap.size + 1]? = some (.cells #[.int .i64 0, .int .i64 0, .slice none 0 0] 46 (0, 0))) (hw : WsAt wr C v' l') (hC : w.heap.size + 1 < C) :
    (((wr.setCell ⟨w.heap.size + 1, 0, none⟩ (.int .i64 p.s)).setCell ⟨w.heap.size + 1, 1, none⟩ (.int .i64 (p.n : Int))).setCell ⟨w.heap.size + 1, 2, none⟩ v').heap[w.heap.size + 1]? = some (.cells #[.int .i64 p.s, .int .i64 (p.n : Int), v'] 46 (0, 0)) ∧
    WsAt (((wr.setCell ⟨w.heap.size + 1, 0, none⟩ (.int .i64 p.s)).setCell ⟨w.heap.size + 1, 1, none⟩ (.int .i64 (p.n : Int))).setCell ⟨w.heap.size + 1, 2, none⟩ v') w.heap.size v' l' ∧
    Below w.heap.size w (((wr.setCell ⟨w.heap.size + 1, 0, none⟩ (.int .i64 p.s)).setCell ⟨w.heap.size + 1, 1, none⟩ (.int .i64 (p.n : Int))).setCell ⟨w.heap.size + 1, 2, none⟩ v') := by
  have q1 := Mem.heap_set hb (o := 0) (.int .i64 p.s)
  have q2 := Mem.heap_set q1 (o := 1) (.int .i64 (p.n : Int))
  have q3 := Mem.heap_set q2 (o := 2) v'
  refine ⟨q3, ?_, ?_⟩
  · exact ws_base (ws_far (ws_far (ws_far hw hC _ _) hC _ _) hC _ _) (by omega)
  · exact (((h.setCell (p := ⟨w.heap.size + 1, 0, none⟩) (Nat.le_succ _) _).setCell (p := ⟨w.heap.size + 1, 1, none⟩) (Nat.le_succ _) _).setCell (p := ⟨w.heap.size + 1, 2, none⟩) (Nat.le_succ _) _)
/-! ### What they leave -/
def tagW (p : Par) (l : List Wd) (e : Ent) : List Wd := putW l ⟨p.pl e.va, e.tagW, (getW l (p.pl e.va)).d⟩
end Go.Proofs.Ytnbdoemnepfhdaa.Ts

namespace Go.Proofs.Ytnbdoemnepfhdaa.Ts
open Fld
open Pt (idxI)

open Go.ChangeShapes Go.WideShapes Go.ChangeAt Go.RowKit Go.Shelf
set_option maxRecDepth 100000
set_option maxHeartbeats 2000000
theorem t_w : 46 ≠ 106 := by decide
theorem ws_put {w : World} {C b : Nat} {v : Value} {l : List Wd} {c : Array Value} {t : TypeId} (h : WsAt w C v l) (hb : w.heap[b]? = some (.cells c t (0, 0))) (ht : t ≠ 106) (o : Nat) (u : Value) : WsAt (w.setCell ⟨b, o, none⟩ u) C v l :=
  ws_same h fun g cur _ hg => Below.heap_setCell _ _ _ _ (by
    show g ≠ b
    rintro rfl
    rw [hb] at hg
    simp only [Option.some.injEq, Obj.cells.injEq] at hg
    exact ht hg.2.1)
theorem ws_setNew {X wr : World} {C : Nat} {v : Value} {l : List Wd} {x0 x1 x2 x3 x4 x5 x6 x7 x8 x9 x10 : Value} (hX : WsAt X C v l) (h : WsAt wr C v l) :
    WsAt (((((((((((wr.setCell ⟨X.heap.size, 0, none⟩ x0).setCell ⟨X.heap.size, 1, none⟩ x1).setCell ⟨X.heap.size, 2, none⟩ x2).setCell ⟨X.heap.size, 3, none⟩ x3).setCell ⟨X.heap.size, 4, none⟩ x4).setCell ⟨X.heap.size, 5, none⟩ x5).setCell ⟨X.heap.size, 6, none⟩ x6).setCell ⟨X.heap.size, 7, none⟩ x7).setCell ⟨X.heap.size, 8, none⟩ x8).setCell ⟨X.heap.size, 9, none⟩ x9).setCell ⟨X.heap.size, 10, none⟩ x10) C v l := by
  refine ⟨h.1, ?_⟩
  rcases h.2 with hn | ⟨g, cap, cur, hv, h2, h3, rest⟩
  · exact .inl hn
  · rcases hX.2 with ⟨hv0, _⟩ | ⟨g', cap', cur', hv', h2', h3', _⟩
    · rw [hv] at hv0; simp at hv0
    · rw [hv] at hv'
      simp only [Value.slice.injEq, Option.some.injEq, Addr.mk.injEq, and_true, true_and] at hv'
      obtain ⟨rfl, rfl⟩ := hv'
      have := (Array.getElem?_eq_some_iff.1 h3').1
      exact .inr ⟨g, cap, cur, hv, h2, (row_far (by omega)).trans h3, rest⟩
/-! ### Turns of the TSB with an own list of entries -/
end Go.Proofs.Ytnbdoemnepfhdaa.Ts

namespace Go.Proofs.Ytnbdoemnepfhdaa.Ts
open Fld
open Pt (idxI)

/-- The document's list tells what the places hold, each place at most once. -/
structure Tie (p : Par) (l : List Wd) (T : Nat → Pl) : Prop where
  tells : ∀ i, i < p.n → getW l i = T i
  one : (l.map (·.i)).Nodup
  lt : ∀ x ∈ l, x.i < p.n
  no : ∀ x ∈ l, ¬ (x.t = 9223372036854775807 ∧ x.d = 0)
end Go.Proofs.Ytnbdoemnepfhdaa.Ts

namespace Go.Proofs.Ytnbdoemnepfhdaa.Ts
open Fld
open Pt (idxI)

open Go.ChangeShapes Go.WideShapes Go.ChangeAt Go.RowKit Go.Shelf
set_option maxRecDepth 100000
set_option maxHeartbeats 4000000
abbrev tcell (p : Par) (v : Value) : Array Value := #[.int .i64 p.s, .int .i64 (p.n : Int), v]
theorem below_eleven {w wr : World} {b : Nat} (hb : w.heap.size ≤ b) (h : Below w.heap.size w wr) (x0 x1 x2 x3 x4 x5 x6 x7 x8 x9 x10 : Value) :
    Below w.heap.size w (((((((((((wr.setCell ⟨b, 0, none⟩ x0).setCell ⟨b, 1, none⟩ x1).setCell ⟨b, 2, none⟩ x2).setCell ⟨b, 3, none⟩ x3).setCell ⟨b, 4, none⟩ x4).setCell ⟨b, 5, none⟩ x5).setCell ⟨b, 6, none⟩ x6).setCell ⟨b, 7, none⟩ x7).setCell ⟨b, 8, none⟩ x8).setCell ⟨b, 9, none⟩ x9).setCell ⟨b, 10, none⟩ x10) := by
  iterate 11 refine below_setN ?_ hb
  exact h
end Go.Proofs.Ytnbdoemnepfhdaa.Ts

namespace Go.Proofs.Ytnbdoemnepfhdaa.Ts
open Fld
open Pt (idxI)

open Go.ChangeShapes Go.WideShapes Go.ChangeAt Go.RowKit Go.Shelf
set_option maxRecDepth 100000
set_option maxHeartbeats 4000000
theorem TsbAt.two {w : World} {st sb bm st2 sb2 bm2 : Nat} {p q : Par} {T U : Nat → Pl} (h : TsbAt w st sb bm p T) (o : TsbAt w st2 sb2 bm2 q U) : st ≠ sb2 ∧ st ≠ bm2 ∧ sb ≠ bm2 := by
  obtain ⟨g, hm, _⟩ := h.mem
  obtain ⟨m, _, h1⟩ := hm.row
  obtain ⟨g', hm', _⟩ := o.mem
  obtain ⟨m', _, h1'⟩ := hm'.row
  obtain ⟨D', ⟨es', clock', h2', _⟩, _⟩ := hm'.words
  have h0 := h.row.row
  refine ⟨?_, ?_, ?_⟩
  · rintro rfl; rw [h0] at h1'; simp at h1'
  · rintro rfl; rw [h0] at h2'; simp at h2'
  · rintro rfl; rw [h1] at h2'; simp at h2'
/-- Another TSB beside. -/
structure OT (W w : World) (sb bm st2 sb2 bm2 : Nat) (q : Par) (U : Nat → Pl) : Prop where
  f2 : W.heap.size ≤ sb2
  f3 : W.heap.size ≤ bm2
  tsb : TsbAt w st2 sb2 bm2 q U
  n1 : sb ≠ sb2
  n2 : bm ≠ bm2
theorem OT.low {W w w' : World} {sb bm st2 sb2 bm2 : Nat} {q : Par} {U : Nat → Pl} (h : OT W w sb bm st2 sb2 bm2 q U) (hb : Below w.heap.size w w') : OT W w' sb bm st2 sb2 bm2 q U := ⟨h.f2, h.f3, h.tsb.low hb, h.n1, h.n2⟩
theorem OT.drewN {W w : World} {sb bm st2 sb2 bm2 : Nat} {q : Par} {U : Nat → Pl} (h : OT W w sb bm st2 sb2 bm2 q U) (n : Nat) : OT W (w.drewN n) sb bm st2 sb2 bm2 q U := h.low (drewN_low w n)
theorem OT.alloc {W w : World} {sb bm st2 sb2 bm2 : Nat} {q : Par} {U : Nat → Pl} (h : OT W w sb bm st2 sb2 bm2 q U) (o : Obj) : OT W (w.alloc o) sb bm st2 sb2 bm2 q U := h.low ((Below.refl _ _).alloc (Nat.le_refl _) _)
theorem OT.put {W w : World} {sb bm st2 sb2 bm2 b : Nat} {q : Par} {U : Nat → Pl} {c : Array Value} {t : TypeId} (h : OT W w sb bm st2 sb2 bm2 q U) (hb : w.heap[b]? = some (.cells c t (0, 0))) (ht : okT t) (o : Nat) (u : Value) : OT W (w.setCell ⟨b, o, none⟩ u) sb bm st2 sb2 bm2 q U := by
  obtain ⟨n1, n2, n3⟩ := h.tsb.ne_row hb ht
  exact ⟨h.f2, h.f3, h.tsb.same (Below.heap_setCell _ _ _ _ (Ne.symm n1)) (Below.heap_setCell _ _ _ _ (Ne.symm n2)) (Below.heap_setCell _ _ _ _ (Ne.symm n3)), h.n1, h.n2⟩
/-! ### What a law with two TSBs carries -/
end Go.Proofs.Ytnbdoemnepfhdaa.Ts

namespace Go.Proofs.Ytnbdoemnepfhdaa.Sw
open Fld Ts

open Go.ChangeShapes Go.WideShapes Go.ChangeAt Go.RowKit Go.Shelf
set_option maxRecDepth 100000
set_option maxHeartbeats 4000000
theorem TsbTo.turn {w wr : World} {st sb bm : Nat} {q : Par} {T : Nat → Pl} (h : TsbTo w wr st sb bm q T) : w.heap.size ≤ wr.heap.size := by
  obtain ⟨_, _, _, k⟩ := h; exact k.size
end Go.Proofs.Ytnbdoemnepfhdaa.Sw

