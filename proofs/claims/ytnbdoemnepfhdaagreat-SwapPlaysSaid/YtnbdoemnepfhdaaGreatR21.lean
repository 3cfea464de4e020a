/-
  Contracts and plain facts: LState, LProg. Conditions: each says its own.
-/
import Derived.Test.YtnbdoemnepfhdaaGreatR7
import Derived.Test.YtnbdoemnepfhdaaGreatR19
import Derived.Test.YtnbdoemnepfhdaaGreatR20
import Derived.Lib.MinMax
import Derived.Lib.JoinLaws
import Derived.Deep.OwnRows
import Derived.RegionTactic
import Derived.ChangeAlike
import Derived.Laws.ResultCell
import Derived.BigQuiet
namespace Go.Proofs.YtnbdoemnepfhdaaGreat.Tl
open Fld
open Go.ChangeShapes Go.WideShapes Go.ChangeAt Go.RowKit
set_option maxHeartbeats 1000000
/-- An entry's cells. -/
def cellE (e : Ent) : Nat → Value
  | 0 => .int .i64 e.size
  | 1 => .int .i64 e.ctx
  | 2 => .int .u64 e.va
  | 3 => .int .u64 e.pa
  | 4 => .bool e.att.write
  | 5 => .bool e.att.priv
  | 6 => .bool e.att.exec
  | 7 => .bool e.att.lock
  | 8 => .bool e.att.global
  | 9 => .bool e.att.quiet
  | _ => .bool e.valid
def rowL (T : Nat → Ent) (n : Nat) : List Value := (List.range (n * 11)).map fun m => cellE (T (m / 11)) (m % 11)
def rowT (T : Nat → Ent) (n : Nat) : Array Value := (rowL T n).toArray
theorem rowL_length (T : Nat → Ent) (n : Nat) : (rowL T n).length = n * 11 := by simp [rowL]
theorem rowL_get (T : Nat → Ent) {n m : Nat} (h : m < n * 11) : (rowL T n)[m]? = some (cellE (T (m / 11)) (m % 11)) := by simp [rowL, h]
theorem rowT_get (T : Nat → Ent) {n m : Nat} (h : m < n * 11) : (rowT T n)[m]? = some (cellE (T (m / 11)) (m % 11)) := by simp [rowT, rowL, h]
theorem rowT_congr {T U : Nat → Ent} {n : Nat} (h : ∀ k, k < n → T k = U k) : rowT T n = rowT U n := by
  apply Array.ext_getElem?
  intro m
  by_cases hm : m < n * 11
  · rw [rowT_get T hm, rowT_get U hm, h _ (by omega)]
  · simp [rowT, rowL, hm]
theorem rowL_congr {T U : Nat → Ent} {n : Nat} (h : ∀ k, k < n → T k = U k) : rowL T n = rowL U n := by
  have := congrArg Array.toList (rowT_congr h); simpa [rowT] using this
theorem heap_set {w : World} {b o : Nat} {c : Array Value} {e : TypeId} {f : Nat × Nat} (h : w.heap[b]? = some (.cells c e f)) (v : Value) : (w.setCell ⟨b, o, none⟩ v).heap[b]? = some (.cells (c.setIfInBounds o v) e f) := by
  simp [World.setCell, Array.getElem?_modify, h]
/-- Of what was in w all stays but block bb. -/
structure Turn (w w' : World) (bb : Nat) : Prop where
  os : w'.os = w.os
  tape : w'.tape = w.tape
  output : w'.output = w.output
  size : w.heap.size ≤ w'.heap.size
  block : ∀ k, k < w.heap.size → k ≠ bb → w'.heap[k]? = w.heap[k]?
theorem Turn.refl (w : World) (bb : Nat) : Turn w w bb := ⟨rfl, rfl, rfl, Nat.le_refl _, fun _ _ _ => rfl⟩
theorem Turn.trans {a b c : World} {bb : Nat} (h : Turn a b bb) (k : Turn b c bb) : Turn a c bb :=
  ⟨k.os.trans h.os, k.tape.trans h.tape, k.output.trans h.output, Nat.le_trans h.size k.size, fun i hi h1 =>
    (k.block i (Nat.lt_of_lt_of_le hi h.size) h1).trans (h.block i hi h1)⟩
theorem Turn.of_below {a b : World} (bb : Nat) (k : Below a.heap.size a b) : Turn a b bb := ⟨k.os, k.tape, k.output, k.size, fun i hi _ => k.block i hi⟩
theorem Turn.call {a b c : World} {bb : Nat} (h : Turn a b bb) (k : Below b.heap.size b c) : Turn a c bb := h.trans (Turn.of_below _ k)
theorem Turn.drewN {a b : World} {bb : Nat} (h : Turn a b bb) (m : Nat) : Turn a (b.drewN m) bb := ⟨h.os, h.tape, h.output, h.size, h.block⟩
theorem Turn.drew {a b : World} {bb : Nat} (h : Turn a b bb) : Turn a b.drew bb := ⟨h.os, h.tape, h.output, h.size, h.block⟩
theorem Turn.alloc {a b : World} {bb : Nat} (h : Turn a b bb) (o : Obj) : Turn a (b.alloc o) bb :=
  h.trans (Turn.of_below _ ((Below.refl _ _).alloc (Nat.le_refl _) o))
theorem Turn.setCell {a b : World} {bb : Nat} (h : Turn a b bb) {p : Addr} (hp : p.block = bb ∨ a.heap.size ≤ p.block) (u : Value) : Turn a (b.setCell p u) bb :=
  ⟨h.os, h.tape, h.output, by simpa [World.setCell] using h.size, fun i hi h1 => (Below.heap_setCell _ _ _ _ (by omega)).trans (h.block i hi h1)⟩
/-- Places that were made behind B: nothing below B has turned. -/
theorem Turn.to_below {a b : World} {bb B : Nat} (h : Turn a b bb) (h1 : B ≤ bb) (hB : B ≤ a.heap.size) : Below B a b :=
  ⟨h.os, h.tape, h.output, h.size, fun k hk => h.block k (by omega) (by omega)⟩
/-- An entry is laid into a new box. -/
theorem box_below {w0 X w : World} {e : Ent} (h0 : w0.heap.size ≤ X.heap.size) (h : Below w0.heap.size w0 w) : Below w0.heap.size w0 (((((((((((w.setCell ⟨X.heap.size, 0, none⟩ (.int .i64 e.size)).setCell ⟨X.heap.size, 1, none⟩ (.int .i64 e.ctx)).setCell ⟨X.heap.size, 2, none⟩ (.int .u64 e.va)).setCell ⟨X.heap.size, 3, none⟩ (.int .u64 e.pa)).setCell ⟨X.heap.size, 4, none⟩ (.bool e.att.write)).setCell ⟨X.heap.size, 5, none⟩ (.bool e.att.priv)).setCell ⟨X.heap.size, 6, none⟩ (.bool e.att.exec)).setCell ⟨X.heap.size, 7, none⟩ (.bool e.att.lock)).setCell ⟨X.heap.size, 8, none⟩ (.bool e.att.global)).setCell ⟨X.heap.size, 9, none⟩ (.bool e.att.quiet)).setCell ⟨X.heap.size, 10, none⟩ (.bool e.valid)) := by
  iterate 11 refine below_setN ?_ h0
  exact h
theorem infoE : (Tryz.prog.info? 30).map (fun i => (i.zero, i.size, i.bytes)) = some (some (.agg #[.int .i64 0, .int .i64 0, .int .u64 0, .int .u64 0, .bool false, .bool false, .bool false, .bool false, .bool false, .bool false, .bool false]), 11, 40) := by kernel_rfl
/-- The results of a function that answers an entry and one thing more. -/
theorem res_ent {fn : Func} {p u : Tmp} (h : fn.results = #[.cell p 30, .tmp u]) (tmps : Array Value) (w : World) (g : Nat) (e : Ent) (hp : tmps.getD p undef = .pointer (some ⟨g, 0, none⟩)) (hR : RowE w g e) :
    (results fn tmps).run Tryz.prog w = .ok (.tuple #[.agg #[.int .i64 e.size, .int .i64 e.ctx, .int .u64 e.va, .int .u64 e.pa, .bool e.att.write, .bool e.att.priv, .bool e.att.exec, .bool e.att.lock, .bool e.att.global, .bool e.att.quiet, .bool e.valid], tmps.getD u undef]) w := by
  have hl := run_loadVar_row (P := Tryz.prog) w g 30 30 _ (0, 0) _ hR.row Tryz.underlying30 (by kernel_rfl) (by kernel_rfl)
  rw [results_cell_tmp h, hp]
  simp only [asAddr, Sem.run_pure, Result.andThen_ok, hl]
theorem ret_entB {E F : Ent} {i k : Bool} (h : E = F) (g : i = k) : Ending.returned (.tuple #[.agg #[.int .i64 F.size, .int .i64 F.ctx, .int .u64 F.va, .int .u64 F.pa, .bool F.att.write, .bool F.att.priv, .bool F.att.exec, .bool F.att.lock, .bool F.att.global, .bool F.att.quiet, .bool F.valid], .bool k]) = .returned (.tuple #[.agg #[.int .i64 E.size, .int .i64 E.ctx, .int .u64 E.va, .int .u64 E.pa, .bool E.att.write, .bool E.att.priv, .bool E.att.exec, .bool E.att.lock, .bool E.att.global, .bool E.att.quiet, .bool E.valid], .bool i]) := by subst h; subst g; rfl
end Go.Proofs.YtnbdoemnepfhdaaGreat.Tl

namespace Go.Proofs.YtnbdoemnepfhdaaGreat.Tl
open Fld
open Go.ChangeShapes Go.WideShapes Go.ChangeAt Go.RowKit
set_option maxHeartbeats 1000000
set_option maxRecDepth 100000
/-- How many places New makes. -/
def newN (n : Int) : Nat := (min (max n 1) 64).toNat
end Go.Proofs.YtnbdoemnepfhdaaGreat.Tl

