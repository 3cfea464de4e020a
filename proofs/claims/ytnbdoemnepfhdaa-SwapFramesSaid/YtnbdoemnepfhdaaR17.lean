/-
  Contracts and plain facts: LState, LProg. Conditions: each says its own.
-/
import Derived.Test.YtnbdoemnepfhdaaR7
import Derived.Test.YtnbdoemnepfhdaaR15
import Derived.Test.YtnbdoemnepfhdaaR16
import Derived.Lib.MinMax
import Derived.Lib.JoinLaws
import Derived.Deep.OwnRows
import Derived.RegionTactic
import Derived.ChangeAlike
import Derived.Laws.ResultCell
import Derived.BigQuiet
namespace Go.Proofs.Ytnbdoemnepfhdaa.Tl
open Fld
open Go.ChangeShapes Go.WideShapes Go.ChangeAt Go.RowKit
set_option maxHeartbeats 1000000
theorem heap_set {w : World} {b o : Nat} {c : Array Value} {e : TypeId} {f : Nat × Nat} (h : w.heap[b]? = some (.cells c e f)) (v : Value) : (w.setCell ⟨b, o, none⟩ v).heap[b]? = some (.cells (c.setIfInBounds o v) e f) := by
  simp [World.setCell, Array.getElem?_modify, h]
/-- Of what was in w all stays but block bb. -/
structure Turn (w w' : World) (bb : Nat) : Prop where
  os : w'.os = w.os
  tape : w'.tape = w.tape
  output : w'.output = w.output
  size : w.heap.size ≤ w'.heap.size
  block : ∀ k, k < w.heap.size → k ≠ bb → w'.heap[k]? = w.heap[k]?
theorem Turn.refl (w : World) (bb : Nat) : Turn w w bb := ⟨rfl, rfl, rfl, Nat.le_refl _, fun _ _ _ => rfl⟩
theorem Turn.trans {a b c : World} {bb : Nat} (h : Turn a b bb) (k : Turn b c bb) : Turn a c bb :=
  ⟨k.os.trans h.os, k.tape.trans h.tape, k.output.trans h.output, Nat.le_trans h.size k.size, fun i hi h1 =>
    (k.block i (Nat.lt_of_lt_of_le hi h.size) h1).trans (h.block i hi h1)⟩
theorem Turn.of_below {a b : World} (bb : Nat) (k : Below a.heap.size a b) : Turn a b bb := ⟨k.os, k.tape, k.output, k.size, fun i hi _ => k.block i hi⟩
theorem Turn.call {a b c : World} {bb : Nat} (h : Turn a b bb) (k : Below b.heap.size b c) : Turn a c bb := h.trans (Turn.of_below _ k)
theorem Turn.drewN {a b : World} {bb : Nat} (h : Turn a b bb) (m : Nat) : Turn a (b.drewN m) bb := ⟨h.os, h.tape, h.output, h.size, h.block⟩
theorem Turn.drew {a b : World} {bb : Nat} (h : Turn a b bb) : Turn a b.drew bb := ⟨h.os, h.tape, h.output, h.size, h.block⟩
theorem Turn.alloc {a b : World} {bb : Nat} (h : Turn a b bb) (o : Obj) : Turn a (b.alloc o) bb :=
  h.trans (Turn.of_below _ ((Below.refl _ _).alloc (Nat.le_refl _) o))
theorem Turn.setCell {a b : World} {bb : Nat} (h : Turn a b bb) {p : Addr} (hp : p.block = bb ∨ a.heap.size ≤ p.block) (u : Value) : Turn a (b.setCell p u) bb :=
  ⟨h.os, h.tape, h.output, by simpa [World.setCell] using h.size, fun i hi h1 => (Below.heap_setCell _ _ _ _ (by omega)).trans (h.block i hi h1)⟩
/-- Places that were made behind B: nothing below B has turned. -/
theorem Turn.to_below {a b : World} {bb B : Nat} (h : Turn a b bb) (h1 : B ≤ bb) (hB : B ≤ a.heap.size) : Below B a b :=
  ⟨h.os, h.tape, h.output, h.size, fun k hk => h.block k (by omega) (by omega)⟩
end Go.Proofs.Ytnbdoemnepfhdaa.Tl

namespace Go.Proofs.Ytnbdoemnepfhdaa.Tl
open Fld
open Go.ChangeShapes Go.WideShapes Go.ChangeAt Go.RowKit
set_option maxHeartbeats 1000000
set_option maxRecDepth 100000
/-- How many places New makes. -/
def newN (n : Int) : Nat := (min (max n 1) 64).toNat
end Go.Proofs.Ytnbdoemnepfhdaa.Tl

