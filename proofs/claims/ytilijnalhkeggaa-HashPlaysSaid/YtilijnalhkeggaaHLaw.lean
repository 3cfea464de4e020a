/-
  What is carried over the laws of layer 11 beside the table: two keys in boxes. Conditions: none.
-/
import Derived.Test.YtilijnalhkeggaaHOpen
namespace Go.Proofs.Ytilijnalhkeggaa.Hs
open Fld
open Go.ChangeShapes Go.WideShapes Go.ChangeAt Go.RowKit Go.Maps
set_option maxHeartbeats 1000000
set_option maxRecDepth 100000
/-- Two keys in boxes. -/
structure TK (w : World) (a : Nat) (k : Ky) (b : Nat) (g : Ky) : Prop where
  x : w.heap[a]? = some (.cells #[.int .i64 k.sp, .int .u64 k.va, .int .i64 k.sz] 33 (0, 0))
  y : w.heap[b]? = some (.cells #[.int .i64 g.sp, .int .u64 g.va, .int .i64 g.sz] 33 (0, 0))
theorem blk_low {w w' : World} {a : Nat} {o : Obj} (h : w.heap[a]? = some o) (hb : Below w.heap.size w w') : w'.heap[a]? = some o :=
  (hb.block a (Array.getElem?_eq_some_iff.1 h).1).trans h
theorem TK.low {w w' : World} {a b : Nat} {k g : Ky} (h : TK w a k b g) (hb : Below w.heap.size w w') : TK w' a k b g := ⟨blk_low h.x hb, blk_low h.y hb⟩
theorem TK.drew {w : World} {a b : Nat} {k g : Ky} (h : TK w a k b g) : TK w.drew a k b g := ⟨h.x, h.y⟩
theorem TK.drewN {w : World} {a b : Nat} {k g : Ky} (h : TK w a k b g) (m : Nat) : TK (w.drewN m) a k b g := ⟨h.x, h.y⟩
theorem TK.alloc {w : World} {a b : Nat} {k g : Ky} (h : TK w a k b g) (o : Obj) : TK (w.alloc o) a k b g := h.low ((Below.refl _ _).alloc (Nat.le_refl _) _)
theorem key_cells {w : World} {a : Nat} {k : Ky} {t : TypeId} (h : w.heap[a]? = some (.cells #[.int .i64 k.sp, .int .u64 k.va, .int .i64 k.sz] t (0, 0))) : w.cell? ⟨a, 0, none⟩ = some (.int .i64 k.sp) ∧ w.cell? ⟨a, 1, none⟩ = some (.int .u64 k.va) ∧ w.cell? ⟨a, 2, none⟩ = some (.int .i64 k.sz) :=
  ⟨by simp [World.cell?, h], by simp [World.cell?, h], by simp [World.cell?, h]⟩
theorem TK.cells {w : World} {a b : Nat} {k g : Ky} (h : TK w a k b g) : (w.cell? ⟨a, 0, none⟩ = some (.int .i64 k.sp) ∧ w.cell? ⟨a, 1, none⟩ = some (.int .u64 k.va) ∧ w.cell? ⟨a, 2, none⟩ = some (.int .i64 k.sz)) ∧ w.cell? ⟨b, 0, none⟩ = some (.int .i64 g.sp) ∧ w.cell? ⟨b, 1, none⟩ = some (.int .u64 g.va) ∧ w.cell? ⟨b, 2, none⟩ = some (.int .i64 g.sz) := ⟨key_cells h.x, key_cells h.y⟩
theorem lo_step {w a b : World} (h : Below w.heap.size w a) (k : Below a.heap.size a b) : Below w.heap.size w b := h.trans (k.mono h.size)
theorem lo_drew {w a : World} (h : Below w.heap.size w a) : Below w.heap.size w a.drew := h.drew
theorem lo_drewN {w a : World} (h : Below w.heap.size w a) (m : Nat) : Below w.heap.size w (a.drewN m) := below_drewN h m
theorem lo_alloc {w a : World} (h : Below w.heap.size w a) (o : Obj) : Below w.heap.size w (a.alloc o) := h.alloc h.size o
end Go.Proofs.Ytilijnalhkeggaa.Hs
