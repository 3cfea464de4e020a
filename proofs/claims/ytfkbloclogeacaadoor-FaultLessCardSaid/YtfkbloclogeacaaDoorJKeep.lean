/-
  Blocks that stay, one behind the other from a place on, over calls, draws and new blocks. Conditions: none.
-/
import Derived.Test.YtfkbloclogeacaaDoorJOpen
namespace Go.Proofs.YtfkbloclogeacaaDoor.Jd
open Fld
open Go.ChangeShapes Go.WideShapes Go.ChangeAt Go.RowKit
set_option maxHeartbeats 400000
/-- Of the world w only what is new has turned; from the block n on there stand the blocks of L. -/
structure Blk (w wr : World) (n : Nat) (L : List (Array Value × TypeId)) : Prop where
  below : Below w.heap.size w wr
  row : ∀ i x, L[i]? = some x → wr.heap[n + i]? = some (.cells x.1 x.2 (0, 0))
section
variable {w wr w2 : World} {n : Nat} {L : List (Array Value × TypeId)}
theorem Blk.nil (h : Below w.heap.size w wr) (n : Nat) : Blk w wr n [] := ⟨h, fun i x hx => by simp at hx⟩
theorem Blk.call (h : Blk w wr n L) (hb : Below wr.heap.size wr w2) : Blk w w2 n L :=
  ⟨h.below.trans (hb.mono h.below.size), fun i x hx => (hb.block _ (row_lt (h.row i x hx))).trans (h.row i x hx)⟩
theorem Blk.alloc (h : Blk w wr n L) (o : Obj) : Blk w (wr.alloc o) n L := h.call ((Below.refl _ _).alloc (Nat.le_refl _) o)
theorem Blk.drew (h : Blk w wr n L) : Blk w wr.drew n L := ⟨h.below.drew, h.row⟩
theorem Blk.drewN (h : Blk w wr n L) (k : Nat) : Blk w (wr.drewN k) n L := ⟨below_drewN h.below k, h.row⟩
theorem Blk.push (h : Blk w wr n L) (c : Array Value) (t : TypeId) (hs : wr.heap.size = n + L.length) : Blk w (wr.alloc (.cells c t)) n (L ++ [(c, t)]) ∧ (wr.alloc (.cells c t)).heap.size = n + (L ++ [(c, t)]).length := by
  refine ⟨⟨h.below.alloc h.below.size _, fun i x hx => ?_⟩, by simp; omega⟩
  by_cases e : i < L.length
  · rw [List.getElem?_append_left e] at hx
    rw [Below.heap_alloc _ _ _ (by omega)]
    exact h.row i x hx
  · rw [List.getElem?_append_right (by omega)] at hx
    obtain ⟨hlt, he⟩ := List.getElem?_eq_some_iff.1 hx
    simp at hlt
    have e2 : i = L.length := by omega
    subst e2
    simp at he
    subst he
    rw [← hs]
    exact heap_alloc_new _ _
theorem Blk.tab (h : Blk w wr n L) (hT : Tab w) : Tab wr := hT.below h.below (Nat.le_refl _)
end
/-- The cells of attributes, of an access, of an entry. -/
abbrev cA (a : Att) : Array Value × TypeId := (#[.bool a.write, .bool a.priv, .bool a.exec, .bool a.lock, .bool a.global, .bool a.quiet], 23)
abbrev cX (x : Acc) : Array Value × TypeId := (#[.int .i64 x.kind, .bool x.priv, .int .u64 x.va], 28)
abbrev cE (e : Ent) : Array Value × TypeId := (#[.int .i64 e.size, .int .i64 e.ctx, .int .u64 e.va, .int .u64 e.pa, .bool e.att.write, .bool e.att.priv, .bool e.att.exec, .bool e.att.lock, .bool e.att.global, .bool e.att.quiet, .bool e.valid], 26)
theorem Blk.att {w wr : World} {n : Nat} {L : List (Array Value × TypeId)} (h : Blk w wr n L) (i : Nat) {b : Nat} (hb : n + i = b) {a : Att} (hi : L[i]? = some (cA a)) :
    wr.cell? ⟨b, 0, none⟩ = some (.bool a.write) ∧ wr.cell? ⟨b, 1, none⟩ = some (.bool a.priv) ∧ wr.cell? ⟨b, 2, none⟩ = some (.bool a.exec) ∧ wr.cell? ⟨b, 3, none⟩ = some (.bool a.lock) ∧ wr.cell? ⟨b, 4, none⟩ = some (.bool a.global) ∧ wr.cell? ⟨b, 5, none⟩ = some (.bool a.quiet) := by subst hb; exact six_cells (h.row i _ hi)
theorem Blk.acc {w wr : World} {n : Nat} {L : List (Array Value × TypeId)} (h : Blk w wr n L) (i : Nat) {b : Nat} (hb : n + i = b) {x : Acc} (hi : L[i]? = some (cX x)) :
    wr.cell? ⟨b, 0, none⟩ = some (.int .i64 x.kind) ∧ wr.cell? ⟨b, 1, none⟩ = some (.bool x.priv) ∧ wr.cell? ⟨b, 2, none⟩ = some (.int .u64 x.va) := by subst hb; exact three_cells (h.row i _ hi)
theorem Blk.ent {w wr : World} {n : Nat} {L : List (Array Value × TypeId)} (h : Blk w wr n L) (i : Nat) {b : Nat} (hb : n + i = b) {e : Ent} (hi : L[i]? = some (cE e)) :
    wr.cell? ⟨b, 0, none⟩ = some (.int .i64 e.size) ∧ wr.cell? ⟨b, 1, none⟩ = some (.int .i64 e.ctx) ∧ wr.cell? ⟨b, 2, none⟩ = some (.int .u64 e.va) ∧ wr.cell? ⟨b, 3, none⟩ = some (.int .u64 e.pa) ∧ wr.cell? ⟨b, 4, none⟩ = some (.bool e.att.write) ∧ wr.cell? ⟨b, 5, none⟩ = some (.bool e.att.priv) ∧ wr.cell? ⟨b, 6, none⟩ = some (.bool e.att.exec) ∧ wr.cell? ⟨b, 7, none⟩ = some (.bool e.att.lock) ∧ wr.cell? ⟨b, 8, none⟩ = some (.bool e.att.global) ∧ wr.cell? ⟨b, 9, none⟩ = some (.bool e.att.quiet) ∧ wr.cell? ⟨b, 10, none⟩ = some (.bool e.valid) := by subst hb; exact (RowE.mk (h.row i _ hi)).cells
theorem set_far {w : World} {b c o : Nat} {v : Value} (h : c ≠ b) : (w.setCell ⟨b, o, none⟩ v).heap[c]? = w.heap[c]? := by
  simp [World.setCell, Array.getElem?_modify, Ne.symm h]
/-- An access's box that is stored into, whole: the last of the blocks. -/
theorem Blk.put {w wr : World} {n : Nat} {L : List (Array Value × TypeId)} {x : Acc} (h : Blk w wr n (L ++ [cX x])) (hn : w.heap.size ≤ n) (y : Acc) {b : Nat} (hb : n + L.length = b) :
    Blk w (((wr.setCell ⟨b, 0, none⟩ (.int .i64 y.kind)).setCell ⟨b, 1, none⟩ (.bool y.priv)).setCell ⟨b, 2, none⟩ (.int .u64 y.va)) n (L ++ [cX y]) := by
  subst hb
  refine ⟨below_setN (below_setN (below_setN h.below (by omega)) (by omega)) (by omega), fun i z hz => ?_⟩
  by_cases e : i < L.length
  · rw [List.getElem?_append_left e] at hz
    rw [set_far (by omega), set_far (by omega), set_far (by omega)]
    exact h.row i z (by rw [List.getElem?_append_left e]; exact hz)
  · rw [List.getElem?_append_right (by omega)] at hz
    obtain ⟨hlt, he⟩ := List.getElem?_eq_some_iff.1 hz
    simp at hlt
    have e2 : i = L.length := by omega
    subst e2
    simp at he
    subst he
    have h0 := h.row L.length (cX x) (by simp)
    have h1 := set_row h0 0 (.int .i64 y.kind)
    have h2 := set_row h1 1 (.bool y.priv)
    have h3 := set_row h2 2 (.int .u64 y.va)
    clear h0 h1 h2
    simp only [List.setIfInBounds_toArray, List.set_cons_succ, List.set_cons_zero] at h3
    exact h3
theorem less_true {a b : Att} (h : lessB a b = true) (W : World) :
    Calls Tryd.prog 24 #[.agg #[.bool a.write, .bool a.priv, .bool a.exec, .bool a.lock, .bool a.global, .bool a.quiet], .agg #[.bool b.write, .bool b.priv, .bool b.exec, .bool b.lock, .bool b.global, .bool b.quiet]] W fun e w' => e = .returned (.bool true) ∧ Below W.heap.size W w' := by
  have := less_any a b W; rw [h] at this; exact this
end Go.Proofs.YtfkbloclogeacaaDoor.Jd
