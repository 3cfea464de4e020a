/-
  Contracts and plain facts: LOwn, LList, LIns. Conditions: each says its own.
-/
import Derived.Test.YtnbdoemnepfhdaaGreatR23
import Derived.Maps.AppendAt
namespace Go.Proofs.YtnbdoemnepfhdaaGreat.Tl
open Fld
open Go.ChangeShapes Go.WideShapes Go.ChangeAt Go.RowKit Go.Shelf
set_option maxHeartbeats 1000000
set_option maxRecDepth 100000
def eleven (e : Ent) : List Value := [.int .i64 e.size, .int .i64 e.ctx, .int .u64 e.va, .int .u64 e.pa, .bool e.att.write, .bool e.att.priv, .bool e.att.exec, .bool e.att.lock, .bool e.att.global, .bool e.att.quiet, .bool e.valid]
theorem eleven_get (e : Ent) {k : Nat} (hk : k < 11) : (eleven e)[k]? = some (cellE e k) := by
  have : k = 0 ∨ k = 1 ∨ k = 2 ∨ k = 3 ∨ k = 4 ∨ k = 5 ∨ k = 6 ∨ k = 7 ∨ k = 8 ∨ k = 9 ∨ k = 10 := by omega
  rcases this with rfl | rfl | rfl | rfl | rfl | rfl | rfl | rfl | rfl | rfl | rfl <;> rfl
theorem rowL_snoc {T : Nat → Ent} {n : Nat} {e : Ent} (h : T n = e) : rowL T (n + 1) = rowL T n ++ eleven e := by
  apply List.ext_getElem?
  intro m
  by_cases hm : m < n * 11
  · rw [rowL_get T (by omega), List.getElem?_append_left (by rw [rowL_length]; omega), rowL_get T hm]
  · rw [List.getElem?_append_right (by rw [rowL_length]; omega), rowL_length]
    by_cases h2 : m < (n + 1) * 11
    · rw [rowL_get T h2, show m / 11 = n by omega, eleven_get e (by omega), h, show m - n * 11 = m % 11 by omega]
    · rw [List.getElem?_eq_none (by rw [rowL_length]; omega), List.getElem?_eq_none (by show 11 ≤ _; omega)]
theorem eleven_one (e : Ent) : ∀ u ∈ eleven e, u.oneCell' = true := by
  intro u hu
  simp only [eleven, List.mem_cons, List.not_mem_nil, or_false] at hu
  rcases hu with rfl | rfl | rfl | rfl | rfl | rfl | rfl | rfl | rfl | rfl | rfl <;> rfl
/-- A list of n entries that lies in new memory (from block B on). -/
abbrev DocAt (w : World) (B : Nat) (v : Value) (n : Nat) (R : Nat → Ent) : Prop := w.ownsRow B 30 11 v n (rowL R n)
theorem doc_at {w : World} {B n : Nat} {v : Value} {R : Nat → Ent} (h : DocAt w B v n R) (hn : 1 ≤ n) :
    ∃ g cap, v = .slice (some ⟨g, 0, none⟩) n cap ∧ n ≤ cap ∧ cap ≤ maxLen ∧ B ≤ g ∧ g < w.heap.size ∧ (∀ i o, i < n → i * 11 = o → w.cell? ⟨g, o, none⟩ = some (.int .i64 (R i).size) ∧ w.cell? ⟨g, o + 1, none⟩ = some (.int .i64 (R i).ctx) ∧ w.cell? ⟨g, o + 2, none⟩ = some (.int .u64 (R i).va) ∧ w.cell? ⟨g, o + 3, none⟩ = some (.int .u64 (R i).pa) ∧ w.cell? ⟨g, o + 4, none⟩ = some (.bool (R i).att.write) ∧ w.cell? ⟨g, o + 5, none⟩ = some (.bool (R i).att.priv) ∧ w.cell? ⟨g, o + 6, none⟩ = some (.bool (R i).att.exec) ∧ w.cell? ⟨g, o + 7, none⟩ = some (.bool (R i).att.lock) ∧ w.cell? ⟨g, o + 8, none⟩ = some (.bool (R i).att.global) ∧ w.cell? ⟨g, o + 9, none⟩ = some (.bool (R i).att.quiet) ∧ w.cell? ⟨g, o + 10, none⟩ = some (.bool (R i).valid)) ∧ (∀ j, w.frozen? ⟨g, j, none⟩ = false) := by
  have h0 := h
  rcases h.2 with ⟨_, h0⟩ | ⟨g, cap, cur, rfl, hB, hg, h1, h2, _, _⟩
  · omega
  · refine ⟨g, cap, rfl, h1, h2, hB, (Array.getElem?_eq_some_iff.1 hg).1, fun i o hi ho => ?_, fun j => by simp [World.frozen?, hg]⟩
    subst ho
    have hc : ∀ k, k < 11 → w.cell? ⟨g, i * 11 + k, none⟩ = some (cellE (R i) k) := fun k hk => by
      rw [h0.cellAt (i * 11 + k) (by omega), rowL_get R (by omega), show (i * 11 + k) / 11 = i by omega, show (i * 11 + k) % 11 = k by omega]
    exact ⟨hc 0 (by decide), hc 1 (by decide), hc 2 (by decide), hc 3 (by decide), hc 4 (by decide), hc 5 (by decide), hc 6 (by decide), hc 7 (by decide), hc 8 (by decide), hc 9 (by decide), hc 10 (by decide)⟩
theorem doc_low {w : World} {B C n : Nat} {v : Value} {R : Nat → Ent} (h : DocAt w B v n R) (hC : C ≤ B) : DocAt w C v n R := by
  refine ⟨h.1, ?_⟩
  rcases h.2 with hn | ⟨g, cap, cur, rfl, hb2, rest⟩
  · exact .inl hn
  · exact .inr ⟨g, cap, cur, rfl, by omega, rest⟩
theorem doc_below {w w' : World} {B n : Nat} {v : Value} {R : Nat → Ent} (h : DocAt w B v n R) (hb : Below w.heap.size w w') : DocAt w' B v n R := own_below h hb
/-- An entry that was laid into a new block: its cells. -/
theorem cell_eleven_new (w : World) (e : Ent) (t : TypeId) : ∀ j u, (eleven e)[j]? = some u → (w.alloc (.cells #[.int .i64 e.size, .int .i64 e.ctx, .int .u64 e.va, .int .u64 e.pa, .bool e.att.write, .bool e.att.priv, .bool e.att.exec, .bool e.att.lock, .bool e.att.global, .bool e.att.quiet, .bool e.valid] t)).cell? ((⟨w.heap.size, 0, none⟩ : Addr).add j) = some u := by
  intro j u hj
  have ha : (⟨w.heap.size, 0, none⟩ : Addr).add j = ⟨w.heap.size, j, none⟩ := by unfold Addr.add; split <;> simp_all
  rw [ha, cell_of_row _ _ j _ _ _ (heap_alloc_new w _)]
  rw [← hj, ← List.getElem?_toArray]; rfl
end Go.Proofs.YtnbdoemnepfhdaaGreat.Tl

namespace Go.Proofs.YtnbdoemnepfhdaaGreat.Tl
open Fld
open Go.ChangeShapes Go.WideShapes Go.ChangeAt Go.RowKit Go.Shelf
set_option maxHeartbeats 2000000
set_option maxRecDepth 100000
def nthE (l : List Ent) : Nat → Ent := fun i => l.getD i Ent.zero
abbrev ListAt (w : World) (B : Nat) (v : Value) (l : List Ent) : Prop := DocAt w B v l.length (nthE l)
theorem rowL_list (l : List Ent) (e : Ent) : rowL (nthE (l ++ [e])) (l ++ [e]).length = rowL (nthE l) l.length ++ eleven e := by
  rw [show (l ++ [e]).length = l.length + 1 by simp, rowL_snoc (e := e) (by simp [nthE])]
  rw [rowL_congr (T := nthE (l ++ [e])) (U := nthE l)]
  intro k hk
  simp [nthE, List.getElem?_append_left hk]
theorem list_nil (w : World) (B : Nat) : ListAt w B (.slice none 0 0) [] := World.ownsRow_nil _ _ _ _
end Go.Proofs.YtnbdoemnepfhdaaGreat.Tl

namespace Go.Proofs.YtnbdoemnepfhdaaGreat.Tl
open Fld
open Go.ChangeShapes Go.WideShapes Go.ChangeAt Go.RowKit Go.Shelf
set_option maxHeartbeats 2000000
set_option maxRecDepth 100000
theorem row_turn {w W : World} {bb b : Nat} {e : Ent} (h : RowE w b e) (ht : Turn w W bb) (hb : b ≠ bb) : RowE W b e := ⟨(ht.block b h.lt hb).trans h.row⟩
end Go.Proofs.YtnbdoemnepfhdaaGreat.Tl

