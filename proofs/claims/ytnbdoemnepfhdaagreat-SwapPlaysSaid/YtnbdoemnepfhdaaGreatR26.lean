/-
  Contracts and plain facts: Live, LDoc2, LDoc3. Conditions: each says its own.
-/
import Derived.Test.YtnbdoemnepfhdaaGreatR24
import Derived.Laws.EntriesVeiled
import Derived.Deep.DeepCutAuto
import Derived.Test.YtnbdoemnepfhdaaGreatR18
namespace Go.Proofs.YtnbdoemnepfhdaaGreat.Tl
open Fld
open Go.ChangeShapes Go.WideShapes Go.ChangeAt Go.RowKit Go.Shelf
set_option maxHeartbeats 2000000
set_option maxRecDepth 100000
def ex (va : Int) : Ent := ⟨0, 1, va, 0, ⟨false, false, false, false, false, false⟩, true⟩
end Go.Proofs.YtnbdoemnepfhdaaGreat.Tl

namespace Go.Proofs.YtnbdoemnepfhdaaGreat.Tl
open Fld
open Go.ChangeShapes Go.WideShapes Go.ChangeAt Go.RowKit Go.Shelf
set_option maxHeartbeats 4000000
set_option maxRecDepth 100000
/-- A boxed entry, and a list of entries. -/
structure DE (w wr : World) (eb : Nat) (e : Ent) (B g cap n : Nat) (R : Nat → Ent) : Prop where
  bel : Below w.heap.size w wr
  row : RowE wr eb e
  doc : DocAt wr B (.slice (some ⟨g, 0, none⟩) n cap) n R
theorem DE.low {w wr w' : World} {eb B g cap n : Nat} {e : Ent} {R : Nat → Ent} (h : DE w wr eb e B g cap n R) (hb : Below wr.heap.size wr w') : DE w w' eb e B g cap n R :=
  ⟨h.bel.trans (hb.mono h.bel.size), h.row.below hb h.row.lt, doc_below h.doc hb⟩
theorem DE.drew {w wr : World} {eb B g cap n : Nat} {e : Ent} {R : Nat → Ent} (h : DE w wr eb e B g cap n R) : DE w wr.drew eb e B g cap n R := ⟨h.bel.drew, h.row.drew, h.doc⟩
theorem doc_cells {w : World} {B g cap n : Nat} {R : Nat → Ent} (h : DocAt w B (.slice (some ⟨g, 0, none⟩) n cap) n R) {i o : Nat} (hi : i < n) (ho : i * 11 = o) : w.cell? ⟨g, o, none⟩ = some (.int .i64 (R i).size) ∧ w.cell? ⟨g, o + 1, none⟩ = some (.int .i64 (R i).ctx) ∧ w.cell? ⟨g, o + 2, none⟩ = some (.int .u64 (R i).va) ∧ w.cell? ⟨g, o + 3, none⟩ = some (.int .u64 (R i).pa) ∧ w.cell? ⟨g, o + 4, none⟩ = some (.bool (R i).att.write) ∧ w.cell? ⟨g, o + 5, none⟩ = some (.bool (R i).att.priv) ∧ w.cell? ⟨g, o + 6, none⟩ = some (.bool (R i).att.exec) ∧ w.cell? ⟨g, o + 7, none⟩ = some (.bool (R i).att.lock) ∧ w.cell? ⟨g, o + 8, none⟩ = some (.bool (R i).att.global) ∧ w.cell? ⟨g, o + 9, none⟩ = some (.bool (R i).att.quiet) ∧ w.cell? ⟨g, o + 10, none⟩ = some (.bool (R i).valid) := by
  obtain ⟨g', cap', hv, _, _, _, _, k5, _⟩ := doc_at h (by omega)
  simp only [Value.slice.injEq, Option.some.injEq, Addr.mk.injEq, and_true, true_and] at hv
  obtain ⟨rfl, rfl⟩ := hv
  exact k5 i o hi ho
theorem DE.sc {w wr : World} {eb B g cap n : Nat} {e : Ent} {R : Nat → Ent} {i o : Nat} (hi : i < n) (ho : i * 11 = o) (h : DE w wr eb e B g cap n R) : wr.cell? ⟨eb, 0, none⟩ = some (.int .i64 e.size) ∧ wr.cell? ⟨eb, 1, none⟩ = some (.int .i64 e.ctx) ∧ wr.cell? ⟨eb, 2, none⟩ = some (.int .u64 e.va) ∧ wr.cell? ⟨eb, 3, none⟩ = some (.int .u64 e.pa) ∧ wr.cell? ⟨eb, 4, none⟩ = some (.bool e.att.write) ∧ wr.cell? ⟨eb, 5, none⟩ = some (.bool e.att.priv) ∧ wr.cell? ⟨eb, 6, none⟩ = some (.bool e.att.exec) ∧ wr.cell? ⟨eb, 7, none⟩ = some (.bool e.att.lock) ∧ wr.cell? ⟨eb, 8, none⟩ = some (.bool e.att.global) ∧ wr.cell? ⟨eb, 9, none⟩ = some (.bool e.att.quiet) ∧ wr.cell? ⟨eb, 10, none⟩ = some (.bool e.valid) ∧ wr.cell? ⟨g, o, none⟩ = some (.int .i64 (R i).size) ∧ wr.cell? ⟨g, o + 1, none⟩ = some (.int .i64 (R i).ctx) ∧ wr.cell? ⟨g, o + 2, none⟩ = some (.int .u64 (R i).va) ∧ wr.cell? ⟨g, o + 3, none⟩ = some (.int .u64 (R i).pa) ∧ wr.cell? ⟨g, o + 4, none⟩ = some (.bool (R i).att.write) ∧ wr.cell? ⟨g, o + 5, none⟩ = some (.bool (R i).att.priv) ∧ wr.cell? ⟨g, o + 6, none⟩ = some (.bool (R i).att.exec) ∧ wr.cell? ⟨g, o + 7, none⟩ = some (.bool (R i).att.lock) ∧ wr.cell? ⟨g, o + 8, none⟩ = some (.bool (R i).att.global) ∧ wr.cell? ⟨g, o + 9, none⟩ = some (.bool (R i).att.quiet) ∧ wr.cell? ⟨g, o + 10, none⟩ = some (.bool (R i).valid) := by
  obtain ⟨x0, x1, x2, x3, x4, x5, x6, x7, x8, x9, x10⟩ := h.row.cells
  exact ⟨x0, x1, x2, x3, x4, x5, x6, x7, x8, x9, x10, doc_cells h.doc hi ho⟩
end Go.Proofs.YtnbdoemnepfhdaaGreat.Tl

namespace Go.Proofs.YtnbdoemnepfhdaaGreat.Tl
open Fld
open Go.ChangeShapes Go.WideShapes Go.ChangeAt Go.RowKit Go.Shelf
set_option maxHeartbeats 4000000
set_option maxRecDepth 100000
/-- Demap under way: what is left of the list, and how many are gone. -/
structure DM (w wr : World) (B n : Nat) (R : Nat → Ent) (p : Ent → Bool) (j : Nat) (v : Value) : Prop where
  bel : Below w.heap.size w wr
  out : DocAt wr B v n (dropE R p j)
theorem DM.low {w wr w' : World} {B n j : Nat} {R : Nat → Ent} {p : Ent → Bool} {v : Value} (h : DM w wr B n R p j v) (hb : Below wr.heap.size wr w') : DM w w' B n R p j v := ⟨h.bel.trans (hb.mono h.bel.size), doc_below h.out hb⟩
theorem rsame_any (l : List Ent) (u v : Value) (B C : Nat) (w : World) (hl : l.length ≤ 1000000) (h1 : ListAt w B u l) (h2 : ListAt w C v l) :
    Calls Tryz.prog 16 #[u, v] w fun r w' => r = .returned (.bool true) ∧ Below w.heap.size w w' := by
  obtain ⟨ao, cap, rfl⟩ := own_shape h1
  obtain ⟨ao2, cap2, rfl⟩ := own_shape h2
  obtain ⟨m, hm⟩ : ∃ m, l.length = m := ⟨_, rfl⟩
  have HC := Lib.hid (fun (j o : Nat) (hj : j < m) (ho : j * 11 = o) => (by
    subst hm
    obtain ⟨g, c, hv, a1, a2, _, _, a3, _⟩ := doc_at h1 (by omega)
    obtain ⟨g', c', hv', b1, b2, _, _, b3, _⟩ := doc_at h2 (by omega)
    simp only [Value.slice.injEq, true_and] at hv hv'
    obtain ⟨rfl, rfl⟩ := hv
    obtain ⟨rfl, rfl⟩ := hv'
    exact ⟨g, g', rfl, rfl, a1, a2, b1, b2, a3 j o hj ho, b3 j o hj ho⟩ : ∃ g g', ao = some ⟨g, 0, none⟩ ∧ ao2 = some ⟨g', 0, none⟩ ∧ m ≤ cap ∧ cap ≤ maxLen ∧ m ≤ cap2 ∧ cap2 ≤ maxLen ∧ (w.cell? ⟨g, o, none⟩ = some (.int .i64 (nthE l j).size) ∧ w.cell? ⟨g, o + 1, none⟩ = some (.int .i64 (nthE l j).ctx) ∧ w.cell? ⟨g, o + 2, none⟩ = some (.int .u64 (nthE l j).va) ∧ w.cell? ⟨g, o + 3, none⟩ = some (.int .u64 (nthE l j).pa) ∧ w.cell? ⟨g, o + 4, none⟩ = some (.bool (nthE l j).att.write) ∧ w.cell? ⟨g, o + 5, none⟩ = some (.bool (nthE l j).att.priv) ∧ w.cell? ⟨g, o + 6, none⟩ = some (.bool (nthE l j).att.exec) ∧ w.cell? ⟨g, o + 7, none⟩ = some (.bool (nthE l j).att.lock) ∧ w.cell? ⟨g, o + 8, none⟩ = some (.bool (nthE l j).att.global) ∧ w.cell? ⟨g, o + 9, none⟩ = some (.bool (nthE l j).att.quiet) ∧ w.cell? ⟨g, o + 10, none⟩ = some (.bool (nthE l j).valid)) ∧ (w.cell? ⟨g', o, none⟩ = some (.int .i64 (nthE l j).size) ∧ w.cell? ⟨g', o + 1, none⟩ = some (.int .i64 (nthE l j).ctx) ∧ w.cell? ⟨g', o + 2, none⟩ = some (.int .u64 (nthE l j).va) ∧ w.cell? ⟨g', o + 3, none⟩ = some (.int .u64 (nthE l j).pa) ∧ w.cell? ⟨g', o + 4, none⟩ = some (.bool (nthE l j).att.write) ∧ w.cell? ⟨g', o + 5, none⟩ = some (.bool (nthE l j).att.priv) ∧ w.cell? ⟨g', o + 6, none⟩ = some (.bool (nthE l j).att.exec) ∧ w.cell? ⟨g', o + 7, none⟩ = some (.bool (nthE l j).att.lock) ∧ w.cell? ⟨g', o + 8, none⟩ = some (.bool (nthE l j).att.global) ∧ w.cell? ⟨g', o + 9, none⟩ = some (.bool (nthE l j).att.quiet) ∧ w.cell? ⟨g', o + 10, none⟩ = some (.bool (nthE l j).valid))))
  rw [hm] at hl ⊢
  clear h1 h2 hm
  go_enter Tryz.func16, Tryz.ntmps16
  go_wp2_with fail
  go_loopw [5] (fun i wr => ∃ j : Nat, j ≤ m ∧ i = .int .i64 (j : Int) ∧ Below w.heap.size w wr) (fun i _ => m - (intOf i).toNat)
  case atStart => exact ⟨0, by omega, rfl, Below.refl _ _⟩
  case round =>
    obtain ⟨j, hj, rfl, hB⟩ := hrel
    by_cases hlt : j < m
    · obtain ⟨o, ho⟩ : ∃ o, j * 11 = o := ⟨_, rfl⟩
      obtain ⟨g, g', rfl, rfl, k1, k2, k3, k4, hx, hy⟩ := HC.out j o hlt ho
      unfold maxLen at k2 k4
      have hcl : ∀ {b o : Nat} {v : Value}, w.cell? ⟨b, o, none⟩ = some v → wr.cell? ⟨b, o, none⟩ = some v := fun {b o v} hc => (hB.cell (p := ⟨b, o, none⟩) (lt_cell hc)).trans hc
      obtain ⟨x0, x1, x2, x3, x4, x5, x6, x7, x8, x9, x10⟩ := hx
      obtain ⟨y0, y1, y2, y3, y4, y5, y6, y7, y8, y9, y10⟩ := hy
      replace x0 := hcl x0; replace x1 := hcl x1; replace x2 := hcl x2; replace x3 := hcl x3; replace x4 := hcl x4; replace x5 := hcl x5; replace x6 := hcl x6; replace x7 := hcl x7; replace x8 := hcl x8; replace x9 := hcl x9; replace x10 := hcl x10
      replace y0 := hcl y0; replace y1 := hcl y1; replace y2 := hcl y2; replace y3 := hcl y3; replace y4 := hcl y4; replace y5 := hcl y5; replace y6 := hcl y6; replace y7 := hcl y7; replace y8 := hcl y8; replace y9 := hcl y9; replace y10 := hcl y10
      have hlt' : (j : Int) < (m : Int) := by omega
      have hAE : (⟨g, 0, none⟩ : Addr).add o = ⟨g, o, none⟩ := by unfold Addr.add; split <;> simp_all
      have hAE' : (⟨g', 0, none⟩ : Addr).add o = ⟨g', o, none⟩ := by unfold Addr.add; split <;> simp_all
      generalize nthE l j = e at *
      clear HC hcl
      go_wp2_with fail
      go_quiet (fail)
      have hBq := below_drewN hB nq
      clear x0 x1 x2 x3 x4 x5 x6 x7 x8 x9 x10 y0 y1 y2 y3 y4 y5 y6 y7 y8 y9 y10 hB
      go_wp2_with fail
      go_roundw
      case rel => exact ⟨j + 1, by omega, by go_num, hBq⟩
      case measure => simp [intOf]; omega
    · obtain rfl : m = j := by omega
      go_wp2_with fail
      go_ret
      exact ⟨rfl, hB⟩
end Go.Proofs.YtnbdoemnepfhdaaGreat.Tl

