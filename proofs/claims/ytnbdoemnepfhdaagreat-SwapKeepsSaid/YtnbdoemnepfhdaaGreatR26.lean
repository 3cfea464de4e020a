/-
  Contracts and plain facts: Live, LLaw, LDoc2, LDoc3. Conditions: each says its own.
-/
import Derived.Test.YtnbdoemnepfhdaaGreatR24
import Derived.Laws.EntriesVeiled
import Derived.Deep.DeepCutAuto
import Derived.Test.YtnbdoemnepfhdaaGreatR7
import Derived.Test.YtnbdoemnepfhdaaGreatR18
namespace Go.Proofs.YtnbdoemnepfhdaaGreat.Tl
open Fld
open Go.ChangeShapes Go.WideShapes Go.ChangeAt Go.RowKit Go.Shelf
set_option maxHeartbeats 2000000
set_option maxRecDepth 100000
def ex (va : Int) : Ent := ⟨0, 1, va, 0, ⟨false, false, false, false, false, false⟩, true⟩
end Go.Proofs.YtnbdoemnepfhdaaGreat.Tl

namespace Go.Proofs.YtnbdoemnepfhdaaGreat.Tl
open Fld
set_option maxHeartbeats 1000000
theorem in_meet {v a s b t : Int} (h1 : inB v a s = true) (h2 : inB v b t = true) : meetB a s b t = true := by
  unfold inB at h1 h2
  rw [Bool.and_eq_true, decide_eq_true_eq] at h1 h2
  obtain ⟨s1, e1⟩ := h1
  obtain ⟨t1, e2⟩ := h2
  unfold meetB inB
  rw [s1, t1]
  have hm : sizeB (max s t) = true := by
    have a1 := sizeB_true s1; have a2 := sizeB_true t1
    exact sizeB_mk (by omega)
  rw [hm]
  simp only [Bool.true_and, decide_eq_true_eq]
  by_cases hst : s ≤ t
  · rw [Int.max_eq_right hst]
    rcases sizeB_true s1 with rfl | rfl | rfl | rfl <;> rcases sizeB_true t1 with rfl | rfl | rfl | rfl <;>
      (simp only [bytesI, if_true, Int.reduceEq, if_false] at *; clear s1 t1 hm; omega)
  · rw [Int.max_eq_left (by omega)]
    rcases sizeB_true s1 with rfl | rfl | rfl | rfl <;> rcases sizeB_true t1 with rfl | rfl | rfl | rfl <;>
      (simp only [bytesI, if_true, Int.reduceEq, if_false] at *; clear s1 t1 hm; omega)
/-- P6.5: entries that part have no address in a context both. -/
theorem hits_part {a b : Ent} {va ctx : Int} (hp : partsB a b = true) (ha : a.hitsB va ctx = true) : b.hitsB va ctx = false := by
  cases hb : b.hitsB va ctx
  · rfl
  · unfold Ent.hitsB Ent.holdsB at ha hb
    simp only [Bool.and_eq_true, Bool.or_eq_true, beq_iff_eq] at ha hb
    obtain ⟨⟨_, i1⟩, c1⟩ := ha
    obtain ⟨⟨_, i2⟩, c2⟩ := hb
    unfold partsB at hp
    rw [in_meet i1 i2] at hp
    simp only [Bool.not_true, Bool.false_or, Bool.and_eq_true, Bool.not_eq_true', bne_iff_ne] at hp
    obtain ⟨⟨g1, g2⟩, hne⟩ := hp
    rw [g1] at c1; rw [g2] at c2
    rcases c1 with c1 | c1
    · cases c1
    · rcases c2 with c2 | c2
      · cases c2
      · exact absurd (c1.trans c2.symm) hne
/-- An entry that may be is its own address's. -/
theorem hits_self {g : Ent} (h : g.mayB = true) : g.hitsB g.va g.ctx = true := by
  have hs : sizeB g.size = true ∧ g.valid = true := by unfold Ent.mayB at h; simp only [Bool.and_eq_true] at h; exact ⟨h.1.1.1.1.1.1.2, h.1.1.1.1.1.1.1⟩
  unfold Ent.hitsB Ent.holdsB inB
  rw [hs.1, hs.2]; simp
theorem hits_valid {e : Ent} {va ctx : Int} (h : e.hitsB va ctx = true) : e.valid = true := by
  unfold Ent.hitsB Ent.holdsB at h; simp only [Bool.and_eq_true] at h; exact h.1.1
/-- At most one place is an address's. -/
theorem hits_one {T : Nat → Ent} {n i k : Nat} (h : Ok T n) (hi : i < n) (hk : k < n) {va ctx : Int} (h1 : (T i).hitsB va ctx = true) (h2 : (T k).hitsB va ctx = true) : i = k := by
  by_cases e : i = k
  · exact e
  · have := hits_part (h.part i k hi hk e (hits_valid h1) (hits_valid h2)) h1
    rw [h2] at this; cases this
theorem find_at {T : Nat → Ent} {n i : Nat} (h : Ok T n) (hi : i < n) {va ctx : Int} (h1 : (T i).hitsB va ctx = true) : findN T n va ctx = i := by
  refine fst_eq (by omega) (fun k hk => ?_) (fun _ => h1)
  cases e : (T k).hitsB va ctx
  · rfl
  · have := hits_one h (by omega) hi e h1; omega
end Go.Proofs.YtnbdoemnepfhdaaGreat.Tl

namespace Go.Proofs.YtnbdoemnepfhdaaGreat.Tl
open Fld
open Go.ChangeShapes Go.WideShapes Go.ChangeAt Go.RowKit Go.Shelf
set_option maxHeartbeats 4000000
set_option maxRecDepth 100000
/-- A boxed entry, and a list of entries. -/
structure DE (w wr : World) (eb : Nat) (e : Ent) (B g cap n : Nat) (R : Nat → Ent) : Prop where
  bel : Below w.heap.size w wr
  row : RowE wr eb e
  doc : DocAt wr B (.slice (some ⟨g, 0, none⟩) n cap) n R
theorem DE.low {w wr w' : World} {eb B g cap n : Nat} {e : Ent} {R : Nat → Ent} (h : DE w wr eb e B g cap n R) (hb : Below wr.heap.size wr w') : DE w w' eb e B g cap n R :=
  ⟨h.bel.trans (hb.mono h.bel.size), h.row.below hb h.row.lt, doc_below h.doc hb⟩
theorem DE.drew {w wr : World} {eb B g cap n : Nat} {e : Ent} {R : Nat → Ent} (h : DE w wr eb e B g cap n R) : DE w wr.drew eb e B g cap n R := ⟨h.bel.drew, h.row.drew, h.doc⟩
theorem doc_cells {w : World} {B g cap n : Nat} {R : Nat → Ent} (h : DocAt w B (.slice (some ⟨g, 0, none⟩) n cap) n R) {i o : Nat} (hi : i < n) (ho : i * 11 = o) : w.cell? ⟨g, o, none⟩ = some (.int .i64 (R i).size) ∧ w.cell? ⟨g, o + 1, none⟩ = some (.int .i64 (R i).ctx) ∧ w.cell? ⟨g, o + 2, none⟩ = some (.int .u64 (R i).va) ∧ w.cell? ⟨g, o + 3, none⟩ = some (.int .u64 (R i).pa) ∧ w.cell? ⟨g, o + 4, none⟩ = some (.bool (R i).att.write) ∧ w.cell? ⟨g, o + 5, none⟩ = some (.bool (R i).att.priv) ∧ w.cell? ⟨g, o + 6, none⟩ = some (.bool (R i).att.exec) ∧ w.cell? ⟨g, o + 7, none⟩ = some (.bool (R i).att.lock) ∧ w.cell? ⟨g, o + 8, none⟩ = some (.bool (R i).att.global) ∧ w.cell? ⟨g, o + 9, none⟩ = some (.bool (R i).att.quiet) ∧ w.cell? ⟨g, o + 10, none⟩ = some (.bool (R i).valid) := by
  obtain ⟨g', cap', hv, _, _, _, _, k5, _⟩ := doc_at h (by omega)
  simp only [Value.slice.injEq, Option.some.injEq, Addr.mk.injEq, and_true, true_and] at hv
  obtain ⟨rfl, rfl⟩ := hv
  exact k5 i o hi ho
theorem DE.sc {w wr : World} {eb B g cap n : Nat} {e : Ent} {R : Nat → Ent} {i o : Nat} (hi : i < n) (ho : i * 11 = o) (h : DE w wr eb e B g cap n R) : wr.cell? ⟨eb, 0, none⟩ = some (.int .i64 e.size) ∧ wr.cell? ⟨eb, 1, none⟩ = some (.int .i64 e.ctx) ∧ wr.cell? ⟨eb, 2, none⟩ = some (.int .u64 e.va) ∧ wr.cell? ⟨eb, 3, none⟩ = some (.int .u64 e.pa) ∧ wr.cell? ⟨eb, 4, none⟩ = some (.bool e.att.write) ∧ wr.cell? ⟨eb, 5, none⟩ = some (.bool e.att.priv) ∧ wr.cell? ⟨eb, 6, none⟩ = some (.bool e.att.exec) ∧ wr.cell? ⟨eb, 7, none⟩ = some (.bool e.att.lock) ∧ wr.cell? ⟨eb, 8, none⟩ = some (.bool e.att.global) ∧ wr.cell? ⟨eb, 9, none⟩ = some (.bool e.att.quiet) ∧ wr.cell? ⟨eb, 10, none⟩ = some (.bool e.valid) ∧ wr.cell? ⟨g, o, none⟩ = some (.int .i64 (R i).size) ∧ wr.cell? ⟨g, o + 1, none⟩ = some (.int .i64 (R i).ctx) ∧ wr.cell? ⟨g, o + 2, none⟩ = some (.int .u64 (R i).va) ∧ wr.cell? ⟨g, o + 3, none⟩ = some (.int .u64 (R i).pa) ∧ wr.cell? ⟨g, o + 4, none⟩ = some (.bool (R i).att.write) ∧ wr.cell? ⟨g, o + 5, none⟩ = some (.bool (R i).att.priv) ∧ wr.cell? ⟨g, o + 6, none⟩ = some (.bool (R i).att.exec) ∧ wr.cell? ⟨g, o + 7, none⟩ = some (.bool (R i).att.lock) ∧ wr.cell? ⟨g, o + 8, none⟩ = some (.bool (R i).att.global) ∧ wr.cell? ⟨g, o + 9, none⟩ = some (.bool (R i).att.quiet) ∧ wr.cell? ⟨g, o + 10, none⟩ = some (.bool (R i).valid) := by
  obtain ⟨x0, x1, x2, x3, x4, x5, x6, x7, x8, x9, x10⟩ := h.row.cells
  exact ⟨x0, x1, x2, x3, x4, x5, x6, x7, x8, x9, x10, doc_cells h.doc hi ho⟩
end Go.Proofs.YtnbdoemnepfhdaaGreat.Tl

namespace Go.Proofs.YtnbdoemnepfhdaaGreat.Tl
open Fld
open Go.ChangeShapes Go.WideShapes Go.ChangeAt Go.RowKit Go.Shelf
set_option maxHeartbeats 4000000
set_option maxRecDepth 100000
/-- Demap under way: what is left of the list, and how many are gone. -/
structure DM (w wr : World) (B n : Nat) (R : Nat → Ent) (p : Ent → Bool) (j : Nat) (v : Value) : Prop where
  bel : Below w.heap.size w wr
  out : DocAt wr B v n (dropE R p j)
theorem DM.low {w wr w' : World} {B n j : Nat} {R : Nat → Ent} {p : Ent → Bool} {v : Value} (h : DM w wr B n R p j v) (hb : Below wr.heap.size wr w') : DM w w' B n R p j v := ⟨h.bel.trans (hb.mono h.bel.size), doc_below h.out hb⟩
end Go.Proofs.YtnbdoemnepfhdaaGreat.Tl

