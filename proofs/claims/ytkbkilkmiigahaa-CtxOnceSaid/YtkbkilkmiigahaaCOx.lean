/-
  What CtxOnce carries: a pool, and a new one of the document's that no deed changes. Conditions: none.
-/
import Derived.Test.YtkbkilkmiigahaaCDo5
import Derived.Test.YtkbkilkmiigahaaCLaw
import Derived.Test.YtkbkilkmiigahaaCPx
namespace Go.Proofs.Ytkbkilkmiigahaa.Cx
open Fld
open Go.ChangeShapes Go.WideShapes Go.ChangeAt Go.RowKit Go.Shelf Go.Deep
set_option maxHeartbeats 2000000
set_option maxRecDepth 100000
/-- What CtxOnce carries: the pool, and the document's new one in its box. -/
structure OX (w0 w : World) (pb bm ob rb M : Nat) (v : Value) (P : Pl) : Prop where
  bel : Below w0.heap.size w0 w
  pool : PoolAt w pb bm ob P
  doc : ListT w (pb + 1) M (fun _ => -1) v
  box : w.heap[rb]? = some (docO v 1 0)
  lo : w0.heap.size ≤ bm
  rp : pb < rb
  nM : P.n = M
section
variable {w0 w w' : World} {pb bm ob rb M : Nat} {v : Value} {P : Pl}
theorem OX.rlt (h : OX w0 w pb bm ob rb M v P) : rb < w.heap.size := (Array.getElem?_eq_some_iff.1 h.box).1
theorem OX.low (h : OX w0 w pb bm ob rb M v P) (k : Below w.heap.size w w') : OX w0 w' pb bm ob rb M v P :=
  ⟨h.bel.trans (k.mono h.bel.size), h.pool.low k, h.doc.low k, (k.block _ h.rlt).trans h.box, h.lo, h.rp, h.nM⟩
theorem OX.drewN (h : OX w0 w pb bm ob rb M v P) (m : Nat) : OX w0 (w.drewN m) pb bm ob rb M v P := h.low (below_drewN (Below.refl _ _) m)
theorem OX.drew (h : OX w0 w pb bm ob rb M v P) : OX w0 w.drew pb bm ob rb M v P := h.drewN 1
theorem OX.start {w1 : World} (B1 : Below w0.heap.size w0 w1) (H : PoolAt w1 pb bm ob (Pl.new M)) (lo : w0.heap.size ≤ bm) {w2 : World} (D : ListT w2 w1.heap.size M (fun _ => -1) v) (B2 : Below w1.heap.size w1 w2) : OX w0 (w2.alloc (docO v 1 0)) pb bm ob w2.heap.size M v (Pl.new M) :=
  have L := LW.startN B1 H lo D B2
  ⟨L.bel, L.pool, L.doc, L.box, L.lo, L.rp, rfl⟩
theorem OX.turn {Q : Pl} (h : OX w0 w pb bm ob rb M v P) (hp : PoolAt w' pb bm ob Q) (ht : Turn w w' pb bm ob) (hn : Q.n = P.n) : OX w0 w' pb bm ob rb M v Q := by
  have hb := h.bel.size
  have ho := h.pool.ord
  have hlo := h.lo
  have hr := h.rp
  exact ⟨h.bel.trans (ht.to_below (by omega) (by omega) (by omega) hb), hp, h.doc.turn ht (Nat.lt_succ_self _) h.pool.ord, (ht.block _ h.rlt (by omega) (by omega) (by omega)).trans h.box, h.lo, h.rp, hn.trans h.nM⟩
end
section
variable {w0 w w' : World} {pb bm ob rb M b o : Nat} {v : Value} {P : Pl} {d : DeedW} {av : Value}
theorem OX.kb (h : OX w0 w pb bm ob rb M v P) (c0 : w.cell? ⟨b, o, none⟩ = some (.int .i64 d.k)) (c1 : w.cell? ⟨b, o + 1, none⟩ = some (.int .i64 d.n)) (c2 : w.cell? ⟨b, o + 2, none⟩ = some (.int .i64 d.s)) (c3 : w.cell? ⟨b, o + 3, none⟩ = some av) : KB w rb v (Pl.new 0) b o d av := ⟨h.box, c0, c1, c2, c3⟩
theorem KB.cellsZ (h : KB w rb v (Pl.new 0) b o d av) : w.cell? ⟨rb, 0, none⟩ = some v ∧ w.cell? ⟨rb, 1, none⟩ = some (.int .i64 1) ∧ w.cell? ⟨rb, 2, none⟩ = some (.int .i64 0) ∧ w.cell? ⟨b, o, none⟩ = some (.int .i64 d.k) ∧ w.cell? ⟨b, o + 1, none⟩ = some (.int .i64 d.n) ∧ w.cell? ⟨b, o + 2, none⟩ = some (.int .i64 d.s) ∧ w.cell? ⟨b, o + 3, none⟩ = some av :=
  ⟨h.cells.1, h.cells.2.1, h.cells.2.2.1, h.c0, h.c1, h.c2, h.c3⟩
/-- A deed, the document's pool a new one. -/
theorem law_gen {ao : Option Addr} {cap : Nat} {A : List Int} (X : OX w0 w pb bm ob rb M v P) (K : KB w rb v (Pl.new 0) b o d (.slice ao A.length cap)) (ok : P.Ok) (hM : M ≤ 8191) (hR : P.R ≤ 1000000000) (hd : d.wf) (hA : IsInts w ao cap A) (hb : b < w0.heap.size) :
    Calls Try.prog 11 #[.pointer (some ⟨pb, 0, none⟩), .agg #[v, .int .i64 1, .int .i64 0], deedV d (.slice ao A.length cap)] w fun e w' => ∃ x P', e = .returned x ∧ P'.Ok ∧ P'.R ≤ P.R + 1 ∧ OX w0 w' pb bm ob rb M v P' ∧ KB w' rb v (Pl.new 0) b o d (.slice ao A.length cap) :=
  (does_gen (Q := Pl.new M) w X.pool X.doc ok (Pl.new_ok hM) hR (Nat.zero_le _) d hd hA).mono (by
    rintro e w' ⟨x, P', rfl, ok', hn, hR', hp, ht⟩
    exact ⟨x, P', rfl, ok', hR', X.turn hp ht hn, K.turn ht X.rp (by have := X.lo; omega) X.pool.ord⟩)
theorem ox_owners (h : OX w0 w pb bm ob rb M v P) (hM : M ≤ 8191) : Calls Try.prog 13 #[.pointer (some ⟨pb, 0, none⟩)] w fun e w' => ∃ ao cap, e = .returned (.slice ao M cap) ∧ cap ≤ maxLen ∧ M ≤ cap ∧ ListT w' 0 M P.T (.slice ao M cap) ∧ OX w0 w' pb bm ob rb M v P :=
  (owners_any w h.pool).mono (by
    rintro e w' ⟨u, rfl, ho, hb⟩
    have L : ListT w' 0 M P.T u := ListT.base ⟨by rw [lstT_length, h.nM] at ho; exact ho, hM⟩ (Nat.zero_le w.heap.size)
    obtain ⟨ao, cap, rfl, h1, h2⟩ := L.shape
    exact ⟨ao, cap, rfl, h2, h1, L, h.low hb⟩)
/-- What the rounds over the list carry. -/
structure OL (w0 w : World) (pb bm ob rb M : Nat) (v : Value) (P : Pl) (ao : Option Addr) (cap : Nat) : Prop where
  x : OX w0 w pb bm ob rb M v P
  l : ListT w 0 M P.T (.slice ao M cap)
theorem OL.drewN {ao : Option Addr} {cap : Nat} (h : OL w0 w pb bm ob rb M v P ao cap) (m : Nat) : OL w0 (w.drewN m) pb bm ob rb M v P ao cap := ⟨h.x.drewN m, h.l.low (below_drewN (Below.refl _ _) m)⟩
theorem OL.drew {ao : Option Addr} {cap : Nat} (h : OL w0 w pb bm ob rb M v P ao cap) : OL w0 w.drew pb bm ob rb M v P ao cap := h.drewN 1
theorem OL.at_ {ao : Option Addr} {cap : Nat} (h : OL w0 w pb bm ob rb M v P ao cap) : M = 0 ∨ ∃ g, ao = some ⟨g, 0, none⟩ ∧ ∀ j, j < M → w.cell? ⟨g, j, none⟩ = some (.int .i64 (P.T j)) := by
  by_cases h0 : M = 0
  · exact .inl h0
  · obtain ⟨g, rfl, _, _, _, _⟩ := h.l.at_ (j := 0) (by omega)
    refine .inr ⟨g, rfl, fun j hj => ?_⟩
    obtain ⟨g', e, _, _, hc, _⟩ := h.l.at_ hj
    injection e with e; injection e with e; subst e
    exact hc
theorem Pl.owner_at {P : Pl} {t : Nat} (ht : t < P.n) (h0 : 0 ≤ P.T t) : P.ownB ((t : Int) + 1) = true ∧ P.ownI ((t : Int) + 1) = P.T t := by
  have e : ((t : Int) + 1).toNat - 1 = t := by omega
  have hb : P.ownB ((t : Int) + 1) = true := by
    unfold Pl.ownB; rw [e]; simp only [Bool.and_eq_true, decide_eq_true_eq]; omega
  exact ⟨hb, by unfold Pl.ownI; rw [if_pos hb, e]⟩
end
end Go.Proofs.Ytkbkilkmiigahaa.Cx
