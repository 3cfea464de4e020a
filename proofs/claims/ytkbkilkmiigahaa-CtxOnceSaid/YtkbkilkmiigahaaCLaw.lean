/-
  What the laws of layer 14 carry: the pool, the document's list and its box, side by side. Conditions: none.
-/
import Derived.Test.YtkbkilkmiigahaaCDeeds
namespace Go.Proofs.Ytkbkilkmiigahaa.Cx
open Fld
open Go.ChangeShapes Go.WideShapes Go.ChangeAt Go.RowKit Go.Shelf Go.Deep
set_option maxHeartbeats 2000000
set_option maxRecDepth 100000
/-- Since w0: a pool, the document's, that is boxed at rb. -/
structure LW (w0 w : World) (pb bm ob rb : Nat) (v : Value) (P : Pl) : Prop where
  bel : Below w0.heap.size w0 w
  pool : PoolAt w pb bm ob P
  doc : ListT w (pb + 1) P.n P.T v
  box : w.heap[rb]? = some (docO v P.h P.R)
  lo : w0.heap.size ≤ bm
  rp : pb < rb
section
variable {w0 w w' : World} {pb bm ob rb : Nat} {v : Value} {P : Pl}
theorem LW.rlt (h : LW w0 w pb bm ob rb v P) : rb < w.heap.size := (Array.getElem?_eq_some_iff.1 h.box).1
theorem LW.low (h : LW w0 w pb bm ob rb v P) (k : Below w.heap.size w w') : LW w0 w' pb bm ob rb v P :=
  ⟨h.bel.trans (k.mono h.bel.size), h.pool.low k, h.doc.low k, (k.block _ h.rlt).trans h.box, h.lo, h.rp⟩
theorem LW.drewN (h : LW w0 w pb bm ob rb v P) (m : Nat) : LW w0 (w.drewN m) pb bm ob rb v P := h.low (below_drewN (Below.refl _ _) m)
theorem LW.drew (h : LW w0 w pb bm ob rb v P) : LW w0 w.drew pb bm ob rb v P := h.drewN 1
theorem LW.cells (h : LW w0 w pb bm ob rb v P) : w.cell? ⟨rb, 0, none⟩ = some v ∧ w.cell? ⟨rb, 1, none⟩ = some (.int .i64 (P.h : Int)) ∧ w.cell? ⟨rb, 2, none⟩ = some (.int .i64 (P.R : Int)) ∧ ∀ i, w.frozen? ⟨rb, i, none⟩ = false := by
  simp [World.cell?, World.frozen?, h.box]
theorem LW.start {w1 : World} (B1 : Below w0.heap.size w0 w1) (H : PoolAt w1 pb bm ob P) (lo : w0.heap.size ≤ bm) {w2 : World} (D : ListT w2 w1.heap.size P.n P.T v) (B2 : Below w1.heap.size w1 w2) : LW w0 (w2.alloc (docO v P.h P.R)) pb bm ob w2.heap.size v P :=
  have s2 := B2.size
  have hp := H.lt
  ⟨(B1.trans (B2.mono B1.size)).alloc (Nat.le_trans B1.size s2) _, (H.low B2).alloc _, (D.base (by omega)).alloc _, heap_alloc_new _ _, lo, by omega⟩
theorem LW.startN {M : Nat} {w1 : World} (B1 : Below w0.heap.size w0 w1) (H : PoolAt w1 pb bm ob (Pl.new M)) (lo : w0.heap.size ≤ bm) {w2 : World} (D : ListT w2 w1.heap.size M (fun _ => -1) v) (B2 : Below w1.heap.size w1 w2) : LW w0 (w2.alloc (docO v 1 0)) pb bm ob w2.heap.size v (Pl.new M) := LW.start (P := Pl.new M) B1 H lo D B2
theorem LW.cellsN {M : Nat} (h : LW w0 w pb bm ob rb v (Pl.new M)) : w.cell? ⟨rb, 0, none⟩ = some v ∧ w.cell? ⟨rb, 1, none⟩ = some (.int .i64 1) ∧ w.cell? ⟨rb, 2, none⟩ = some (.int .i64 0) := ⟨h.cells.1, h.cells.2.1, h.cells.2.2.1⟩
theorem LW.like (h : LW w0 w pb bm ob rb v P) (ok : P.Ok) : Calls Try.prog 10 #[.pointer (some ⟨pb, 0, none⟩), docV v P.h P.R] w fun e w' => e = .returned (.bool true) ∧ LW w0 w' pb bm ob rb v P :=
  (like_any w h.pool h.doc ok).mono (by rintro e w' ⟨rfl, hb⟩; exact ⟨rfl, h.low hb⟩)
theorem LW.likeN {M : Nat} (h : LW w0 w pb bm ob rb v (Pl.new M)) (hM : M ≤ 8191) : Calls Try.prog 10 #[.pointer (some ⟨pb, 0, none⟩), docV v 1 0] w fun e w' => e = .returned (.bool true) ∧ LW w0 w' pb bm ob rb v (Pl.new M) := h.like (Pl.new_ok hM)
/-- A deed has been done; what was the document's box says what was. -/
structure LD (w0 w : World) (pb bm ob rb : Nat) (v u : Value) (P Q : Pl) : Prop where
  bel : Below w0.heap.size w0 w
  pool : PoolAt w pb bm ob Q
  doc : ListT w (pb + 1) Q.n Q.T u
  box : w.heap[rb]? = some (docO v P.h P.R)
  lo : w0.heap.size ≤ bm
  rp : pb < rb
theorem LW.done (h : LW w0 w pb bm ob rb v P) {u : Value} {Q : Pl} (hp : PoolAt w' pb bm ob Q) (hl : ListT w' (pb + 1) Q.n Q.T u) (ht : Turn w w' pb bm ob) : LD w0 w' pb bm ob rb v u P Q := by
  have hb := h.bel.size
  have ho := h.pool.ord
  have hlo := h.lo
  have hr := h.rp
  exact ⟨h.bel.trans (ht.to_below (by omega) (by omega) (by omega) hb), hp, hl, (ht.block _ h.rlt (by omega) (by omega) (by omega)).trans h.box, h.lo, h.rp⟩
variable {u : Value} {Q : Pl}
theorem LD.rlt (h : LD w0 w pb bm ob rb v u P Q) : rb < w.heap.size := (Array.getElem?_eq_some_iff.1 h.box).1
theorem LD.low (h : LD w0 w pb bm ob rb v u P Q) (k : Below w.heap.size w w') : LD w0 w' pb bm ob rb v u P Q :=
  ⟨h.bel.trans (k.mono h.bel.size), h.pool.low k, h.doc.low k, (k.block _ h.rlt).trans h.box, h.lo, h.rp⟩
theorem LD.alloc (h : LD w0 w pb bm ob rb v u P Q) (o : Obj) : LD w0 (w.alloc o) pb bm ob rb v u P Q := h.low ((Below.refl _ _).alloc (Nat.le_refl _) o)
theorem LD.put (h : LD w0 w pb bm ob rb v u P Q) : LW w0 (((w.setCell ⟨rb, 0, none⟩ u).setCell ⟨rb, 1, none⟩ (.int .i64 (Q.h : Int))).setCell ⟨rb, 2, none⟩ (.int .i64 (Q.R : Int))) pb bm ob rb u Q := by
  have hr := h.rp
  have hlo := h.lo
  have ho := h.pool.ord
  refine ⟨((h.bel.setCell (by show _ ≤ rb; omega) _).setCell (by show _ ≤ rb; omega) _).setCell (by show _ ≤ rb; omega) _, ((h.pool.setOut _ hr _).setOut _ hr _).setOut _ hr _, h.doc.set3 (h.doc.ne h.box (by decide)) _ _ _, by rw [heap_set (heap_set (heap_set h.box _) _)]; rfl, h.lo, h.rp⟩
end
/-- What the region of a deed reads: the box, the deed. -/
structure KB (w : World) (rb : Nat) (v : Value) (P : Pl) (b o : Nat) (d : DeedW) (av : Value) : Prop where
  box : w.heap[rb]? = some (docO v P.h P.R)
  c0 : w.cell? ⟨b, o, none⟩ = some (.int .i64 d.k)
  c1 : w.cell? ⟨b, o + 1, none⟩ = some (.int .i64 d.n)
  c2 : w.cell? ⟨b, o + 2, none⟩ = some (.int .i64 d.s)
  c3 : w.cell? ⟨b, o + 3, none⟩ = some av
section
variable {w w' : World} {rb b o : Nat} {v av : Value} {P : Pl} {d : DeedW}
theorem KB.same (h : KB w rb v P b o d av) (h1 : w'.heap[rb]? = w.heap[rb]?) (h2 : w'.heap[b]? = w.heap[b]?) : KB w' rb v P b o d av :=
  ⟨h1.trans h.box, (World.cell?_of_block h2).trans h.c0, (World.cell?_of_block h2).trans h.c1, (World.cell?_of_block h2).trans h.c2, (World.cell?_of_block h2).trans h.c3⟩
theorem KB.lt (h : KB w rb v P b o d av) : rb < w.heap.size ∧ b < w.heap.size := ⟨(Array.getElem?_eq_some_iff.1 h.box).1, cell_lt h.c0⟩
theorem KB.low (h : KB w rb v P b o d av) (k : Below w.heap.size w w') : KB w' rb v P b o d av := h.same (k.block _ h.lt.1) (k.block _ h.lt.2)
theorem KB.alloc (h : KB w rb v P b o d av) (x : Obj) : KB (w.alloc x) rb v P b o d av := h.low ((Below.refl _ _).alloc (Nat.le_refl _) x)
theorem KB.drew (h : KB w rb v P b o d av) : KB w.drew rb v P b o d av := h.low ((Below.refl _ _).drew)
theorem KB.set (h : KB w rb v P b o d av) (p : Addr) (hp : rb ≠ p.block ∧ b ≠ p.block) (u : Value) : KB (w.setCell p u) rb v P b o d av :=
  h.same (Below.heap_setCell _ _ _ _ hp.1) (Below.heap_setCell _ _ _ _ hp.2)
theorem KB.turn {pb bm ob : Nat} (h : KB w rb v P b o d av) (k : Turn w w' pb bm ob) (h1 : pb < rb) (h2 : b < bm) (h3 : bm < ob ∧ ob < pb) : KB w' rb v P b o d av :=
  h.same (k.block _ h.lt.1 (by omega) (by omega) (by omega)) (k.block _ h.lt.2 (by omega) (by omega) (by omega))
theorem KB.cells (h : KB w rb v P b o d av) : w.cell? ⟨rb, 0, none⟩ = some v ∧ w.cell? ⟨rb, 1, none⟩ = some (.int .i64 (P.h : Int)) ∧ w.cell? ⟨rb, 2, none⟩ = some (.int .i64 (P.R : Int)) ∧ w.cell? ⟨b, o, none⟩ = some (.int .i64 d.k) ∧ w.cell? ⟨b, o + 1, none⟩ = some (.int .i64 d.n) ∧ w.cell? ⟨b, o + 2, none⟩ = some (.int .i64 d.s) ∧ w.cell? ⟨b, o + 3, none⟩ = some av :=
  ⟨by simp [World.cell?, h.box], by simp [World.cell?, h.box], by simp [World.cell?, h.box], h.c0, h.c1, h.c2, h.c3⟩
end
theorem KB.ne {w : World} {rb b o : Nat} {v av : Value} {P : Pl} {d : DeedW} (h : KB w rb v P b o d av) : rb ≠ w.heap.size ∧ b ≠ w.heap.size := by have := h.lt; omega
theorem LW.alloc {w0 w : World} {pb bm ob rb : Nat} {v : Value} {P : Pl} (h : LW w0 w pb bm ob rb v P) (o : Obj) : LW w0 (w.alloc o) pb bm ob rb v P := h.low ((Below.refl _ _).alloc (Nat.le_refl _) o)
theorem IsInts.alloc {w : World} {ao : Option Addr} {cap : Nat} {A : List Int} (h : IsInts w ao cap A) (o : Obj) : IsInts (w.alloc o) ao cap A := h.low (Nat.le_refl _) ((Below.refl _ w).alloc (Nat.le_refl _) o)
theorem IsInts.drew {w : World} {ao : Option Addr} {cap : Nat} {A : List Int} (h : IsInts w ao cap A) : IsInts w.drew ao cap A := h.low (Nat.le_refl _) ((Below.refl _ w).drew)
theorem nbZ {w : World} {g : Nat} (h : w.heap[g]? = some docZ) : w.cell? ⟨g, 0, none⟩ = some (.slice none 0 0) ∧ w.cell? ⟨g, 1, none⟩ = some (.int .i64 0) ∧ w.cell? ⟨g, 2, none⟩ = some (.int .i64 0) ∧ ∀ i, w.frozen? ⟨g, i, none⟩ = false := by
  simp [World.cell?, World.frozen?, h]
/-- A deed in a law. -/
theorem law_does {w0 w : World} {pb bm ob rb b o : Nat} {v : Value} {P : Pl} {d : DeedW} {ao : Option Addr} {cap : Nat} {A : List Int} (X : LW w0 w pb bm ob rb v P) (K : KB w rb v P b o d (.slice ao A.length cap)) (ok : P.Ok) (hR : P.R ≤ 1000000000) (hd : d.wf) (hA : IsInts w ao cap A) (hb : b < w0.heap.size) :
    Calls Try.prog 11 #[.pointer (some ⟨pb, 0, none⟩), docV v P.h P.R, deedV d (.slice ao A.length cap)] w fun e w' => ∃ au cu, e = .returned (.tuple #[docV (.slice au (act P d A).n cu) (act P d A).h (act P d A).R, .bool true]) ∧ LD w0 w' pb bm ob rb v (.slice au (act P d A).n cu) P (act P d A) ∧ KB w' rb v P b o d (.slice ao A.length cap) ∧ (∀ k, k < w.heap.size → pb < k → w'.heap[k]? = w.heap[k]?) :=
  (does_any w X.pool X.doc ok hR d hd hA).mono (by
    rintro e w' ⟨v', rfl, hp, hl, ht⟩
    obtain ⟨au, cu, rfl, _, _⟩ := hl.shape
    exact ⟨au, cu, rfl, X.done hp hl ht, K.turn ht X.rp (by have := X.lo; omega) X.pool.ord, fun k hk hp => ht.block k hk (by have := X.pool.ord; omega) (by have := X.pool.ord; omega) (by have := X.pool.ord; omega)⟩)
theorem LD.fill {w0 w : World} {pb bm ob rb g : Nat} {v u : Value} {P Q : Pl} (h : LD w0 w pb bm ob rb v u P Q) (hg : w.heap[g]? = some docZ) (h1 : pb < g) (h2 : rb ≠ g) :
    LD w0 (((w.setCell ⟨g, 0, none⟩ u).setCell ⟨g, 1, none⟩ (.int .i64 (Q.h : Int))).setCell ⟨g, 2, none⟩ (.int .i64 (Q.R : Int))) pb bm ob rb v u P Q ∧
    (((w.setCell ⟨g, 0, none⟩ u).setCell ⟨g, 1, none⟩ (.int .i64 (Q.h : Int))).setCell ⟨g, 2, none⟩ (.int .i64 (Q.R : Int))).heap[g]? = some (docO u Q.h Q.R) := by
  have hlo := h.lo
  have ho := h.pool.ord
  refine ⟨⟨((h.bel.setCell (by show _ ≤ g; omega) _).setCell (by show _ ≤ g; omega) _).setCell (by show _ ≤ g; omega) _, ((h.pool.setOut _ h1 _).setOut _ h1 _).setOut _ h1 _, h.doc.set3 (h.doc.ne hg (by decide)) _ _ _, ?_, h.lo, h.rp⟩, by rw [heap_set (heap_set (heap_set hg _) _)]; rfl⟩
  exact (Below.heap_setCell _ _ _ _ h2).trans ((Below.heap_setCell _ _ _ _ h2).trans ((Below.heap_setCell _ _ _ _ h2).trans h.box))
theorem docO_cells {w : World} {g : Nat} {v : Value} {h R : Nat} (e : w.heap[g]? = some (docO v h R)) : w.cell? ⟨g, 0, none⟩ = some v ∧ w.cell? ⟨g, 1, none⟩ = some (.int .i64 (h : Int)) ∧ w.cell? ⟨g, 2, none⟩ = some (.int .i64 (R : Int)) ∧ ∀ i, w.frozen? ⟨g, i, none⟩ = false := by
  simp [World.cell?, World.frozen?, e]
end Go.Proofs.Ytkbkilkmiigahaa.Cx
