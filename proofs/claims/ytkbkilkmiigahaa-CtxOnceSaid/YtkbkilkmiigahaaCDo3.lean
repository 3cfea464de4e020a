/-
  The law's does of layer 14, whatever the deed. Conditions: the pool and the document's are the same and as they must be.
-/
import Derived.Test.YtkbkilkmiigahaaCDo2
namespace Go.Proofs.Ytkbkilkmiigahaa.Cx
open Fld
open Go.ChangeShapes Go.WideShapes Go.ChangeAt Go.RowKit Go.Shelf Go.Deep
set_option maxHeartbeats 2000000
set_option maxRecDepth 100000
/-- Within asking: the boxes and both pools. -/
structure AS (w wr : World) (pb bm ob : Nat) (v : Value) (P : Pl) (d : DeedW) (av : Value) : Prop where
  s : DS w wr pb bm ob v P d av
  pool : PoolAt wr pb bm ob P
  doc : ListT wr (pb + 1) P.n P.T v
section
variable {w wr : World} {pb bm ob : Nat} {v av : Value} {P : Pl} {d : DeedW}
theorem AS.low {wq : World} (h : AS w wr pb bm ob v P d av) (k : Below wr.heap.size wr wq) : AS w wq pb bm ob v P d av := ⟨h.s.low k, h.pool.low k, h.doc.low k⟩
theorem AS.drew (h : AS w wr pb bm ob v P d av) : AS w wr.drew pb bm ob v P d av := h.low ((Below.refl _ _).drew)
/-- What is read of the boxes. -/
structure BS (w wr : World) (v : Value) (P : Pl) (d : DeedW) (av : Value) : Prop where
  box : wr.heap[w.heap.size]? = some (docO v P.h P.R)
  dd : wr.heap[w.heap.size + 1]? = some (deedO d av)
theorem AS.bs (h : AS w wr pb bm ob v P d av) : BS w wr v P d av := ⟨h.s.box, h.s.dd⟩
theorem BS.set (h : BS w wr v P d av) (o : Nat) (u : Value) : BS w (wr.setCell ⟨w.heap.size + 1 + 1, o, none⟩ u) v P d av :=
  ⟨(Below.heap_setCell _ _ _ _ (by show w.heap.size ≠ w.heap.size + 1 + 1; omega)).trans h.box, (Below.heap_setCell _ _ _ _ (by show w.heap.size + 1 ≠ w.heap.size + 1 + 1; omega)).trans h.dd⟩
theorem BS.cells (h : BS w wr v P d av) : wr.cell? ⟨w.heap.size, 0, none⟩ = some v ∧ wr.cell? ⟨w.heap.size, 1, none⟩ = some (.int .i64 (P.h : Int)) ∧ wr.cell? ⟨w.heap.size, 2, none⟩ = some (.int .i64 (P.R : Int)) ∧ wr.cell? ⟨w.heap.size + 1, 0, none⟩ = some (.int .i64 d.k) ∧ wr.cell? ⟨w.heap.size + 1, 1, none⟩ = some (.int .i64 d.n) ∧ wr.cell? ⟨w.heap.size + 1, 2, none⟩ = some (.int .i64 d.s) ∧ wr.cell? ⟨w.heap.size + 1, 3, none⟩ = some av := by
  simp [World.cell?, h.box, h.dd]
theorem as_asks {ad : Option Addr} {la ca : Nat} (h : AS w wr pb bm ob v P d (.slice ad la ca)) (ok : P.Ok) (hd : d.wf) :
    Calls Try.prog 30 #[.pointer (some ⟨pb, 0, none⟩), docV v P.h P.R, deedV d (.slice ad la ca)] wr fun e w' => e = .returned (.bool true) ∧ AS w w' pb bm ob v P d (.slice ad la ca) :=
  (asks_any wr h.pool h.doc ok d hd ad la ca).mono (by rintro e w' ⟨rfl, hb⟩; exact ⟨rfl, h.low hb⟩)
end
theorem does_else {pb bm ob : Nat} {P : Pl} {v : Value} (w : World) (H : PoolAt w pb bm ob P) (D : ListT w (pb + 1) P.n P.T v) (ok : P.Ok) (d : DeedW) (hd : d.wf) (h0 : d.k ≠ 0) (h1 : d.k ≠ 1) (h2 : d.k ≠ 2) (h3 : d.k ≠ 3) (h4 : d.k ≠ 4) {ao : Option Addr} {cap : Nat} {A : List Int} (HA : IsInts w ao cap A) :
    Calls Try.prog 11 #[.pointer (some ⟨pb, 0, none⟩), docV v P.h P.R, deedV d (.slice ao A.length cap)] w (DoneD w pb bm ob P) := by
  obtain ⟨av, cv, rfl, hl, hcm⟩ := D.shape
  have hpb := H.lt
  have hord := H.ord
  have hal := HA.le
  have hac := HA.cm
  have B0 := three_low w (docO (.slice av P.n cv) P.h P.R) (deedO d (.slice ao A.length cap)) docZ
  have X0 : AS w (((w.alloc (docO (.slice av P.n cv) P.h P.R)).alloc (deedO d (.slice ao A.length cap))).alloc docZ) pb bm ob (.slice av P.n cv) P d (.slice ao A.length cap) := ⟨DS.new w pb bm ob (.slice av P.n cv) P d (.slice ao A.length cap), H.low B0, D.low B0⟩
  unfold maxLen at hcm hac
  obtain ⟨L, hL⟩ : ∃ L, A.length = L := ⟨_, rfl⟩
  rw [hL] at hal X0 ⊢
  clear B0 HA H D
  obtain ⟨dk, dn, ds⟩ := d
  dsimp only at h0 h1 h2 h3 h4
  go_enter Try.func11, Try.ntmps11
  go_wp2
  generalize (((w.alloc (docO (.slice av P.n cv) P.h P.R)).alloc (deedO ⟨dk, dn, ds⟩ (.slice ao L cap))).alloc docZ) = W0 at *
  have X1 := X0.drew
  clear X0
  have q7 := X1.s.cells.2.2.2.2.2.2.2.1
  have q8 := X1.s.cells.2.2.2.2.2.2.2.2.1
  have q9 := X1.s.cells.2.2.2.2.2.2.2.2.2.1
  have qf := X1.s.cells.2.2.2.2.2.2.2.2.2.2
  go_region_held3 (fun w9 => w9.cell? ⟨w.heap.size, 0, none⟩ = some (.slice av P.n cv) ∧ w9.cell? ⟨w.heap.size, 1, none⟩ = some (.int .i64 (P.h : Int)) ∧ w9.cell? ⟨w.heap.size, 2, none⟩ = some (.int .i64 (P.R : Int)) ∧ w9.cell? ⟨w.heap.size + 1, 0, none⟩ = some (.int .i64 dk) ∧ w9.cell? ⟨w.heap.size + 1, 1, none⟩ = some (.int .i64 dn) ∧ w9.cell? ⟨w.heap.size + 1, 2, none⟩ = some (.int .i64 ds) ∧ w9.cell? ⟨w.heap.size + 1, 3, none⟩ = some (.slice ao L cap))
    ((refine BS.cells (w := w) (P := P) (d := ⟨dk, dn, ds⟩) ?_; repeat (first | (exact AS.bs (pb := pb) (bm := bm) (ob := ob) (by assumption)) | (refine BS.set ?_ _ _))))
    (first | (go_at_call 30; (with_reducible refine (as_asks (by assumption) ok hd).mono ?_); rintro e w9 ⟨rfl, P9⟩; have r7 := P9.s.cells.2.2.2.2.2.2.2.1; have r8 := P9.s.cells.2.2.2.2.2.2.2.2.1; have r9 := P9.s.cells.2.2.2.2.2.2.2.2.2.1; have rf := P9.s.cells.2.2.2.2.2.2.2.2.2.2))
  have F := P9.s.fin hpb (.slice av P.n cv) P.h P.R
  have F := Lib.hid (show _ ∧ _ ∧ _ from ⟨F.1, F.2.1, F.2.2 _ P9.pool⟩)
  have l4 := Lib.hid (P9.doc.set3 (P9.doc.ne P9.s.rr (by decide)) (.slice av P.n cv) P.h P.R)
  clear X1 q7 q8 q9 qf r7 r8 r9 rf P9
  go_wp2
  exact bodyPost_ret (res_P1 rfl _ _ _ rfl F.out.1) rfl (by exact done_mk rfl rfl F.out.2.2 l4.out F.out.2.1)
theorem does_any {pb bm ob : Nat} {P : Pl} {v : Value} (w : World) (H : PoolAt w pb bm ob P) (D : ListT w (pb + 1) P.n P.T v) (ok : P.Ok) (hR : P.R ≤ 1000000000) (d : DeedW) (hd : d.wf) {ao : Option Addr} {cap : Nat} {A : List Int} (HA : IsInts w ao cap A) :
    Calls Try.prog 11 #[.pointer (some ⟨pb, 0, none⟩), docV v P.h P.R, deedV d (.slice ao A.length cap)] w (DoneD w pb bm ob (act P d A)) := by
  unfold act
  by_cases h0 : d.k = 0
  · rw [if_pos h0]; exact does_take w H D ok hR d hd h0 HA
  · rw [if_neg h0]
    by_cases h2 : d.k = 2
    · rw [if_pos h2]; exact does_give w H D ok d hd h2 HA
    · rw [if_neg h2]
      by_cases h3 : d.k = 3
      · rw [if_pos h3]; exact does_vic w H D ok d hd h3 HA
      · rw [if_neg h3]
        by_cases h4 : d.k = 4
        · rw [if_pos h4]; exact does_vics w H D ok hR d hd h4 HA
        · rw [if_neg h4]
          by_cases h1 : d.k = 1
          · rw [if_pos h1]; exact does_steal w H D ok hR d hd h1 HA
          · rw [if_neg h1]; exact does_else w H D ok d hd h0 h1 h2 h3 h4 HA
end Go.Proofs.Ytkbkilkmiigahaa.Cx
