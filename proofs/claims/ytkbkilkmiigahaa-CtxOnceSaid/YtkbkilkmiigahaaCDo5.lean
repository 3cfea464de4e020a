/-
  The law's does of layer 14 where the document's pool is any other one, whatever the deed. Conditions: both are as they must be.
-/
import Derived.Test.YtkbkilkmiigahaaCDo4
namespace Go.Proofs.Ytkbkilkmiigahaa.Cx
open Fld
open Go.ChangeShapes Go.WideShapes Go.ChangeAt Go.RowKit Go.Shelf Go.Deep
set_option maxHeartbeats 2000000
set_option maxRecDepth 100000
/-- A way that ends with a bool. -/
def SomeB (e : Ending) : Prop := ∃ b : Bool, e = .returned (.bool b)
theorem asks_gen {pb bm ob : Nat} {P Q : Pl} {v : Value} (w : World) (H : PoolAt w pb bm ob P) (D : ListT w (pb + 1) Q.n Q.T v) (ok : P.Ok) (okq : Q.Ok) (d : DeedW) (hd : d.wf) (ad : Option Addr) (la ca : Nat) :
    Calls Try.prog 30 #[.pointer (some ⟨pb, 0, none⟩), docV v Q.h Q.R, deedV d (.slice ad la ca)] w fun e w' => SomeB e ∧ Below w.heap.size w w' := by
  obtain ⟨av, cv, rfl, hl, hcm⟩ := D.shape
  have B0 := two_low w (docO (.slice av Q.n cv) Q.h Q.R) (deedO d (.slice ad la ca))
  have H0 := H.low B0
  have D0 := D.low B0
  obtain ⟨dk, dn, ds⟩ := d
  obtain ⟨k0, k1, n0, n1, s0, s1⟩ := hd
  dsimp only at *
  have OA := of_any _ H0 s0 s1 (Pl.tells (P := P) ds)
  have b0 : ((w.alloc (docO (.slice av Q.n cv) Q.h Q.R)).alloc (deedO ⟨dk, dn, ds⟩ (.slice ad la ca))).heap[w.heap.size]? = some (docO (.slice av Q.n cv) Q.h Q.R) := by
    rw [Below.heap_alloc _ _ _ (by simp)]; exact heap_alloc_new _ _
  have b1 : ((w.alloc (docO (.slice av Q.n cv) Q.h Q.R)).alloc (deedO ⟨dk, dn, ds⟩ (.slice ad la ca))).heap[w.heap.size + 1]? = some (deedO ⟨dk, dn, ds⟩ (.slice ad la ca)) := by
    have := heap_alloc_new (w.alloc (docO (.slice av Q.n cv) Q.h Q.R)) (deedO ⟨dk, dn, ds⟩ (.slice ad la ca))
    simpa using this
  obtain ⟨m, hm⟩ : ∃ m, P.of ds = m := ⟨_, rfl⟩
  obtain ⟨m2, hm2⟩ : ∃ m2, Q.of ds = m2 := ⟨_, rfl⟩
  obtain ⟨I, hI⟩ : ∃ I : Int, P.ownI dn = I := ⟨_, rfl⟩
  obtain ⟨b, hb⟩ : ∃ b : Bool, P.ownB dn = b := ⟨_, rfl⟩
  rw [hm] at OA
  go_enter Try.func30, Try.ntmps30
  go_wp2_with fail
  generalize (w.alloc (docO (.slice av Q.n cv) Q.h Q.R)).alloc (deedO ⟨dk, dn, ds⟩ (.slice ad la ca)) = W0 at *
  refine OA.mono ?_
  rintro e w1 ⟨rfl, rfl⟩
  have RA := rof_any W0 D0 ds Q.R
  rw [hm2] at RA
  have x0 : W0.cell? ⟨w.heap.size, 0, none⟩ = some (.slice av Q.n cv) := by simp [World.cell?, b0]
  have x1 : W0.cell? ⟨w.heap.size, 1, none⟩ = some (.int .i64 (Q.h : Int)) := by simp [World.cell?, b0]
  have x2 : W0.cell? ⟨w.heap.size, 2, none⟩ = some (.int .i64 (Q.R : Int)) := by simp [World.cell?, b0]
  have x3 : W0.cell? ⟨w.heap.size + 1, 1, none⟩ = some (.int .i64 dn) := by simp [World.cell?, b1]
  have x4 : W0.cell? ⟨w.heap.size + 1, 2, none⟩ = some (.int .i64 ds) := by simp [World.cell?, b1]
  clear OA
  go_wp2_with fail
  refine RA.mono ?_
  rintro e w2 ⟨rfl, hb2⟩
  have hw : w.heap.size + 1 < W0.heap.size := (Array.getElem?_eq_some_iff.1 b1).1
  have H2 := H0.low hb2
  have D2 := D0.low hb2
  have c0 := (hb2.block w.heap.size (by omega)).trans b0
  have c1 := (hb2.block (w.heap.size + 1) (by omega)).trans b1
  have B2 := B0.trans (hb2.mono B0.size)
  have OB := owner_any w2 H2 (fun i hi => ok.bd hi) dn
  rw [show Pl.ownI ⟨P.n, P.T, P.h, P.R⟩ dn = I from hI, show Pl.ownB ⟨P.n, P.T, P.h, P.R⟩ dn = b from hb] at OB
  have y0 : w2.cell? ⟨w.heap.size, 0, none⟩ = some (.slice av Q.n cv) := by simp [World.cell?, c0]
  have y1 : w2.cell? ⟨w.heap.size, 1, none⟩ = some (.int .i64 (Q.h : Int)) := by simp [World.cell?, c0]
  have y2 : w2.cell? ⟨w.heap.size, 2, none⟩ = some (.int .i64 (Q.R : Int)) := by simp [World.cell?, c0]
  have y3 : w2.cell? ⟨w.heap.size + 1, 1, none⟩ = some (.int .i64 dn) := by simp [World.cell?, c1]
  clear RA x0 x1 x2 x3 x4
  go_wp2_with fail
  refine OB.mono ?_
  rintro e w3 ⟨rfl, rfl⟩
  have RO := rowner_any w2 D2 (fun i hi => (okq.bd hi).1) dn Q.R
  clear OB
  go_wp2_with fail
  refine RO.mono ?_
  rintro e w4 ⟨⟨o, rfl, _, _, ho⟩, hb4⟩
  have B4 := Lib.hid (B2.trans (hb4.mono B2.size))
  obtain ⟨b3, hb3⟩ : ∃ b3 : Bool, decide (m ≠ 0) = b3 := ⟨_, rfl⟩
  have hb5 : (!decide (m = 0)) = b3 := by rw [← hb3]; simp
  first | rw [hb3] | rw [hb5]
  obtain ⟨o2, ho2⟩ : ∃ o2 : Int, max o 0 = o2 := ⟨_, rfl⟩
  clear RO y0 y1 y2 y3 hI hb hm hm2 H0 D0 H2 D2 b0 b1 c0 c1 B0 B2 hb2 hb4 hb3 hb5
  by_cases e1 : (m : Int) = (m2 : Int)
  · have q1 : ((m : Int) == (m2 : Int)) = true := by simp [e1]
    rw [e1]
    by_cases h2 : 0 < (m2 : Int)
    · cases b3
      · go_wp2
        go_ret
        exact ⟨⟨_, rfl⟩, B4.out⟩
      · by_cases h0 : 0 ≤ o
        · cases b
          · go_wp2
            go_ret
            exact ⟨⟨_, rfl⟩, B4.out⟩
          · go_wp2
            go_ret
            exact ⟨⟨_, rfl⟩, B4.out⟩
        · have h1 : o < 0 := by omega
          cases b
          · go_wp2
            go_ret
            exact ⟨⟨_, rfl⟩, B4.out⟩
          · go_wp2
            go_ret
            exact ⟨⟨_, rfl⟩, B4.out⟩
    · cases b3
      · by_cases h0 : 0 ≤ o
        · cases b
          · go_wp2
            go_ret
            exact ⟨⟨_, rfl⟩, B4.out⟩
          · go_wp2
            go_ret
            exact ⟨⟨_, rfl⟩, B4.out⟩
        · have h1 : o < 0 := by omega
          cases b
          · go_wp2
            go_ret
            exact ⟨⟨_, rfl⟩, B4.out⟩
          · go_wp2
            go_ret
            exact ⟨⟨_, rfl⟩, B4.out⟩
      · go_wp2
        go_ret
        exact ⟨⟨_, rfl⟩, B4.out⟩
  · have q1 : ((m : Int) == (m2 : Int)) = false := by simp; omega
    go_wp2
    go_ret
    exact ⟨⟨_, rfl⟩, B4.out⟩
/-- Within asking: the boxes and both pools, each its own. -/
structure AG (w wr : World) (pb bm ob : Nat) (v : Value) (P Q : Pl) (d : DeedW) (av : Value) : Prop where
  s : DS w wr pb bm ob v Q d av
  pool : PoolAt wr pb bm ob P
  doc : ListT wr (pb + 1) Q.n Q.T v
section
variable {w wr : World} {pb bm ob : Nat} {v av : Value} {P Q : Pl} {d : DeedW}
theorem AG.low {wq : World} (h : AG w wr pb bm ob v P Q d av) (k : Below wr.heap.size wr wq) : AG w wq pb bm ob v P Q d av := ⟨h.s.low k, h.pool.low k, h.doc.low k⟩
theorem AG.drew (h : AG w wr pb bm ob v P Q d av) : AG w wr.drew pb bm ob v P Q d av := h.low ((Below.refl _ _).drew)
theorem AG.bs (h : AG w wr pb bm ob v P Q d av) : BS w wr v Q d av := ⟨h.s.box, h.s.dd⟩
theorem ag_asks {ad : Option Addr} {la ca : Nat} (h : AG w wr pb bm ob v P Q d (.slice ad la ca)) (ok : P.Ok) (okq : Q.Ok) (hd : d.wf) :
    Calls Try.prog 30 #[.pointer (some ⟨pb, 0, none⟩), docV v Q.h Q.R, deedV d (.slice ad la ca)] wr fun e w' => ∃ b : Bool, e = .returned (.bool b) ∧ AG w w' pb bm ob v P Q d (.slice ad la ca) :=
  (asks_gen wr h.pool h.doc ok okq d hd ad la ca).mono (by rintro e w' ⟨⟨b, rfl⟩, hb⟩; exact ⟨b, rfl, h.low hb⟩)
end
theorem gen_else {pb bm ob : Nat} {P Q : Pl} {v : Value} (w : World) (H : PoolAt w pb bm ob P) (D : ListT w (pb + 1) Q.n Q.T v) (ok : P.Ok) (okq : Q.Ok) (d : DeedW) (hd : d.wf) (h0 : d.k ≠ 0) (h1 : d.k ≠ 1) (h2 : d.k ≠ 2) (h3 : d.k ≠ 3) (h4 : d.k ≠ 4) {ao : Option Addr} {cap : Nat} {A : List Int} (HA : IsInts w ao cap A) :
    Calls Try.prog 11 #[.pointer (some ⟨pb, 0, none⟩), docV v Q.h Q.R, deedV d (.slice ao A.length cap)] w (DoneG w pb bm ob P) := by
  obtain ⟨av, cv, rfl, hl, hcm⟩ := D.shape
  have hpb := H.lt
  have hord := H.ord
  have hal := HA.le
  have hac := HA.cm
  have B0 := three_low w (docO (.slice av Q.n cv) Q.h Q.R) (deedO d (.slice ao A.length cap)) docZ
  have X0 : AG w (((w.alloc (docO (.slice av Q.n cv) Q.h Q.R)).alloc (deedO d (.slice ao A.length cap))).alloc docZ) pb bm ob (.slice av Q.n cv) P Q d (.slice ao A.length cap) := ⟨DS.new w pb bm ob (.slice av Q.n cv) Q d (.slice ao A.length cap), H.low B0, D.low B0⟩
  unfold maxLen at hcm hac
  obtain ⟨L, hL⟩ : ∃ L, A.length = L := ⟨_, rfl⟩
  rw [hL] at hal X0 ⊢
  clear B0 HA H D
  obtain ⟨dk, dn, ds⟩ := d
  dsimp only at h0 h1 h2 h3 h4
  go_enter Try.func11, Try.ntmps11
  go_wp2
  generalize (((w.alloc (docO (.slice av Q.n cv) Q.h Q.R)).alloc (deedO ⟨dk, dn, ds⟩ (.slice ao L cap))).alloc docZ) = W0 at *
  have X1 := X0.drew
  clear X0
  have q7 := X1.s.cells.2.2.2.2.2.2.2.1
  have q8 := X1.s.cells.2.2.2.2.2.2.2.2.1
  have q9 := X1.s.cells.2.2.2.2.2.2.2.2.2.1
  have qf := X1.s.cells.2.2.2.2.2.2.2.2.2.2
  go_region_held3 (fun w9 => w9.cell? ⟨w.heap.size, 0, none⟩ = some (.slice av Q.n cv) ∧ w9.cell? ⟨w.heap.size, 1, none⟩ = some (.int .i64 (Q.h : Int)) ∧ w9.cell? ⟨w.heap.size, 2, none⟩ = some (.int .i64 (Q.R : Int)) ∧ w9.cell? ⟨w.heap.size + 1, 0, none⟩ = some (.int .i64 dk) ∧ w9.cell? ⟨w.heap.size + 1, 1, none⟩ = some (.int .i64 dn) ∧ w9.cell? ⟨w.heap.size + 1, 2, none⟩ = some (.int .i64 ds) ∧ w9.cell? ⟨w.heap.size + 1, 3, none⟩ = some (.slice ao L cap))
    ((refine BS.cells (w := w) (P := Q) (d := ⟨dk, dn, ds⟩) ?_; repeat (first | (exact AG.bs (pb := pb) (bm := bm) (ob := ob) (P := P) (by assumption)) | (refine BS.set ?_ _ _))))
    (first | (go_at_call 30; (with_reducible refine (ag_asks (by assumption) ok okq hd).mono ?_); rintro e w9 ⟨bx, rfl, P9⟩; have r7 := P9.s.cells.2.2.2.2.2.2.2.1; have r8 := P9.s.cells.2.2.2.2.2.2.2.2.1; have r9 := P9.s.cells.2.2.2.2.2.2.2.2.2.1; have rf := P9.s.cells.2.2.2.2.2.2.2.2.2.2))
  have F := P9.s.fin hpb (.slice av Q.n cv) Q.h Q.R
  have F := Lib.hid (show _ ∧ _ ∧ _ from ⟨F.1, F.2.1, F.2.2 _ P9.pool⟩)
  clear X1 q7 q8 q9 qf r7 r8 r9 rf P9
  go_wp2
  exact bodyPost_ret (res_P1 rfl _ _ _ rfl F.out.1) rfl ⟨_, P, rfl, ok, rfl, Nat.le_succ _, F.out.2.2, F.out.2.1⟩
theorem does_gen {pb bm ob : Nat} {P Q : Pl} {v : Value} (w : World) (H : PoolAt w pb bm ob P) (D : ListT w (pb + 1) Q.n Q.T v) (ok : P.Ok) (okq : Q.Ok) (hR : P.R ≤ 1000000000) (hRq : Q.R ≤ 1000000000) (d : DeedW) (hd : d.wf) {ao : Option Addr} {cap : Nat} {A : List Int} (HA : IsInts w ao cap A) :
    Calls Try.prog 11 #[.pointer (some ⟨pb, 0, none⟩), docV v Q.h Q.R, deedV d (.slice ao A.length cap)] w (DoneG w pb bm ob P) := by
  by_cases h0 : d.k = 0
  · exact gen_take w H D ok okq hR hRq d hd h0 HA
  · by_cases h2 : d.k = 2
    · exact gen_give w H D ok d hd h2 HA
    · by_cases h3 : d.k = 3
      · exact gen_vic w H D ok okq d hd h3 HA
      · by_cases h4 : d.k = 4
        · exact gen_vics w H D ok okq hR hRq d hd h4 HA
        · by_cases h1 : d.k = 1
          · exact gen_steal w H D ok okq hR hRq d hd h1 HA
          · exact gen_else w H D ok okq d hd h0 h1 h2 h3 h4 HA
end Go.Proofs.Ytkbkilkmiigahaa.Cx
