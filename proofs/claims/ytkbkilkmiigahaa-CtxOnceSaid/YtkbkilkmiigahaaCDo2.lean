/-
  The law's does of layer 14: Victim, Steal, what is asked. Conditions: the pool and the document's are the same and as they must be.
-/
import Derived.Test.YtkbkilkmiigahaaCDo
namespace Go.Proofs.Ytkbkilkmiigahaa.Cx
open Fld
open Go.ChangeShapes Go.WideShapes Go.ChangeAt Go.RowKit Go.Shelf Go.Deep
set_option maxHeartbeats 2000000
set_option maxRecDepth 100000
theorem IsInts.take {w : World} {ao : Option Addr} {cap : Nat} {A : List Int} (h : IsInts w ao cap A) (k : Nat) : IsInts w ao cap (A.take k) :=
  ⟨by have := h.le; rw [List.length_take]; omega, h.cm, fun j hj => by
    have hj2 : j < A.length := by rw [List.length_take] at hj; omega
    obtain ⟨b, o, e, hc⟩ := h.at_ j hj2
    exact ⟨b, o, e, by rw [List.getElem_take]; exact hc⟩, fun a ha => h.bd a (List.mem_of_mem_take ha)⟩
theorem three_low (w : World) (o q r : Obj) : Below w.heap.size w (((w.alloc o).alloc q).alloc r) := (((Below.refl _ _).alloc (Nat.le_refl _) _).alloc (by simp) _).alloc (by simp; omega) _
theorem does_steal {pb bm ob : Nat} {P : Pl} {v : Value} (w : World) (H : PoolAt w pb bm ob P) (D : ListT w (pb + 1) P.n P.T v) (ok : P.Ok) (hR : P.R ≤ 1000000000) (d : DeedW) (hd : d.wf) (hk : d.k = 1) {ao : Option Addr} {cap : Nat} {A : List Int} (HA : IsInts w ao cap A) :
    Calls Try.prog 11 #[.pointer (some ⟨pb, 0, none⟩), docV v P.h P.R, deedV d (.slice ao A.length cap)] w (DoneD w pb bm ob (P.steal d.n d.s)) := by
  obtain ⟨av, cv, rfl, hl, hcm⟩ := D.shape
  have hpb := H.lt
  have hord := H.ord
  have hal := HA.le
  have hac := HA.cm
  have S0 := DS.new w pb bm ob (.slice av P.n cv) P d (.slice ao A.length cap)
  have H0 := ((H.alloc (docO (.slice av P.n cv) P.h P.R)).alloc (deedO d (.slice ao A.length cap))).alloc docZ
  have D0 := ((D.alloc (docO (.slice av P.n cv) P.h P.R)).alloc (deedO d (.slice ao A.length cap))).alloc docZ
  have A0 := ((HA.take 10).low (Nat.le_refl _) (three_low w (docO (.slice av P.n cv) P.h P.R) (deedO d (.slice ao A.length cap)) docZ))
  unfold maxLen at hcm hac
  obtain ⟨dk, dn, ds⟩ := d
  obtain ⟨k0, k1, n0, n1, s0, s1⟩ := hd
  dsimp only at *
  subst hk
  obtain ⟨L, hL⟩ : ∃ L, A.length = L := ⟨_, rfl⟩
  have el : (min (L : Int) 10).toNat = (A.take 10).length := by rw [List.length_take, ← hL]; omega
  rw [hL] at hal S0 H0 D0 A0 ⊢
  generalize A.take 10 = A' at *
  go_enter Try.func11, Try.ntmps11
  go_wp2_with fail
  generalize (((w.alloc (docO (.slice av P.n cv) P.h P.R)).alloc (deedO ⟨1, dn, ds⟩ (.slice ao L cap))).alloc docZ) = W0 at *
  have RT := rsteal_any W0 D0 ok (by have := H0.lt; omega) dn ds hR
  obtain ⟨Q, hQ⟩ : ∃ Q, P.steal dn ds = Q := ⟨_, rfl⟩
  obtain ⟨I, hI⟩ : ∃ I : Int, P.stealI dn ds = I := ⟨_, rfl⟩
  obtain ⟨E, hE⟩ : ∃ E : Int, P.stealE dn ds = E := ⟨_, rfl⟩
  rw [hQ, hI, hE] at RT
  refine RT.mono ?_
  rintro e w1 ⟨v1, rfl, l1, b1⟩
  obtain ⟨a1, c1, rfl, hl1, hcm1⟩ := l1.shape
  have S1 := S0.low b1
  have H1 := H0.low b1
  have S2 := S1.low ((Below.refl w1.heap.size w1).alloc (Nat.le_refl _) (docO (.slice a1 Q.n c1) Q.h Q.R))
  have H2 := H1.alloc (docO (.slice a1 Q.n c1) Q.h Q.R)
  have l2 := l1.alloc (docO (.slice a1 Q.n c1) Q.h Q.R)
  have nb := heap_alloc_new w1 (docO (.slice a1 Q.n c1) Q.h Q.R)
  have h3 := S1.three
  have TA := steal_any (w1.alloc (docO (.slice a1 Q.n c1) Q.h Q.R)) H2 ok (x := ds) dn s0 s1 hR
  rw [hQ, hI, hE] at TA
  have S2 := Lib.hid S2
  have l2 := Lib.hid l2
  have nb := Lib.hid nb
  have d2 := S2.out.cells
  obtain ⟨x0, x1, x2, x3, x4, x5, x6, x7, x8, x9, xf⟩ := S1.cells
  clear RT S0 H0 D0 b1 H1 S1 l1 H2
  go_wp2_with fail
  generalize w1.alloc (docO (.slice a1 Q.n c1) Q.h Q.R) = W2 at *
  refine TA.mono ?_
  rintro e w3 ⟨rfl, H3, T3⟩
  have S3 := S2.out.turn T3 hpb hord
  have l3 := l2.out.turn T3 (Nat.lt_succ_self pb) hord
  have nb3 := (T3.block w1.heap.size (by have := (Array.getElem?_eq_some_iff.1 nb.out).1; exact this) (by omega) (by omega) (by omega)).trans nb.out
  have F := S3.fin hpb (.slice a1 Q.n c1) Q.h Q.R
  have F := Lib.hid (show _ ∧ _ ∧ _ from ⟨F.1, F.2.1, F.2.2 _ H3⟩)
  have l4 := Lib.hid (l3.set3 (l3.ne S3.rr (by decide)) (.slice a1 Q.n c1) Q.h Q.R)
  have y0 : w3.cell? ⟨w1.heap.size, 0, none⟩ = some (.slice a1 Q.n c1) := by simp [World.cell?, nb3]
  have y1 : w3.cell? ⟨w1.heap.size, 1, none⟩ = some (.int .i64 (Q.h : Int)) := by simp [World.cell?, nb3]
  have y2 : w3.cell? ⟨w1.heap.size, 2, none⟩ = some (.int .i64 (Q.R : Int)) := by simp [World.cell?, nb3]
  obtain ⟨z0, z1, z2, z3, z4, z5, z6, z7, z8, z9, zf⟩ := S3.cells
  have mI : (I == I) = true := by simp
  have mE : (E == E) = true := by simp
  clear TA S2 l2 nb nb3 T3 H3 S3 l3 d2 x0 x1 x2 x3 x4 x5 x6 x7 x8 x9 xf
  go_wp2
  exact bodyPost_ret (res_P1 rfl _ _ _ rfl F.out.1) rfl (by rw [hQ]; exact done_mk rfl rfl F.out.2.2 l4.out F.out.2.1)
theorem does_vic {pb bm ob : Nat} {P : Pl} {v : Value} (w : World) (H : PoolAt w pb bm ob P) (D : ListT w (pb + 1) P.n P.T v) (ok : P.Ok) (d : DeedW) (hd : d.wf) (hk : d.k = 3) {ao : Option Addr} {cap : Nat} {A : List Int} (HA : IsInts w ao cap A) :
    Calls Try.prog 11 #[.pointer (some ⟨pb, 0, none⟩), docV v P.h P.R, deedV d (.slice ao A.length cap)] w (DoneD w pb bm ob (P)) := by
  obtain ⟨av, cv, rfl, hl, hcm⟩ := D.shape
  have hpb := H.lt
  have hord := H.ord
  have hal := HA.le
  have hac := HA.cm
  have S0 := DS.new w pb bm ob (.slice av P.n cv) P d (.slice ao A.length cap)
  have H0 := ((H.alloc (docO (.slice av P.n cv) P.h P.R)).alloc (deedO d (.slice ao A.length cap))).alloc docZ
  have D0 := ((D.alloc (docO (.slice av P.n cv) P.h P.R)).alloc (deedO d (.slice ao A.length cap))).alloc docZ
  have A0 := ((HA.take 10).low (Nat.le_refl _) (three_low w (docO (.slice av P.n cv) P.h P.R) (deedO d (.slice ao A.length cap)) docZ))
  unfold maxLen at hcm hac
  obtain ⟨dk, dn, ds⟩ := d
  obtain ⟨k0, k1, n0, n1, s0, s1⟩ := hd
  dsimp only at *
  subst hk
  obtain ⟨L, hL⟩ : ∃ L, A.length = L := ⟨_, rfl⟩
  have el : (min (L : Int) 10).toNat = (A.take 10).length := by rw [List.length_take, ← hL]; omega
  rw [hL] at hal S0 H0 D0 A0 ⊢
  generalize A.take 10 = A' at *
  obtain ⟨I, hI⟩ : ∃ I : Int, (P.vic A' : Int) = I := ⟨_, rfl⟩
  obtain ⟨J, hJ⟩ : ∃ J : Int, P.vicS A' = J := ⟨_, rfl⟩
  obtain ⟨E, hE⟩ : ∃ E : Int, P.vicE A' = E := ⟨_, rfl⟩
  go_enter Try.func11, Try.ntmps11
  go_wp2_with fail
  generalize (((w.alloc (docO (.slice av P.n cv) P.h P.R)).alloc (deedO ⟨3, dn, ds⟩ (.slice ao L cap))).alloc docZ) = W8 at *
  have VA := victim_any W8 H0 ok A0
  rw [hI, hJ, hE] at VA
  refine VA.mono ?_
  rintro e w8 ⟨rfl, b8⟩
  have S8 := S0.low b8
  have H8 := H0.low b8
  have D8 := D0.low b8
  have A8 := A0.low (Nat.le_refl _) b8
  have RA := rvictim_any w8 D8 ok P.R A8
  rw [hI, hJ, hE] at RA
  obtain ⟨x0, x1, x2, x3, x4, x5, x6, x7, x8, x9, xf⟩ := S8.cells
  have S8 := Lib.hid S8
  clear VA S0 H0 D0 A0 b8
  go_wp2_with fail
  refine RA.mono ?_
  rintro e w9 ⟨rfl, b9⟩
  have S9 := S8.out.low b9
  have H9 := H8.low b9
  have D9 := D8.low b9
  have mI : (I != I) = false := by simp
  have mJ : (J != J) = false := by simp
  have mE : (E != E) = false := by simp
  have nI : (I == I) = true := by simp
  have nJ : (J == J) = true := by simp
  have nE : (E == E) = true := by simp
  clear x0 x1 x2 x3 x4 x5 x6 x7 x8 x9 xf RA H8 D8 A8 S8 b9
  obtain ⟨z0, z1, z2, z3, z4, z5, z6, z7, z8, z9, zf⟩ := S9.cells
  have F := S9.fin hpb (.slice av P.n cv) P.h P.R
  have F := Lib.hid (show _ ∧ _ ∧ _ from ⟨F.1, F.2.1, F.2.2 _ H9⟩)
  have l4 := Lib.hid (D9.set3 (D9.ne S9.rr (by decide)) (.slice av P.n cv) P.h P.R)
  clear S9 H9 D9 hI hJ hE
  go_wp2
  exact bodyPost_ret (res_P1 rfl _ _ _ rfl F.out.1) rfl (by exact done_mk rfl rfl F.out.2.2 l4.out F.out.2.1)
theorem does_vics {pb bm ob : Nat} {P : Pl} {v : Value} (w : World) (H : PoolAt w pb bm ob P) (D : ListT w (pb + 1) P.n P.T v) (ok : P.Ok) (hR : P.R ≤ 1000000000) (d : DeedW) (hd : d.wf) (hk : d.k = 4) {ao : Option Addr} {cap : Nat} {A : List Int} (HA : IsInts w ao cap A) :
    Calls Try.prog 11 #[.pointer (some ⟨pb, 0, none⟩), docV v P.h P.R, deedV d (.slice ao A.length cap)] w (DoneD w pb bm ob (P.steal (P.vic (A.take 10) : Int) d.s)) := by
  obtain ⟨av, cv, rfl, hl, hcm⟩ := D.shape
  have hpb := H.lt
  have hord := H.ord
  have hal := HA.le
  have hac := HA.cm
  have S0 := DS.new w pb bm ob (.slice av P.n cv) P d (.slice ao A.length cap)
  have H0 := ((H.alloc (docO (.slice av P.n cv) P.h P.R)).alloc (deedO d (.slice ao A.length cap))).alloc docZ
  have D0 := ((D.alloc (docO (.slice av P.n cv) P.h P.R)).alloc (deedO d (.slice ao A.length cap))).alloc docZ
  have A0 := ((HA.take 10).low (Nat.le_refl _) (three_low w (docO (.slice av P.n cv) P.h P.R) (deedO d (.slice ao A.length cap)) docZ))
  unfold maxLen at hcm hac
  obtain ⟨dk, dn, ds⟩ := d
  obtain ⟨k0, k1, n0, n1, s0, s1⟩ := hd
  dsimp only at *
  subst hk
  obtain ⟨L, hL⟩ : ∃ L, A.length = L := ⟨_, rfl⟩
  have el : (min (L : Int) 10).toNat = (A.take 10).length := by rw [List.length_take, ← hL]; omega
  rw [hL] at hal S0 H0 D0 A0 ⊢
  generalize A.take 10 = A' at *
  obtain ⟨I, hI⟩ : ∃ I : Int, (P.vic A' : Int) = I := ⟨_, rfl⟩
  obtain ⟨J, hJ⟩ : ∃ J : Int, P.vicS A' = J := ⟨_, rfl⟩
  obtain ⟨E, hE⟩ : ∃ E : Int, P.vicE A' = E := ⟨_, rfl⟩
  rw [hI]
  go_enter Try.func11, Try.ntmps11
  go_wp2_with fail
  generalize (((w.alloc (docO (.slice av P.n cv) P.h P.R)).alloc (deedO ⟨4, dn, ds⟩ (.slice ao L cap))).alloc docZ) = W8 at *
  have VA := victim_any W8 H0 ok A0
  rw [hI, hJ, hE] at VA
  refine VA.mono ?_
  rintro e w8 ⟨rfl, b8⟩
  have S8 := S0.low b8
  have H8 := H0.low b8
  have D8 := D0.low b8
  have A8 := A0.low (Nat.le_refl _) b8
  have RA := rvictim_any w8 D8 ok P.R A8
  rw [hI, hJ, hE] at RA
  obtain ⟨x0, x1, x2, x3, x4, x5, x6, x7, x8, x9, xf⟩ := S8.cells
  have S8 := Lib.hid S8
  clear VA S0 H0 D0 A0 b8
  go_wp2_with fail
  refine RA.mono ?_
  rintro e w9 ⟨rfl, b9⟩
  have S9 := S8.out.low b9
  have H9 := H8.low b9
  have D9 := D8.low b9
  have mI : (I != I) = false := by simp
  have mJ : (J != J) = false := by simp
  have mE : (E != E) = false := by simp
  have nI : (I == I) = true := by simp
  have nJ : (J == J) = true := by simp
  have nE : (E == E) = true := by simp
  clear x0 x1 x2 x3 x4 x5 x6 x7 x8 x9 xf RA H8 D8 A8 S8 b9
  obtain ⟨z0, z1, z2, z3, z4, z5, z6, z7, z8, z9, zf⟩ := S9.cells
  have S0 := Lib.hid S9
  have H0 := Lib.hid H9
  have D0 := Lib.hid D9
  clear S9 H9 D9 hJ hE
  go_wp2_with fail
  have S0 := S0.out
  have H0 := H0.out
  have D0 := D0.out
  clear z0 z1 z2 z3 z4 z5 z6 z7 z8 z9 zf mI mJ mE nI nJ nE hI
  have RT := rsteal_any w9 D0 ok (by have := H0.lt; omega) I ds hR
  obtain ⟨Q, hQ⟩ : ∃ Q, P.steal I ds = Q := ⟨_, rfl⟩
  obtain ⟨I2, hI2⟩ : ∃ I2 : Int, P.stealI I ds = I2 := ⟨_, rfl⟩
  obtain ⟨E2, hE2⟩ : ∃ E2 : Int, P.stealE I ds = E2 := ⟨_, rfl⟩
  rw [hQ, hI2, hE2] at RT
  refine RT.mono ?_
  rintro e w1 ⟨v1, rfl, l1, b1⟩
  obtain ⟨a1, c1, rfl, hl1, hcm1⟩ := l1.shape
  have S1 := S0.low b1
  have H1 := H0.low b1
  have S2 := S1.low ((Below.refl w1.heap.size w1).alloc (Nat.le_refl _) (docO (.slice a1 Q.n c1) Q.h Q.R))
  have H2 := H1.alloc (docO (.slice a1 Q.n c1) Q.h Q.R)
  have l2 := l1.alloc (docO (.slice a1 Q.n c1) Q.h Q.R)
  have nb := heap_alloc_new w1 (docO (.slice a1 Q.n c1) Q.h Q.R)
  have h3 := S1.three
  have TA := steal_any (w1.alloc (docO (.slice a1 Q.n c1) Q.h Q.R)) H2 ok (x := ds) I s0 s1 hR
  rw [hQ, hI2, hE2] at TA
  have S2 := Lib.hid S2
  have l2 := Lib.hid l2
  have nb := Lib.hid nb
  have d2 := S2.out.cells
  obtain ⟨x0, x1, x2, x3, x4, x5, x6, x7, x8, x9, xf⟩ := S1.cells
  clear RT S0 H0 D0 b1 H1 S1 l1 H2
  go_wp2_with fail
  generalize w1.alloc (docO (.slice a1 Q.n c1) Q.h Q.R) = W2 at *
  refine TA.mono ?_
  rintro e w3 ⟨rfl, H3, T3⟩
  have S3 := S2.out.turn T3 hpb hord
  have l3 := l2.out.turn T3 (Nat.lt_succ_self pb) hord
  have nb3 := (T3.block w1.heap.size (by have := (Array.getElem?_eq_some_iff.1 nb.out).1; exact this) (by omega) (by omega) (by omega)).trans nb.out
  have F := S3.fin hpb (.slice a1 Q.n c1) Q.h Q.R
  have F := Lib.hid (show _ ∧ _ ∧ _ from ⟨F.1, F.2.1, F.2.2 _ H3⟩)
  have l4 := Lib.hid (l3.set3 (l3.ne S3.rr (by decide)) (.slice a1 Q.n c1) Q.h Q.R)
  have y0 : w3.cell? ⟨w1.heap.size, 0, none⟩ = some (.slice a1 Q.n c1) := by simp [World.cell?, nb3]
  have y1 : w3.cell? ⟨w1.heap.size, 1, none⟩ = some (.int .i64 (Q.h : Int)) := by simp [World.cell?, nb3]
  have y2 : w3.cell? ⟨w1.heap.size, 2, none⟩ = some (.int .i64 (Q.R : Int)) := by simp [World.cell?, nb3]
  obtain ⟨z0, z1, z2, z3, z4, z5, z6, z7, z8, z9, zf⟩ := S3.cells
  have mI : (I2 == I2) = true := by simp
  have mE : (E2 == E2) = true := by simp
  clear TA S2 l2 nb nb3 T3 H3 S3 l3 d2 x0 x1 x2 x3 x4 x5 x6 x7 x8 x9 xf
  go_wp2
  exact bodyPost_ret (res_P1 rfl _ _ _ rfl F.out.1) rfl (by rw [hQ]; exact done_mk rfl rfl F.out.2.2 l4.out F.out.2.1)
theorem max_ret {o : Int} : (max o 0 == max o 0) = true := by simp
theorem asks_any {pb bm ob : Nat} {P : Pl} {v : Value} (w : World) (H : PoolAt w pb bm ob P) (D : ListT w (pb + 1) P.n P.T v) (ok : P.Ok) (d : DeedW) (hd : d.wf) (ad : Option Addr) (la ca : Nat) :
    Calls Try.prog 30 #[.pointer (some ⟨pb, 0, none⟩), docV v P.h P.R, deedV d (.slice ad la ca)] w fun e w' => e = .returned (.bool true) ∧ Below w.heap.size w w' := by
  obtain ⟨av, cv, rfl, hl, hcm⟩ := D.shape
  have B0 := two_low w (docO (.slice av P.n cv) P.h P.R) (deedO d (.slice ad la ca))
  have H0 := H.low B0
  have D0 := D.low B0
  obtain ⟨dk, dn, ds⟩ := d
  obtain ⟨k0, k1, n0, n1, s0, s1⟩ := hd
  dsimp only at *
  have OA := of_any _ H0 s0 s1 (Pl.tells (P := P) ds)
  have OB := owner_any _ H0 (fun i hi => ok.bd hi) dn
  have b0 : ((w.alloc (docO (.slice av P.n cv) P.h P.R)).alloc (deedO ⟨dk, dn, ds⟩ (.slice ad la ca))).heap[w.heap.size]? = some (docO (.slice av P.n cv) P.h P.R) := by
    rw [Below.heap_alloc _ _ _ (by simp)]; exact heap_alloc_new _ _
  have b1 : ((w.alloc (docO (.slice av P.n cv) P.h P.R)).alloc (deedO ⟨dk, dn, ds⟩ (.slice ad la ca))).heap[w.heap.size + 1]? = some (deedO ⟨dk, dn, ds⟩ (.slice ad la ca)) := by
    have := heap_alloc_new (w.alloc (docO (.slice av P.n cv) P.h P.R)) (deedO ⟨dk, dn, ds⟩ (.slice ad la ca))
    simpa using this
  obtain ⟨m, hm⟩ : ∃ m, P.of ds = m := ⟨_, rfl⟩
  obtain ⟨I, hI⟩ : ∃ I : Int, P.ownI dn = I := ⟨_, rfl⟩
  obtain ⟨b, hb⟩ : ∃ b : Bool, P.ownB dn = b := ⟨_, rfl⟩
  rw [hm] at OA
  rw [show Pl.ownI ⟨P.n, P.T, P.h, P.R⟩ dn = I from hI, show Pl.ownB ⟨P.n, P.T, P.h, P.R⟩ dn = b from hb] at OB
  have nm : ((m : Int) == (m : Int)) = true := by simp
  go_enter Try.func30, Try.ntmps30
  go_wp2_with fail
  generalize (w.alloc (docO (.slice av P.n cv) P.h P.R)).alloc (deedO ⟨dk, dn, ds⟩ (.slice ad la ca)) = W0 at *
  refine OA.mono ?_
  rintro e w1 ⟨rfl, rfl⟩
  have RA := rof_any W0 D0 ds P.R
  rw [hm] at RA
  have x0 : W0.cell? ⟨w.heap.size, 0, none⟩ = some (.slice av P.n cv) := by simp [World.cell?, b0]
  have x1 : W0.cell? ⟨w.heap.size, 1, none⟩ = some (.int .i64 (P.h : Int)) := by simp [World.cell?, b0]
  have x2 : W0.cell? ⟨w.heap.size, 2, none⟩ = some (.int .i64 (P.R : Int)) := by simp [World.cell?, b0]
  have x3 : W0.cell? ⟨w.heap.size + 1, 1, none⟩ = some (.int .i64 dn) := by simp [World.cell?, b1]
  have x4 : W0.cell? ⟨w.heap.size + 1, 2, none⟩ = some (.int .i64 ds) := by simp [World.cell?, b1]
  clear OA
  go_wp2_with fail
  refine RA.mono ?_
  rintro e w2 ⟨rfl, hb2⟩
  have hw : w.heap.size + 1 < W0.heap.size := (Array.getElem?_eq_some_iff.1 b1).1
  have H2 := H0.low hb2
  have D2 := D0.low hb2
  have c0 := (hb2.block w.heap.size (by omega)).trans b0
  have c1 := (hb2.block (w.heap.size + 1) (by omega)).trans b1
  have B2 := B0.trans (hb2.mono B0.size)
  have OB := owner_any w2 H2 (fun i hi => ok.bd hi) dn
  rw [show Pl.ownI ⟨P.n, P.T, P.h, P.R⟩ dn = I from hI, show Pl.ownB ⟨P.n, P.T, P.h, P.R⟩ dn = b from hb] at OB
  have y0 : w2.cell? ⟨w.heap.size, 0, none⟩ = some (.slice av P.n cv) := by simp [World.cell?, c0]
  have y1 : w2.cell? ⟨w.heap.size, 1, none⟩ = some (.int .i64 (P.h : Int)) := by simp [World.cell?, c0]
  have y2 : w2.cell? ⟨w.heap.size, 2, none⟩ = some (.int .i64 (P.R : Int)) := by simp [World.cell?, c0]
  have y3 : w2.cell? ⟨w.heap.size + 1, 1, none⟩ = some (.int .i64 dn) := by simp [World.cell?, c1]
  clear RA x0 x1 x2 x3 x4
  go_wp2_with fail
  refine OB.mono ?_
  rintro e w3 ⟨rfl, rfl⟩
  have RO := rowner_any w2 D2 (fun i hi => (ok.bd hi).1) dn P.R
  rw [hI, hb] at RO
  clear OB
  go_wp2_with fail
  refine RO.mono ?_
  rintro e w4 ⟨⟨o, rfl, hbo, hIo, ho⟩, hb4⟩
  have B4 := Lib.hid (B2.trans (hb4.mono B2.size))
  subst hIo
  subst hbo
  clear RO y0 y1 y2 y3 hI hb hm H0 D0 H2 D2 b0 b1 c0 c1 B0 B2 hb2 hb4
  by_cases hmz : m = 0
  · subst hmz
    by_cases h0 : 0 ≤ o
    · rw [decide_eq_true h0]
      go_wp2
      go_ret
      first | exact ⟨rfl, B4.out⟩ | (refine ⟨?_, B4.out⟩; show Ending.returned (Value.bool (!decide (0 ≤ o))) = _; rw [decide_eq_false (by omega)]; rfl)
    · rw [decide_eq_false h0]
      have h1 : o < 0 := by omega
      go_wp2
      go_ret
      first | exact ⟨rfl, B4.out⟩ | (refine ⟨?_, B4.out⟩; show Ending.returned (Value.bool (!decide (0 ≤ o))) = _; rw [decide_eq_false (by omega)]; rfl)
  · have hmd : decide (m = 0) = false := decide_eq_false hmz
    rw [hmd]
    clear hmd
    have hm1 : 0 < (m : Int) := by omega
    by_cases h0 : 0 ≤ o
    · rw [decide_eq_true h0]
      go_wp2
      go_ret
      first | exact ⟨rfl, B4.out⟩ | (refine ⟨?_, B4.out⟩; show Ending.returned (Value.bool (!decide (0 ≤ o))) = _; rw [decide_eq_false (by omega)]; rfl)
    · rw [decide_eq_false h0]
      have h1 : o < 0 := by omega
      go_wp2
      go_ret
      first | exact ⟨rfl, B4.out⟩ | (refine ⟨?_, B4.out⟩; show Ending.returned (Value.bool (!decide (0 ≤ o))) = _; rw [decide_eq_false (by omega)]; rfl)
end Go.Proofs.Ytkbkilkmiigahaa.Cx
