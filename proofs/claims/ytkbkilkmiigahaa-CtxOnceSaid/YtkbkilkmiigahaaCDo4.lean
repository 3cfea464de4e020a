/-
  The law's does of layer 14 where the document's pool is any other one: what it leaves of the pool. Conditions: both are as they must be.
-/
import Derived.Test.YtkbkilkmiigahaaCDo3
namespace Go.Proofs.Ytkbkilkmiigahaa.Cx
open Fld
open Go.ChangeShapes Go.WideShapes Go.ChangeAt Go.RowKit Go.Shelf Go.Deep
set_option maxHeartbeats 2000000
set_option maxRecDepth 100000
/-- What a deed leaves: a pool as it must be. -/
def DoneG (w : World) (pb bm ob : Nat) (P : Pl) (e : Ending) (w' : World) : Prop :=
  ∃ (x : Value) (P' : Pl), e = .returned x ∧ P'.Ok ∧ P'.n = P.n ∧ P'.R ≤ P.R + 1 ∧ PoolAt w' pb bm ob P' ∧ Turn w w' pb bm ob
theorem gen_take {pb bm ob : Nat} {P Q : Pl} {v : Value} (w : World) (H : PoolAt w pb bm ob P) (D : ListT w (pb + 1) Q.n Q.T v) (ok : P.Ok) (okq : Q.Ok) (hR : P.R ≤ 1000000000) (hRq : Q.R ≤ 1000000000) (d : DeedW) (hd : d.wf) (hk : d.k = 0) {ao : Option Addr} {cap : Nat} {A : List Int} (HA : IsInts w ao cap A) :
    Calls Try.prog 11 #[.pointer (some ⟨pb, 0, none⟩), docV v Q.h Q.R, deedV d (.slice ao A.length cap)] w (DoneG w pb bm ob P) := by
  obtain ⟨av, cv, rfl, hl, hcm⟩ := D.shape
  have hpb := H.lt
  have hord := H.ord
  have hal := HA.le
  have hac := HA.cm
  have S0 := DS.new w pb bm ob (.slice av Q.n cv) Q d (.slice ao A.length cap)
  have H0 := ((H.alloc (docO (.slice av Q.n cv) Q.h Q.R)).alloc (deedO d (.slice ao A.length cap))).alloc docZ
  have D0 := ((D.alloc (docO (.slice av Q.n cv) Q.h Q.R)).alloc (deedO d (.slice ao A.length cap))).alloc docZ
  have A0 := ((HA.take 10).low (Nat.le_refl _) (three_low w (docO (.slice av Q.n cv) Q.h Q.R) (deedO d (.slice ao A.length cap)) docZ))
  unfold maxLen at hcm hac
  obtain ⟨dk, dn, ds⟩ := d
  obtain ⟨k0, k1, n0, n1, s0, s1⟩ := hd
  dsimp only at *
  subst hk
  obtain ⟨L, hL⟩ : ∃ L, A.length = L := ⟨_, rfl⟩
  have el : (min (L : Int) 10).toNat = (A.take 10).length := by rw [List.length_take, ← hL]; omega
  rw [hL] at hal S0 H0 D0 A0 ⊢
  generalize A.take 10 = A' at *
  go_enter Try.func11, Try.ntmps11
  go_wp2_with fail
  generalize (((w.alloc (docO (.slice av Q.n cv) Q.h Q.R)).alloc (deedO ⟨0, dn, ds⟩ (.slice ao L cap))).alloc docZ) = W0 at *
  have RT := rtake_any W0 D0 okq (by have := H0.lt; omega) ds hRq
  obtain ⟨Q1, hQ⟩ : ∃ Q1, Q.take ds = Q1 := ⟨_, rfl⟩
  obtain ⟨I2, hI2⟩ : ∃ I2 : Int, (Q.takeI ds : Int) = I2 := ⟨_, rfl⟩
  obtain ⟨E2, hE2⟩ : ∃ E2 : Int, Q.takeE ds = E2 := ⟨_, rfl⟩
  rw [hQ, hI2, hE2] at RT
  refine RT.mono ?_
  rintro e w1 ⟨v1, rfl, l1, b1⟩
  obtain ⟨a1, c1, rfl, hl1, hcm1⟩ := l1.shape
  have S1 := S0.low b1
  have H1 := H0.low b1
  have S2 := S1.low ((Below.refl w1.heap.size w1).alloc (Nat.le_refl _) (docO (.slice a1 Q1.n c1) Q1.h Q1.R))
  have H2 := H1.alloc (docO (.slice a1 Q1.n c1) Q1.h Q1.R)
  have nb := heap_alloc_new w1 (docO (.slice a1 Q1.n c1) Q1.h Q1.R)
  have h3 := S1.three
  have TA := take_any (w1.alloc (docO (.slice a1 Q1.n c1) Q1.h Q1.R)) H2 ok (x := ds) s0 s1 hR
  have OKP := ok.take (x := ds) s1
  have NP := P.take_n ds
  have RP := P.take_R ds
  obtain ⟨P1, hP⟩ : ∃ P1, P.take ds = P1 := ⟨_, rfl⟩
  obtain ⟨I, hI⟩ : ∃ I : Int, (P.takeI ds : Int) = I := ⟨_, rfl⟩
  obtain ⟨E, hE⟩ : ∃ E : Int, P.takeE ds = E := ⟨_, rfl⟩
  rw [hP, hI, hE] at TA
  rw [hP] at OKP NP RP
  have NP := Lib.hid NP
  have RP := Lib.hid RP
  have S2 := Lib.hid S2
  have nb := Lib.hid nb
  have d2 := S2.out.cells
  obtain ⟨x0, x1, x2, x3, x4, x5, x6, x7, x8, x9, xf⟩ := S1.cells
  clear RT S0 H0 D0 b1 H1 S1 l1 H2 hQ hP hI hE hI2 hE2
  go_wp2_with fail
  generalize w1.alloc (docO (.slice a1 Q1.n c1) Q1.h Q1.R) = W2 at *
  refine TA.mono ?_
  rintro e w3 ⟨rfl, H3, T3⟩
  have S3 := S2.out.turn T3 hpb hord
  have nb3 := (T3.block w1.heap.size (by have := (Array.getElem?_eq_some_iff.1 nb.out).1; exact this) (by omega) (by omega) (by omega)).trans nb.out
  have F := S3.fin hpb (.slice a1 Q1.n c1) Q1.h Q1.R
  have F := Lib.hid (show _ ∧ _ ∧ _ from ⟨F.1, F.2.1, F.2.2 _ H3⟩)
  have y0 : w3.cell? ⟨w1.heap.size, 0, none⟩ = some (.slice a1 Q1.n c1) := by simp [World.cell?, nb3]
  have y1 : w3.cell? ⟨w1.heap.size, 1, none⟩ = some (.int .i64 (Q1.h : Int)) := by simp [World.cell?, nb3]
  have y2 : w3.cell? ⟨w1.heap.size, 2, none⟩ = some (.int .i64 (Q1.R : Int)) := by simp [World.cell?, nb3]
  obtain ⟨z0, z1, z2, z3, z4, z5, z6, z7, z8, z9, zf⟩ := S3.cells
  clear TA S2 nb nb3 T3 H3 S3 d2 x0 x1 x2 x3 x4 x5 x6 x7 x8 x9 xf
  by_cases eI : I = I2
  · subst eI
    have mI : (I == I) = true := by simp
    by_cases eE : E = E2
    · subst eE
      have mE : (E == E) = true := by simp
      go_wp2
      exact bodyPost_ret (res_P1 rfl _ _ _ rfl F.out.1) rfl ⟨_, P1, rfl, OKP, NP.out, RP.out, F.out.2.2, F.out.2.1⟩
    · have mE : (E == E2) = false := by simp [eE]
      go_wp2
      exact bodyPost_ret (res_P1 rfl _ _ _ rfl F.out.1) rfl ⟨_, P1, rfl, OKP, NP.out, RP.out, F.out.2.2, F.out.2.1⟩
  · have mI : (I == I2) = false := by simp [eI]
    go_wp2
    exact bodyPost_ret (res_P1 rfl _ _ _ rfl F.out.1) rfl ⟨_, P1, rfl, OKP, NP.out, RP.out, F.out.2.2, F.out.2.1⟩
theorem gen_give {pb bm ob : Nat} {P Q : Pl} {v : Value} (w : World) (H : PoolAt w pb bm ob P) (D : ListT w (pb + 1) Q.n Q.T v) (ok : P.Ok) (d : DeedW) (hd : d.wf) (hk : d.k = 2) {ao : Option Addr} {cap : Nat} {A : List Int} (HA : IsInts w ao cap A) :
    Calls Try.prog 11 #[.pointer (some ⟨pb, 0, none⟩), docV v Q.h Q.R, deedV d (.slice ao A.length cap)] w (DoneG w pb bm ob P) := by
  obtain ⟨av, cv, rfl, hl, hcm⟩ := D.shape
  have hpb := H.lt
  have hord := H.ord
  have hal := HA.le
  have hac := HA.cm
  have S0 := DS.new w pb bm ob (.slice av Q.n cv) Q d (.slice ao A.length cap)
  have H0 := ((H.alloc (docO (.slice av Q.n cv) Q.h Q.R)).alloc (deedO d (.slice ao A.length cap))).alloc docZ
  have D0 := ((D.alloc (docO (.slice av Q.n cv) Q.h Q.R)).alloc (deedO d (.slice ao A.length cap))).alloc docZ
  have A0 := ((HA.take 10).low (Nat.le_refl _) (three_low w (docO (.slice av Q.n cv) Q.h Q.R) (deedO d (.slice ao A.length cap)) docZ))
  unfold maxLen at hcm hac
  obtain ⟨dk, dn, ds⟩ := d
  obtain ⟨k0, k1, n0, n1, s0, s1⟩ := hd
  dsimp only at *
  subst hk
  obtain ⟨L, hL⟩ : ∃ L, A.length = L := ⟨_, rfl⟩
  have el : (min (L : Int) 10).toNat = (A.take 10).length := by rw [List.length_take, ← hL]; omega
  rw [hL] at hal S0 H0 D0 A0 ⊢
  generalize A.take 10 = A' at *
  go_enter Try.func11, Try.ntmps11
  go_wp2_with fail
  generalize (((w.alloc (docO (.slice av Q.n cv) Q.h Q.R)).alloc (deedO ⟨2, dn, ds⟩ (.slice ao L cap))).alloc docZ) = W0 at *
  have RT := rgive_any W0 D0 (by have := H0.lt; omega) ds
  obtain ⟨Q1, hQ⟩ : ∃ Q1, Q.give ds = Q1 := ⟨_, rfl⟩
  obtain ⟨I2, hI2⟩ : ∃ I2 : Int, (Q.of ds : Int) = I2 := ⟨_, rfl⟩
  obtain ⟨E2, hE2⟩ : ∃ E2 : Int, Q.giveE ds = E2 := ⟨_, rfl⟩
  rw [hQ, hI2, hE2] at RT
  refine RT.mono ?_
  rintro e w1 ⟨v1, rfl, l1, b1⟩
  obtain ⟨a1, c1, rfl, hl1, hcm1⟩ := l1.shape
  have S1 := S0.low b1
  have H1 := H0.low b1
  have S2 := S1.low ((Below.refl w1.heap.size w1).alloc (Nat.le_refl _) (docO (.slice a1 Q1.n c1) Q1.h Q1.R))
  have H2 := H1.alloc (docO (.slice a1 Q1.n c1) Q1.h Q1.R)
  have nb := heap_alloc_new w1 (docO (.slice a1 Q1.n c1) Q1.h Q1.R)
  have h3 := S1.three
  have TA := give_any (w1.alloc (docO (.slice a1 Q1.n c1) Q1.h Q1.R)) H2 ok (x := ds) s0 s1
  have OKP := ok.give ds
  have NP := P.give_n ds
  have RP := P.give_R ds
  obtain ⟨P1, hP⟩ : ∃ P1, P.give ds = P1 := ⟨_, rfl⟩
  obtain ⟨I, hI⟩ : ∃ I : Int, (P.of ds : Int) = I := ⟨_, rfl⟩
  obtain ⟨E, hE⟩ : ∃ E : Int, P.giveE ds = E := ⟨_, rfl⟩
  rw [hP, hI, hE] at TA
  rw [hP] at OKP NP RP
  have NP := Lib.hid NP
  have RP := Lib.hid RP
  have S2 := Lib.hid S2
  have nb := Lib.hid nb
  have d2 := S2.out.cells
  obtain ⟨x0, x1, x2, x3, x4, x5, x6, x7, x8, x9, xf⟩ := S1.cells
  clear RT S0 H0 D0 b1 H1 S1 l1 H2 hQ hP hI hE hI2 hE2
  go_wp2_with fail
  generalize w1.alloc (docO (.slice a1 Q1.n c1) Q1.h Q1.R) = W2 at *
  refine TA.mono ?_
  rintro e w3 ⟨rfl, H3, T3⟩
  have S3 := S2.out.turn T3 hpb hord
  have nb3 := (T3.block w1.heap.size (by have := (Array.getElem?_eq_some_iff.1 nb.out).1; exact this) (by omega) (by omega) (by omega)).trans nb.out
  have F := S3.fin hpb (.slice a1 Q1.n c1) Q1.h Q1.R
  have F := Lib.hid (show _ ∧ _ ∧ _ from ⟨F.1, F.2.1, F.2.2 _ H3⟩)
  have y0 : w3.cell? ⟨w1.heap.size, 0, none⟩ = some (.slice a1 Q1.n c1) := by simp [World.cell?, nb3]
  have y1 : w3.cell? ⟨w1.heap.size, 1, none⟩ = some (.int .i64 (Q1.h : Int)) := by simp [World.cell?, nb3]
  have y2 : w3.cell? ⟨w1.heap.size, 2, none⟩ = some (.int .i64 (Q1.R : Int)) := by simp [World.cell?, nb3]
  obtain ⟨z0, z1, z2, z3, z4, z5, z6, z7, z8, z9, zf⟩ := S3.cells
  clear TA S2 nb nb3 T3 H3 S3 d2 x0 x1 x2 x3 x4 x5 x6 x7 x8 x9 xf
  by_cases eI : I = I2
  · subst eI
    have mI : (I == I) = true := by simp
    by_cases eE : E = E2
    · subst eE
      have mE : (E == E) = true := by simp
      go_wp2
      exact bodyPost_ret (res_P1 rfl _ _ _ rfl F.out.1) rfl ⟨_, P1, rfl, OKP, NP.out, RP.out, F.out.2.2, F.out.2.1⟩
    · have mE : (E == E2) = false := by simp [eE]
      go_wp2
      exact bodyPost_ret (res_P1 rfl _ _ _ rfl F.out.1) rfl ⟨_, P1, rfl, OKP, NP.out, RP.out, F.out.2.2, F.out.2.1⟩
  · have mI : (I == I2) = false := by simp [eI]
    go_wp2
    exact bodyPost_ret (res_P1 rfl _ _ _ rfl F.out.1) rfl ⟨_, P1, rfl, OKP, NP.out, RP.out, F.out.2.2, F.out.2.1⟩
theorem gen_steal {pb bm ob : Nat} {P Q : Pl} {v : Value} (w : World) (H : PoolAt w pb bm ob P) (D : ListT w (pb + 1) Q.n Q.T v) (ok : P.Ok) (okq : Q.Ok) (hR : P.R ≤ 1000000000) (hRq : Q.R ≤ 1000000000) (d : DeedW) (hd : d.wf) (hk : d.k = 1) {ao : Option Addr} {cap : Nat} {A : List Int} (HA : IsInts w ao cap A) :
    Calls Try.prog 11 #[.pointer (some ⟨pb, 0, none⟩), docV v Q.h Q.R, deedV d (.slice ao A.length cap)] w (DoneG w pb bm ob P) := by
  obtain ⟨av, cv, rfl, hl, hcm⟩ := D.shape
  have hpb := H.lt
  have hord := H.ord
  have hal := HA.le
  have hac := HA.cm
  have S0 := DS.new w pb bm ob (.slice av Q.n cv) Q d (.slice ao A.length cap)
  have H0 := ((H.alloc (docO (.slice av Q.n cv) Q.h Q.R)).alloc (deedO d (.slice ao A.length cap))).alloc docZ
  have D0 := ((D.alloc (docO (.slice av Q.n cv) Q.h Q.R)).alloc (deedO d (.slice ao A.length cap))).alloc docZ
  have A0 := ((HA.take 10).low (Nat.le_refl _) (three_low w (docO (.slice av Q.n cv) Q.h Q.R) (deedO d (.slice ao A.length cap)) docZ))
  unfold maxLen at hcm hac
  obtain ⟨dk, dn, ds⟩ := d
  obtain ⟨k0, k1, n0, n1, s0, s1⟩ := hd
  dsimp only at *
  subst hk
  obtain ⟨L, hL⟩ : ∃ L, A.length = L := ⟨_, rfl⟩
  have el : (min (L : Int) 10).toNat = (A.take 10).length := by rw [List.length_take, ← hL]; omega
  rw [hL] at hal S0 H0 D0 A0 ⊢
  generalize A.take 10 = A' at *
  go_enter Try.func11, Try.ntmps11
  go_wp2_with fail
  generalize (((w.alloc (docO (.slice av Q.n cv) Q.h Q.R)).alloc (deedO ⟨1, dn, ds⟩ (.slice ao L cap))).alloc docZ) = W0 at *
  have RT := rsteal_any W0 D0 okq (by have := H0.lt; omega) dn ds hRq
  obtain ⟨Q1, hQ⟩ : ∃ Q1, Q.steal dn ds = Q1 := ⟨_, rfl⟩
  obtain ⟨I2, hI2⟩ : ∃ I2 : Int, Q.stealI dn ds = I2 := ⟨_, rfl⟩
  obtain ⟨E2, hE2⟩ : ∃ E2 : Int, Q.stealE dn ds = E2 := ⟨_, rfl⟩
  rw [hQ, hI2, hE2] at RT
  refine RT.mono ?_
  rintro e w1 ⟨v1, rfl, l1, b1⟩
  obtain ⟨a1, c1, rfl, hl1, hcm1⟩ := l1.shape
  have S1 := S0.low b1
  have H1 := H0.low b1
  have S2 := S1.low ((Below.refl w1.heap.size w1).alloc (Nat.le_refl _) (docO (.slice a1 Q1.n c1) Q1.h Q1.R))
  have H2 := H1.alloc (docO (.slice a1 Q1.n c1) Q1.h Q1.R)
  have nb := heap_alloc_new w1 (docO (.slice a1 Q1.n c1) Q1.h Q1.R)
  have h3 := S1.three
  have TA := steal_any (w1.alloc (docO (.slice a1 Q1.n c1) Q1.h Q1.R)) H2 ok (x := ds) dn s0 s1 hR
  have OKP := ok.steal (m := dn) (x := ds) s1
  have NP := P.steal_n dn ds
  have RP := P.steal_R dn ds
  obtain ⟨P1, hP⟩ : ∃ P1, P.steal dn ds = P1 := ⟨_, rfl⟩
  obtain ⟨I, hI⟩ : ∃ I : Int, P.stealI dn ds = I := ⟨_, rfl⟩
  obtain ⟨E, hE⟩ : ∃ E : Int, P.stealE dn ds = E := ⟨_, rfl⟩
  rw [hP, hI, hE] at TA
  rw [hP] at OKP NP RP
  have NP := Lib.hid NP
  have RP := Lib.hid RP
  have S2 := Lib.hid S2
  have nb := Lib.hid nb
  have d2 := S2.out.cells
  obtain ⟨x0, x1, x2, x3, x4, x5, x6, x7, x8, x9, xf⟩ := S1.cells
  clear RT S0 H0 D0 b1 H1 S1 l1 H2 hQ hP hI hE hI2 hE2
  go_wp2_with fail
  generalize w1.alloc (docO (.slice a1 Q1.n c1) Q1.h Q1.R) = W2 at *
  refine TA.mono ?_
  rintro e w3 ⟨rfl, H3, T3⟩
  have S3 := S2.out.turn T3 hpb hord
  have nb3 := (T3.block w1.heap.size (by have := (Array.getElem?_eq_some_iff.1 nb.out).1; exact this) (by omega) (by omega) (by omega)).trans nb.out
  have F := S3.fin hpb (.slice a1 Q1.n c1) Q1.h Q1.R
  have F := Lib.hid (show _ ∧ _ ∧ _ from ⟨F.1, F.2.1, F.2.2 _ H3⟩)
  have y0 : w3.cell? ⟨w1.heap.size, 0, none⟩ = some (.slice a1 Q1.n c1) := by simp [World.cell?, nb3]
  have y1 : w3.cell? ⟨w1.heap.size, 1, none⟩ = some (.int .i64 (Q1.h : Int)) := by simp [World.cell?, nb3]
  have y2 : w3.cell? ⟨w1.heap.size, 2, none⟩ = some (.int .i64 (Q1.R : Int)) := by simp [World.cell?, nb3]
  obtain ⟨z0, z1, z2, z3, z4, z5, z6, z7, z8, z9, zf⟩ := S3.cells
  clear TA S2 nb nb3 T3 H3 S3 d2 x0 x1 x2 x3 x4 x5 x6 x7 x8 x9 xf
  by_cases eI : I = I2
  · subst eI
    have mI : (I == I) = true := by simp
    by_cases eE : E = E2
    · subst eE
      have mE : (E == E) = true := by simp
      go_wp2
      exact bodyPost_ret (res_P1 rfl _ _ _ rfl F.out.1) rfl ⟨_, P1, rfl, OKP, NP.out, RP.out, F.out.2.2, F.out.2.1⟩
    · have mE : (E == E2) = false := by simp [eE]
      go_wp2
      exact bodyPost_ret (res_P1 rfl _ _ _ rfl F.out.1) rfl ⟨_, P1, rfl, OKP, NP.out, RP.out, F.out.2.2, F.out.2.1⟩
  · have mI : (I == I2) = false := by simp [eI]
    go_wp2
    exact bodyPost_ret (res_P1 rfl _ _ _ rfl F.out.1) rfl ⟨_, P1, rfl, OKP, NP.out, RP.out, F.out.2.2, F.out.2.1⟩
theorem gen_vic {pb bm ob : Nat} {P Q : Pl} {v : Value} (w : World) (H : PoolAt w pb bm ob P) (D : ListT w (pb + 1) Q.n Q.T v) (ok : P.Ok) (okq : Q.Ok) (d : DeedW) (hd : d.wf) (hk : d.k = 3) {ao : Option Addr} {cap : Nat} {A : List Int} (HA : IsInts w ao cap A) :
    Calls Try.prog 11 #[.pointer (some ⟨pb, 0, none⟩), docV v Q.h Q.R, deedV d (.slice ao A.length cap)] w (DoneG w pb bm ob P) := by
  obtain ⟨av, cv, rfl, hl, hcm⟩ := D.shape
  have hpb := H.lt
  have hord := H.ord
  have hal := HA.le
  have hac := HA.cm
  have S0 := DS.new w pb bm ob (.slice av Q.n cv) Q d (.slice ao A.length cap)
  have H0 := ((H.alloc (docO (.slice av Q.n cv) Q.h Q.R)).alloc (deedO d (.slice ao A.length cap))).alloc docZ
  have D0 := ((D.alloc (docO (.slice av Q.n cv) Q.h Q.R)).alloc (deedO d (.slice ao A.length cap))).alloc docZ
  have A0 := ((HA.take 10).low (Nat.le_refl _) (three_low w (docO (.slice av Q.n cv) Q.h Q.R) (deedO d (.slice ao A.length cap)) docZ))
  unfold maxLen at hcm hac
  obtain ⟨dk, dn, ds⟩ := d
  obtain ⟨k0, k1, n0, n1, s0, s1⟩ := hd
  dsimp only at *
  subst hk
  obtain ⟨L, hL⟩ : ∃ L, A.length = L := ⟨_, rfl⟩
  have el : (min (L : Int) 10).toNat = (A.take 10).length := by rw [List.length_take, ← hL]; omega
  rw [hL] at hal S0 H0 D0 A0 ⊢
  generalize A.take 10 = A' at *
  obtain ⟨I, hI⟩ : ∃ I : Int, (P.vic A' : Int) = I := ⟨_, rfl⟩
  obtain ⟨J, hJ⟩ : ∃ J : Int, P.vicS A' = J := ⟨_, rfl⟩
  obtain ⟨E, hE⟩ : ∃ E : Int, P.vicE A' = E := ⟨_, rfl⟩
  obtain ⟨I2, hI2⟩ : ∃ I2 : Int, (Q.vic A' : Int) = I2 := ⟨_, rfl⟩
  obtain ⟨J2, hJ2⟩ : ∃ J2 : Int, Q.vicS A' = J2 := ⟨_, rfl⟩
  obtain ⟨E2, hE2⟩ : ∃ E2 : Int, Q.vicE A' = E2 := ⟨_, rfl⟩
  go_enter Try.func11, Try.ntmps11
  go_wp2_with fail
  generalize (((w.alloc (docO (.slice av Q.n cv) Q.h Q.R)).alloc (deedO ⟨3, dn, ds⟩ (.slice ao L cap))).alloc docZ) = W8 at *
  have VA := victim_any W8 H0 ok A0
  rw [hI, hJ, hE] at VA
  refine VA.mono ?_
  rintro e w8 ⟨rfl, b8⟩
  have S8 := S0.low b8
  have H8 := H0.low b8
  have D8 := D0.low b8
  have A8 := A0.low (Nat.le_refl _) b8
  have RA := rvictim_any w8 D8 okq Q.R A8
  rw [hI2, hJ2, hE2] at RA
  obtain ⟨x0, x1, x2, x3, x4, x5, x6, x7, x8, x9, xf⟩ := S8.cells
  have S8 := Lib.hid S8
  clear VA S0 H0 D0 A0 b8 hI hJ hE hI2 hJ2 hE2
  go_wp2_with fail
  refine RA.mono ?_
  rintro e w9 ⟨rfl, b9⟩
  have S9 := S8.out.low b9
  have H9 := H8.low b9
  have D9 := D8.low b9
  clear x0 x1 x2 x3 x4 x5 x6 x7 x8 x9 xf RA H8 D8 A8 S8 b9
  obtain ⟨z0, z1, z2, z3, z4, z5, z6, z7, z8, z9, zf⟩ := S9.cells
  have F := S9.fin hpb (.slice av Q.n cv) Q.h Q.R
  have F := Lib.hid (show _ ∧ _ ∧ _ from ⟨F.1, F.2.1, F.2.2 _ H9⟩)
  by_cases eI : I = I2
  · subst eI
    have mI : (I != I) = false := by simp
    have nI : (I == I) = true := by simp
    by_cases eJ : J = J2
    · subst eJ
      have mJ : (J != J) = false := by simp
      have nJ : (J == J) = true := by simp
      by_cases eE : E = E2
      · subst eE
        have mE : (E != E) = false := by simp
        have nE : (E == E) = true := by simp
        clear S9 H9 D9
        go_wp2
        exact bodyPost_ret (res_P1 rfl _ _ _ rfl F.out.1) rfl ⟨_, P, rfl, ok, rfl, Nat.le_succ _, F.out.2.2, F.out.2.1⟩
      · have mE : (E != E2) = true := by simp [eE]
        have nE : (E == E2) = false := by simp [eE]
        clear S9 H9 D9
        go_wp2
        exact bodyPost_ret (res_P1 rfl _ _ _ rfl F.out.1) rfl ⟨_, P, rfl, ok, rfl, Nat.le_succ _, F.out.2.2, F.out.2.1⟩
    · have mJ : (J != J2) = true := by simp [eJ]
      have nJ : (J == J2) = false := by simp [eJ]
      clear S9 H9 D9
      go_wp2
      exact bodyPost_ret (res_P1 rfl _ _ _ rfl F.out.1) rfl ⟨_, P, rfl, ok, rfl, Nat.le_succ _, F.out.2.2, F.out.2.1⟩
  · have mI : (I != I2) = true := by simp [eI]
    have nI : (I == I2) = false := by simp [eI]
    clear S9 H9 D9
    go_wp2
    exact bodyPost_ret (res_P1 rfl _ _ _ rfl F.out.1) rfl ⟨_, P, rfl, ok, rfl, Nat.le_succ _, F.out.2.2, F.out.2.1⟩
theorem gen_vics {pb bm ob : Nat} {P Q : Pl} {v : Value} (w : World) (H : PoolAt w pb bm ob P) (D : ListT w (pb + 1) Q.n Q.T v) (ok : P.Ok) (okq : Q.Ok) (hR : P.R ≤ 1000000000) (hRq : Q.R ≤ 1000000000) (d : DeedW) (hd : d.wf) (hk : d.k = 4) {ao : Option Addr} {cap : Nat} {A : List Int} (HA : IsInts w ao cap A) :
    Calls Try.prog 11 #[.pointer (some ⟨pb, 0, none⟩), docV v Q.h Q.R, deedV d (.slice ao A.length cap)] w (DoneG w pb bm ob P) := by
  obtain ⟨av, cv, rfl, hl, hcm⟩ := D.shape
  have hpb := H.lt
  have hord := H.ord
  have hal := HA.le
  have hac := HA.cm
  have S0 := DS.new w pb bm ob (.slice av Q.n cv) Q d (.slice ao A.length cap)
  have H0 := ((H.alloc (docO (.slice av Q.n cv) Q.h Q.R)).alloc (deedO d (.slice ao A.length cap))).alloc docZ
  have D0 := ((D.alloc (docO (.slice av Q.n cv) Q.h Q.R)).alloc (deedO d (.slice ao A.length cap))).alloc docZ
  have A0 := ((HA.take 10).low (Nat.le_refl _) (three_low w (docO (.slice av Q.n cv) Q.h Q.R) (deedO d (.slice ao A.length cap)) docZ))
  unfold maxLen at hcm hac
  obtain ⟨dk, dn, ds⟩ := d
  obtain ⟨k0, k1, n0, n1, s0, s1⟩ := hd
  dsimp only at *
  subst hk
  obtain ⟨L, hL⟩ : ∃ L, A.length = L := ⟨_, rfl⟩
  have el : (min (L : Int) 10).toNat = (A.take 10).length := by rw [List.length_take, ← hL]; omega
  rw [hL] at hal S0 H0 D0 A0 ⊢
  generalize A.take 10 = A' at *
  obtain ⟨I, hI⟩ : ∃ I : Int, (P.vic A' : Int) = I := ⟨_, rfl⟩
  obtain ⟨J, hJ⟩ : ∃ J : Int, P.vicS A' = J := ⟨_, rfl⟩
  obtain ⟨E, hE⟩ : ∃ E : Int, P.vicE A' = E := ⟨_, rfl⟩
  obtain ⟨I2, hI2⟩ : ∃ I2 : Int, (Q.vic A' : Int) = I2 := ⟨_, rfl⟩
  obtain ⟨J2, hJ2⟩ : ∃ J2 : Int, Q.vicS A' = J2 := ⟨_, rfl⟩
  obtain ⟨E2, hE2⟩ : ∃ E2 : Int, Q.vicE A' = E2 := ⟨_, rfl⟩
  go_enter Try.func11, Try.ntmps11
  go_wp2_with fail
  generalize (((w.alloc (docO (.slice av Q.n cv) Q.h Q.R)).alloc (deedO ⟨4, dn, ds⟩ (.slice ao L cap))).alloc docZ) = W8 at *
  have VA := victim_any W8 H0 ok A0
  rw [hI, hJ, hE] at VA
  refine VA.mono ?_
  rintro e w8 ⟨rfl, b8⟩
  have S8 := S0.low b8
  have H8 := H0.low b8
  have D8 := D0.low b8
  have A8 := A0.low (Nat.le_refl _) b8
  have RA := rvictim_any w8 D8 okq Q.R A8
  rw [hI2, hJ2, hE2] at RA
  obtain ⟨x0, x1, x2, x3, x4, x5, x6, x7, x8, x9, xf⟩ := S8.cells
  have S8 := Lib.hid S8
  clear VA S0 H0 D0 A0 b8 hI hJ hE hI2 hJ2 hE2
  go_wp2_with fail
  refine RA.mono ?_
  rintro e w9 ⟨rfl, b9⟩
  have S9 := S8.out.low b9
  have H9 := H8.low b9
  have D9 := D8.low b9
  clear x0 x1 x2 x3 x4 x5 x6 x7 x8 x9 xf RA H8 D8 A8 S8 b9
  obtain ⟨z0, z1, z2, z3, z4, z5, z6, z7, z8, z9, zf⟩ := S9.cells
  have F := S9.fin hpb (.slice av Q.n cv) Q.h Q.R
  have F := Lib.hid (show _ ∧ _ ∧ _ from ⟨F.1, F.2.1, F.2.2 _ H9⟩)
  by_cases eI : I = I2
  · subst eI
    have mI : (I != I) = false := by simp
    have nI : (I == I) = true := by simp
    by_cases eJ : J = J2
    · subst eJ
      have mJ : (J != J) = false := by simp
      have nJ : (J == J) = true := by simp
      by_cases eE : E = E2
      · subst eE
        have mE : (E != E) = false := by simp
        have nE : (E == E) = true := by simp
        have S0 := Lib.hid S9
        have H0 := Lib.hid H9
        have D0 := Lib.hid D9
        clear S9 H9 D9 F
        go_wp2_with fail
        have S0 := S0.out
        have H0 := H0.out
        have D0 := D0.out
        clear z0 z1 z2 z3 z4 z5 z6 z7 z8 z9 zf mI mJ mE nI nJ nE
        have RT := rsteal_any w9 D0 okq (by have := H0.lt; omega) I ds hRq
        obtain ⟨Q1, hQ⟩ : ∃ Q1, Q.steal I ds = Q1 := ⟨_, rfl⟩
        obtain ⟨I4, hI2⟩ : ∃ I4 : Int, Q.stealI I ds = I4 := ⟨_, rfl⟩
        obtain ⟨E4, hE2⟩ : ∃ E4 : Int, Q.stealE I ds = E4 := ⟨_, rfl⟩
        rw [hQ, hI2, hE2] at RT
        refine RT.mono ?_
        rintro e wa ⟨v1, rfl, l1, b1⟩
        obtain ⟨a1, c1, rfl, hl1, hcm1⟩ := l1.shape
        have S1 := S0.low b1
        have H1 := H0.low b1
        have S2 := S1.low ((Below.refl wa.heap.size wa).alloc (Nat.le_refl _) (docO (.slice a1 Q1.n c1) Q1.h Q1.R))
        have H2 := H1.alloc (docO (.slice a1 Q1.n c1) Q1.h Q1.R)
        have nb := heap_alloc_new wa (docO (.slice a1 Q1.n c1) Q1.h Q1.R)
        have h3 := S1.three
        have TA := steal_any (wa.alloc (docO (.slice a1 Q1.n c1) Q1.h Q1.R)) H2 ok (x := ds) I s0 s1 hR
        have OKP := ok.steal (m := I) (x := ds) s1
        have NP := P.steal_n I ds
        have RP := P.steal_R I ds
        obtain ⟨P1, hP⟩ : ∃ P1, P.steal I ds = P1 := ⟨_, rfl⟩
        obtain ⟨I3, hI⟩ : ∃ I3 : Int, P.stealI I ds = I3 := ⟨_, rfl⟩
        obtain ⟨E3, hE⟩ : ∃ E3 : Int, P.stealE I ds = E3 := ⟨_, rfl⟩
        rw [hP, hI, hE] at TA
        rw [hP] at OKP NP RP
        have NP := Lib.hid NP
        have RP := Lib.hid RP
        have S2 := Lib.hid S2
        have nb := Lib.hid nb
        have d2 := S2.out.cells
        obtain ⟨x0, x1, x2, x3, x4, x5, x6, x7, x8, x9, xf⟩ := S1.cells
        clear RT S0 H0 D0 b1 H1 S1 l1 H2 hQ hP hI hE hI2 hE2
        go_wp2_with fail
        generalize wa.alloc (docO (.slice a1 Q1.n c1) Q1.h Q1.R) = W2 at *
        refine TA.mono ?_
        rintro e wb ⟨rfl, H3, T3⟩
        have S3 := S2.out.turn T3 hpb hord
        have nb3 := (T3.block wa.heap.size (by have := (Array.getElem?_eq_some_iff.1 nb.out).1; exact this) (by omega) (by omega) (by omega)).trans nb.out
        have F := S3.fin hpb (.slice a1 Q1.n c1) Q1.h Q1.R
        have F := Lib.hid (show _ ∧ _ ∧ _ from ⟨F.1, F.2.1, F.2.2 _ H3⟩)
        have y0 : wb.cell? ⟨wa.heap.size, 0, none⟩ = some (.slice a1 Q1.n c1) := by simp [World.cell?, nb3]
        have y1 : wb.cell? ⟨wa.heap.size, 1, none⟩ = some (.int .i64 (Q1.h : Int)) := by simp [World.cell?, nb3]
        have y2 : wb.cell? ⟨wa.heap.size, 2, none⟩ = some (.int .i64 (Q1.R : Int)) := by simp [World.cell?, nb3]
        obtain ⟨z0, z1, z2, z3, z4, z5, z6, z7, z8, z9, zf⟩ := S3.cells
        clear TA S2 nb nb3 T3 H3 S3 d2 x0 x1 x2 x3 x4 x5 x6 x7 x8 x9 xf
        by_cases eI : I3 = I4
        · subst eI
          have mI : (I3 == I3) = true := by simp
          by_cases eE : E3 = E4
          · subst eE
            have mE : (E3 == E3) = true := by simp
            go_wp2
            exact bodyPost_ret (res_P1 rfl _ _ _ rfl F.out.1) rfl ⟨_, P1, rfl, OKP, NP.out, RP.out, F.out.2.2, F.out.2.1⟩
          · have mE : (E3 == E4) = false := by simp [eE]
            go_wp2
            exact bodyPost_ret (res_P1 rfl _ _ _ rfl F.out.1) rfl ⟨_, P1, rfl, OKP, NP.out, RP.out, F.out.2.2, F.out.2.1⟩
        · have mI : (I3 == I4) = false := by simp [eI]
          go_wp2
          exact bodyPost_ret (res_P1 rfl _ _ _ rfl F.out.1) rfl ⟨_, P1, rfl, OKP, NP.out, RP.out, F.out.2.2, F.out.2.1⟩
      · have mE : (E != E2) = true := by simp [eE]
        have nE : (E == E2) = false := by simp [eE]
        clear S9 H9 D9
        go_wp2
        exact bodyPost_ret (res_P1 rfl _ _ _ rfl F.out.1) rfl ⟨_, P, rfl, ok, rfl, Nat.le_succ _, F.out.2.2, F.out.2.1⟩
    · have mJ : (J != J2) = true := by simp [eJ]
      have nJ : (J == J2) = false := by simp [eJ]
      clear S9 H9 D9
      go_wp2
      exact bodyPost_ret (res_P1 rfl _ _ _ rfl F.out.1) rfl ⟨_, P, rfl, ok, rfl, Nat.le_succ _, F.out.2.2, F.out.2.1⟩
  · have mI : (I != I2) = true := by simp [eI]
    have nI : (I == I2) = false := by simp [eI]
    clear S9 H9 D9
    go_wp2
    exact bodyPost_ret (res_P1 rfl _ _ _ rfl F.out.1) rfl ⟨_, P, rfl, ok, rfl, Nat.le_succ _, F.out.2.2, F.out.2.1⟩
end Go.Proofs.Ytkbkilkmiigahaa.Cx
