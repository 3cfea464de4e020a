/-
  Contracts of Give, Steal, Victim, New of the document's package for layer 14. Conditions: a list that is there, a pool as it must be.
-/
import Derived.Test.YtkbkilkmiigahaaCDocC
import Derived.Test.YtkbkilkmiigahaaCVic
namespace Go.Proofs.Ytkbkilkmiigahaa.Cx
open Fld
open Go.ChangeShapes Go.WideShapes Go.ChangeAt Go.RowKit
set_option maxHeartbeats 1000000
theorem rsteal_any {B : Nat} {P : Pl} {v : Value} (w : World) (H : ListT w B P.n P.T v) (ok : P.Ok) (hB : B ≤ w.heap.size) (m x : Int) (hR : P.R ≤ 1000000000) :
    Calls Try.prog 31 #[docV v P.h P.R, .int .i64 m, .int .i64 x] w (DocTo w B (P.steal m x) (P.stealI m x) (P.stealE m x)) := by
  obtain ⟨ao, cap, rfl, hl, hcm⟩ := H.shape
  have hn := H.le
  have X0 := BX.new w (.slice ao P.n cap) P.h P.R
  have hI : P.stealE m x ≠ 0 → P.stealI m x = 0 := fun h => by unfold Pl.stealI; rw [if_neg h]
  have hS : P.stealE m x ≠ 0 → P.steal m x = P := fun h => by unfold Pl.steal; rw [if_neg h]
  unfold maxLen at hcm
  by_cases hbad : x < 0 ∨ m < 1 ∨ (P.n : Int) < m
  · have e2 : P.stealE m x = 1 := by unfold Pl.stealE; rw [if_pos hbad]
    have e1 := hI (by omega)
    have e3 := hS (by omega)
    rw [e3, e1, e2]
    clear e1 e2 e3 hI hS
    by_cases x0 : x < 0
    · go_enter Try.func31, Try.ntmps31
      go_wp2
      exact bodyPost_ret (res_P2 rfl _ _ _ rfl (two_at _ _ _ _ _)) rfl (docTo_mk rfl rfl rfl rfl (H.low (two_low _ _ _)) (two_low _ _ _))
    · by_cases m0 : m < 1
      · go_enter Try.func31, Try.ntmps31
        go_wp2
        exact bodyPost_ret (res_P2 rfl _ _ _ rfl (two_at _ _ _ _ _)) rfl (docTo_mk rfl rfl rfl rfl (H.low (two_low _ _ _)) (two_low _ _ _))
      · have m1 : (P.n : Int) < m := by omega
        clear hbad
        go_enter Try.func31, Try.ntmps31
        go_wp2
        exact bodyPost_ret (res_P2 rfl _ _ _ rfl (two_at _ _ _ _ _)) rfl (docTo_mk rfl rfl rfl rfl (H.low (two_low _ _ _)) (two_low _ _ _))
  · have x0 : 0 ≤ x := by omega
    have m0 : 1 ≤ m := by omega
    have m1 : m ≤ (P.n : Int) := by omega
    have OA := rof_any ((w.alloc (docO (.slice ao P.n cap) P.h P.R)).alloc docZ) (H.low X0.bel) x P.R
    by_cases hz : P.of x = 0
    · rw [hz] at OA
      obtain ⟨k, rfl⟩ : ∃ k : Nat, m = (k : Int) := ⟨m.toNat, by omega⟩
      have kt : (k : Int).toNat = k := by simp
      have em : ((k : Int) - 1).toNat = k - 1 := by omega
      by_cases hf : P.T (k - 1) < 0
      · have e2 : P.stealE k x = 10 := by unfold Pl.stealE; rw [if_neg hbad, if_neg (by omega), kt, if_pos hf]
        have e1 := hI (by omega)
        have e3 := hS (by omega)
        rw [e3, e1, e2]
        clear e1 e2 e3 hI hS hz hbad kt
        go_enter Try.func31, Try.ntmps31
        go_wp2_with fail
        generalize (w.alloc (docO (.slice ao P.n cap) P.h P.R)).alloc docZ = W0 at *
        refine OA.mono ?_
        rintro e w2 ⟨rfl, hb2⟩
        have X2 := X0.low hb2
        obtain ⟨g, rfl, hgB, hgl, hc, _⟩ := (H.low X2.bel).at_ (j := k - 1) (by omega)
        have F := X2.fin (.slice (some ⟨g, 0, none⟩) P.n cap) P.h P.R
        obtain ⟨d0, d1, d2, z0, z1, z2, f0, f1⟩ := X2.cells
        generalize P.T (k - 1) = y at *
        clear X0 X2 hb2 OA ok
        go_wp2
        exact bodyPost_ret (res_P2 rfl _ _ _ rfl F.1) rfl (docTo_mk rfl rfl rfl rfl (H.low F.2) F.2)
      · have e2 : P.stealE k x = 0 := by unfold Pl.stealE; rw [if_neg hbad, if_neg (by omega), kt, if_neg hf]
        have r2 := Lib.hid e2
        have r1 := Lib.hid (show P.stealI k x = P.T (k - 1) by unfold Pl.stealI; rw [if_pos e2, kt])
        have r3 := Lib.hid (show P.steal k x = P.own k x by unfold Pl.steal; rw [if_pos e2, kt])
        obtain ⟨kh, hkh⟩ : ∃ q, (P.own k x).h = q := ⟨_, rfl⟩
        obtain ⟨kr, hkr⟩ : ∃ q, (P.own k x).R = q := ⟨_, rfl⟩
        have OW := fun w2 (H2 : ListT w2 B P.n P.T (.slice ao P.n cap)) => rown_any w2 H2 ok.h0 (ok.h1 (by omega)) k (by omega) (by omega) x hR
        rw [hkh, hkr] at OW
        have HKH := Lib.hid hkh
        have HKR := Lib.hid hkr
        have OW := Lib.hid OW
        rw [r3.out]
        clear hI hS hz hbad kt e2 ok hkh hkr
        go_enter Try.func31, Try.ntmps31
        go_wp2_with fail
        generalize (w.alloc (docO (.slice ao P.n cap) P.h P.R)).alloc docZ = W0 at *
        refine OA.mono ?_
        rintro e w2 ⟨rfl, hb2⟩
        have X2 := X0.low hb2
        have OW := Lib.hid (OW.out w2 (H.low X2.bel))
        obtain ⟨g, rfl, hgB, hgl, hc, _⟩ := (H.low X2.bel).at_ (j := k - 1) (by omega)
        obtain ⟨d0, d1, d2, z0, z1, z2, f0, f1⟩ := X2.cells
        obtain ⟨y, hy⟩ : ∃ y, P.T (k - 1) = y := ⟨_, rfl⟩
        rw [hy] at hc hf r1
        have HX := Lib.hid X2
        clear X0 X2 hb2 OA hy
        go_wp2_with (go_at_call 39; refine OW.out.mono ?_; rintro e w3 ⟨v3, rfl, hl3, hb3⟩; obtain ⟨ao3, cap3, rfl, _, _⟩ := hl3.shape; have X3 := HX.out.low hb3; have F := X3.fin (.slice ao3 P.n cap3) kh kr; clear d0 d1 d2 z0 z1 z2 f0 f1 hc; obtain ⟨d0, d1, d2, z0, z1, z2, f0, f1⟩ := X3.cells; have sz := X3.bel.size; have s2 := HX.out.bel.size; have t2 := HX.out.two; have hl4 := Lib.hid (((hl3.set2 (b := w.heap.size + 1) (by omega) (.slice ao3 P.n cap3) kh kr).base (by omega) : ListT _ B P.n (setT P.T (k - 1) x) (.slice ao3 P.n cap3))); clear X3 hl3 hb3)
        exact bodyPost_ret (res_P2 rfl _ _ _ rfl F.1) rfl (docTo_mk HKH.out HKR.out (by rw [r1.out]) r2.out hl4.out F.2)
    · have e2 : P.stealE m x = 9 := by unfold Pl.stealE; rw [if_neg hbad, if_pos hz]
      have e1 := hI (by omega)
      have e3 := hS (by omega)
      rw [e3, e1, e2]
      obtain ⟨y, hy⟩ : ∃ y, P.of x = y := ⟨_, rfl⟩
      rw [hy] at OA
      have hy0 : 0 < y := by omega
      clear e1 e2 e3 hI hS hz hbad hy
      go_enter Try.func31, Try.ntmps31
      go_wp2_with fail
      generalize (w.alloc (docO (.slice ao P.n cap) P.h P.R)).alloc docZ = W0 at *
      refine OA.mono ?_
      rintro e w2 ⟨rfl, hb2⟩
      have X2 := X0.low hb2
      have F := X2.fin (.slice ao P.n cap) P.h P.R
      obtain ⟨d0, d1, d2, z0, z1, z2, f0, f1⟩ := X2.cells
      clear X0 X2 hb2 OA
      go_wp2
      exact bodyPost_ret (res_P2 rfl _ _ _ rfl F.1) rfl (docTo_mk rfl rfl rfl rfl (H.low F.2) F.2)
end Go.Proofs.Ytkbkilkmiigahaa.Cx
