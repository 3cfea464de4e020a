/-
  CtxPlays: for every number and all deeds the law returns true, and its arguments read as before. Conditions: none.
-/
import Derived.Test.YtkbkilkmiigahaaRows
import Derived.WalkKit
import Derived.ProofKit
import Derived.OpenShut
import Derived.Test.YtkbkilkmiigahaaCLaw
import Derived.Deep.DeepCutAuto
import Derived.Deep.CutBlock
import Derived.Deep.RegionHeld3
import Derived.Test.YtkbkilkmiigahaaCDeeds
namespace Go.Proofs.Ytkbkilkmiigahaa.ctxPlays
open Fld Cx
open Go.ChangeShapes Go.WideShapes Go.ChangeAt Go.RowKit Go.Deep Go.Shelf
set_option linter.unusedVariables false

theorem own : ownKnob Try.prog.godebug = none := by kernel_rfl

/-! ### The walk -/
set_option maxHeartbeats 1500000 in
set_option maxRecDepth 100000 in
theorem walk (w : World) (a0 : Int) (w0 : (Lit.int .i64 a0).wf = true) (s1 : Option Addr) (len1 cap1 : Nat) (w1 : IsDeeds w s1 len1 cap1) :
    Calls Try.prog 3 #[.int .i64 a0, .slice s1 len1 cap1] w fun e w' => e = .returned (.bool true) ∧ Below w.heap.size w w' := by
  obtain ⟨i0, i1⟩ := bounds_i64 w0
  have LV := Lib.hid lives_any
  have DE := Lib.hid w1
  clear w0 w1
  go_enter Try.func3, Try.ntmps3
  go_upto_if 11 with fail
  go_cut [0] (fun nv wx => w = wx ∧ ∃ N : Int, nv = .int .i64 N ∧ N ≤ 10)
  case first =>
    by_cases hn : 10 < a0
    · have ht : Int.tmod a0 11 = a0 % 11 := Int.tmod_eq_emod_of_nonneg (by omega)
      go_wp2
      go_meet
      exact ⟨rfl, _, rfl, by omega⟩
    · go_wp2
      go_meet
      exact ⟨rfl, _, rfl, by omega⟩
  obtain ⟨rfl, N, rfl, hN⟩ := hcut
  obtain ⟨M, hM⟩ : ∃ M, newN N = M := ⟨_, rfl⟩
  have hM1 : M ≤ 10 := by rw [← hM]; unfold newN; omega
  have NA := new_any N w
  rw [hM] at NA
  go_wp2_with fail
  refine NA.mono ?_
  rintro e w1 ⟨pb, bm, ob, rfl, H1, hbm, B1⟩
  have RN := rnew_any N hN w1
  rw [hM] at RN
  clear NA
  go_wp2_with fail
  refine RN.mono ?_
  rintro e w2 ⟨v2, rfl, D2, B2⟩
  obtain ⟨av, cv, rfl, hl2, hcm2⟩ := D2.shape
  have X3 := LW.startN B1 H1 hbm D2 B2
  have K3 := X3.likeN (by omega)
  obtain ⟨x3, y3, z3⟩ := X3.cellsN
  clear H1 B1 D2 B2 RN
  go_wp2_with fail
  generalize w2.alloc (docO (.slice av M cv) 1 0) = W3 at *
  generalize w2.heap.size = rb at *
  refine K3.mono ?_
  rintro e W4 ⟨rfl, X4⟩
  have H0 : ∃ (P : Pl) (au : Option Addr) (cu : Nat), P.n ≤ 10 ∧ P.Ok ∧ P.R ≤ 0 ∧ LW w W4 pb bm ob rb (.slice au P.n cu) P := ⟨Pl.new M, av, cv, hM1, Pl.new_ok (by omega), Nat.le_refl _, X4⟩
  have H0 := Lib.hid H0
  clear X3 X4 K3 x3 y3 z3 hM hl2 hcm2
  go_wp2_with fail
  go_loopw [7] (fun i wr => ∃ j : Nat, i = .int .i64 (j : Int) ∧ j ≤ len1 ∧ j ≤ 40 ∧ ∃ (P : Pl) (au : Option Addr) (cu : Nat), P.n ≤ 10 ∧ P.Ok ∧ P.R ≤ j ∧ LW w wr pb bm ob rb (.slice au P.n cu) P) (fun i _ => 40 - (intOf i).toNat)
  case atStart => exact ⟨0, rfl, Nat.zero_le _, Nat.zero_le _, H0.out⟩
  case round =>
    clear H0
    obtain ⟨j, rfl, hj, hj40, P, au, cu, hP10, ok, hR, X⟩ := hrel
    by_cases c1 : j < len1
    · by_cases c2 : j < 40
      · obtain ⟨b, o, off, d, ao, cp, A, rfl, hof, hl1, hc1, hd, hA, q0, q1, q2, q3⟩ := deeds_at DE.out j c1
        have hbw := cell_lt q0
        have hA1 := hA.low (Nat.le_refl _) X.bel
        have KX : KB wr rb (.slice au P.n cu) P b o d (.slice ao A.length cp) := ⟨X.box, (X.bel.cell (p := ⟨b, o, none⟩) hbw).trans q0, (X.bel.cell (p := ⟨b, o + 1, none⟩) hbw).trans q1, (X.bel.cell (p := ⟨b, o + 2, none⟩) hbw).trans q2, (X.bel.cell (p := ⟨b, o + 3, none⟩) hbw).trans q3⟩
        unfold maxLen at hc1
        have hne := KX.ne
        have okQ := act_ok ok hd A
        have nQ := Lib.hid (show (act P d A).n ≤ 10 by rw [act_n]; exact hP10)
        have RQ := Lib.hid (show (act P d A).R ≤ j + 1 by have := act_R P d A; omega)
        have hpw := X.pool.lt
        have hR2 : P.R ≤ 1000000000 := by omega
        have c1' : (j : Int) < (len1 : Int) := by omega
        have c2' : (j : Int) < 40 := by omega
        clear hA q0 q1 q2 q3
        go_upto_region 12 with fail
        go_region_held3 (fun w9 => w9.cell? ⟨rb, 0, none⟩ = some (.slice au P.n cu) ∧ w9.cell? ⟨rb, 1, none⟩ = some (.int .i64 (P.h : Int)) ∧ w9.cell? ⟨rb, 2, none⟩ = some (.int .i64 (P.R : Int)) ∧ w9.cell? ⟨b, o, none⟩ = some (.int .i64 d.k) ∧ w9.cell? ⟨b, o + 1, none⟩ = some (.int .i64 d.n) ∧ w9.cell? ⟨b, o + 2, none⟩ = some (.int .i64 d.s) ∧ w9.cell? ⟨b, o + 3, none⟩ = some (.slice ao A.length cp))
          ((refine KB.cells (P := P) (d := d) (rb := rb) (b := b) (o := o) ?_; repeat (first | assumption | (refine KB.drew ?_) | (refine KB.alloc ?_ _) | (refine KB.set ?_ _ (by first | exact hne | exact KB.ne (by assumption)) _))))
          (first | (go_at_call 11; (with_reducible refine (law_does (w0 := w) (pb := pb) (bm := bm) (ob := ob) (rb := rb) (b := b) (o := o) (v := .slice au P.n cu) (P := P) (d := d) (ao := ao) (cap := cp) (A := A) (by repeat (first | assumption | (refine LW.drew ?_) | (refine LW.alloc ?_ _))) (by repeat (first | assumption | (refine KB.drew ?_) | (refine KB.alloc ?_ _))) ok hR2 hd (by repeat (first | assumption | (refine IsInts.drew ?_) | (refine IsInts.alloc ?_ _))) hbw).mono ?_); rintro e w9 ⟨au9, cu9, rfl, L9, K9, T9⟩; (first | (have nb9 : w9.heap[wr.heap.size]? = some docZ := (T9 wr.heap.size (by simp; done) hpw).trans (heap_alloc_new wr docZ); obtain ⟨n0, n1, n2, nf⟩ := nbZ nb9) | skip)))
        · rename_i hHeld
          clear hHeld K9 T9 hA1 KX X
          generalize act P d A = Q at *
          have NB := heap_alloc_new w9 (docO (.slice au9 Q.n cu9) Q.h Q.R)
          have D9 := L9.alloc (docO (.slice au9 Q.n cu9) Q.h Q.R)
          clear L9
          generalize w9.heap.size = g at *
          generalize w9.alloc (docO (.slice au9 Q.n cu9) Q.h Q.R) = W9 at *
          obtain ⟨g0, g1, g2, _⟩ := docO_cells NB
          obtain ⟨r0, r1, r2, rf⟩ := docO_cells D9.box
          have X9 := D9.put
          have K9 := Lib.hid (X9.like okQ)
          clear D9 NB X9
          go_wp2_with fail
          refine K9.out.mono ?_
          rintro e w10 ⟨rfl, X10⟩
          have X10 := Lib.hid X10
          clear K9 g0 g1 g2 r0 r1 r2 rf
          go_wp2_with fail
          go_roundw
          case rel => exact ⟨j + 1, by go_num, by omega, by omega, Q, au9, cu9, nQ.out, okQ, RQ.out, X10.out⟩
          case measure => simp [RowKit.intOf]; omega
        · rename_i hHeld
          clear hHeld K9 T9 hA1 KX X n0 n1 n2 nf
          generalize act P d A = Q at *
          obtain ⟨D9, NB⟩ := L9.fill nb9 hpw hne.1
          clear L9 nb9
          generalize wr.heap.size = g at *
          generalize ((w9.setCell ⟨g, 0, none⟩ (.slice au9 Q.n cu9)).setCell ⟨g, 1, none⟩ (.int .i64 (Q.h : Int))).setCell ⟨g, 2, none⟩ (.int .i64 (Q.R : Int)) = W9 at *
          obtain ⟨g0, g1, g2, _⟩ := docO_cells NB
          obtain ⟨r0, r1, r2, rf⟩ := docO_cells D9.box
          have X9 := D9.put
          have K9 := Lib.hid (X9.like okQ)
          clear D9 NB X9
          go_wp2_with fail
          refine K9.out.mono ?_
          rintro e w10 ⟨rfl, X10⟩
          have X10 := Lib.hid X10
          clear K9 g0 g1 g2 r0 r1 r2 rf
          go_wp2_with fail
          go_roundw
          case rel => exact ⟨j + 1, by go_num, by omega, by omega, Q, au9, cu9, nQ.out, okQ, RQ.out, X10.out⟩
          case measure => simp [RowKit.intOf]; omega
      · have hn := Lib.hid X.bel
        have c2' : ¬ (j : Int) < 40 := by omega
        clear X
        go_wp2_with fail
        refine (LV.out wr).mono ?_
        rintro e w10 ⟨rfl, hb⟩
        have hz := hn.out.trans (hb.mono hn.out.size)
        go_wp2
        go_ret
        exact ⟨rfl, hz⟩
    · have hn := Lib.hid X.bel
      have c1' : ¬ (j : Int) < (len1 : Int) := by omega
      clear X
      go_wp2_with fail
      refine (LV.out wr).mono ?_
      rintro e w10 ⟨rfl, hb⟩
      have hz := hn.out.trans (hb.mono hn.out.size)
      go_wp2
      go_ret
      exact ⟨rfl, hz⟩

/-! ### The row -/
set_option maxRecDepth 100000 in
theorem lifted (os : Os) (started : os.Started) (H : Type) (enc : TypeId × Value → H) :
    ReturnsInHanded {} Try.checked os 3 .any (Rows.ctxPlaysSpec.pre6 enc Try.prog Try.f3 Rows.ctxPlaysRow.domain false) (Rows.ctxPlaysSpec.post enc Try.prog Try.f3 false true false false) := by
  refine returnsInHanded_of_change (C := Try.checked) own started (by kernel_rfl) Try.func3
    (ChangeSpec.witness6 (enc := enc) (C := Try.checked) false ⟨#[], #[.int .i64 0, .slice none 0 0], []⟩ 8 (by kernel_rfl) (by kernel_rfl) (by kernel_rfl) (by kernel_rfl)) ?_
  intro W base args ds gs before hval0 hW hcnd _
  have hval : ∀ (j : Nat) t v, Try.f3.params[j]? = some t → args[j]? = some v → Value.okWide Try.prog W .any base t v := hval0
  have hW' := hW
  obtain ⟨p, q, hA0, hV, rfl, hfz, hnd⟩ := hW
  have hA : DataW.TrodAll enc Try.prog W 0 (fun _ => true) true Try.f3.params.toList args.toList ds p := hA0
  rw [Try.params3] at hA hval
  obtain ⟨v0, vs0, d0, ds0, p0, q0, hargs, rfl, rfl, h0, r0⟩ := trodAll_cons hA
  obtain ⟨v1, vs1, d1, ds1, p1, q1, rfl, rfl, rfl, h1, r1⟩ := trodAll_cons r0
  obtain ⟨rfl, rfl, rfl⟩ := trodAll_nil r1
  obtain rfl : args = #[v0, v1] := by cases args; simp_all
  obtain ⟨rfl, rfl⟩ := trodVars_none hV
  obtain ⟨a0, rfl, rfl, rfl, w0⟩ := open_int Try.underlying3 (hval 0 3 v0 rfl rfl) h0
  obtain ⟨s1, len1, cap1, rfl⟩ := okWide_slice Try.underlying22 (hval 1 22 v1 rfl rfl)
  have k1 := h1
  have lt1 : ∀ x ∈ p1, x.block < W.heap.size := by obtain ⟨m, hm⟩ := k1; exact DataW.trod_lt m _ _ _ hm
  have w1 : IsDeeds W s1 len1 cap1 := by
    obtain ⟨fuel, hf⟩ := h1
    exact open_deeds hf
  clear hA0 hval0
  simp only [List.append_nil] at hW'
  refine (walk W a0 w0 s1 len1 cap1 w1).mono fun e W' ⟨he, hg⟩ => ?_
  subst he
  exact ⟨_, rfl, _, _, _, [], _, [], hW', trodAll_mk1 (shut_bool Try.underlying4 _), (trodAll_cons_mk (shut_int Try.underlying3 w0) (trodAll_cons_mk (Below.trod laidOut (by kernel_rfl) (of_decide_eq_true (by kernel_rfl)) k1 hg lt1) trodAll_mk0)), rfl, hg.frame _, fun h => by cases h⟩

theorem over : Rows.ctxPlaysRow.holds Try.pinned (OpenSpec.ofChange Rows.ctxPlaysSpec) :=
  OpenClaim.holds_of_wide 3 Try.f3 rfl rfl rfl rfl rfl rfl rfl ⟨rfl, rfl, rfl, rfl, rfl⟩ rfl rfl rfl rfl rfl (by kernel_rfl) Try.func3 (by kernel_rfl)
    (of_decide_eq_true (by kernel_rfl)) (by unfold Func.isWrapper; first | (rw [if_pos (by decide +kernel)]; kernel_rfl) | (rw [if_neg (by decide +kernel)]; exact ⟨rfl, rfl⟩))
    (fun os started H enc _ => lifted os started H enc)

theorem proved : Rows.CtxPlaysSaid :=
  over
#print axioms proved
end Go.Proofs.Ytkbkilkmiigahaa.ctxPlays
