/-
  CtxOnce: for every number and all deeds the law returns true, and its arguments read as before. Conditions: none.
-/
import Derived.Test.YtkbkilkmiigahaaRows
import Derived.WalkKit
import Derived.ProofKit
import Derived.OpenShut
import Derived.Test.YtkbkilkmiigahaaCOx
import Derived.Deep.DeepCutAuto
import Derived.Deep.CutBlock
import Derived.Deep.RegionHeld3
import Derived.Deep.QuietTactic
import Derived.BigQuiet
import Derived.Test.YtkbkilkmiigahaaCDeeds
namespace Go.Proofs.Ytkbkilkmiigahaa.ctxOnce
open Fld Cx
open Go.ChangeShapes Go.WideShapes Go.ChangeAt Go.RowKit Go.Deep Go.Shelf
set_option linter.unusedVariables false

theorem own : ownKnob Try.prog.godebug = none := by kernel_rfl

/-! ### The walk -/
set_option maxHeartbeats 1500000 in
set_option maxRecDepth 100000 in
theorem walk (w : World) (a0 : Int) (w0 : (Lit.int .i64 a0).wf = true) (s1 : Option Addr) (len1 cap1 : Nat) (w1 : IsDeeds w s1 len1 cap1) :
    Calls Try.prog 4 #[.int .i64 a0, .slice s1 len1 cap1] w fun e w' => e = .returned (.bool true) ∧ Below w.heap.size w w' := by
  obtain ⟨i0, i1⟩ := bounds_i64 w0
  have LV := Lib.hid lives_any
  have DE := Lib.hid w1
  clear w0 w1
  go_enter Try.func4, Try.ntmps4
  go_upto_if 17 with fail
  go_cut [0] (fun nv wx => w = wx ∧ ∃ N : Int, nv = .int .i64 N ∧ N ≤ 10)
  case first =>
    by_cases hn : 10 < a0
    · have ht : Int.tmod a0 11 = a0 % 11 := Int.tmod_eq_emod_of_nonneg (by omega)
      go_wp2
      go_meet
      exact ⟨rfl, _, rfl, by omega⟩
    · go_wp2
      go_meet
      exact ⟨rfl, _, rfl, by omega⟩
  obtain ⟨rfl, N, rfl, hN⟩ := hcut
  obtain ⟨M, hM⟩ : ∃ M, newN N = M := ⟨_, rfl⟩
  have hM1 : M ≤ 10 := by rw [← hM]; unfold newN; omega
  have NA := new_any N w
  rw [hM] at NA
  go_wp2_with fail
  refine NA.mono ?_
  rintro e w1 ⟨pb, bm, ob, rfl, H1, hbm, B1⟩
  have RN := rnew_any N hN w1
  rw [hM] at RN
  clear NA
  go_wp2_with fail
  refine RN.mono ?_
  rintro e w2 ⟨v2, rfl, D2, B2⟩
  obtain ⟨av, cv, rfl, hl2, hcm2⟩ := D2.shape
  have X3 := Lib.hid (OX.start B1 H1 hbm D2 B2)
  clear H1 B1 D2 B2 RN
  go_wp2_with fail
  generalize w2.alloc (docO (.slice av M cv) 1 0) = W3 at *
  generalize w2.heap.size = rb at *
  go_loopw [7] (fun i wr => ∃ j : Nat, i = .int .i64 (j : Int) ∧ j ≤ len1 ∧ j ≤ 40 ∧ ∃ P : Pl, P.Ok ∧ P.R ≤ j ∧ OX w wr pb bm ob rb M (.slice av M cv) P) (fun i _ => 40 - (RowKit.intOf i).toNat)
  case atStart => exact ⟨0, rfl, Nat.zero_le _, Nat.zero_le _, Pl.new M, Pl.new_ok (by omega), Nat.le_refl _, X3.out⟩
  case round =>
    clear X3
    obtain ⟨j, rfl, hj, hj40, P, ok, hR, X⟩ := hrel
    by_cases c : j < len1 ∧ j < 40
    · obtain ⟨c1, c2⟩ := c
      obtain ⟨b, o, off, d, ao, cp, A, rfl, hof, hl1, hc1, hd, hA, q0, q1, q2, q3⟩ := deeds_at DE.out j c1
      have hbw := cell_lt q0
      have hA1 := hA.low (Nat.le_refl _) X.bel
      have KX : KB wr rb (.slice av M cv) (Pl.new 0) b o d (.slice ao A.length cp) := X.kb ((X.bel.cell (p := ⟨b, o, none⟩) hbw).trans q0) ((X.bel.cell (p := ⟨b, o + 1, none⟩) hbw).trans q1) ((X.bel.cell (p := ⟨b, o + 2, none⟩) hbw).trans q2) ((X.bel.cell (p := ⟨b, o + 3, none⟩) hbw).trans q3)
      unfold maxLen at hc1
      have hM2 : M ≤ 8191 := by omega
      have hR2 : P.R ≤ 1000000000 := by omega
      have c1' : (j : Int) < (len1 : Int) := by omega
      have c2' : (j : Int) < 40 := by omega
      clear hA q0 q1 q2 q3
      go_upto_region 10 with fail
      go_region_held3 (fun w9 => w9.cell? ⟨rb, 0, none⟩ = some (.slice av M cv) ∧ w9.cell? ⟨rb, 1, none⟩ = some (.int .i64 1) ∧ w9.cell? ⟨rb, 2, none⟩ = some (.int .i64 0) ∧ w9.cell? ⟨b, o, none⟩ = some (.int .i64 d.k) ∧ w9.cell? ⟨b, o + 1, none⟩ = some (.int .i64 d.n) ∧ w9.cell? ⟨b, o + 2, none⟩ = some (.int .i64 d.s) ∧ w9.cell? ⟨b, o + 3, none⟩ = some (.slice ao A.length cp))
        ((refine KB.cellsZ (d := d) (rb := rb) (b := b) (o := o) ?_; repeat (first | assumption | (refine KB.drew ?_))))
        (first | (go_at_call 11; (with_reducible refine (law_gen (w0 := w) (pb := pb) (bm := bm) (ob := ob) (rb := rb) (M := M) (b := b) (o := o) (v := .slice av M cv) (P := P) (d := d) (ao := ao) (cap := cp) (A := A) (by repeat (first | assumption | (refine OX.drew ?_))) (by repeat (first | assumption | (refine KB.drew ?_))) ok hM2 hR2 hd (by repeat (first | assumption | (refine IsInts.drew ?_))) hbw).mono ?_); rintro e w9 ⟨x9, Q, rfl, okQ, hRQ, X9, K9⟩))
      · rename_i hHeld
        clear hHeld K9 hA1 KX X
        have WA := ox_owners X9 hM2
        have hRQ1 := Lib.hid (show Q.R ≤ j + 1 by omega)
        clear X9 hRQ
        go_wp2_with fail
        refine WA.mono ?_
        rintro e wa ⟨ga, ca, rfl, hca, hMc, La, Xa⟩
        have Y := Lib.hid (show OL w wa pb bm ob rb M (.slice av M cv) Q ga ca from ⟨Xa, La⟩)
        unfold maxLen at hca
        clear WA La Xa
        go_upto_block 2 with fail
        go_cut [9] (fun fv wx => fv = .int .i64 (frN Q.T M : Int) ∧ OL w wx pb bm ob rb M (.slice av M cv) Q ga ca)
        case first =>
          go_wp2_with fail
          go_loopw [9, 10] (fun fv i wx => ∃ t : Nat, i = .int .i64 (t : Int) ∧ t ≤ M ∧ fv = .int .i64 (frN Q.T t : Int) ∧ OL w wx pb bm ob rb M (.slice av M cv) Q ga ca) (fun _ i _ => M - (RowKit.intOf i).toNat)
          case atStart => exact ⟨0, rfl, Nat.zero_le _, rfl, Y.out⟩
          case round =>
            clear Y
            obtain ⟨t, rfl, ht, rfl, Z⟩ := hrel
            have hfl := frN_le Q.T t
            by_cases hlt : t < M
            · obtain ⟨g, rfl, hc⟩ := Z.at_.resolve_left (by omega)
              have hct := hc t hlt
              have hlt' : (t : Int) < (M : Int) := by omega
              have hfn : frN Q.T (t + 1) = frN Q.T t + if Q.T t < 0 then 1 else 0 := rfl
              by_cases hf : Q.T t < 0
              · rw [if_pos hf] at hfn
                have HF := Lib.hid hfn
                have Z := Lib.hid Z
                clear hfn hc
                generalize Q.T t = y at *
                generalize frN Q.T t = c at *
                go_wp2
                go_roundw
                case rel => exact ⟨t + 1, by go_num, by omega, by rw [HF.out]; go_num, Z.out⟩
                case measure => simp [RowKit.intOf]; omega
              · rw [if_neg hf] at hfn
                have HF := Lib.hid hfn
                have hy : 0 ≤ Q.T t := by omega
                have htn : t < Q.n := by rw [Z.x.nM]; exact hlt
                have hbd := okQ.bd htn
                have OA := of_any _ Z.x.pool (x := Q.T t) (by omega) (by omega) (Pl.tells (P := Q) (Q.T t))
                rw [okQ.of_at htn hy, show decide (t + 1 ≠ 0) = true from decide_eq_true (by omega), show ((t + 1 : Nat) : Int) = (t : Int) + 1 from rfl] at OA
                have OB := owner_any _ Z.x.pool (fun i hi => okQ.bd hi) ((t : Int) + 1)
                rw [show Pl.ownB ⟨Q.n, Q.T, Q.h, Q.R⟩ ((t : Int) + 1) = true from (Pl.owner_at htn hy).1, show Pl.ownI ⟨Q.n, Q.T, Q.h, Q.R⟩ ((t : Int) + 1) = Q.T t from (Pl.owner_at htn hy).2] at OB
                have HNE := Lib.hid (show ∀ u, u < t → Q.T u ≠ Q.T t from fun u hu e => by
                  have := okQ.one u t (by omega) htn e (by rw [e]; exact hy)
                  omega)
                have Z := Lib.hid Z
                obtain ⟨y, hyy⟩ : ∃ y, Q.T t = y := ⟨_, rfl⟩
                rw [hyy] at hct OA OB HNE hf hy hbd
                clear hfn hc
                have m1 : (((t : Int) + 1) == ((t : Int) + 1)) = true := by simp
                have m2 : (y == y) = true := by simp
                have ZC := Z.out.x.pool.cells.1
                go_wp2_with fail
                refine OA.mono ?_
                rintro e wb ⟨rfl, rfl⟩
                clear OA
                go_wp2_with fail
                refine OB.mono ?_
                rintro e wc ⟨rfl, rfl⟩
                clear OB
                go_wp2_with fail
                clear m1 m2 hct
                go_loopw [15] (fun i wx => ∃ u : Nat, i = .int .i64 (u : Int) ∧ u ≤ t ∧ OL w wx pb bm ob rb M (.slice av M cv) Q (some ⟨g, 0, none⟩) ca) (fun i _ => t - (RowKit.intOf i).toNat)
                case atStart => exact ⟨0, rfl, Nat.zero_le _, Z.out⟩
                case round =>
                  clear Z ZC
                  obtain ⟨u, rfl, hu, Z⟩ := hrel
                  obtain ⟨g2, eg, hc⟩ := Z.at_.resolve_left (by omega)
                  injection eg with eg
                  injection eg with eg
                  subst eg
                  have hct := hc t hlt
                  rw [hyy] at hct
                  have Z := Lib.hid Z
                  by_cases hut : u < t
                  · have hcu := hc u (by omega)
                    have hne := HNE.out u hut
                    obtain ⟨z, hz⟩ : ∃ z, Q.T u = z := ⟨_, rfl⟩
                    rw [hz] at hcu hne
                    have m3 : (z == y) = false := by simp [hne]
                    have hut' : (u : Int) < (t : Int) := by omega
                    have huM : (u : Int) < (M : Int) := by omega
                    clear hc
                    go_wp2_with fail
                    go_quiet (fail)
                    rename_i nq
                    go_wp2
                    go_roundw
                    case rel => exact ⟨u + 1, by go_num, by omega, Z.out.drewN _⟩
                    case measure => simp [RowKit.intOf]; omega
                  · obtain rfl : u = t := by omega
                    clear hc
                    go_wp2_with fail
                    go_roundw
                    case rel => exact ⟨u + 1, by go_num, by omega, by rw [HF.out]; go_num, Z.out⟩
                    case measure => simp [RowKit.intOf]; omega
            · obtain rfl : t = M := by omega
              go_wp2
              go_meet
              exact ⟨rfl, Z⟩
        obtain ⟨rfl, Y⟩ := hcut
        have FA := free_any _ Y.x.pool okQ.apart
        rw [Y.x.nM] at FA
        have Y := Lib.hid Y
        have hfl := frN_le Q.T M
        have m4 : ((frN Q.T M : Int) != (frN Q.T M : Int)) = false := by simp
        have c3' : (j : Int) + 1 ≤ 40 := by omega
        clear m4
        go_wp2_with fail
        refine FA.mono ?_
        rintro e wd ⟨rfl, mf, rfl⟩
        have Y5 := Lib.hid (Y.out.drewN mf)
        clear FA Y
        go_wp2
        go_roundw
        case rel => exact ⟨j + 1, by go_num, by omega, by omega, Q, okQ, hRQ1.out, Y5.out.x⟩
        case measure => simp [RowKit.intOf]; omega
    · have hn := Lib.hid X.bel
      clear X
      by_cases c1 : (j : Int) < (len1 : Int)
      · have c2' : ¬ (j : Int) < 40 := by omega
        go_wp2_with fail
        refine (LV.out wr).mono ?_
        rintro e w10 ⟨rfl, hb⟩
        have hz := hn.out.trans (hb.mono hn.out.size)
        go_wp2
        go_ret
        exact ⟨rfl, hz⟩
      · go_wp2_with fail
        refine (LV.out wr).mono ?_
        rintro e w10 ⟨rfl, hb⟩
        have hz := hn.out.trans (hb.mono hn.out.size)
        go_wp2
        go_ret
        exact ⟨rfl, hz⟩

/-! ### The row -/
set_option maxRecDepth 100000 in
theorem lifted (os : Os) (started : os.Started) (H : Type) (enc : TypeId × Value → H) :
    ReturnsInHanded {} Try.checked os 4 .any (Rows.ctxOnceSpec.pre6 enc Try.prog Try.f4 Rows.ctxOnceRow.domain false) (Rows.ctxOnceSpec.post enc Try.prog Try.f4 false true false false) := by
  refine returnsInHanded_of_change (C := Try.checked) own started (by kernel_rfl) Try.func4
    (ChangeSpec.witness6 (enc := enc) (C := Try.checked) false ⟨#[], #[.int .i64 0, .slice none 0 0], []⟩ 8 (by kernel_rfl) (by kernel_rfl) (by kernel_rfl) (by kernel_rfl)) ?_
  intro W base args ds gs before hval0 hW hcnd _
  have hval : ∀ (j : Nat) t v, Try.f4.params[j]? = some t → args[j]? = some v → Value.okWide Try.prog W .any base t v := hval0
  have hW' := hW
  obtain ⟨p, q, hA0, hV, rfl, hfz, hnd⟩ := hW
  have hA : DataW.TrodAll enc Try.prog W 0 (fun _ => true) true Try.f4.params.toList args.toList ds p := hA0
  rw [Try.params4] at hA hval
  obtain ⟨v0, vs0, d0, ds0, p0, q0, hargs, rfl, rfl, h0, r0⟩ := trodAll_cons hA
  obtain ⟨v1, vs1, d1, ds1, p1, q1, rfl, rfl, rfl, h1, r1⟩ := trodAll_cons r0
  obtain ⟨rfl, rfl, rfl⟩ := trodAll_nil r1
  obtain rfl : args = #[v0, v1] := by cases args; simp_all
  obtain ⟨rfl, rfl⟩ := trodVars_none hV
  obtain ⟨a0, rfl, rfl, rfl, w0⟩ := open_int Try.underlying3 (hval 0 3 v0 rfl rfl) h0
  obtain ⟨s1, len1, cap1, rfl⟩ := okWide_slice Try.underlying22 (hval 1 22 v1 rfl rfl)
  have k1 := h1
  have lt1 : ∀ x ∈ p1, x.block < W.heap.size := by obtain ⟨m, hm⟩ := k1; exact DataW.trod_lt m _ _ _ hm
  have w1 : IsDeeds W s1 len1 cap1 := by
    obtain ⟨fuel, hf⟩ := h1
    exact open_deeds hf
  clear hA0 hval0
  simp only [List.append_nil] at hW'
  refine (walk W a0 w0 s1 len1 cap1 w1).mono fun e W' ⟨he, hg⟩ => ?_
  subst he
  exact ⟨_, rfl, _, _, _, [], _, [], hW', trodAll_mk1 (shut_bool Try.underlying4 _), (trodAll_cons_mk (shut_int Try.underlying3 w0) (trodAll_cons_mk (Below.trod laidOut (by kernel_rfl) (of_decide_eq_true (by kernel_rfl)) k1 hg lt1) trodAll_mk0)), rfl, hg.frame _, fun h => by cases h⟩

theorem over : Rows.ctxOnceRow.holds Try.pinned (OpenSpec.ofChange Rows.ctxOnceSpec) :=
  OpenClaim.holds_of_wide 4 Try.f4 rfl rfl rfl rfl rfl rfl rfl ⟨rfl, rfl, rfl, rfl, rfl⟩ rfl rfl rfl rfl rfl (by kernel_rfl) Try.func4 (by kernel_rfl)
    (of_decide_eq_true (by kernel_rfl)) (by unfold Func.isWrapper; first | (rw [if_pos (by decide +kernel)]; kernel_rfl) | (rw [if_neg (by decide +kernel)]; exact ⟨rfl, rfl⟩))
    (fun os started H enc _ => lifted os started H enc)

theorem proved : Rows.CtxOnceSaid :=
  over
#print axioms proved
end Go.Proofs.Ytkbkilkmiigahaa.ctxOnce
