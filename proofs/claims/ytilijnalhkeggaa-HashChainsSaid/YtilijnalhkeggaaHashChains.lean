/-
  HashChains: for every key and number of chains the law returns true, and its arguments read as before. Conditions: none.
-/
import Derived.Test.YtilijnalhkeggaaRows
import Derived.WalkKit
import Derived.ProofKit
import Derived.OpenShut
import Derived.Test.YtilijnalhkeggaaHLaw
import Derived.Deep.RegionHeld3
import Derived.Test.YtilijnalhkeggaaHOpen
namespace Go.Proofs.Ytilijnalhkeggaa.hashChains
open Fld Hs
open Go.ChangeShapes Go.WideShapes Go.ChangeAt Go.RowKit Go.Deep Go.Maps
set_option linter.unusedVariables false

theorem own : ownKnob Try.prog.godebug = none := by kernel_rfl

/-! ### The walk -/
set_option maxHeartbeats 4000000 in
set_option maxRecDepth 100000 in
theorem walk (w : World) (E0 : Ky) (l0 : E0.lits) (a1 : Int) (w1 : (Lit.int .i64 a1).wf = true) :
    Calls Try.prog 4 #[.agg #[.int .i64 E0.sp, .int .u64 E0.va, .int .i64 E0.sz], .int .i64 a1] w fun e w' => e = .returned (.bool true) ∧ Below w.heap.size w w' := by
  obtain ⟨n0, n1⟩ := bounds_i64 w1
  have hk := Ky.lits_wf l0
  have hn := nrm_bd a1 10000 (by decide)
  have hok := goodK_ok hk
  obtain ⟨N, hN⟩ : ∃ N : Nat, 1 + nrm a1 10000 = (N : Int) := ⟨(1 + nrm a1 10000).toNat, by omega⟩
  have hN1 : 1 ≤ N := by omega
  have hN2 : N ≤ 10000 := by omega
  have C1 := Lib.hid (fun w => good_any E0 hk w)
  have C2 := Lib.hid (fun k w => key_any k w)
  have C3 := Lib.hid (fun w => chain_any (goodK E0) hok.wf N hN1 (by omega) w)
  rw [chI_ok hok] at C3
  have C4 := Lib.hid (fun w => kmay_any E0 hk w)
  have C5 := Lib.hid (fun w => rmay_any E0 hk w)
  have C6 := Lib.hid (fun w => kmay_any (goodK E0) hok.wf w)
  rw [hok.may] at C6
  have C7 := Lib.hid (fun w => rchain_any (goodK E0) hok N hN1 (by omega) w)
  have C8 := Lib.hid (fun w => hlives_any w)
  obtain ⟨q0, q1⟩ := chain_bd (goodK E0) hN1
  have d0 : decide (0 ≤ chainI (goodK E0) N) = true := decide_eq_true q0
  have d1 : decide (chainI (goodK E0) N < (N : Int)) = true := decide_eq_true q1
  generalize goodK E0 = g at *
  generalize chainI g N = c at *
  clear hok w1 l0
  have hds : ∀ W : World, W.drew.heap.size = W.heap.size := fun _ => rfl
  rcases nrm_or a1 10000 with ⟨e1, hs⟩ | ⟨e1, hs⟩
  all_goals
    have E1 := e1.out
    go_enter Try.func4, Try.ntmps4
    go_wp2_with fail
    refine (C1.out _).mono ?_; rintro e w1 ⟨rfl, hb1⟩
    go_wp2_with fail
    refine (C2.out _ _).mono ?_; rintro e w2 ⟨rfl, hb2⟩
    go_wp2_with fail
    refine (C3.out _).mono ?_; rintro e w3 ⟨rfl, hb3⟩
    go_wp2_with fail
    have hlo : Below w.heap.size w w3 := by (repeat (first | (with_reducible assumption) | (with_reducible exact Below.refl _ _) | (with_reducible refine lo_step ?_ (by assumption)) | (with_reducible refine lo_drew ?_) | (with_reducible refine lo_drewN ?_ _) | (with_reducible refine lo_alloc ?_ _))) 
    have HLO := Lib.hid (fun (W : World) (h : Below w3.heap.size w3 W) => lo_step hlo h)
    have T1 : TK (w1.alloc (.cells #[.int .i64 g.sp, .int .u64 g.va, .int .i64 g.sz] 33)) w.heap.size E0 w1.heap.size g := ⟨blk_low (blk_low (heap_alloc_new w _) hb1) ((Below.refl _ w1).alloc (Nat.le_refl _) _), heap_alloc_new w1 _⟩
    have T3 := (T1.low hb2).low hb3
    clear T1 hlo hb1 hb2 hb3 e1 E1 hs hN hn n0 n1 C1 C3 hk
    generalize hA : w.heap.size = A at *
    replace hA := Lib.hid hA
    generalize w1.heap.size = B at *
    generalize kmayB E0 = mm at *
    have t3 := T3.cells
    go_region_held3 (fun w1 => (w1.cell? ⟨A, 0, none⟩ = some (.int .i64 E0.sp) ∧ w1.cell? ⟨A, 1, none⟩ = some (.int .u64 E0.va) ∧ w1.cell? ⟨A, 2, none⟩ = some (.int .i64 E0.sz)) ∧ (w1.cell? ⟨B, 0, none⟩ = some (.int .i64 g.sp) ∧ w1.cell? ⟨B, 1, none⟩ = some (.int .u64 g.va) ∧ w1.cell? ⟨B, 2, none⟩ = some (.int .i64 g.sz))) ((refine TK.cells ?_; (repeat (first | (with_reducible assumption) | (with_reducible refine TK.drew ?_) | (with_reducible refine TK.drewN ?_ _) | (with_reducible refine TK.alloc ?_ _) | (with_reducible refine TK.low ?_ (by assumption)))) ))
      (first
        | (go_at_call 16; (with_reducible refine (C2.out _ _).mono ?_); rintro r w' ⟨rfl, hb⟩)
        | (go_at_call 17; (with_reducible refine (C4.out _).mono ?_); rintro r w' ⟨rfl, hb⟩)
        | (go_at_call 17; (with_reducible refine (C6.out _).mono ?_); rintro r w' ⟨rfl, hb⟩)
        | (go_at_call 18; (with_reducible refine (C5.out _).mono ?_); rintro r w' ⟨rfl, hb⟩)
        | (go_at_call 19; (with_reducible refine (C7.out _).mono ?_); rintro r w' ⟨rfl, hb⟩)
        | (go_at_call 13; (with_reducible refine (C8.out _).mono ?_); rintro r w' ⟨rfl, hb⟩))
    all_goals
      go_wp2_with fail
      go_ret
      exact ⟨rfl, by rw [hA.out]; exact HLO.out _ (by (repeat (first | (with_reducible assumption) | (with_reducible exact Below.refl _ _) | (with_reducible refine lo_step ?_ (by assumption)) | (with_reducible refine lo_drew ?_) | (with_reducible refine lo_drewN ?_ _) | (with_reducible refine lo_alloc ?_ _))) )⟩

/-! ### The row -/
set_option maxRecDepth 100000 in
theorem lifted (os : Os) (started : os.Started) (H : Type) (enc : TypeId × Value → H) :
    ReturnsInHanded {} Try.checked os 4 .any (Rows.hashChainsSpec.pre6 enc Try.prog Try.f4 Rows.hashChainsRow.domain false) (Rows.hashChainsSpec.post enc Try.prog Try.f4 false true false false) := by
  refine returnsInHanded_of_change (C := Try.checked) own started (by kernel_rfl) Try.func4
    (ChangeSpec.witness6 (enc := enc) (C := Try.checked) false ⟨#[], #[.agg #[.int .i64 0, .int .u64 0, .int .i64 0], .int .i64 0], []⟩ 8 (by kernel_rfl) (by kernel_rfl) (by kernel_rfl) (by kernel_rfl)) ?_
  intro W base args ds gs before hval0 hW hcnd _
  have hval : ∀ (j : Nat) t v, Try.f4.params[j]? = some t → args[j]? = some v → Value.okWide Try.prog W .any base t v := hval0
  have hW' := hW
  obtain ⟨p, q, hA0, hV, rfl, hfz, hnd⟩ := hW
  have hA : DataW.TrodAll enc Try.prog W 0 (fun _ => true) true Try.f4.params.toList args.toList ds p := hA0
  rw [Try.params4] at hA hval
  obtain ⟨v0, vs0, d0, ds0, p0, q0, hargs, rfl, rfl, h0, r0⟩ := trodAll_cons hA
  obtain ⟨v1, vs1, d1, ds1, p1, q1, rfl, rfl, rfl, h1, r1⟩ := trodAll_cons r0
  obtain ⟨rfl, rfl, rfl⟩ := trodAll_nil r1
  obtain rfl : args = #[v0, v1] := by cases args; simp_all
  obtain ⟨rfl, rfl⟩ := trodVars_none hV
  obtain ⟨E0, rfl, rfl, rfl, l0⟩ := open_key (hval 0 33 v0 rfl rfl) h0
  obtain ⟨a1, rfl, rfl, rfl, w1⟩ := open_int Try.underlying3 (hval 1 3 v1 rfl rfl) h1
  clear hA0 hval0
  simp only [List.append_nil] at hW'
  refine (walk W E0 l0 a1 w1).mono fun e W' ⟨he, hg⟩ => ?_
  subst he
  exact ⟨_, rfl, _, _, _, [], _, [], hW', trodAll_mk1 (shut_bool Try.underlying4 _), (trodAll_cons_mk (shut_key l0) (trodAll_cons_mk (shut_int Try.underlying3 w1) trodAll_mk0)), rfl, hg.frame _, fun h => by cases h⟩

theorem over : Rows.hashChainsRow.holds Try.pinned (OpenSpec.ofChange Rows.hashChainsSpec) :=
  OpenClaim.holds_of_wide 4 Try.f4 rfl rfl rfl rfl rfl rfl rfl ⟨rfl, rfl, rfl, rfl, rfl⟩ rfl rfl rfl rfl rfl (by kernel_rfl) Try.func4 (by kernel_rfl)
    (of_decide_eq_true (by kernel_rfl)) (by unfold Func.isWrapper; first | (rw [if_pos (by decide +kernel)]; kernel_rfl) | (rw [if_neg (by decide +kernel)]; exact ⟨rfl, rfl⟩))
    (fun os started H enc _ => lifted os started H enc)

theorem proved : Rows.HashChainsSaid :=
  over
#print axioms proved
end Go.Proofs.Ytilijnalhkeggaa.hashChains
