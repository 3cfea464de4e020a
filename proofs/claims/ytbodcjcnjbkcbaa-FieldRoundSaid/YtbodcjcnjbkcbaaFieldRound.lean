/-
  FieldRound: for every word, place, size and number the law returns true, and its arguments read as before. Conditions: none.
-/
import Derived.Test.YtbodcjcnjbkcbaaRows
import Derived.WalkKit
import Derived.ProofKit
import Derived.OpenShut
import Derived.Test.YtbodcjcnjbkcbaaLives
import Derived.Test.YtbodcjcnjbkcbaaMathB
import Derived.ShutString
namespace Go.Proofs.Ytbodcjcnjbkcbaa.fieldRound
open Fld
open Go.ChangeShapes Go.WideShapes Go.ChangeAt Go.RowKit
open Go.ChangeMaps (open_string shut_string)
set_option linter.unusedVariables false

theorem own : ownKnob Try.prog.godebug = none := by kernel_rfl

/-! ### The walk -/
set_option maxHeartbeats 1000000 in
theorem walk (a0 : Int) (a1 : Int) (a2 : Int) (a3 : Int) (w0 : (Lit.int .u64 a0).wf = true) (w1 : (Lit.int .i64 a1).wf = true) (w2 : (Lit.int .i64 a2).wf = true) (w3 : (Lit.int .u64 a3).wf = true) (w : World) :
    Calls Try.prog 4 #[.int .u64 a0, .int .i64 a1, .int .i64 a2, .int .u64 a3] w fun e w' => e = .returned (.bool true) ∧ Below w.heap.size w w' := by
  obtain ⟨x0, x1⟩ := bounds_u64 w0
  obtain ⟨p0, p1⟩ := bounds_i64 w1
  obtain ⟨s0, s1⟩ := bounds_i64 w2
  obtain ⟨v0, v1⟩ := bounds_u64 w3
  clear w0 w1 w2 w3
  have b1 := nrm_bd a1 64 (by omega)
  have b2 := nrm_bd a2 (64 - nrm a1 64) (by omega)
  rcases nrm_or a1 64 with ⟨N1, hp⟩ | ⟨N1, hp⟩ <;> rcases nrm_or a2 (64 - nrm a1 64) with ⟨N2, ha⟩ | ⟨N2, ha⟩
  all_goals
    have M1 := N1.out
    have M2 := N2.out
    clear N1 N2
    go_enter Try.func4, Try.ntmps4
    go_wp2_with fail
    clear M1 M2 p0 p1 s0 s1 hp ha
    have hm : mayB (nrm a1 64) (1 + nrm a2 (64 - nrm a1 64)) = true := mayB_mk (by omega)
    clear b1 b2
    generalize 1 + nrm a2 (64 - nrm a1 64) = s at *
    generalize nrm a1 64 = p at *
    have xb := putI_bd a0 p s a3 x0 x1
    have gb := getI_bd (putI a0 p s a3) p s
    have E1 := none_mask a0 p s x0 x1 hm
    have E2 := none_mask (putI a0 p s a3) p s xb.1 xb.2 hm
    rw [putI_put _ _ _ _ _ hm] at E2
    have F1 := Lib.hid (fits_get (putI a0 p s a3) p s hm)
    have F2 := Lib.hid (putI_get' a0 p s a3 x0 x1 hm)
    have F3 := Lib.hid (fun h => (getI_put a0 p s a3 hm).trans (get_fits a3 s v0 h (may_zero hm)))
    clear hm
    refine (put_any _ _ _ _ x0 x1 v0 v1 _).mono ?_
    rintro e w' ⟨rfl, rfl⟩
    go_wp2_with fail
    refine (mask_any _ _ _).mono ?_
    rintro e w' ⟨rfl, rfl⟩
    go_wp2_with fail
    refine (get_any _ _ _ xb.1 xb.2 _).mono ?_
    rintro e w' ⟨rfl, n, rfl⟩
    go_wp2_with fail
    refine (fits_any _ _ gb.1 gb.2 _).mono ?_
    rintro e w' ⟨rfl, rfl⟩
    rw [F1.out]
    go_wp2_with fail
    refine (fits_any _ _ v0 v1 _).mono ?_
    rintro e w' ⟨rfl, rfl⟩
    cases hf : fitsB a3 s
    · go_wp2_with fail
      refine (put_any _ _ _ _ xb.1 xb.2 gb.1 gb.2 _).mono ?_
      rintro e w' ⟨rfl, rfl⟩
      rw [F2.out]
      go_wp2_with fail
      refine (lives_any _).mono ?_
      rintro e w' ⟨rfl, hb⟩
      go_wp2
      go_ret
      exact ⟨rfl, (below_drewN (Below.refl _ _) n).trans hb⟩
    · have F4 := beq_iff_eq.2 (F3.out hf)
      go_wp2_with fail
      refine (put_any _ _ _ _ xb.1 xb.2 gb.1 gb.2 _).mono ?_
      rintro e w' ⟨rfl, rfl⟩
      rw [F2.out]
      go_wp2_with fail
      refine (lives_any _).mono ?_
      rintro e w' ⟨rfl, hb⟩
      go_wp2
      go_ret
      exact ⟨rfl, (below_drewN (Below.refl _ _) n).trans hb⟩

/-! ### The row -/
set_option maxRecDepth 100000 in
theorem lifted (os : Os) (started : os.Started) (H : Type) (enc : TypeId × Value → H) :
    ReturnsInHanded {} Try.checked os 4 .any (Rows.fieldRoundSpec.pre6 enc Try.prog Try.f4 Rows.fieldRoundRow.domain false) (Rows.fieldRoundSpec.post enc Try.prog Try.f4 false true false false) := by
  refine returnsInHanded_of_change (C := Try.checked) own started (by kernel_rfl) Try.func4
    (ChangeSpec.witness6 (enc := enc) (C := Try.checked) false ⟨#[], #[.int .u64 0, .int .i64 0, .int .i64 0, .int .u64 0], []⟩ 8 (by kernel_rfl) (by kernel_rfl) (by kernel_rfl) (by kernel_rfl)) ?_
  intro W base args ds gs before hval0 hW hcnd _
  have hval : ∀ (j : Nat) t v, Try.f4.params[j]? = some t → args[j]? = some v → Value.okWide Try.prog W .any base t v := hval0
  have hW' := hW
  obtain ⟨p, q, hA0, hV, rfl, hfz, hnd⟩ := hW
  have hA : DataW.TrodAll enc Try.prog W 0 (fun _ => true) true Try.f4.params.toList args.toList ds p := hA0
  rw [Try.params4] at hA hval
  obtain ⟨v0, vs0, d0, ds0, p0, q0, hargs, rfl, rfl, h0, r0⟩ := trodAll_cons hA
  obtain ⟨v1, vs1, d1, ds1, p1, q1, rfl, rfl, rfl, h1, r1⟩ := trodAll_cons r0
  obtain ⟨v2, vs2, d2, ds2, p2, q2, rfl, rfl, rfl, h2, r2⟩ := trodAll_cons r1
  obtain ⟨v3, vs3, d3, ds3, p3, q3, rfl, rfl, rfl, h3, r3⟩ := trodAll_cons r2
  obtain ⟨rfl, rfl, rfl⟩ := trodAll_nil r3
  obtain rfl : args = #[v0, v1, v2, v3] := by cases args; simp_all
  obtain ⟨rfl, rfl⟩ := trodVars_none hV
  obtain ⟨a0, rfl, rfl, rfl, w0⟩ := open_int Try.underlying22 (hval 0 22 v0 rfl rfl) h0
  obtain ⟨a1, rfl, rfl, rfl, w1⟩ := open_int Try.underlying3 (hval 1 3 v1 rfl rfl) h1
  obtain ⟨a2, rfl, rfl, rfl, w2⟩ := open_int Try.underlying3 (hval 2 3 v2 rfl rfl) h2
  obtain ⟨a3, rfl, rfl, rfl, w3⟩ := open_int Try.underlying22 (hval 3 22 v3 rfl rfl) h3
  clear hA0 hval0
  simp only [List.append_nil] at hW'
  refine (walk a0 a1 a2 a3 w0 w1 w2 w3 W).mono fun e W' ⟨he, hg⟩ => ?_
  subst he
  exact ⟨_, rfl, _, _, _, [], [], [], hW', trodAll_mk1 (shut_bool Try.underlying4 _), (trodAll_cons_mk (shut_int Try.underlying22 w0) (trodAll_cons_mk (shut_int Try.underlying3 w1) (trodAll_cons_mk (shut_int Try.underlying3 w2) (trodAll_cons_mk (shut_int Try.underlying22 w3) trodAll_mk0)))), rfl, hg.frame _, fun h => by cases h⟩

theorem over : Rows.fieldRoundRow.holds Try.pinned (OpenSpec.ofChange Rows.fieldRoundSpec) :=
  OpenClaim.holds_of_wide 4 Try.f4 rfl rfl rfl rfl rfl rfl rfl ⟨rfl, rfl, rfl, rfl, rfl⟩ rfl rfl rfl rfl rfl (by kernel_rfl) Try.func4 (by kernel_rfl)
    (of_decide_eq_true (by kernel_rfl)) (by unfold Func.isWrapper; first | (rw [if_pos (by decide +kernel)]; kernel_rfl) | (rw [if_neg (by decide +kernel)]; exact ⟨rfl, rfl⟩))
    (fun os started H enc _ => lifted os started H enc)

theorem proved : Rows.FieldRoundSaid :=
  over
#print axioms proved
end Go.Proofs.Ytbodcjcnjbkcbaa.fieldRound
