/-
  FieldApart: for every place, two sizes and two numbers the law returns true, and its arguments read as before. Conditions: none.
-/
import Derived.Test.YtbodcjcnjbkcbaaRows
import Derived.WalkKit
import Derived.ProofKit
import Derived.OpenShut
import Derived.Test.YtbodcjcnjbkcbaaLives
import Derived.Test.YtbodcjcnjbkcbaaMathB
import Derived.ShutString
namespace Go.Proofs.Ytbodcjcnjbkcbaa.fieldApart
open Fld
open Go.ChangeShapes Go.WideShapes Go.ChangeAt Go.RowKit
open Go.ChangeMaps (open_string shut_string)
set_option linter.unusedVariables false

theorem own : ownKnob Try.prog.godebug = none := by kernel_rfl

theorem core (p a b x y : Int) (hp0 : 0 ≤ p) (hp1 : p ≤ 31) (ha0 : 1 ≤ a) (ha1 : a ≤ 16) (hb0 : 1 ≤ b) (hb1 : b ≤ 16) :
    putI (putI 0 p a x) (p + a) b y = putI (putI 0 (p + a) b y) p a x ∧ getI (putI (putI 0 p a x) (p + a) b y) p a = getI x 0 a ∧ getI (putI (putI 0 p a x) (p + a) b y) (p + a) b = getI y 0 b := by
  have h1 : mayB p a = true := mayB_mk (by omega)
  have h2 : mayB (p + a) b = true := mayB_mk (by omega)
  refine ⟨putI_comm _ _ _ _ _ _ _ h1 h2 (by omega), ?_, getI_put _ _ _ _ h2⟩
  rw [getI_put_far _ _ _ _ _ _ h1 h2 (by omega), getI_put _ _ _ _ h1]
/-! ### The walk -/
set_option maxHeartbeats 1000000 in
theorem walk (a0 : Int) (a1 : Int) (a2 : Int) (a3 : Int) (a4 : Int) (w0 : (Lit.int .i64 a0).wf = true) (w1 : (Lit.int .i64 a1).wf = true) (w2 : (Lit.int .i64 a2).wf = true) (w3 : (Lit.int .u64 a3).wf = true) (w4 : (Lit.int .u64 a4).wf = true) (w : World) :
    Calls Try.prog 8 #[.int .i64 a0, .int .i64 a1, .int .i64 a2, .int .u64 a3, .int .u64 a4] w fun e w' => e = .returned (.bool true) ∧ Below w.heap.size w w' := by
  obtain ⟨p0, p1⟩ := bounds_i64 w0
  obtain ⟨s0, s1⟩ := bounds_i64 w1
  obtain ⟨t0, t1⟩ := bounds_i64 w2
  obtain ⟨x0, x1⟩ := bounds_u64 w3
  obtain ⟨y0, y1⟩ := bounds_u64 w4
  clear w0 w1 w2 w3 w4
  have b0 := nrm_bd a0 32 (by omega)
  have b1 := nrm_bd a1 16 (by omega)
  have b2 := nrm_bd a2 16 (by omega)
  have W1 := Lib.hid (IntWalk.wrap64_in (1 + nrm a1 16) ⟨by omega, by omega⟩)
  have W2 := Lib.hid (IntWalk.wrap64_in (1 + nrm a2 16) ⟨by omega, by omega⟩)
  have C := Lib.hid (core (nrm a0 32) (1 + nrm a1 16) (1 + nrm a2 16) a3 a4 (by omega) (by omega) (by omega) (by omega) (by omega) (by omega))
  have x2 := putI_bd 0 (nrm a0 32) (1 + nrm a1 16) a3 (by omega) (by omega)
  have y2 := putI_bd 0 (nrm a0 32 + (1 + nrm a1 16)) (1 + nrm a2 16) a4 (by omega) (by omega)
  have z2 := putI_bd (putI 0 (nrm a0 32) (1 + nrm a1 16) a3) (nrm a0 32 + (1 + nrm a1 16)) (1 + nrm a2 16) a4 x2.1 x2.2
  rcases nrm_or a0 32 with ⟨N0, hp⟩ | ⟨N0, hp⟩ <;> rcases nrm_or a1 16 with ⟨N1, ha⟩ | ⟨N1, ha⟩ <;> rcases nrm_or a2 16 with ⟨N2, hb⟩ | ⟨N2, hb⟩
  all_goals
    go_enter Try.func8, Try.ntmps8
    go_wp2_with fail
    rw [N0.out, N1.out, N2.out]
    try rw [W1.out]
    try rw [W2.out]
    clear N0 N1 N2 W1 W2 p0 p1 s0 s1 t0 t1 hp ha hb
    generalize nrm a0 32 = p at *
    generalize nrm a1 16 = q at *
    generalize nrm a2 16 = r at *
    refine (put_any _ _ _ _ (by omega) (by omega) x0 x1 _).mono ?_
    rintro e w' ⟨rfl, rfl⟩
    go_wp2_with fail
    refine (put_any _ _ _ _ x2.1 x2.2 y0 y1 _).mono ?_
    rintro e w' ⟨rfl, rfl⟩
    go_wp2_with fail
    refine (put_any _ _ _ _ (by omega) (by omega) y0 y1 _).mono ?_
    rintro e w' ⟨rfl, rfl⟩
    go_wp2_with fail
    refine (put_any _ _ _ _ y2.1 y2.2 x0 x1 _).mono ?_
    rintro e w' ⟨rfl, rfl⟩
    rw [← C.out.1]
    go_wp2_with fail
    refine (get_any _ _ _ z2.1 z2.2 _).mono ?_
    rintro e w' ⟨rfl, n, rfl⟩
    rw [C.out.2.1]
    go_wp2_with fail
    refine (rget_any _ _ _ x0 x1 _).mono ?_
    rintro e w' ⟨rfl, rfl⟩
    go_wp2_with fail
    refine (get_any _ _ _ z2.1 z2.2 _).mono ?_
    rintro e w' ⟨rfl, m, rfl⟩
    rw [C.out.2.2]
    go_wp2_with fail
    refine (rget_any _ _ _ y0 y1 _).mono ?_
    rintro e w' ⟨rfl, rfl⟩
    go_wp2_with fail
    refine (lives_any _).mono ?_
    rintro e w' ⟨rfl, hb⟩
    go_wp2
    go_ret
    exact ⟨rfl, (below_drewN (Below.refl _ _) (n + m)).trans hb⟩

/-! ### The row -/
set_option maxRecDepth 100000 in
theorem lifted (os : Os) (started : os.Started) (H : Type) (enc : TypeId × Value → H) :
    ReturnsInHanded {} Try.checked os 8 .any (Rows.fieldApartSpec.pre6 enc Try.prog Try.f8 Rows.fieldApartRow.domain false) (Rows.fieldApartSpec.post enc Try.prog Try.f8 false true false false) := by
  refine returnsInHanded_of_change (C := Try.checked) own started (by kernel_rfl) Try.func8
    (ChangeSpec.witness6 (enc := enc) (C := Try.checked) false ⟨#[], #[.int .i64 0, .int .i64 0, .int .i64 0, .int .u64 0, .int .u64 0], []⟩ 8 (by kernel_rfl) (by kernel_rfl) (by kernel_rfl) (by kernel_rfl)) ?_
  intro W base args ds gs before hval0 hW hcnd _
  have hval : ∀ (j : Nat) t v, Try.f8.params[j]? = some t → args[j]? = some v → Value.okWide Try.prog W .any base t v := hval0
  have hW' := hW
  obtain ⟨p, q, hA0, hV, rfl, hfz, hnd⟩ := hW
  have hA : DataW.TrodAll enc Try.prog W 0 (fun _ => true) true Try.f8.params.toList args.toList ds p := hA0
  rw [Try.params8] at hA hval
  obtain ⟨v0, vs0, d0, ds0, p0, q0, hargs, rfl, rfl, h0, r0⟩ := trodAll_cons hA
  obtain ⟨v1, vs1, d1, ds1, p1, q1, rfl, rfl, rfl, h1, r1⟩ := trodAll_cons r0
  obtain ⟨v2, vs2, d2, ds2, p2, q2, rfl, rfl, rfl, h2, r2⟩ := trodAll_cons r1
  obtain ⟨v3, vs3, d3, ds3, p3, q3, rfl, rfl, rfl, h3, r3⟩ := trodAll_cons r2
  obtain ⟨v4, vs4, d4, ds4, p4, q4, rfl, rfl, rfl, h4, r4⟩ := trodAll_cons r3
  obtain ⟨rfl, rfl, rfl⟩ := trodAll_nil r4
  obtain rfl : args = #[v0, v1, v2, v3, v4] := by cases args; simp_all
  obtain ⟨rfl, rfl⟩ := trodVars_none hV
  obtain ⟨a0, rfl, rfl, rfl, w0⟩ := open_int Try.underlying3 (hval 0 3 v0 rfl rfl) h0
  obtain ⟨a1, rfl, rfl, rfl, w1⟩ := open_int Try.underlying3 (hval 1 3 v1 rfl rfl) h1
  obtain ⟨a2, rfl, rfl, rfl, w2⟩ := open_int Try.underlying3 (hval 2 3 v2 rfl rfl) h2
  obtain ⟨a3, rfl, rfl, rfl, w3⟩ := open_int Try.underlying22 (hval 3 22 v3 rfl rfl) h3
  obtain ⟨a4, rfl, rfl, rfl, w4⟩ := open_int Try.underlying22 (hval 4 22 v4 rfl rfl) h4
  clear hA0 hval0
  simp only [List.append_nil] at hW'
  refine (walk a0 a1 a2 a3 a4 w0 w1 w2 w3 w4 W).mono fun e W' ⟨he, hg⟩ => ?_
  subst he
  exact ⟨_, rfl, _, _, _, [], [], [], hW', trodAll_mk1 (shut_bool Try.underlying4 _), (trodAll_cons_mk (shut_int Try.underlying3 w0) (trodAll_cons_mk (shut_int Try.underlying3 w1) (trodAll_cons_mk (shut_int Try.underlying3 w2) (trodAll_cons_mk (shut_int Try.underlying22 w3) (trodAll_cons_mk (shut_int Try.underlying22 w4) trodAll_mk0))))), rfl, hg.frame _, fun h => by cases h⟩

theorem over : Rows.fieldApartRow.holds Try.pinned (OpenSpec.ofChange Rows.fieldApartSpec) :=
  OpenClaim.holds_of_wide 8 Try.f8 rfl rfl rfl rfl rfl rfl rfl ⟨rfl, rfl, rfl, rfl, rfl⟩ rfl rfl rfl rfl rfl (by kernel_rfl) Try.func8 (by kernel_rfl)
    (of_decide_eq_true (by kernel_rfl)) (by unfold Func.isWrapper; first | (rw [if_pos (by decide +kernel)]; kernel_rfl) | (rw [if_neg (by decide +kernel)]; exact ⟨rfl, rfl⟩))
    (fun os started H enc _ => lifted os started H enc)

theorem proved : Rows.FieldApartSaid :=
  over
#print axioms proved
end Go.Proofs.Ytbodcjcnjbkcbaa.fieldApart
