/-
  FramesSizes: for every size and number the law returns true, and its arguments read as before. Conditions: none.
-/
import Derived.Test.YtdjpanmokojpdaaRows
import Derived.WalkKit
import Derived.ProofKit
import Derived.OpenShut
import Derived.Test.YtdjpanmokojpdaaFRef
import Derived.ShutString
namespace Go.Proofs.Ytdjpanmokojpdaa.framesSizes
open Fld
open Go.ChangeShapes Go.WideShapes Go.ChangeAt Go.RowKit
open Go.ChangeMaps (open_string shut_string)
set_option linter.unusedVariables false

theorem own : ownKnob Try.prog.godebug = none := by kernel_rfl

open Frm
/-! ### The walk -/
set_option maxHeartbeats 1000000 in
set_option maxRecDepth 100000 in
theorem walk (a0 : Int) (a1 : Int) (w0 : (Lit.int .i64 a0).wf = true) (w1 : (Lit.int .i64 a1).wf = true) (w : World) :
    Calls Try.prog 6 #[.int .i64 a0, .int .i64 a1] w fun e w' => e = .returned (.bool true) ∧ Below w.heap.size w w' := by
  obtain ⟨x0, x1⟩ := bounds_i64 w1
  clear w0 w1
  by_cases hn : 70000 < a1
  · go_enter Try.func6, Try.ntmps6
    go_wp2_with fail
    refine (new_any _ _).mono ?_
    rintro e W0 ⟨rfl, h0, hb⟩
    have hle := h0.le
    unfold FrAt at h0
    rw [cnt_new] at h0
    generalize hN : newN _ = N at *
    replace hN := Lib.hid hN
    have L1 := isB_neg (fun _ => false) N
    have L2 := isB_len (fun _ => false) N
    have L3 := lng_new N
    have L4 := field_n
    go_wp2_with (first | (go_at_call 20; refine (run_any _ _).mono ?_; rintro e w' ⟨rfl, rfl⟩) | (go_at_call 24; refine (rrun_any _ _).mono ?_; rintro e w' ⟨rfl, rfl⟩) | (go_at_call 12; refine (len_any _ (by assumption)).mono ?_; rintro e w' ⟨rfl, rfl⟩) | (go_at_call 11; refine (free_any _ (by assumption)).mono ?_; rintro e w' ⟨rfl, rfl⟩) | (go_at_call 23; refine (is_any _ _ (by assumption)).mono ?_; rintro e w' ⟨rfl, rfl⟩) | (go_at_call 9; refine (rnew_any _ _).mono ?_; rw [hN.out]; rintro e W1 ⟨rfl, hb1⟩; have h1 := h0.below hb1; have hb2 := hb.trans (hb1.mono hb.size)) | (go_at_call 13; refine (longest_any _ (by assumption)).mono ?_; rintro e W2 ⟨rfl, hb3⟩; have h2 := h1.below hb3; have hb4 := hb2.trans (hb3.mono hb2.size)) | (go_at_call 17; refine (flives_any _).mono ?_; rintro e w' ⟨rfl, hb5⟩))
    go_ret
    exact ⟨rfl, hb4.trans (hb5.mono hb4.size)⟩
  · go_enter Try.func6, Try.ntmps6
    go_wp2_with fail
    refine (new_any _ _).mono ?_
    rintro e W0 ⟨rfl, h0, hb⟩
    have hle := h0.le
    unfold FrAt at h0
    rw [cnt_new] at h0
    generalize hN : newN _ = N at *
    replace hN := Lib.hid hN
    have L1 := isB_neg (fun _ => false) N
    have L2 := isB_len (fun _ => false) N
    have L3 := lng_new N
    have L4 := field_n
    go_wp2_with (first | (go_at_call 20; refine (run_any _ _).mono ?_; rintro e w' ⟨rfl, rfl⟩) | (go_at_call 24; refine (rrun_any _ _).mono ?_; rintro e w' ⟨rfl, rfl⟩) | (go_at_call 12; refine (len_any _ (by assumption)).mono ?_; rintro e w' ⟨rfl, rfl⟩) | (go_at_call 11; refine (free_any _ (by assumption)).mono ?_; rintro e w' ⟨rfl, rfl⟩) | (go_at_call 23; refine (is_any _ _ (by assumption)).mono ?_; rintro e w' ⟨rfl, rfl⟩) | (go_at_call 9; refine (rnew_any _ _).mono ?_; rw [hN.out]; rintro e W1 ⟨rfl, hb1⟩; have h1 := h0.below hb1; have hb2 := hb.trans (hb1.mono hb.size)) | (go_at_call 13; refine (longest_any _ (by assumption)).mono ?_; rintro e W2 ⟨rfl, hb3⟩; have h2 := h1.below hb3; have hb4 := hb2.trans (hb3.mono hb2.size)) | (go_at_call 17; refine (flives_any _).mono ?_; rintro e w' ⟨rfl, hb5⟩))
    go_ret
    exact ⟨rfl, hb4.trans (hb5.mono hb4.size)⟩

/-! ### The row -/
set_option maxRecDepth 100000 in
theorem lifted (os : Os) (started : os.Started) (H : Type) (enc : TypeId × Value → H) :
    ReturnsInHanded {} Try.checked os 6 .any (Rows.framesSizesSpec.pre6 enc Try.prog Try.f6 Rows.framesSizesRow.domain false) (Rows.framesSizesSpec.post enc Try.prog Try.f6 false true false false) := by
  refine returnsInHanded_of_change (C := Try.checked) own started (by kernel_rfl) Try.func6
    (ChangeSpec.witness6 (enc := enc) (C := Try.checked) false ⟨#[], #[.int .i64 0, .int .i64 0], []⟩ 8 (by kernel_rfl) (by kernel_rfl) (by kernel_rfl) (by kernel_rfl)) ?_
  intro W base args ds gs before hval0 hW hcnd _
  have hval : ∀ (j : Nat) t v, Try.f6.params[j]? = some t → args[j]? = some v → Value.okWide Try.prog W .any base t v := hval0
  have hW' := hW
  obtain ⟨p, q, hA0, hV, rfl, hfz, hnd⟩ := hW
  have hA : DataW.TrodAll enc Try.prog W 0 (fun _ => true) true Try.f6.params.toList args.toList ds p := hA0
  rw [Try.params6] at hA hval
  obtain ⟨v0, vs0, d0, ds0, p0, q0, hargs, rfl, rfl, h0, r0⟩ := trodAll_cons hA
  obtain ⟨v1, vs1, d1, ds1, p1, q1, rfl, rfl, rfl, h1, r1⟩ := trodAll_cons r0
  obtain ⟨rfl, rfl, rfl⟩ := trodAll_nil r1
  obtain rfl : args = #[v0, v1] := by cases args; simp_all
  obtain ⟨rfl, rfl⟩ := trodVars_none hV
  obtain ⟨a0, rfl, rfl, rfl, w0⟩ := open_int Try.underlying3 (hval 0 3 v0 rfl rfl) h0
  obtain ⟨a1, rfl, rfl, rfl, w1⟩ := open_int Try.underlying3 (hval 1 3 v1 rfl rfl) h1
  clear hA0 hval0
  simp only [List.append_nil] at hW'
  refine (walk a0 a1 w0 w1 W).mono fun e W' ⟨he, hg⟩ => ?_
  subst he
  exact ⟨_, rfl, _, _, _, [], [], [], hW', trodAll_mk1 (shut_bool Try.underlying4 _), (trodAll_cons_mk (shut_int Try.underlying3 w0) (trodAll_cons_mk (shut_int Try.underlying3 w1) trodAll_mk0)), rfl, hg.frame _, fun h => by cases h⟩

theorem over : Rows.framesSizesRow.holds Try.pinned (OpenSpec.ofChange Rows.framesSizesSpec) :=
  OpenClaim.holds_of_wide 6 Try.f6 rfl rfl rfl rfl rfl rfl rfl ⟨rfl, rfl, rfl, rfl, rfl⟩ rfl rfl rfl rfl rfl (by kernel_rfl) Try.func6 (by kernel_rfl)
    (of_decide_eq_true (by kernel_rfl)) (by unfold Func.isWrapper; first | (rw [if_pos (by decide +kernel)]; kernel_rfl) | (rw [if_neg (by decide +kernel)]; exact ⟨rfl, rfl⟩))
    (fun os started H enc _ => lifted os started H enc)

theorem proved : Rows.FramesSizesSaid :=
  over
#print axioms proved
end Go.Proofs.Ytdjpanmokojpdaa.framesSizes
