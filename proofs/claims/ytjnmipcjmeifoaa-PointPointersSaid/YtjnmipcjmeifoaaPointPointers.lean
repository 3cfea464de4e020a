/-
  PointPointers: for every register, tag access and size the law returns true, and its arguments read as before. Conditions: none.
-/
import Derived.Test.YtjnmipcjmeifoaaRows
import Derived.WalkKit
import Derived.ProofKit
import Derived.OpenShut
import Derived.Test.YtjnmipcjmeifoaaQLaw
import Derived.ShutString
namespace Go.Proofs.Ytjnmipcjmeifoaa.pointPointers
open Fld
open Go.ChangeShapes Go.WideShapes Go.ChangeAt Go.RowKit
open Go.ChangeMaps (open_string shut_string)
set_option linter.unusedVariables false

theorem own : ownKnob Try.prog.godebug = none := by kernel_rfl

open Pt
/-! ### The walk -/
set_option maxHeartbeats 1000000 in
set_option maxRecDepth 100000 in
theorem walk (a0 : Int) (a1 : Int) (a2 : Int) (w0 : (Lit.int .u64 a0).wf = true) (w1 : (Lit.int .u64 a1).wf = true) (w2 : (Lit.int .i64 a2).wf = true) (w : World) :
    Calls Try.prog 3 #[.int .u64 a0, .int .u64 a1, .int .i64 a2] w fun e w' => e = .returned (.bool true) ∧ Below w.heap.size w w' := by
  obtain ⟨t0, t1⟩ := bounds_u64 w0
  obtain ⟨x0, x1⟩ := bounds_u64 w1
  obtain ⟨y0, y1⟩ := bounds_i64 w2
  clear w0 w1 w2
  have CP := Lib.hid (fun w => pointer_any a0 a1 a2 t0 t1 x0 x1 w)
  have CR := Lib.hid (fun w => rpointer_any a0 a1 a2 t0 t1 x0 x1 w)
  have CE := Lib.hid (fun w => entries_any a0 t0 t1 w)
  have CF := Lib.hid (fun w => rentries_any a0 t0 t1 w)
  have CS := Lib.hid (fun w => split_any a0 t0 t1 w)
  have CT := Lib.hid (fun w => rsplit_any a0 t0 t1 w)
  have hE : 0 ≤ entI a0 ∧ entI a0 ≤ 65536 := by rcases ent_or a0 with ⟨h, e⟩ | ⟨h, e⟩ | ⟨h, e⟩ | ⟨h, e⟩ | ⟨h, e⟩ | ⟨h, e⟩ | ⟨h, e⟩ | ⟨h, e⟩ <;> rw [e] <;> decide
  generalize ptrI a0 a1 a2 = p at *
  generalize entI a0 = n at *
  generalize splitB a0 = s at *
  generalize isB a2 = i at *
  go_enter Try.func3, Try.ntmps3
  go_wp2_with (first | (go_at_call 8; refine (CP.out _).mono ?_; rintro e w' ⟨rfl, h1⟩) | (go_at_call 9; refine (CR.out _).mono ?_; rintro e w' ⟨rfl, h2⟩) | (go_at_call 10; refine (CE.out _).mono ?_; rintro e w' ⟨rfl, m1, rfl⟩) | (go_at_call 11; refine (CF.out _).mono ?_; rintro e w' ⟨rfl, rfl⟩) | (go_at_call 12; refine (CS.out _).mono ?_; rintro e w' ⟨rfl, m2, rfl⟩) | (go_at_call 13; refine (CT.out _).mono ?_; rintro e w' ⟨rfl, rfl⟩) | (go_at_call 14; refine (qlives_any _).mono ?_; rintro e w' ⟨rfl, h3⟩))
  go_ret
  have k1 := h1.trans (h2.mono h1.size)
  have k2 := below_drewN k1 (m1 + m2)
  exact ⟨rfl, k2.trans (h3.mono k2.size)⟩

/-! ### The row -/
set_option maxRecDepth 100000 in
theorem lifted (os : Os) (started : os.Started) (H : Type) (enc : TypeId × Value → H) :
    ReturnsInHanded {} Try.checked os 3 .any (Rows.pointPointersSpec.pre6 enc Try.prog Try.f3 Rows.pointPointersRow.domain false) (Rows.pointPointersSpec.post enc Try.prog Try.f3 false true false false) := by
  refine returnsInHanded_of_change (C := Try.checked) own started (by kernel_rfl) Try.func3
    (ChangeSpec.witness6 (enc := enc) (C := Try.checked) false ⟨#[], #[.int .u64 0, .int .u64 0, .int .i64 0], []⟩ 8 (by kernel_rfl) (by kernel_rfl) (by kernel_rfl) (by kernel_rfl)) ?_
  intro W base args ds gs before hval0 hW hcnd _
  have hval : ∀ (j : Nat) t v, Try.f3.params[j]? = some t → args[j]? = some v → Value.okWide Try.prog W .any base t v := hval0
  have hW' := hW
  obtain ⟨p, q, hA0, hV, rfl, hfz, hnd⟩ := hW
  have hA : DataW.TrodAll enc Try.prog W 0 (fun _ => true) true Try.f3.params.toList args.toList ds p := hA0
  rw [Try.params3] at hA hval
  obtain ⟨v0, vs0, d0, ds0, p0, q0, hargs, rfl, rfl, h0, r0⟩ := trodAll_cons hA
  obtain ⟨v1, vs1, d1, ds1, p1, q1, rfl, rfl, rfl, h1, r1⟩ := trodAll_cons r0
  obtain ⟨v2, vs2, d2, ds2, p2, q2, rfl, rfl, rfl, h2, r2⟩ := trodAll_cons r1
  obtain ⟨rfl, rfl, rfl⟩ := trodAll_nil r2
  obtain rfl : args = #[v0, v1, v2] := by cases args; simp_all
  obtain ⟨rfl, rfl⟩ := trodVars_none hV
  obtain ⟨a0, rfl, rfl, rfl, w0⟩ := open_int Try.underlying22 (hval 0 22 v0 rfl rfl) h0
  obtain ⟨a1, rfl, rfl, rfl, w1⟩ := open_int Try.underlying22 (hval 1 22 v1 rfl rfl) h1
  obtain ⟨a2, rfl, rfl, rfl, w2⟩ := open_int Try.underlying3 (hval 2 3 v2 rfl rfl) h2
  clear hA0 hval0
  simp only [List.append_nil] at hW'
  refine (walk a0 a1 a2 w0 w1 w2 W).mono fun e W' ⟨he, hg⟩ => ?_
  subst he
  exact ⟨_, rfl, _, _, _, [], [], [], hW', trodAll_mk1 (shut_bool Try.underlying4 _), (trodAll_cons_mk (shut_int Try.underlying22 w0) (trodAll_cons_mk (shut_int Try.underlying22 w1) (trodAll_cons_mk (shut_int Try.underlying3 w2) trodAll_mk0))), rfl, hg.frame _, fun h => by cases h⟩

theorem over : Rows.pointPointersRow.holds Try.pinned (OpenSpec.ofChange Rows.pointPointersSpec) :=
  OpenClaim.holds_of_wide 3 Try.f3 rfl rfl rfl rfl rfl rfl rfl ⟨rfl, rfl, rfl, rfl, rfl⟩ rfl rfl rfl rfl rfl (by kernel_rfl) Try.func3 (by kernel_rfl)
    (of_decide_eq_true (by kernel_rfl)) (by unfold Func.isWrapper; first | (rw [if_pos (by decide +kernel)]; kernel_rfl) | (rw [if_neg (by decide +kernel)]; exact ⟨rfl, rfl⟩))
    (fun os started H enc _ => lifted os started H enc)

theorem proved : Rows.PointPointersSaid :=
  over
#print axioms proved
end Go.Proofs.Ytjnmipcjmeifoaa.pointPointers
