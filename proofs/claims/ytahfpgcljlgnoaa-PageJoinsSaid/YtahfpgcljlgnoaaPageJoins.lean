/-
  PageJoins: for every address and every two sizes (made such) the law returns true, and its arguments read as before. Conditions: none.
-/
import Derived.Test.YtahfpgcljlgnoaaRows
import Derived.WalkKit
import Derived.ProofKit
import Derived.OpenShut
import Derived.Test.YtahfpgcljlgnoaaPList
import Derived.Test.YtahfpgcljlgnoaaPMathB
import Derived.ShutString
namespace Go.Proofs.Ytahfpgcljlgnoaa.pageJoins
open Fld
open Go.ChangeShapes Go.WideShapes Go.ChangeAt Go.RowKit
open Go.ChangeMaps (open_string shut_string)
set_option linter.unusedVariables false

theorem own : ownKnob Try.prog.godebug = none := by kernel_rfl

theorem nrm4_size (a : Int) : sizeB (nrm a 4) = true := by
  have := nrm_bd a 4 (by decide)
  exact sizeB_mk (by omega)
/-! ### The walk -/
set_option maxHeartbeats 1000000 in
set_option maxRecDepth 100000 in
theorem walk (a0 : Int) (a1 : Int) (a2 : Int) (w0 : (Lit.int .u64 a0).wf = true) (w1 : (Lit.int .i64 a1).wf = true) (w2 : (Lit.int .i64 a2).wf = true) (w : World) :
    Calls Try.prog 8 #[.int .u64 a0, .int .i64 a1, .int .i64 a2] w fun e w' => e = .returned (.bool true) ∧ Below w.heap.size w w' := by
  obtain ⟨x0, x1⟩ := bounds_u64 w0
  obtain ⟨y0, y1⟩ := bounds_i64 w1
  obtain ⟨z0, z1⟩ := bounds_i64 w2
  clear w0 w1 w2
  have n1 := nrm_bd a1 4 (by decide)
  have n2 := nrm_bd a2 4 (by decide)
  have H1 := nrm_or a1 4
  have H2 := nrm_or a2 4
  have S1 := nrm4_size a1
  have S2 := nrm4_size a2
  generalize nrm a1 4 = s at *
  generalize nrm a2 4 = t at *
  have SM : sizeB (max s t) = true := sizeB_mk (by omega)
  have Sm : sizeB (min s t) = true := sizeB_mk (by omega)
  have E1 := Lib.hid (base_off a0 s S1)
  have E2 := Lib.hid (base_base a0 (min s t) (max s t) Sm SM (by omega))
  have E3 := in_base a0 (min s t) (max s t) Sm SM (by omega)
  have b0 := base_bd a0 s x0 x1
  have b1 := base_bd a0 (min s t) x0 x1
  have o0 := off_bd a0 s
  have hsum : baseI a0 s + offI a0 s ≤ 18446744073709551615 := by rw [E1.out.1]; exact x1
  have q1 : (baseI a0 s + offI a0 s == a0) = true := beq_iff_eq.2 E1.out.1
  have q2 : offI a0 s < bytesI s := E1.out.2
  have q3 : (baseI (baseI a0 (min s t)) (max s t) == baseI a0 (max s t)) = true := beq_iff_eq.2 E2.out.1
  clear S1 S2 SM Sm E1 E2
  rcases H1 with ⟨H1, G1⟩ | ⟨H1, G1⟩ <;> rcases H2 with ⟨H2, G2⟩ | ⟨H2, G2⟩
  all_goals
    have J1 := H1.out
    have J2 := H2.out
    clear H1 H2
    go_enter Try.func8, Try.ntmps8
    go_wp2_with (first | (go_at_call 16; refine (base_any _ _ (by omega) (by omega) _).mono ?_; rintro e w' ⟨rfl, rfl⟩) | (go_at_call 18; refine (off_any _ _ x0 x1 _).mono ?_; rintro e w' ⟨rfl, n, rfl⟩) | (go_at_call 15; refine (bytes_any _ _).mono ?_; rintro e w' ⟨rfl, rfl⟩) | (go_at_call 30; refine (in_any _ _ _ (by omega) (by omega) (by omega) (by omega) _).mono ?_; rintro e w' ⟨rfl, rfl⟩) | (go_at_call 22; refine (plives_any _).mono ?_; rintro e w' ⟨rfl, hb⟩))
    go_ret
    exact ⟨rfl, (below_drewN (Below.refl _ _) _).trans hb⟩

/-! ### The row -/
set_option maxRecDepth 100000 in
theorem lifted (os : Os) (started : os.Started) (H : Type) (enc : TypeId × Value → H) :
    ReturnsInHanded {} Try.checked os 8 .any (Rows.pageJoinsSpec.pre6 enc Try.prog Try.f8 Rows.pageJoinsRow.domain false) (Rows.pageJoinsSpec.post enc Try.prog Try.f8 false true false false) := by
  refine returnsInHanded_of_change (C := Try.checked) own started (by kernel_rfl) Try.func8
    (ChangeSpec.witness6 (enc := enc) (C := Try.checked) false ⟨#[], #[.int .u64 0, .int .i64 0, .int .i64 0], []⟩ 8 (by kernel_rfl) (by kernel_rfl) (by kernel_rfl) (by kernel_rfl)) ?_
  intro W base args ds gs before hval0 hW hcnd _
  have hval : ∀ (j : Nat) t v, Try.f8.params[j]? = some t → args[j]? = some v → Value.okWide Try.prog W .any base t v := hval0
  have hW' := hW
  obtain ⟨p, q, hA0, hV, rfl, hfz, hnd⟩ := hW
  have hA : DataW.TrodAll enc Try.prog W 0 (fun _ => true) true Try.f8.params.toList args.toList ds p := hA0
  rw [Try.params8] at hA hval
  obtain ⟨v0, vs0, d0, ds0, p0, q0, hargs, rfl, rfl, h0, r0⟩ := trodAll_cons hA
  obtain ⟨v1, vs1, d1, ds1, p1, q1, rfl, rfl, rfl, h1, r1⟩ := trodAll_cons r0
  obtain ⟨v2, vs2, d2, ds2, p2, q2, rfl, rfl, rfl, h2, r2⟩ := trodAll_cons r1
  obtain ⟨rfl, rfl, rfl⟩ := trodAll_nil r2
  obtain rfl : args = #[v0, v1, v2] := by cases args; simp_all
  obtain ⟨rfl, rfl⟩ := trodVars_none hV
  obtain ⟨a0, rfl, rfl, rfl, w0⟩ := open_int Try.underlying22 (hval 0 22 v0 rfl rfl) h0
  obtain ⟨a1, rfl, rfl, rfl, w1⟩ := open_int Try.underlying3 (hval 1 3 v1 rfl rfl) h1
  obtain ⟨a2, rfl, rfl, rfl, w2⟩ := open_int Try.underlying3 (hval 2 3 v2 rfl rfl) h2
  clear hA0 hval0
  simp only [List.append_nil] at hW'
  refine (walk a0 a1 a2 w0 w1 w2 W).mono fun e W' ⟨he, hg⟩ => ?_
  subst he
  exact ⟨_, rfl, _, _, _, [], [], [], hW', trodAll_mk1 (shut_bool Try.underlying4 _), (trodAll_cons_mk (shut_int Try.underlying22 w0) (trodAll_cons_mk (shut_int Try.underlying3 w1) (trodAll_cons_mk (shut_int Try.underlying3 w2) trodAll_mk0))), rfl, hg.frame _, fun h => by cases h⟩

theorem over : Rows.pageJoinsRow.holds Try.pinned (OpenSpec.ofChange Rows.pageJoinsSpec) :=
  OpenClaim.holds_of_wide 8 Try.f8 rfl rfl rfl rfl rfl rfl rfl ⟨rfl, rfl, rfl, rfl, rfl⟩ rfl rfl rfl rfl rfl (by kernel_rfl) Try.func8 (by kernel_rfl)
    (of_decide_eq_true (by kernel_rfl)) (by unfold Func.isWrapper; first | (rw [if_pos (by decide +kernel)]; kernel_rfl) | (rw [if_neg (by decide +kernel)]; exact ⟨rfl, rfl⟩))
    (fun os started H enc _ => lifted os started H enc)

theorem proved : Rows.PageJoinsSaid :=
  over
#print axioms proved
end Go.Proofs.Ytahfpgcljlgnoaa.pageJoins
