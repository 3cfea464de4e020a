/-
  PageMeets: for every two addresses and sizes the law returns true, and its arguments read as before. Conditions: none.
-/
import Derived.Test.YtahfpgcljlgnoaaRows
import Derived.WalkKit
import Derived.ProofKit
import Derived.OpenShut
import Derived.Test.YtahfpgcljlgnoaaPList
import Derived.Test.YtahfpgcljlgnoaaPMathB
import Derived.ShutString
namespace Go.Proofs.Ytahfpgcljlgnoaa.pageMeets
open Fld
open Go.ChangeShapes Go.WideShapes Go.ChangeAt Go.RowKit
open Go.ChangeMaps (open_string shut_string)
set_option linter.unusedVariables false

theorem own : ownKnob Try.prog.godebug = none := by kernel_rfl

/-! ### The walk -/
set_option maxHeartbeats 1000000 in
set_option maxRecDepth 100000 in
theorem walk (a0 : Int) (a1 : Int) (a2 : Int) (a3 : Int) (w0 : (Lit.int .u64 a0).wf = true) (w1 : (Lit.int .i64 a1).wf = true) (w2 : (Lit.int .u64 a2).wf = true) (w3 : (Lit.int .i64 a3).wf = true) (w : World) :
    Calls Try.prog 5 #[.int .u64 a0, .int .i64 a1, .int .u64 a2, .int .i64 a3] w fun e w' => e = .returned (.bool true) ∧ Below w.heap.size w w' := by
  obtain ⟨x0, x1⟩ := bounds_u64 w0
  obtain ⟨y0, y1⟩ := bounds_u64 w2
  clear w0 w1 w2 w3
  have HC := Lib.hid (meet_comm a0 a1 a2 a3)
  have HI := Lib.hid (in_walk a0 a2 a3)
  have b1 := base_bd a0 a3 x0 x1
  have b2 := base_bd a2 a3 y0 y1
  cases hm : meetB a0 a1 a2 a3
  · have hm2 : meetB a2 a3 a0 a1 = false := by rw [HC.out]; exact hm
    cases hs : sizeB a3
    · have hin : inB a0 a2 a3 = false := by rw [HI.out, hs]; rfl
      go_enter Try.func5, Try.ntmps5
      go_wp2_with (first | (go_at_call 28; refine (meet_any _ _ _ _ (by omega) (by omega) (by omega) (by omega) _).mono ?_; rintro e w' ⟨rfl, rfl⟩) | (go_at_call 29; refine (rmeet_any _ _ _ _ (by omega) (by omega) (by omega) (by omega) _).mono ?_; rintro e w' ⟨rfl, n, rfl⟩) | (go_at_call 13; refine (rpmay_any _ _).mono ?_; rintro e w' ⟨rfl, rfl⟩) | (go_at_call 17; refine (rbase_any _ _ (by omega) (by omega) _).mono ?_; rintro e w' ⟨rfl, n, rfl⟩) | (go_at_call 30; refine (in_any _ _ _ (by omega) (by omega) (by omega) (by omega) _).mono ?_; rintro e w' ⟨rfl, rfl⟩) | (go_at_call 22; refine (plives_any _).mono ?_; rintro e w' ⟨rfl, hb⟩))
      go_ret
      exact ⟨rfl, (below_drewN (Below.refl _ _) _).trans hb⟩
    · have hin : inB a0 a2 a3 = (baseI a0 a3 == baseI a2 a3) := by rw [HI.out, hs]; rfl
      go_enter Try.func5, Try.ntmps5
      go_wp2_with (first | (go_at_call 28; refine (meet_any _ _ _ _ (by omega) (by omega) (by omega) (by omega) _).mono ?_; rintro e w' ⟨rfl, rfl⟩) | (go_at_call 29; refine (rmeet_any _ _ _ _ (by omega) (by omega) (by omega) (by omega) _).mono ?_; rintro e w' ⟨rfl, n, rfl⟩) | (go_at_call 13; refine (rpmay_any _ _).mono ?_; rintro e w' ⟨rfl, rfl⟩) | (go_at_call 17; refine (rbase_any _ _ (by omega) (by omega) _).mono ?_; rintro e w' ⟨rfl, n, rfl⟩) | (go_at_call 30; refine (in_any _ _ _ (by omega) (by omega) (by omega) (by omega) _).mono ?_; rintro e w' ⟨rfl, rfl⟩) | (go_at_call 22; refine (plives_any _).mono ?_; rintro e w' ⟨rfl, hb⟩))
      go_ret
      exact ⟨rfl, (below_drewN (Below.refl _ _) _).trans hb⟩
  · have hm2 : meetB a2 a3 a0 a1 = true := by rw [HC.out]; exact hm
    have hS : sizeB a1 = true ∧ sizeB a3 = true := by
      unfold meetB at hm; simp only [Bool.and_eq_true] at hm; exact hm.1
    have S1 := sizeB_true hS.1
    have S3 := sizeB_true hS.2
    have hs := hS.2
    have SM : sizeB (max a1 a3) = true := sizeB_mk (by omega)
    have Sm : sizeB (min a1 a3) = true := sizeB_mk (by omega)
    have hin : inB a0 a2 a3 = (baseI a0 a3 == baseI a2 a3) := by rw [HI.out, hs]; rfl
    have by1 := bytes_bd (min a1 a3)
    have by2 := bytes_pos Sm
    clear hS HI HC
    by_cases hgt : a3 < a1
    · obtain ⟨G1, G2⟩ := base_base a2 (min a1 a3) (max a1 a3) Sm SM (by omega)
      have F1 := Lib.hid G1
      have F2 := Lib.hid G2
      clear G1 G2
      have c1 := base_bd a2 (min a1 a3) y0 y1
      have c2 := base_top a2 (min a1 a3) y0 y1
      clear SM Sm S1 S3
      by_cases hsum : baseI a2 (min a1 a3) + bytesI (min a1 a3) ≤ 18446744073709551615
      · have q : (baseI (baseI a2 (min a1 a3)) (max a1 a3) == baseI (baseI a2 (min a1 a3) + bytesI (min a1 a3) - 1) (max a1 a3)) = true := beq_iff_eq.2 (by rw [F1.out, F2.out])
        go_enter Try.func5, Try.ntmps5
        go_wp2_with (first | (go_at_call 28; refine (meet_any _ _ _ _ (by omega) (by omega) (by omega) (by omega) _).mono ?_; rintro e w' ⟨rfl, rfl⟩) | (go_at_call 29; refine (rmeet_any _ _ _ _ (by omega) (by omega) (by omega) (by omega) _).mono ?_; rintro e w' ⟨rfl, n, rfl⟩) | (go_at_call 13; refine (rpmay_any _ _).mono ?_; rintro e w' ⟨rfl, rfl⟩) | (go_at_call 17; refine (rbase_any _ _ (by omega) (by omega) _).mono ?_; rintro e w' ⟨rfl, n, rfl⟩) | (go_at_call 11; refine (rbytes_any _ _).mono ?_; rintro e w' ⟨rfl, rfl⟩) | (go_at_call 30; refine (in_any _ _ _ (by omega) (by omega) (by omega) (by omega) _).mono ?_; rintro e w' ⟨rfl, rfl⟩) | (go_at_call 22; refine (plives_any _).mono ?_; rintro e w' ⟨rfl, hb⟩))
        go_ret
        exact ⟨rfl, (below_drewN (Below.refl _ _) _).trans hb⟩
      · have hw : IntKind.u64.wrap (baseI a2 (min a1 a3) + bytesI (min a1 a3)) = 0 := by
          rw [show baseI a2 (min a1 a3) + bytesI (min a1 a3) = 18446744073709551616 by omega]; decide
        have q : (baseI (baseI a2 (min a1 a3)) (max a1 a3) == baseI 18446744073709551615 (max a1 a3)) = true := beq_iff_eq.2 (by
          have F3 := F2.out
          rw [show baseI a2 (min a1 a3) + bytesI (min a1 a3) - 1 = 18446744073709551615 by omega] at F3
          rw [F1.out, F3])
        have hw2 : IntKind.u64.wrap (-1) = 18446744073709551615 := by decide
        have hw3 : IntKind.u64.wrap (0 - 1) = 18446744073709551615 := by decide
        clear hsum c2
        go_enter Try.func5, Try.ntmps5
        go_wp2_with (first | (go_at_call 28; refine (meet_any _ _ _ _ (by omega) (by omega) (by omega) (by omega) _).mono ?_; rintro e w' ⟨rfl, rfl⟩) | (go_at_call 29; refine (rmeet_any _ _ _ _ (by omega) (by omega) (by omega) (by omega) _).mono ?_; rintro e w' ⟨rfl, n, rfl⟩) | (go_at_call 13; refine (rpmay_any _ _).mono ?_; rintro e w' ⟨rfl, rfl⟩) | (go_at_call 17; refine (rbase_any _ _ (by omega) (by omega) _).mono ?_; rintro e w' ⟨rfl, n, rfl⟩) | (go_at_call 11; refine (rbytes_any _ _).mono ?_; rintro e w' ⟨rfl, rfl⟩) | (go_at_call 30; refine (in_any _ _ _ (by omega) (by omega) (by omega) (by omega) _).mono ?_; rintro e w' ⟨rfl, rfl⟩) | (go_at_call 22; refine (plives_any _).mono ?_; rintro e w' ⟨rfl, hb⟩))
        go_ret
        exact ⟨rfl, (below_drewN (Below.refl _ _) _).trans hb⟩
    · obtain ⟨G1, G2⟩ := base_base a0 (min a1 a3) (max a1 a3) Sm SM (by omega)
      have F1 := Lib.hid G1
      have F2 := Lib.hid G2
      clear G1 G2
      have c1 := base_bd a0 (min a1 a3) x0 x1
      have c2 := base_top a0 (min a1 a3) x0 x1
      clear SM Sm S1 S3
      by_cases hsum : baseI a0 (min a1 a3) + bytesI (min a1 a3) ≤ 18446744073709551615
      · have q : (baseI (baseI a0 (min a1 a3)) (max a1 a3) == baseI (baseI a0 (min a1 a3) + bytesI (min a1 a3) - 1) (max a1 a3)) = true := beq_iff_eq.2 (by rw [F1.out, F2.out])
        go_enter Try.func5, Try.ntmps5
        go_wp2_with (first | (go_at_call 28; refine (meet_any _ _ _ _ (by omega) (by omega) (by omega) (by omega) _).mono ?_; rintro e w' ⟨rfl, rfl⟩) | (go_at_call 29; refine (rmeet_any _ _ _ _ (by omega) (by omega) (by omega) (by omega) _).mono ?_; rintro e w' ⟨rfl, n, rfl⟩) | (go_at_call 13; refine (rpmay_any _ _).mono ?_; rintro e w' ⟨rfl, rfl⟩) | (go_at_call 17; refine (rbase_any _ _ (by omega) (by omega) _).mono ?_; rintro e w' ⟨rfl, n, rfl⟩) | (go_at_call 11; refine (rbytes_any _ _).mono ?_; rintro e w' ⟨rfl, rfl⟩) | (go_at_call 30; refine (in_any _ _ _ (by omega) (by omega) (by omega) (by omega) _).mono ?_; rintro e w' ⟨rfl, rfl⟩) | (go_at_call 22; refine (plives_any _).mono ?_; rintro e w' ⟨rfl, hb⟩))
        go_ret
        exact ⟨rfl, (below_drewN (Below.refl _ _) _).trans hb⟩
      · have hw : IntKind.u64.wrap (baseI a0 (min a1 a3) + bytesI (min a1 a3)) = 0 := by
          rw [show baseI a0 (min a1 a3) + bytesI (min a1 a3) = 18446744073709551616 by omega]; decide
        have q : (baseI (baseI a0 (min a1 a3)) (max a1 a3) == baseI 18446744073709551615 (max a1 a3)) = true := beq_iff_eq.2 (by
          have F3 := F2.out
          rw [show baseI a0 (min a1 a3) + bytesI (min a1 a3) - 1 = 18446744073709551615 by omega] at F3
          rw [F1.out, F3])
        have hw2 : IntKind.u64.wrap (-1) = 18446744073709551615 := by decide
        have hw3 : IntKind.u64.wrap (0 - 1) = 18446744073709551615 := by decide
        clear hsum c2
        go_enter Try.func5, Try.ntmps5
        go_wp2_with (first | (go_at_call 28; refine (meet_any _ _ _ _ (by omega) (by omega) (by omega) (by omega) _).mono ?_; rintro e w' ⟨rfl, rfl⟩) | (go_at_call 29; refine (rmeet_any _ _ _ _ (by omega) (by omega) (by omega) (by omega) _).mono ?_; rintro e w' ⟨rfl, n, rfl⟩) | (go_at_call 13; refine (rpmay_any _ _).mono ?_; rintro e w' ⟨rfl, rfl⟩) | (go_at_call 17; refine (rbase_any _ _ (by omega) (by omega) _).mono ?_; rintro e w' ⟨rfl, n, rfl⟩) | (go_at_call 11; refine (rbytes_any _ _).mono ?_; rintro e w' ⟨rfl, rfl⟩) | (go_at_call 30; refine (in_any _ _ _ (by omega) (by omega) (by omega) (by omega) _).mono ?_; rintro e w' ⟨rfl, rfl⟩) | (go_at_call 22; refine (plives_any _).mono ?_; rintro e w' ⟨rfl, hb⟩))
        go_ret
        exact ⟨rfl, (below_drewN (Below.refl _ _) _).trans hb⟩

/-! ### The row -/
set_option maxRecDepth 100000 in
theorem lifted (os : Os) (started : os.Started) (H : Type) (enc : TypeId × Value → H) :
    ReturnsInHanded {} Try.checked os 5 .any (Rows.pageMeetsSpec.pre6 enc Try.prog Try.f5 Rows.pageMeetsRow.domain false) (Rows.pageMeetsSpec.post enc Try.prog Try.f5 false true false false) := by
  refine returnsInHanded_of_change (C := Try.checked) own started (by kernel_rfl) Try.func5
    (ChangeSpec.witness6 (enc := enc) (C := Try.checked) false ⟨#[], #[.int .u64 0, .int .i64 0, .int .u64 0, .int .i64 0], []⟩ 8 (by kernel_rfl) (by kernel_rfl) (by kernel_rfl) (by kernel_rfl)) ?_
  intro W base args ds gs before hval0 hW hcnd _
  have hval : ∀ (j : Nat) t v, Try.f5.params[j]? = some t → args[j]? = some v → Value.okWide Try.prog W .any base t v := hval0
  have hW' := hW
  obtain ⟨p, q, hA0, hV, rfl, hfz, hnd⟩ := hW
  have hA : DataW.TrodAll enc Try.prog W 0 (fun _ => true) true Try.f5.params.toList args.toList ds p := hA0
  rw [Try.params5] at hA hval
  obtain ⟨v0, vs0, d0, ds0, p0, q0, hargs, rfl, rfl, h0, r0⟩ := trodAll_cons hA
  obtain ⟨v1, vs1, d1, ds1, p1, q1, rfl, rfl, rfl, h1, r1⟩ := trodAll_cons r0
  obtain ⟨v2, vs2, d2, ds2, p2, q2, rfl, rfl, rfl, h2, r2⟩ := trodAll_cons r1
  obtain ⟨v3, vs3, d3, ds3, p3, q3, rfl, rfl, rfl, h3, r3⟩ := trodAll_cons r2
  obtain ⟨rfl, rfl, rfl⟩ := trodAll_nil r3
  obtain rfl : args = #[v0, v1, v2, v3] := by cases args; simp_all
  obtain ⟨rfl, rfl⟩ := trodVars_none hV
  obtain ⟨a0, rfl, rfl, rfl, w0⟩ := open_int Try.underlying22 (hval 0 22 v0 rfl rfl) h0
  obtain ⟨a1, rfl, rfl, rfl, w1⟩ := open_int Try.underlying3 (hval 1 3 v1 rfl rfl) h1
  obtain ⟨a2, rfl, rfl, rfl, w2⟩ := open_int Try.underlying22 (hval 2 22 v2 rfl rfl) h2
  obtain ⟨a3, rfl, rfl, rfl, w3⟩ := open_int Try.underlying3 (hval 3 3 v3 rfl rfl) h3
  clear hA0 hval0
  simp only [List.append_nil] at hW'
  refine (walk a0 a1 a2 a3 w0 w1 w2 w3 W).mono fun e W' ⟨he, hg⟩ => ?_
  subst he
  exact ⟨_, rfl, _, _, _, [], [], [], hW', trodAll_mk1 (shut_bool Try.underlying4 _), (trodAll_cons_mk (shut_int Try.underlying22 w0) (trodAll_cons_mk (shut_int Try.underlying3 w1) (trodAll_cons_mk (shut_int Try.underlying22 w2) (trodAll_cons_mk (shut_int Try.underlying3 w3) trodAll_mk0)))), rfl, hg.frame _, fun h => by cases h⟩

theorem over : Rows.pageMeetsRow.holds Try.pinned (OpenSpec.ofChange Rows.pageMeetsSpec) :=
  OpenClaim.holds_of_wide 5 Try.f5 rfl rfl rfl rfl rfl rfl rfl ⟨rfl, rfl, rfl, rfl, rfl⟩ rfl rfl rfl rfl rfl (by kernel_rfl) Try.func5 (by kernel_rfl)
    (of_decide_eq_true (by kernel_rfl)) (by unfold Func.isWrapper; first | (rw [if_pos (by decide +kernel)]; kernel_rfl) | (rw [if_neg (by decide +kernel)]; exact ⟨rfl, rfl⟩))
    (fun os started H enc _ => lifted os started H enc)

theorem proved : Rows.PageMeetsSaid :=
  over
#print axioms proved
end Go.Proofs.Ytahfpgcljlgnoaa.pageMeets
