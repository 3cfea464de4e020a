/-
  PointSlots: for every address, size and number (made such), beginning and number the law returns true, and its arguments read as before. Conditions: none.
-/
import Derived.Test.YtjnmipcjmeifoaaRows
import Derived.WalkKit
import Derived.ProofKit
import Derived.OpenShut
import Derived.Test.YtjnmipcjmeifoaaQLaw
import Derived.ShutString
namespace Go.Proofs.Ytjnmipcjmeifoaa.pointSlots
open Fld
open Go.ChangeShapes Go.WideShapes Go.ChangeAt Go.RowKit
open Go.ChangeMaps (open_string shut_string)
set_option linter.unusedVariables false

theorem own : ownKnob Try.prog.godebug = none := by kernel_rfl

open Pt
theorem last_eq (b n : Int) (b0 : 0 ≤ b) (b1 : b ≤ 18446744073709551615) (n0 : 1 ≤ n) (n1 : n ≤ 4096) : IntKind.u64.wrap (b + 16 * (n - 1)) = lastI b n := by
  unfold lastI
  split
  · unfold IntKind.wrap; simp [IntKind.signed, IntKind.bits]; omega
  · exact wrap_over _ (by omega) (by omega)
/-! ### The walk -/
set_option maxHeartbeats 1000000 in
set_option maxRecDepth 100000 in
theorem walk (a0 : Int) (a1 : Int) (a2 : Int) (a3 : Int) (a4 : Int) (w0 : (Lit.int .u64 a0).wf = true) (w1 : (Lit.int .i64 a1).wf = true) (w2 : (Lit.int .i64 a2).wf = true) (w3 : (Lit.int .u64 a3).wf = true) (w4 : (Lit.int .i64 a4).wf = true) (w : World) :
    Calls Try.prog 5 #[.int .u64 a0, .int .i64 a1, .int .i64 a2, .int .u64 a3, .int .i64 a4] w fun e w' => e = .returned (.bool true) ∧ Below w.heap.size w w' := by
  obtain ⟨x0, x1⟩ := bounds_u64 w0
  obtain ⟨s0, s1⟩ := bounds_i64 w1
  obtain ⟨n0, n1⟩ := bounds_i64 w2
  obtain ⟨b0, b1⟩ := bounds_u64 w3
  obtain ⟨i0, i1⟩ := bounds_i64 w4
  clear w0 w1 w2 w3 w4
  have CM := Lib.hid (fun w => small_any a2 n0 n1 w)
  have CA := Lib.hid (fun w => raround_any a1 4 s0 s1 (by decide) (by decide) w)
  have hs := ar_bd a1 4 (by decide)
  have hm := small_bd a2
  generalize smallI a2 = n at *
  generalize arI a1 4 = s at *
  have hsz : sizeB s = true := sizeB_mk (by omega)
  have C1 := Lib.hid (fun w => index_any a0 s n x0 x1 hsz hm.1 hm.2 w)
  have C2 := Lib.hid (fun w => rindex_any a0 s n x0 x1 hsz hm.1 hm.2 w)
  have C3 := Lib.hid (fun w => slot_any a3 n a0 s b0 b1 x0 x1 hsz hm.1 hm.2 w)
  have C4 := Lib.hid (fun w => rslot_any a3 n a0 s b0 b1 x0 x1 hsz hm.1 hm.2 w)
  have C5 := Lib.hid (fun w => last_any a3 n b0 b1 hm.1 hm.2 w)
  have C6 := Lib.hid (fun w => around_any a4 n i0 i1 hm.1 hm.2 w)
  have C7 := Lib.hid (fun w => raround_any a4 n i0 i1 hm.1 hm.2 w)
  have hi := idx_bd a0 s n (by omega)
  have ha := ar_bd a4 n (by omega)
  have HL := last_eq a3 n b0 b1 hm.1 hm.2
  clear hsz
  generalize idxI a0 s n = k at *
  generalize slotI a3 k = q at *
  generalize lastI a3 n = l at *
  generalize arI a4 n = r at *
  go_enter Try.func5, Try.ntmps5
  go_wp2_with (first | (go_at_call 17; refine (CM.out _).mono ?_; rintro e w' ⟨rfl, m1, rfl⟩) | (go_at_call 18; first | (with_reducible refine (CA.out _).mono ?_; rintro e w' ⟨rfl, m2, rfl⟩) | (with_reducible refine (C7.out _).mono ?_; rintro e w' ⟨rfl, m9, rfl⟩)) | (go_at_call 19; refine (C1.out _).mono ?_; rintro e w' ⟨rfl, m3, rfl⟩) | (go_at_call 20; refine (C2.out _).mono ?_; rintro e w' ⟨rfl, m4, rfl⟩) | (go_at_call 21; refine (C3.out _).mono ?_; rintro e w' ⟨rfl, m5, rfl⟩) | (go_at_call 22; refine (C4.out _).mono ?_; rintro e w' ⟨rfl, m6, rfl⟩) | (go_at_call 23; refine (C5.out _).mono ?_; rintro e w' ⟨rfl, m7, rfl⟩) | (go_at_call 24; refine (C6.out _).mono ?_; rintro e w' ⟨rfl, m8, rfl⟩) | (go_at_call 14; refine (qlives_any _).mono ?_; rintro e w' ⟨rfl, h3⟩))
  go_ret
  exact ⟨rfl, (below_drewN (Below.refl _ _) _).trans h3⟩

/-! ### The row -/
set_option maxRecDepth 100000 in
theorem lifted (os : Os) (started : os.Started) (H : Type) (enc : TypeId × Value → H) :
    ReturnsInHanded {} Try.checked os 5 .any (Rows.pointSlotsSpec.pre6 enc Try.prog Try.f5 Rows.pointSlotsRow.domain false) (Rows.pointSlotsSpec.post enc Try.prog Try.f5 false true false false) := by
  refine returnsInHanded_of_change (C := Try.checked) own started (by kernel_rfl) Try.func5
    (ChangeSpec.witness6 (enc := enc) (C := Try.checked) false ⟨#[], #[.int .u64 0, .int .i64 0, .int .i64 0, .int .u64 0, .int .i64 0], []⟩ 8 (by kernel_rfl) (by kernel_rfl) (by kernel_rfl) (by kernel_rfl)) ?_
  intro W base args ds gs before hval0 hW hcnd _
  have hval : ∀ (j : Nat) t v, Try.f5.params[j]? = some t → args[j]? = some v → Value.okWide Try.prog W .any base t v := hval0
  have hW' := hW
  obtain ⟨p, q, hA0, hV, rfl, hfz, hnd⟩ := hW
  have hA : DataW.TrodAll enc Try.prog W 0 (fun _ => true) true Try.f5.params.toList args.toList ds p := hA0
  rw [Try.params5] at hA hval
  obtain ⟨v0, vs0, d0, ds0, p0, q0, hargs, rfl, rfl, h0, r0⟩ := trodAll_cons hA
  obtain ⟨v1, vs1, d1, ds1, p1, q1, rfl, rfl, rfl, h1, r1⟩ := trodAll_cons r0
  obtain ⟨v2, vs2, d2, ds2, p2, q2, rfl, rfl, rfl, h2, r2⟩ := trodAll_cons r1
  obtain ⟨v3, vs3, d3, ds3, p3, q3, rfl, rfl, rfl, h3, r3⟩ := trodAll_cons r2
  obtain ⟨v4, vs4, d4, ds4, p4, q4, rfl, rfl, rfl, h4, r4⟩ := trodAll_cons r3
  obtain ⟨rfl, rfl, rfl⟩ := trodAll_nil r4
  obtain rfl : args = #[v0, v1, v2, v3, v4] := by cases args; simp_all
  obtain ⟨rfl, rfl⟩ := trodVars_none hV
  obtain ⟨a0, rfl, rfl, rfl, w0⟩ := open_int Try.underlying22 (hval 0 22 v0 rfl rfl) h0
  obtain ⟨a1, rfl, rfl, rfl, w1⟩ := open_int Try.underlying3 (hval 1 3 v1 rfl rfl) h1
  obtain ⟨a2, rfl, rfl, rfl, w2⟩ := open_int Try.underlying3 (hval 2 3 v2 rfl rfl) h2
  obtain ⟨a3, rfl, rfl, rfl, w3⟩ := open_int Try.underlying22 (hval 3 22 v3 rfl rfl) h3
  obtain ⟨a4, rfl, rfl, rfl, w4⟩ := open_int Try.underlying3 (hval 4 3 v4 rfl rfl) h4
  clear hA0 hval0
  simp only [List.append_nil] at hW'
  refine (walk a0 a1 a2 a3 a4 w0 w1 w2 w3 w4 W).mono fun e W' ⟨he, hg⟩ => ?_
  subst he
  exact ⟨_, rfl, _, _, _, [], [], [], hW', trodAll_mk1 (shut_bool Try.underlying4 _), (trodAll_cons_mk (shut_int Try.underlying22 w0) (trodAll_cons_mk (shut_int Try.underlying3 w1) (trodAll_cons_mk (shut_int Try.underlying3 w2) (trodAll_cons_mk (shut_int Try.underlying22 w3) (trodAll_cons_mk (shut_int Try.underlying3 w4) trodAll_mk0))))), rfl, hg.frame _, fun h => by cases h⟩

theorem over : Rows.pointSlotsRow.holds Try.pinned (OpenSpec.ofChange Rows.pointSlotsSpec) :=
  OpenClaim.holds_of_wide 5 Try.f5 rfl rfl rfl rfl rfl rfl rfl ⟨rfl, rfl, rfl, rfl, rfl⟩ rfl rfl rfl rfl rfl (by kernel_rfl) Try.func5 (by kernel_rfl)
    (of_decide_eq_true (by kernel_rfl)) (by unfold Func.isWrapper; first | (rw [if_pos (by decide +kernel)]; kernel_rfl) | (rw [if_neg (by decide +kernel)]; exact ⟨rfl, rfl⟩))
    (fun os started H enc _ => lifted os started H enc)

theorem proved : Rows.PointSlotsSaid :=
  over
#print axioms proved
end Go.Proofs.Ytjnmipcjmeifoaa.pointSlots
