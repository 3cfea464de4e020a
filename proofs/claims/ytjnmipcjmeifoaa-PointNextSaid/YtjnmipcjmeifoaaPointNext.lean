/-
  PointNext: for every address (made one below 2 to the 40), size and number (made such) the law returns true, and its arguments read as before. Conditions: none.
-/
import Derived.Test.YtjnmipcjmeifoaaRows
import Derived.WalkKit
import Derived.ProofKit
import Derived.OpenShut
import Derived.Test.YtjnmipcjmeifoaaQLaw
import Derived.ShutString
namespace Go.Proofs.Ytjnmipcjmeifoaa.pointNext
open Fld
open Go.ChangeShapes Go.WideShapes Go.ChangeAt Go.RowKit
open Go.ChangeMaps (open_string shut_string)
set_option linter.unusedVariables false

theorem own : ownKnob Try.prog.godebug = none := by kernel_rfl

open Pt
/-! ### The walk -/
set_option maxHeartbeats 1000000 in
set_option maxRecDepth 100000 in
theorem walk (a0 : Int) (a1 : Int) (a2 : Int) (w0 : (Lit.int .u64 a0).wf = true) (w1 : (Lit.int .i64 a1).wf = true) (w2 : (Lit.int .i64 a2).wf = true) (w : World) :
    Calls Try.prog 6 #[.int .u64 a0, .int .i64 a1, .int .i64 a2] w fun e w' => e = .returned (.bool true) ∧ Below w.heap.size w w' := by
  obtain ⟨x0, x1⟩ := bounds_u64 w0
  obtain ⟨s0, s1⟩ := bounds_i64 w1
  obtain ⟨n0, n1⟩ := bounds_i64 w2
  clear w0 w1 w2
  have CM := Lib.hid (fun w => small_any a2 n0 n1 w)
  have CA := Lib.hid (fun w => raround_any a1 4 s0 s1 (by decide) (by decide) w)
  have hs := ar_bd a1 4 (by decide)
  have hm := small_bd a2
  generalize smallI a2 = n at *
  generalize arI a1 4 = s at *
  have hsz : sizeB s = true := sizeB_mk (by omega)
  obtain ⟨x, hx, g0, g1⟩ : ∃ x, a0 % 1099511627776 = x ∧ 0 ≤ x ∧ x < 1099511627776 := ⟨_, rfl, by omega, by omega⟩
  have hb := bytes_bd s
  have C1 := Lib.hid (fun w => index_any x s n g0 (by omega) hsz hm.1 hm.2 w)
  have hi := idx_bd x s n (by omega)
  have C2 := Lib.hid (fun w => index_any (x + bytesI s) s n (by omega) (by omega) hsz hm.1 hm.2 w)
  rw [idx_next x s n hsz] at C2
  have CB := Lib.hid (fun w => rbytes_any s w)
  generalize bytesI s = b at *
  generalize idxI x s n = k at *
  have C3 := Lib.hid (fun w => around_any (k + 1) n (by omega) (by omega) hm.1 hm.2 w)
  have ha := ar_bd (k + 1) n (by omega)
  clear hsz
  generalize arI (k + 1) n = r at *
  go_enter Try.func6, Try.ntmps6
  go_wp2_with (first | (go_at_call 17; refine (CM.out _).mono ?_; rintro e w' ⟨rfl, m1, rfl⟩) | (go_at_call 18; refine (CA.out _).mono ?_; rintro e w' ⟨rfl, m2, rfl⟩) | (go_at_call 19; first | (with_reducible refine (C1.out _).mono ?_; rintro e w' ⟨rfl, m3, rfl⟩) | (with_reducible refine (C2.out _).mono ?_; rintro e w' ⟨rfl, m4, rfl⟩)) | (go_at_call 25; refine (CB.out _).mono ?_; rintro e w' ⟨rfl, rfl⟩) | (go_at_call 24; refine (C3.out _).mono ?_; rintro e w' ⟨rfl, m8, rfl⟩) | (go_at_call 14; refine (qlives_any _).mono ?_; rintro e w' ⟨rfl, h3⟩))
  go_ret
  exact ⟨rfl, (below_drewN (Below.refl _ _) _).trans h3⟩

/-! ### The row -/
set_option maxRecDepth 100000 in
theorem lifted (os : Os) (started : os.Started) (H : Type) (enc : TypeId × Value → H) :
    ReturnsInHanded {} Try.checked os 6 .any (Rows.pointNextSpec.pre6 enc Try.prog Try.f6 Rows.pointNextRow.domain false) (Rows.pointNextSpec.post enc Try.prog Try.f6 false true false false) := by
  refine returnsInHanded_of_change (C := Try.checked) own started (by kernel_rfl) Try.func6
    (ChangeSpec.witness6 (enc := enc) (C := Try.checked) false ⟨#[], #[.int .u64 0, .int .i64 0, .int .i64 0], []⟩ 8 (by kernel_rfl) (by kernel_rfl) (by kernel_rfl) (by kernel_rfl)) ?_
  intro W base args ds gs before hval0 hW hcnd _
  have hval : ∀ (j : Nat) t v, Try.f6.params[j]? = some t → args[j]? = some v → Value.okWide Try.prog W .any base t v := hval0
  have hW' := hW
  obtain ⟨p, q, hA0, hV, rfl, hfz, hnd⟩ := hW
  have hA : DataW.TrodAll enc Try.prog W 0 (fun _ => true) true Try.f6.params.toList args.toList ds p := hA0
  rw [Try.params6] at hA hval
  obtain ⟨v0, vs0, d0, ds0, p0, q0, hargs, rfl, rfl, h0, r0⟩ := trodAll_cons hA
  obtain ⟨v1, vs1, d1, ds1, p1, q1, rfl, rfl, rfl, h1, r1⟩ := trodAll_cons r0
  obtain ⟨v2, vs2, d2, ds2, p2, q2, rfl, rfl, rfl, h2, r2⟩ := trodAll_cons r1
  obtain ⟨rfl, rfl, rfl⟩ := trodAll_nil r2
  obtain rfl : args = #[v0, v1, v2] := by cases args; simp_all
  obtain ⟨rfl, rfl⟩ := trodVars_none hV
  obtain ⟨a0, rfl, rfl, rfl, w0⟩ := open_int Try.underlying22 (hval 0 22 v0 rfl rfl) h0
  obtain ⟨a1, rfl, rfl, rfl, w1⟩ := open_int Try.underlying3 (hval 1 3 v1 rfl rfl) h1
  obtain ⟨a2, rfl, rfl, rfl, w2⟩ := open_int Try.underlying3 (hval 2 3 v2 rfl rfl) h2
  clear hA0 hval0
  simp only [List.append_nil] at hW'
  refine (walk a0 a1 a2 w0 w1 w2 W).mono fun e W' ⟨he, hg⟩ => ?_
  subst he
  exact ⟨_, rfl, _, _, _, [], [], [], hW', trodAll_mk1 (shut_bool Try.underlying4 _), (trodAll_cons_mk (shut_int Try.underlying22 w0) (trodAll_cons_mk (shut_int Try.underlying3 w1) (trodAll_cons_mk (shut_int Try.underlying3 w2) trodAll_mk0))), rfl, hg.frame _, fun h => by cases h⟩

theorem over : Rows.pointNextRow.holds Try.pinned (OpenSpec.ofChange Rows.pointNextSpec) :=
  OpenClaim.holds_of_wide 6 Try.f6 rfl rfl rfl rfl rfl rfl rfl ⟨rfl, rfl, rfl, rfl, rfl⟩ rfl rfl rfl rfl rfl (by kernel_rfl) Try.func6 (by kernel_rfl)
    (of_decide_eq_true (by kernel_rfl)) (by unfold Func.isWrapper; first | (rw [if_pos (by decide +kernel)]; kernel_rfl) | (rw [if_neg (by decide +kernel)]; exact ⟨rfl, rfl⟩))
    (fun os started H enc _ => lifted os started H enc)

theorem proved : Rows.PointNextSaid :=
  over
#print axioms proved
end Go.Proofs.Ytjnmipcjmeifoaa.pointNext
