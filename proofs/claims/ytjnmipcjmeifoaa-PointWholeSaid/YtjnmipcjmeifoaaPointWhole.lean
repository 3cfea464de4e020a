/-
  PointWhole: for every number of a register, every page's number and every number of these the law returns true, and its arguments read as before. Conditions: none.
-/
import Derived.Test.YtjnmipcjmeifoaaRows
import Derived.WalkKit
import Derived.ProofKit
import Derived.OpenShut
import Derived.Test.YtjnmipcjmeifoaaQLaw
import Derived.Laws.IdiomRangeMap
import Derived.ShutString
namespace Go.Proofs.Ytjnmipcjmeifoaa.pointWhole
open Fld
open Go.ChangeShapes Go.WideShapes Go.ChangeAt Go.RowKit
open Go.ChangeMaps (open_string shut_string)
set_option linter.unusedVariables false

theorem own : ownKnob Try.prog.godebug = none := by kernel_rfl

open Pt
theorem whole_ptr (n f : Int) (n0 : 0 ≤ n) (n1 : n < 8) (f0 : 0 ≤ f) (f1 : f * 8192 ≤ 18446744073709551615) (w : World) :
    Calls Try.prog 8 #[.int .u64 n, .int .u64 (f * 8192), .int .i64 0] w fun e w' => e = .returned (.tuple #[.int .u64 (16 * (f % entI n)), .bool true]) ∧ Below w.heap.size w w' := by
  have := pointer_any n (f * 8192) 0 n0 (by omega) (by omega) f1 w
  rw [ptr_whole n f n0 n1, show isB 0 = true by kernel_rfl] at this
  exact this
/-! ### The walk -/
set_option maxHeartbeats 1000000 in
set_option maxRecDepth 100000 in
theorem walk (a0 : Int) (a1 : Int) (a2 : Int) (w0 : (Lit.int .u64 a0).wf = true) (w1 : (Lit.int .u64 a1).wf = true) (w2 : (Lit.int .i64 a2).wf = true) (w : World) :
    Calls Try.prog 7 #[.int .u64 a0, .int .u64 a1, .int .i64 a2] w fun e w' => e = .returned (.bool true) ∧ Below w.heap.size w w' := by
  obtain ⟨x0, x1⟩ := bounds_u64 w0
  obtain ⟨f0, f1⟩ := bounds_u64 w1
  obtain ⟨m0, m1⟩ := bounds_i64 w2
  clear w0 w1 w2
  obtain ⟨n, hn, n0, n1⟩ : ∃ n, a0 % 8 = n ∧ 0 ≤ n ∧ n < 8 := ⟨_, rfl, by omega, by omega⟩
  obtain ⟨f, hf, g0, g1⟩ : ∃ f, a1 % 1048576 = f ∧ 0 ≤ f ∧ f < 1048576 := ⟨_, rfl, by omega, by omega⟩
  have CE := Lib.hid (fun w => rentries_any n n0 (by omega) w)
  have hE : 512 ≤ entI n ∧ entI n ≤ 65536 := by rcases ent_or n with ⟨h, e⟩ | ⟨h, e⟩ | ⟨h, e⟩ | ⟨h, e⟩ | ⟨h, e⟩ | ⟨h, e⟩ | ⟨h, e⟩ | ⟨h, e⟩ <;> rw [e] <;> decide
  have CP := Lib.hid (fun j h0 h1 w => whole_ptr n (f + j) n0 n1 h0 h1 w)
  have hE0 : entI n ≠ 0 := by omega
  generalize entI n = E at *
  have H1 := nrm_or a2 301
  have hb := nrm_bd a2 301 (by decide)
  generalize nrm a2 301 = t at *
  rcases H1 with ⟨H1, G1⟩ | ⟨H1, G1⟩
  all_goals
    have J1 := H1.out
    clear H1
    go_enter Try.func7, Try.ntmps7
    go_wp2_with (go_at_call 11; refine (CE.out _).mono ?_; rintro e w' ⟨rfl, rfl⟩)
    rw [hf]
    clear J1 G1 hf
    go_loopw [9] (fun i wr => ∃ j : Nat, (j : Int) ≤ t ∧ i = .int .i64 (j : Int) ∧ Below w.heap.size w wr) (fun i _ => (t - intOf i).toNat)
    case atStart => exact ⟨0, by omega, rfl, Below.refl _ _⟩
    case round =>
      obtain ⟨j, hj, rfl, hB⟩ := hrel
      by_cases hlt : (j : Int) < t
      · have hm0 : 0 ≤ (f + (j : Int)) % E := Int.emod_nonneg _ hE0
        have hm1 : (f + (j : Int)) % E < E := Int.emod_lt_of_pos _ (by omega)
        go_wp2_with (go_at_call 8; refine (CP.out (j : Int) (by omega) (by omega) _).mono ?_; rintro e w' ⟨rfl, h1⟩)
        go_roundw
        case rel => exact ⟨j + 1, by omega, by go_num, hB.trans (h1.mono hB.size)⟩
        case measure => simp [intOf]; omega
      · go_wp2_with (go_at_call 14; refine (qlives_any _).mono ?_; rintro e w' ⟨rfl, h3⟩)
        go_ret
        exact ⟨rfl, hB.trans (h3.mono hB.size)⟩

/-! ### The row -/
set_option maxRecDepth 100000 in
theorem lifted (os : Os) (started : os.Started) (H : Type) (enc : TypeId × Value → H) :
    ReturnsInHanded {} Try.checked os 7 .any (Rows.pointWholeSpec.pre6 enc Try.prog Try.f7 Rows.pointWholeRow.domain false) (Rows.pointWholeSpec.post enc Try.prog Try.f7 false true false false) := by
  refine returnsInHanded_of_change (C := Try.checked) own started (by kernel_rfl) Try.func7
    (ChangeSpec.witness6 (enc := enc) (C := Try.checked) false ⟨#[], #[.int .u64 0, .int .u64 0, .int .i64 0], []⟩ 8 (by kernel_rfl) (by kernel_rfl) (by kernel_rfl) (by kernel_rfl)) ?_
  intro W base args ds gs before hval0 hW hcnd _
  have hval : ∀ (j : Nat) t v, Try.f7.params[j]? = some t → args[j]? = some v → Value.okWide Try.prog W .any base t v := hval0
  have hW' := hW
  obtain ⟨p, q, hA0, hV, rfl, hfz, hnd⟩ := hW
  have hA : DataW.TrodAll enc Try.prog W 0 (fun _ => true) true Try.f7.params.toList args.toList ds p := hA0
  rw [Try.params7] at hA hval
  obtain ⟨v0, vs0, d0, ds0, p0, q0, hargs, rfl, rfl, h0, r0⟩ := trodAll_cons hA
  obtain ⟨v1, vs1, d1, ds1, p1, q1, rfl, rfl, rfl, h1, r1⟩ := trodAll_cons r0
  obtain ⟨v2, vs2, d2, ds2, p2, q2, rfl, rfl, rfl, h2, r2⟩ := trodAll_cons r1
  obtain ⟨rfl, rfl, rfl⟩ := trodAll_nil r2
  obtain rfl : args = #[v0, v1, v2] := by cases args; simp_all
  obtain ⟨rfl, rfl⟩ := trodVars_none hV
  obtain ⟨a0, rfl, rfl, rfl, w0⟩ := open_int Try.underlying22 (hval 0 22 v0 rfl rfl) h0
  obtain ⟨a1, rfl, rfl, rfl, w1⟩ := open_int Try.underlying22 (hval 1 22 v1 rfl rfl) h1
  obtain ⟨a2, rfl, rfl, rfl, w2⟩ := open_int Try.underlying3 (hval 2 3 v2 rfl rfl) h2
  clear hA0 hval0
  simp only [List.append_nil] at hW'
  refine (walk a0 a1 a2 w0 w1 w2 W).mono fun e W' ⟨he, hg⟩ => ?_
  subst he
  exact ⟨_, rfl, _, _, _, [], [], [], hW', trodAll_mk1 (shut_bool Try.underlying4 _), (trodAll_cons_mk (shut_int Try.underlying22 w0) (trodAll_cons_mk (shut_int Try.underlying22 w1) (trodAll_cons_mk (shut_int Try.underlying3 w2) trodAll_mk0))), rfl, hg.frame _, fun h => by cases h⟩

theorem over : Rows.pointWholeRow.holds Try.pinned (OpenSpec.ofChange Rows.pointWholeSpec) :=
  OpenClaim.holds_of_wide 7 Try.f7 rfl rfl rfl rfl rfl rfl rfl ⟨rfl, rfl, rfl, rfl, rfl⟩ rfl rfl rfl rfl rfl (by kernel_rfl) Try.func7 (by kernel_rfl)
    (of_decide_eq_true (by kernel_rfl)) (by unfold Func.isWrapper; first | (rw [if_pos (by decide +kernel)]; kernel_rfl) | (rw [if_neg (by decide +kernel)]; exact ⟨rfl, rfl⟩))
    (fun os started H enc _ => lifted os started H enc)

theorem proved : Rows.PointWholeSaid :=
  over
#print axioms proved
end Go.Proofs.Ytjnmipcjmeifoaa.pointWhole
