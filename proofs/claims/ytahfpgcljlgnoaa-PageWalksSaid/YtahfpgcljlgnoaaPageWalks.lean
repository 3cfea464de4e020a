/-
  PageWalks: for every address, size and number (made such) the law returns true, and its arguments read as before. Conditions: none.
-/
import Derived.Test.YtahfpgcljlgnoaaRows
import Derived.WalkKit
import Derived.ProofKit
import Derived.OpenShut
import Derived.Test.YtahfpgcljlgnoaaPList
import Derived.Test.YtahfpgcljlgnoaaPMathB
import Derived.ShutString
namespace Go.Proofs.Ytahfpgcljlgnoaa.pageWalks
open Fld
open Go.ChangeShapes Go.WideShapes Go.ChangeAt Go.RowKit
open Go.ChangeMaps (open_string shut_string)
set_option linter.unusedVariables false

theorem own : ownKnob Try.prog.godebug = none := by kernel_rfl

theorem nrm4_size (a : Int) : sizeB (nrm a 4) = true := by
  have := nrm_bd a 4 (by decide)
  exact sizeB_mk (by omega)
theorem mul_bd (n b : Int) (h0 : 0 ≤ n) (h1 : n < 21) (g0 : 0 ≤ b) (g1 : b ≤ 4194304) : 0 ≤ n * b ∧ n * b ≤ 88080384 := by
  constructor
  · exact Int.mul_nonneg h0 g0
  · have := Int.mul_le_mul (show n ≤ 21 by omega) g1 g0 (by decide)
    omega
/-! ### The walk -/
set_option maxHeartbeats 1000000 in
set_option maxRecDepth 100000 in
theorem walk (a0 : Int) (a1 : Int) (a2 : Int) (w0 : (Lit.int .u64 a0).wf = true) (w1 : (Lit.int .i64 a1).wf = true) (w2 : (Lit.int .i64 a2).wf = true) (w : World) :
    Calls Try.prog 9 #[.int .u64 a0, .int .i64 a1, .int .i64 a2] w fun e w' => e = .returned (.bool true) ∧ Below w.heap.size w w' := by
  obtain ⟨x0, x1⟩ := bounds_u64 w0
  obtain ⟨y0, y1⟩ := bounds_i64 w1
  obtain ⟨z0, z1⟩ := bounds_i64 w2
  clear w0 w1 w2
  have n1 := nrm_bd a1 4 (by decide)
  have n2 := nrm_bd a2 21 (by decide)
  have H1 := nrm_or a1 4
  have H2 := nrm_or a2 21
  have S1 := nrm4_size a1
  generalize nrm a1 4 = s at *
  generalize nrm a2 21 = t at *
  have HX : ∃ x, a0 % 4398046511104 = x ∧ 0 ≤ x ∧ x < 4398046511104 := ⟨_, rfl, by omega, by omega⟩
  obtain ⟨x, hx, g0, g1⟩ := HX
  have hy := bytes_bd s
  have b0 := base_bd x s g0 (by omega)
  have hmul := mul_bd t (bytesI s) n2.1 n2.2 hy.1 hy.2
  have HN := Lib.hid (walk_next x s S1 g0 g1)
  have HB := Lib.hid (walk_bd x s g0 g1)
  have HW := Lib.hid (walk_at x s S1)
  clear S1
  rcases H1 with ⟨H1, G1⟩ | ⟨H1, G1⟩ <;> rcases H2 with ⟨H2, G2⟩ | ⟨H2, G2⟩
  all_goals
    have J1 := H1.out
    have J2 := H2.out
    clear H1 H2
    go_enter Try.func9, Try.ntmps9
    go_wp2_with (go_at_call 17; refine (rbase_any _ _ (by omega) (by omega) _).mono ?_; rintro e w' ⟨rfl, m, rfl⟩)
    clear J1 J2 G1 G2 y0 y1 z0 z1
    go_loopw [7, 9, 10, 11] (fun p i _ _ wr => ∃ k : Nat, (k : Int) ≤ t ∧ i = .int .i64 (k : Int) ∧ p = .int .u64 (walkI x s k) ∧ ∃ q, wr = w.drewN q) (fun _ i _ _ _ => (t - intOf i).toNat)
    case atStart => exact ⟨0, by omega, rfl, rfl, _, rfl⟩
    case round =>
      obtain ⟨k, hk, rfl, rfl, q, rfl⟩ := hrel
      have kb := HB.out k (by omega)
      by_cases hlt : (k : Int) < t
      · obtain ⟨e1, e2, e3, e4⟩ := HN.out k (by omega)
        have kb2 := HB.out (k + 1) (by omega)
        have E2 := Lib.hid e2
        clear e2
        go_wp2_with (first | (go_at_call 31; refine (next_any _ _ (by omega) (by omega) _).mono ?_; rw [E2.out]; rintro e w' ⟨rfl, n, rfl⟩) | (go_at_call 24; refine (hole_any _ (by omega) (by omega) _).mono ?_; rintro e w' ⟨rfl, n, rfl⟩) | (go_at_call 20; refine (starts_any _ _ (by omega) (by omega) _).mono ?_; rintro e w' ⟨rfl, n, rfl⟩))
        go_roundw
        case rel => exact ⟨k + 1, by omega, by go_num, rfl, _, rfl⟩
        case measure => simp [intOf]; omega
      · have hkt : (k : Int) = t := by omega
        have HA := Lib.hid (HW.out k)
        rw [hkt] at HA
        by_cases hz : t = 0
        · have hq : (t == 0) = true := beq_iff_eq.2 hz
          clear hz hkt hmul
          go_wp2_with (go_at_call 22; refine (plives_any _).mono ?_; rintro e w' ⟨rfl, hb⟩)
          go_ret
          exact ⟨rfl, (below_drewN (Below.refl _ _) _).trans hb⟩
        · have hq : (t == 0) = false := beq_eq_false_iff_ne.2 hz
          obtain ⟨j, rfl⟩ : ∃ j, k = j + 1 := ⟨k - 1, by omega⟩
          have e5 : (walkI x s (j + 1) == baseI x s + t * bytesI s) = true := beq_iff_eq.2 (by
            have h1 := HW.out j
            have e6 : walkI x s (j + 1) = baseI (walkI x s j) s + bytesI s := rfl
            rw [e6, h1, ← hkt, Int.natCast_succ, Int.add_mul]; omega)
          clear hz hkt
          go_wp2_with (first | (go_at_call 11; refine (rbytes_any _ _).mono ?_; rintro e w' ⟨rfl, rfl⟩) | (go_at_call 22; refine (plives_any _).mono ?_; rintro e w' ⟨rfl, hb⟩))
          go_ret
          exact ⟨rfl, (below_drewN (Below.refl _ _) _).trans hb⟩

/-! ### The row -/
set_option maxRecDepth 100000 in
theorem lifted (os : Os) (started : os.Started) (H : Type) (enc : TypeId × Value → H) :
    ReturnsInHanded {} Try.checked os 9 .any (Rows.pageWalksSpec.pre6 enc Try.prog Try.f9 Rows.pageWalksRow.domain false) (Rows.pageWalksSpec.post enc Try.prog Try.f9 false true false false) := by
  refine returnsInHanded_of_change (C := Try.checked) own started (by kernel_rfl) Try.func9
    (ChangeSpec.witness6 (enc := enc) (C := Try.checked) false ⟨#[], #[.int .u64 0, .int .i64 0, .int .i64 0], []⟩ 8 (by kernel_rfl) (by kernel_rfl) (by kernel_rfl) (by kernel_rfl)) ?_
  intro W base args ds gs before hval0 hW hcnd _
  have hval : ∀ (j : Nat) t v, Try.f9.params[j]? = some t → args[j]? = some v → Value.okWide Try.prog W .any base t v := hval0
  have hW' := hW
  obtain ⟨p, q, hA0, hV, rfl, hfz, hnd⟩ := hW
  have hA : DataW.TrodAll enc Try.prog W 0 (fun _ => true) true Try.f9.params.toList args.toList ds p := hA0
  rw [Try.params9] at hA hval
  obtain ⟨v0, vs0, d0, ds0, p0, q0, hargs, rfl, rfl, h0, r0⟩ := trodAll_cons hA
  obtain ⟨v1, vs1, d1, ds1, p1, q1, rfl, rfl, rfl, h1, r1⟩ := trodAll_cons r0
  obtain ⟨v2, vs2, d2, ds2, p2, q2, rfl, rfl, rfl, h2, r2⟩ := trodAll_cons r1
  obtain ⟨rfl, rfl, rfl⟩ := trodAll_nil r2
  obtain rfl : args = #[v0, v1, v2] := by cases args; simp_all
  obtain ⟨rfl, rfl⟩ := trodVars_none hV
  obtain ⟨a0, rfl, rfl, rfl, w0⟩ := open_int Try.underlying22 (hval 0 22 v0 rfl rfl) h0
  obtain ⟨a1, rfl, rfl, rfl, w1⟩ := open_int Try.underlying3 (hval 1 3 v1 rfl rfl) h1
  obtain ⟨a2, rfl, rfl, rfl, w2⟩ := open_int Try.underlying3 (hval 2 3 v2 rfl rfl) h2
  clear hA0 hval0
  simp only [List.append_nil] at hW'
  refine (walk a0 a1 a2 w0 w1 w2 W).mono fun e W' ⟨he, hg⟩ => ?_
  subst he
  exact ⟨_, rfl, _, _, _, [], [], [], hW', trodAll_mk1 (shut_bool Try.underlying4 _), (trodAll_cons_mk (shut_int Try.underlying22 w0) (trodAll_cons_mk (shut_int Try.underlying3 w1) (trodAll_cons_mk (shut_int Try.underlying3 w2) trodAll_mk0))), rfl, hg.frame _, fun h => by cases h⟩

theorem over : Rows.pageWalksRow.holds Try.pinned (OpenSpec.ofChange Rows.pageWalksSpec) :=
  OpenClaim.holds_of_wide 9 Try.f9 rfl rfl rfl rfl rfl rfl rfl ⟨rfl, rfl, rfl, rfl, rfl⟩ rfl rfl rfl rfl rfl (by kernel_rfl) Try.func9 (by kernel_rfl)
    (of_decide_eq_true (by kernel_rfl)) (by unfold Func.isWrapper; first | (rw [if_pos (by decide +kernel)]; kernel_rfl) | (rw [if_neg (by decide +kernel)]; exact ⟨rfl, rfl⟩))
    (fun os started H enc _ => lifted os started H enc)

theorem proved : Rows.PageWalksSaid :=
  over
#print axioms proved
end Go.Proofs.Ytahfpgcljlgnoaa.pageWalks
