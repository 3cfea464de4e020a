/-
  CtxRounds: for every two numbers the law returns true, and its arguments read as before. Conditions: none.
-/
import Derived.Test.YtkbkilkmiigahaaRows
import Derived.WalkKit
import Derived.ProofKit
import Derived.OpenShut
import Derived.Test.YtkbkilkmiigahaaCPx
import Derived.Deep.DeepCutAuto
import Derived.Deep.CutBlock
import Derived.Deep.RegionHeld3
import Derived.ShutString
namespace Go.Proofs.Ytkbkilkmiigahaa.ctxRounds
open Fld
open Go.ChangeShapes Go.WideShapes Go.ChangeAt Go.RowKit
open Go.ChangeMaps (open_string shut_string)
set_option linter.unusedVariables false

theorem own : ownKnob Try.prog.godebug = none := by kernel_rfl

open Cx
/-! ### The walk -/
set_option maxHeartbeats 1500000 in
set_option maxRecDepth 100000 in
theorem walk (a0 : Int) (a1 : Int) (w0 : (Lit.int .i64 a0).wf = true) (w1 : (Lit.int .i64 a1).wf = true) (w : World) :
    Calls Try.prog 5 #[.int .i64 a0, .int .i64 a1] w fun e w' => e = .returned (.bool true) ∧ Below w.heap.size w w' := by
  obtain ⟨i0, i1⟩ := bounds_i64 w0
  obtain ⟨m0, m1⟩ := bounds_i64 w1
  clear w0 w1
  go_enter Try.func5, Try.ntmps5
  go_upto_if 16 with fail
  go_cut [0] (fun nv wx => w = wx ∧ ∃ x : Int, nv = .int .i64 x ∧ 0 ≤ x ∧ x ≤ 9223372036854775807)
  case first =>
    by_cases hn : a0 < 0
    · go_wp2
      go_meet
      exact ⟨rfl, _, rfl, by omega, by omega⟩
    · go_wp2
      go_meet
      exact ⟨rfl, _, rfl, by omega, by omega⟩
  obtain ⟨rfl, x, rfl, x0, x1⟩ := hcut
  go_upto_if 21 with fail
  go_cut [1] (fun nv wx => w = wx ∧ ∃ y : Int, nv = .int .i64 y ∧ 0 ≤ y ∧ y ≤ 9223372036854775807)
  case first =>
    by_cases hn : a1 < 0
    · go_wp2
      go_meet
      exact ⟨rfl, _, rfl, by omega, by omega⟩
    · go_wp2
      go_meet
      exact ⟨rfl, _, rfl, by omega, by omega⟩
  obtain ⟨rfl, y, rfl, y0, y1⟩ := hcut
  have tx : Int.tmod x 10 = x % 10 := Int.tmod_eq_emod_of_nonneg x0
  have ty : Int.tmod y 41 = y % 41 := Int.tmod_eq_emod_of_nonneg y0
  obtain ⟨n, hn⟩ : ∃ n : Nat, 1 + x % 10 = (n : Int) := ⟨(1 + x % 10).toNat, by omega⟩
  obtain ⟨m, hm⟩ : ∃ m : Nat, y % 41 = (m : Int) := ⟨(y % 41).toNat, by omega⟩
  have n0 : 0 < n := by omega
  have n10 : n ≤ 10 := by omega
  have m40 : m ≤ 40 := by omega
  have NA := px_new n w
  rw [show newN n = n by unfold newN; omega, ← fillP_zero] at NA
  go_wp2_with fail
  refine NA.mono ?_
  rintro e w1 ⟨pb, bm, ob, rfl, X⟩
  have X := Lib.hid X
  clear NA
  go_wp2_with fail
  go_loopw [6] (fun i wr => ∃ j : Nat, i = .int .i64 (j : Int) ∧ j ≤ n ∧ PX w wr pb bm ob (fillP n j)) (fun i _ => n - (RowKit.intOf i).toNat)
  case atStart => exact ⟨0, rfl, Nat.zero_le _, X.out⟩
  case round =>
    clear X
    obtain ⟨j, rfl, hj, X⟩ := hrel
    by_cases hlt : j < n
    · obtain ⟨f1, f2, f3⟩ := fillP_take hlt
      have TA := px_take X (fillP_ok n0 n10) (x := (j : Int)) (by omega) (by omega) (by have := fillP_R n0 hj; omega)
      rw [f1, f2, f3] at TA
      clear f1 f2 f3 X
      have hlt' : (j : Int) < (n : Int) := by omega
      go_wp2_with fail
      refine TA.mono ?_
      rintro e w2 ⟨rfl, X⟩
      have X := Lib.hid X
      clear TA
      go_wp2
      go_roundw
      case rel => exact ⟨j + 1, by go_num, by omega, X.out⟩
      case measure => simp [RowKit.intOf]; omega
    · obtain rfl : j = n := by omega
      have H0 : ∃ (P : Pl) (c q : Nat), c * j + q = 0 ∧ RI j c q P ∧ PX w wr pb bm ob P := ⟨_, 0, 0, by omega, RI.start n0 n10, X⟩
      have H0 := Lib.hid H0
      clear X
      go_wp2_with fail
      go_loopw [9] (fun i wr => ∃ t : Nat, i = .int .i64 (t : Int) ∧ t ≤ m ∧ ∃ (P : Pl) (c q : Nat), c * j + q = t ∧ RI j c q P ∧ PX w wr pb bm ob P) (fun i _ => m - (RowKit.intOf i).toNat)
      case atStart => exact ⟨0, rfl, Nat.zero_le _, H0.out⟩
      case round =>
        clear H0
        obtain ⟨t, rfl, ht, P, c, q, hcq, I, X⟩ := hrel
        have hq := I.pq
        by_cases hlt2 : t < m
        · obtain ⟨v1, v2, v3⟩ := I.vic
          obtain ⟨s1, s2, s3⟩ := I.steal (by omega)
          obtain ⟨z1, z2⟩ := next_sum hq (c := c)
          have VA := px_nil X I.ok
          rw [v1, v2, v3, hcq] at VA
          have IO := I.ok
          have hR : P.R ≤ 1000000000 := by
            have := I.pR
            have : c ≤ c * j := Nat.le_mul_of_pos_right c n0
            omega
          rw [hcq] at s1 s2 s3 z1
          have s1 : P.stealE ((q : Int) + 1) ((j : Int) + (t : Int)) = 0 := s1
          have s2 : P.stealI ((q : Int) + 1) ((j : Int) + (t : Int)) = (t : Int) := s2
          have s3 : RI j (nextC j c q) (nextQ j q) (P.steal ((q : Int) + 1) ((j : Int) + (t : Int))) := s3
          have SA := fun wz (Xz : PX w wz pb bm ob P) => px_steal Xz IO (x := (j : Int) + (t : Int)) ((q : Int) + 1) (by omega) (by omega) hR
          rw [s1, s2] at SA
          have SA := Lib.hid SA
          have hmod : Int.tmod (t : Int) (j : Int) = (q : Int) := by
            rw [Int.tmod_eq_emod_of_nonneg (by omega), ← Int.natCast_emod, ← hcq, Nat.mul_add_mod_self_right, Nat.mod_eq_of_lt hq]
          have S3 := Lib.hid s3
          have Z1 := Lib.hid z1
          clear v1 v2 v3 s1 s2 s3 z1 I X hcq
          have hlt2' : (t : Int) < (m : Int) := by omega
          go_wp2_with fail
          refine VA.mono ?_
          rintro e w3 ⟨rfl, X3⟩
          have SB := SA.out _ X3
          clear VA X3 SA
          go_wp2_with fail
          refine SB.mono ?_
          rintro e w4 ⟨rfl, X4⟩
          have X4 := Lib.hid X4
          clear SB
          go_wp2
          go_roundw
          case rel => exact ⟨t + 1, by go_num, by omega, _, _, _, Z1.out, S3.out, X4.out⟩
          case measure => simp [RowKit.intOf]; omega
        · obtain rfl : t = m := by omega
          have hmod : Int.tmod (t : Int) (j : Int) = (q : Int) := by
            rw [Int.tmod_eq_emod_of_nonneg (by omega), ← Int.natCast_emod, ← hcq, Nat.mul_add_mod_self_right, Nat.mod_eq_of_lt hq]
          have hdiv : Int.tdiv (t : Int) (j : Int) = (c : Int) := by
            rw [Int.tdiv_eq_ediv_of_nonneg (by omega), ← Int.natCast_ediv, ← hcq, Nat.add_comm, Nat.add_mul_div_right _ _ n0, Nat.div_eq_of_lt hq, Nat.zero_add]
          have hjn : j ≠ 0 := by omega
          have pR := I.pR
          have ph := I.ph
          have pF := I.free
          have ok := I.ok
          have hc40 : c ≤ 40 := by
            have : c ≤ c * j := Nat.le_mul_of_pos_right c n0
            omega
          have hw : IntKind.i64.wrap (c : Int) = (c : Int) := by rw [IntKind.wrap_i64]; omega
          have hw2 : IntKind.i64.wrap (1 + (c : Int)) = 1 + (c : Int) := by rw [IntKind.wrap_i64]; omega
          have hw3 : IntKind.i64.wrap ((q : Int) + 1) = (q : Int) + 1 := by rw [IntKind.wrap_i64]; omega
          have LR := Lib.hid (fun wz (Xz : PX w wz pb bm ob P) => px_rounds Xz)
          have LH := Lib.hid (fun wz (Xz : PX w wz pb bm ob P) => px_hand Xz)
          have LF := Lib.hid (fun wz (Xz : PX w wz pb bm ob P) => px_free Xz ok)
          rw [pR, show ((1 + c : Nat) : Int) = 1 + (c : Int) from rfl] at LR
          rw [ph, show ((q + 1 : Nat) : Int) = (q : Int) + 1 from rfl] at LH
          rw [pF, show ((0 : Nat) : Int) = 0 from rfl] at LF
          have q1 : ((1 + (c : Int)) == 1 + (c : Int)) = true := by simp
          have q2 : (((q : Int) + 1) == (q : Int) + 1) = true := by simp
          clear I pR ph pF ok hcq
          go_wp2_with fail
          have X := X.drew
          go_region_held3 (fun w9 => w9.cell? ⟨pb, 0, none⟩ = some (.map (some bm)))
            ((refine PX.cell (w := w) (P := P) (ob := ob) ?_; assumption))
            (first | (go_at_call 20; (with_reducible refine (LR.out _ (by assumption)).mono ?_); rintro e w9 ⟨rfl, P9⟩) | (go_at_call 21; (with_reducible refine (LH.out _ (by assumption)).mono ?_); rintro e w9 ⟨rfl, P9⟩) | (go_at_call 16; (with_reducible refine (LF.out _ (by assumption)).mono ?_); rintro e w9 ⟨rfl, P9⟩) | (go_at_call 12; (with_reducible refine (px_lives (w := w) (pb := pb) (bm := bm) (ob := ob) (P := P) (by assumption)).mono ?_); rintro e w9 ⟨rfl, P9⟩))
          clear q1 q2 X hw hw2 hw3
          go_wp2
          go_ret
          exact ⟨rfl, P9.bel⟩

/-! ### The row -/
set_option maxRecDepth 100000 in
theorem lifted (os : Os) (started : os.Started) (H : Type) (enc : TypeId × Value → H) :
    ReturnsInHanded {} Try.checked os 5 .any (Rows.ctxRoundsSpec.pre6 enc Try.prog Try.f5 Rows.ctxRoundsRow.domain false) (Rows.ctxRoundsSpec.post enc Try.prog Try.f5 false true false false) := by
  refine returnsInHanded_of_change (C := Try.checked) own started (by kernel_rfl) Try.func5
    (ChangeSpec.witness6 (enc := enc) (C := Try.checked) false ⟨#[], #[.int .i64 0, .int .i64 0], []⟩ 8 (by kernel_rfl) (by kernel_rfl) (by kernel_rfl) (by kernel_rfl)) ?_
  intro W base args ds gs before hval0 hW hcnd _
  have hval : ∀ (j : Nat) t v, Try.f5.params[j]? = some t → args[j]? = some v → Value.okWide Try.prog W .any base t v := hval0
  have hW' := hW
  obtain ⟨p, q, hA0, hV, rfl, hfz, hnd⟩ := hW
  have hA : DataW.TrodAll enc Try.prog W 0 (fun _ => true) true Try.f5.params.toList args.toList ds p := hA0
  rw [Try.params5] at hA hval
  obtain ⟨v0, vs0, d0, ds0, p0, q0, hargs, rfl, rfl, h0, r0⟩ := trodAll_cons hA
  obtain ⟨v1, vs1, d1, ds1, p1, q1, rfl, rfl, rfl, h1, r1⟩ := trodAll_cons r0
  obtain ⟨rfl, rfl, rfl⟩ := trodAll_nil r1
  obtain rfl : args = #[v0, v1] := by cases args; simp_all
  obtain ⟨rfl, rfl⟩ := trodVars_none hV
  obtain ⟨a0, rfl, rfl, rfl, w0⟩ := open_int Try.underlying3 (hval 0 3 v0 rfl rfl) h0
  obtain ⟨a1, rfl, rfl, rfl, w1⟩ := open_int Try.underlying3 (hval 1 3 v1 rfl rfl) h1
  clear hA0 hval0
  simp only [List.append_nil] at hW'
  refine (walk a0 a1 w0 w1 W).mono fun e W' ⟨he, hg⟩ => ?_
  subst he
  exact ⟨_, rfl, _, _, _, [], [], [], hW', trodAll_mk1 (shut_bool Try.underlying4 _), (trodAll_cons_mk (shut_int Try.underlying3 w0) (trodAll_cons_mk (shut_int Try.underlying3 w1) trodAll_mk0)), rfl, hg.frame _, fun h => by cases h⟩

theorem over : Rows.ctxRoundsRow.holds Try.pinned (OpenSpec.ofChange Rows.ctxRoundsSpec) :=
  OpenClaim.holds_of_wide 5 Try.f5 rfl rfl rfl rfl rfl rfl rfl ⟨rfl, rfl, rfl, rfl, rfl⟩ rfl rfl rfl rfl rfl (by kernel_rfl) Try.func5 (by kernel_rfl)
    (of_decide_eq_true (by kernel_rfl)) (by unfold Func.isWrapper; first | (rw [if_pos (by decide +kernel)]; kernel_rfl) | (rw [if_neg (by decide +kernel)]; exact ⟨rfl, rfl⟩))
    (fun os started H enc _ => lifted os started H enc)

theorem proved : Rows.CtxRoundsSaid :=
  over
#print axioms proved
end Go.Proofs.Ytkbkilkmiigahaa.ctxRounds
