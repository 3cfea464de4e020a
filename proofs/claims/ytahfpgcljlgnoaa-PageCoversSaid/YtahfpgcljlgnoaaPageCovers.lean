/-
  PageCovers: for every address, number and truth the law returns true, and its arguments read as before. Conditions: none.
-/
import Derived.Test.YtahfpgcljlgnoaaRows
import Derived.WalkKit
import Derived.ProofKit
import Derived.OpenShut
import Derived.Test.YtahfpgcljlgnoaaPList
import Derived.Test.YtahfpgcljlgnoaaPMathB
import Derived.ShutString
namespace Go.Proofs.Ytahfpgcljlgnoaa.pageCovers
open Fld
open Go.ChangeShapes Go.WideShapes Go.ChangeAt Go.RowKit
open Go.ChangeMaps (open_string shut_string)
set_option linter.unusedVariables false

theorem own : ownKnob Try.prog.godebug = none := by kernel_rfl

/-! ### The walk -/
set_option maxHeartbeats 4000000 in
set_option maxRecDepth 100000 in
theorem walk (a0 : Int) (a1 : Int) (a2 : Bool) (w0 : (Lit.int .u64 a0).wf = true) (w1 : (Lit.int .i64 a1).wf = true) (w : World) :
    Calls Try.prog 7 #[.int .u64 a0, .int .i64 a1, .bool a2] w fun e w' => e = .returned (.bool true) ∧ Below w.heap.size w w' := by
  obtain ⟨x0, x1⟩ := bounds_u64 w0
  obtain ⟨y0, y1⟩ := bounds_i64 w1
  clear w0 w1
  have n1 := nrm_bd a1 67108864 (by decide)
  have H1 := nrm_or a1 67108864
  generalize nrm a1 67108864 = m at *
  obtain ⟨x, hx, g0, g1⟩ : ∃ x, a0 % 1099511627776 = x ∧ 0 ≤ x ∧ x < 1099511627776 := ⟨_, rfl, by omega, by omega⟩
  rcases H1 with ⟨H1, G1⟩ | ⟨H1, G1⟩
  all_goals
    have J1 := H1.out
    clear H1
    cases a2
    · go_enter Try.func7, Try.ntmps7
      go_wp2_with fail
      obtain ⟨f, hf, f0, f1⟩ : ∃ f, x / 8192 * 8192 = f ∧ 0 ≤ f ∧ f ≤ 18446744073709551615 := ⟨_, rfl, by omega, by omega⟩
      obtain ⟨t, ht, t0, t1⟩ : ∃ t, (x + m) / 8192 * 8192 = t ∧ 0 ≤ t ∧ t ≤ 18446744073709551615 := ⟨_, rfl, by omega, by omega⟩
      have HL := cover_len f t
      rw [hf, ht]
      clear hf ht J1 G1 n1 y0 y1 hx g0 g1 x0 x1
      refine (cover_any f t f0 f1 t0 t1 _).mono ?_
      rintro e w2 ⟨v, rfl, own1, hb1⟩
      go_wp2_with fail
      refine (rcover_any f t f0 f1 t0 t1 _).mono ?_
      rintro e w3 ⟨v2, rfl, own2, hb2⟩
      go_wp2_with fail
      refine (rsame_any (coverL f t) v v2 _ _ w3 (by omega) (own_below own1 hb2) own2).mono ?_
      rintro e w4 ⟨rfl, n, rfl⟩
      have own3 := own_below own1 hb2
      have HBel : Below w.heap.size w w3 := hb1.trans (hb2.mono hb1.size)
      clear own1 own2 hb1 hb2
      by_cases hn : 0 < (coverL f t).length
      · obtain ⟨g, cap, rfl, c1, c2, hc⟩ := own_some own3 hn
        have HW := Lib.hid (show ∀ k, k < (coverL f t).length → startsB (posI f t k) (stepI (posI f t k) t) = true ∧ f ≤ posI f t k ∧ posI f t (k + 1) ≤ t ∧ w3.cell? ⟨g, k, none⟩ = some (.int .i64 (stepI (posI f t k) t)) from fun k hk => by
          obtain ⟨_, e1, e2, e3, e4⟩ := cover_walk f t k hk
          refine ⟨e2, e3, e4, ?_⟩
          have h1 := hc k hk
          rw [List.getElem?_eq_getElem hk, Option.some.injEq] at e1
          rw [h1, e1])
        have HE := Lib.hid (cover_last f t (by omega))
        clear own3 hc c2
        generalize (coverL f t).length = N at *
        go_wp2
        go_loopw [9, 10] (fun p i wr => ∃ k : Nat, k ≤ N ∧ i = .int .i64 (k : Int) ∧ p = .int .u64 (posI f t k) ∧ ∃ q, wr = w3.drewN q) (fun _ i _ => N - (intOf i).toNat)
        case atStart => exact ⟨0, by omega, rfl, rfl, _, rfl⟩
        case round =>
          obtain ⟨k, hk, rfl, rfl, q, rfl⟩ := hrel
          by_cases hlt : k < N
          · obtain ⟨e2, e3, e4, hcell⟩ := HW.out k hlt
            have HN := Lib.hid (show posI f t (k + 1) = posI f t k + bytesI (stepI (posI f t k) t) from rfl)
            rw [HN.out] at e4
            have hyb := bytes_bd (stepI (posI f t k) t)
            go_wp2_with (first | (go_at_call 20; refine (starts_any _ _ (by omega) (by omega) _).mono ?_; rintro e w' ⟨rfl, m, rfl⟩) | (go_at_call 15; refine (bytes_any _ _).mono ?_; rintro e w' ⟨rfl, rfl⟩))
            go_roundw
            case rel => exact ⟨k + 1, by omega, by go_num, by rw [HN.out], _, rfl⟩
            case measure => simp [intOf]; omega
          · have hkl : k = N := by omega
            have hq : (posI f t k == t) = true := beq_iff_eq.2 (by rw [hkl]; exact HE.out)
            clear hkl
            go_wp2_with (go_at_call 22; refine (plives_any _).mono ?_; rintro e w' ⟨rfl, hb⟩)
            go_ret
            exact ⟨rfl, (below_drewN HBel _).trans (hb.mono (by simpa using HBel.size))⟩
      · obtain ⟨ao, cap, rfl⟩ := own_shape own3
        have hz : (coverL f t).length = 0 := by omega
        clear own3 hn HL
        generalize (coverL f t).length = N at *
        subst hz
        go_wp2
        go_loopw [9, 10] (fun p i wr => i = .int .i64 0 ∧ p = .int .u64 f ∧ ∃ q, wr = w3.drewN q) (fun _ _ _ => 0)
        case atStart => exact ⟨rfl, rfl, _, rfl⟩
        case round =>
          obtain ⟨rfl, rfl, q, rfl⟩ := hrel
          go_wp2_with (go_at_call 22; refine (plives_any _).mono ?_; rintro e w' ⟨rfl, hb⟩)
          go_ret
          exact ⟨rfl, (below_drewN HBel _).trans (hb.mono (by simpa using HBel.size))⟩
    · go_enter Try.func7, Try.ntmps7
      go_wp2_with fail
      have f0 : 0 ≤ x := g0
      have f1 : x ≤ 18446744073709551615 := by omega
      obtain ⟨t, ht, t0, t1⟩ : ∃ t, x + m = t ∧ 0 ≤ t ∧ t ≤ 18446744073709551615 := ⟨_, rfl, by omega, by omega⟩
      have HL := cover_len x t
      try rw [hx]
      rw [ht]
      clear ht J1 G1 n1 y0 y1 hx g0 g1 x0 x1
      refine (cover_any x t f0 f1 t0 t1 _).mono ?_
      rintro e w2 ⟨v, rfl, own1, hb1⟩
      go_wp2_with fail
      refine (rcover_any x t f0 f1 t0 t1 _).mono ?_
      rintro e w3 ⟨v2, rfl, own2, hb2⟩
      go_wp2_with fail
      refine (rsame_any (coverL x t) v v2 _ _ w3 (by omega) (own_below own1 hb2) own2).mono ?_
      rintro e w4 ⟨rfl, n, rfl⟩
      have own3 := own_below own1 hb2
      have HBel : Below w.heap.size w w3 := hb1.trans (hb2.mono hb1.size)
      clear own1 own2 hb1 hb2
      by_cases hn : 0 < (coverL x t).length
      · obtain ⟨g, cap, rfl, c1, c2, hc⟩ := own_some own3 hn
        have HW := Lib.hid (show ∀ k, k < (coverL x t).length → startsB (posI x t k) (stepI (posI x t k) t) = true ∧ x ≤ posI x t k ∧ posI x t (k + 1) ≤ t ∧ w3.cell? ⟨g, k, none⟩ = some (.int .i64 (stepI (posI x t k) t)) from fun k hk => by
          obtain ⟨_, e1, e2, e3, e4⟩ := cover_walk x t k hk
          refine ⟨e2, e3, e4, ?_⟩
          have h1 := hc k hk
          rw [List.getElem?_eq_getElem hk, Option.some.injEq] at e1
          rw [h1, e1])
        have HE := Lib.hid (cover_last x t (by omega))
        clear own3 hc c2
        generalize (coverL x t).length = N at *
        go_wp2
        go_loopw [9, 10] (fun p i wr => ∃ k : Nat, k ≤ N ∧ i = .int .i64 (k : Int) ∧ p = .int .u64 (posI x t k) ∧ ∃ q, wr = w3.drewN q) (fun _ i _ => N - (intOf i).toNat)
        case atStart => exact ⟨0, by omega, rfl, rfl, _, rfl⟩
        case round =>
          obtain ⟨k, hk, rfl, rfl, q, rfl⟩ := hrel
          by_cases hlt : k < N
          · obtain ⟨e2, e3, e4, hcell⟩ := HW.out k hlt
            have HN := Lib.hid (show posI x t (k + 1) = posI x t k + bytesI (stepI (posI x t k) t) from rfl)
            rw [HN.out] at e4
            have hyb := bytes_bd (stepI (posI x t k) t)
            go_wp2_with (first | (go_at_call 20; refine (starts_any _ _ (by omega) (by omega) _).mono ?_; rintro e w' ⟨rfl, m, rfl⟩) | (go_at_call 15; refine (bytes_any _ _).mono ?_; rintro e w' ⟨rfl, rfl⟩))
            go_roundw
            case rel => exact ⟨k + 1, by omega, by go_num, by rw [HN.out], _, rfl⟩
            case measure => simp [intOf]; omega
          · have hkl : k = N := by omega
            have hq : (posI x t k == t) = true := beq_iff_eq.2 (by rw [hkl]; exact HE.out)
            clear hkl
            go_wp2_with (go_at_call 22; refine (plives_any _).mono ?_; rintro e w' ⟨rfl, hb⟩)
            go_ret
            exact ⟨rfl, (below_drewN HBel _).trans (hb.mono (by simpa using HBel.size))⟩
      · obtain ⟨ao, cap, rfl⟩ := own_shape own3
        have hz : (coverL x t).length = 0 := by omega
        clear own3 hn HL
        generalize (coverL x t).length = N at *
        subst hz
        go_wp2
        go_loopw [9, 10] (fun p i wr => i = .int .i64 0 ∧ p = .int .u64 x ∧ ∃ q, wr = w3.drewN q) (fun _ _ _ => 0)
        case atStart => exact ⟨rfl, rfl, _, rfl⟩
        case round =>
          obtain ⟨rfl, rfl, q, rfl⟩ := hrel
          go_wp2_with (go_at_call 22; refine (plives_any _).mono ?_; rintro e w' ⟨rfl, hb⟩)
          go_ret
          exact ⟨rfl, (below_drewN HBel _).trans (hb.mono (by simpa using HBel.size))⟩

/-! ### The row -/
set_option maxRecDepth 100000 in
theorem lifted (os : Os) (started : os.Started) (H : Type) (enc : TypeId × Value → H) :
    ReturnsInHanded {} Try.checked os 7 .any (Rows.pageCoversSpec.pre6 enc Try.prog Try.f7 Rows.pageCoversRow.domain false) (Rows.pageCoversSpec.post enc Try.prog Try.f7 false true false false) := by
  refine returnsInHanded_of_change (C := Try.checked) own started (by kernel_rfl) Try.func7
    (ChangeSpec.witness6 (enc := enc) (C := Try.checked) false ⟨#[], #[.int .u64 0, .int .i64 0, .bool false], []⟩ 8 (by kernel_rfl) (by kernel_rfl) (by kernel_rfl) (by kernel_rfl)) ?_
  intro W base args ds gs before hval0 hW hcnd _
  have hval : ∀ (j : Nat) t v, Try.f7.params[j]? = some t → args[j]? = some v → Value.okWide Try.prog W .any base t v := hval0
  have hW' := hW
  obtain ⟨p, q, hA0, hV, rfl, hfz, hnd⟩ := hW
  have hA : DataW.TrodAll enc Try.prog W 0 (fun _ => true) true Try.f7.params.toList args.toList ds p := hA0
  rw [Try.params7] at hA hval
  obtain ⟨v0, vs0, d0, ds0, p0, q0, hargs, rfl, rfl, h0, r0⟩ := trodAll_cons hA
  obtain ⟨v1, vs1, d1, ds1, p1, q1, rfl, rfl, rfl, h1, r1⟩ := trodAll_cons r0
  obtain ⟨v2, vs2, d2, ds2, p2, q2, rfl, rfl, rfl, h2, r2⟩ := trodAll_cons r1
  obtain ⟨rfl, rfl, rfl⟩ := trodAll_nil r2
  obtain rfl : args = #[v0, v1, v2] := by cases args; simp_all
  obtain ⟨rfl, rfl⟩ := trodVars_none hV
  obtain ⟨a0, rfl, rfl, rfl, w0⟩ := open_int Try.underlying22 (hval 0 22 v0 rfl rfl) h0
  obtain ⟨a1, rfl, rfl, rfl, w1⟩ := open_int Try.underlying3 (hval 1 3 v1 rfl rfl) h1
  obtain ⟨a2, rfl, rfl, rfl⟩ := open_bool Try.underlying4 (hval 2 4 v2 rfl rfl) h2
  clear hA0 hval0
  simp only [List.append_nil] at hW'
  refine (walk a0 a1 a2 w0 w1 W).mono fun e W' ⟨he, hg⟩ => ?_
  subst he
  exact ⟨_, rfl, _, _, _, [], [], [], hW', trodAll_mk1 (shut_bool Try.underlying4 _), (trodAll_cons_mk (shut_int Try.underlying22 w0) (trodAll_cons_mk (shut_int Try.underlying3 w1) (trodAll_cons_mk (shut_bool Try.underlying4 _) trodAll_mk0))), rfl, hg.frame _, fun h => by cases h⟩

theorem over : Rows.pageCoversRow.holds Try.pinned (OpenSpec.ofChange Rows.pageCoversSpec) :=
  OpenClaim.holds_of_wide 7 Try.f7 rfl rfl rfl rfl rfl rfl rfl ⟨rfl, rfl, rfl, rfl, rfl⟩ rfl rfl rfl rfl rfl (by kernel_rfl) Try.func7 (by kernel_rfl)
    (of_decide_eq_true (by kernel_rfl)) (by unfold Func.isWrapper; first | (rw [if_pos (by decide +kernel)]; kernel_rfl) | (rw [if_neg (by decide +kernel)]; exact ⟨rfl, rfl⟩))
    (fun os started H enc _ => lifted os started H enc)

theorem proved : Rows.PageCoversSaid :=
  over
#print axioms proved
end Go.Proofs.Ytahfpgcljlgnoaa.pageCovers
