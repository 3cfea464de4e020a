/-
  MemoryRound: for every two places and words the law returns true, and its arguments read as before. Conditions: none.
-/
import Derived.Test.YtmhgofhclckdpaaRows
import Derived.WalkKit
import Derived.ProofKit
import Derived.OpenShut
import Derived.Test.YtmhgofhclckdpaaMHas
import Derived.ShutString
namespace Go.Proofs.Ytmhgofhclckdpaa.memoryRound
open Fld
open Go.ChangeShapes Go.WideShapes Go.ChangeAt Go.RowKit
open Go.ChangeMaps (open_string shut_string)
set_option linter.unusedVariables false

theorem own : ownKnob Try.prog.godebug = none := by kernel_rfl

open Mem
/-- Behind the choice of the places: two words are put and read. -/
theorem two {A B x y : Nat} (hA : A % 8 = 0) (hB : B % 8 = 0) (hne : A ≠ B) (hx : x < 18446744073709551616) (hy : y < 18446744073709551616) :
    word (setW (setW (fun _ => 0) A x) B y) A = x ∧ word (setW (setW (fun _ => 0) A x) B y) B = y := by
  have z : ∀ a, (fun _ : Nat => 0) a < 256 := fun _ => Nat.zero_lt_succ _
  exact ⟨by rw [word_setW_other hB hA hne, word_setW_same z _ hx], word_setW_same (setW_lt z _ _) _ hy⟩
/-! ### The walk -/
set_option maxHeartbeats 1000000 in
set_option maxRecDepth 100000 in
theorem walk (a0 : Int) (a1 : Int) (a2 : Int) (a3 : Int) (w0 : (Lit.int .u64 a0).wf = true) (w1 : (Lit.int .u64 a1).wf = true) (w2 : (Lit.int .u64 a2).wf = true) (w3 : (Lit.int .u64 a3).wf = true) (w : World) :
    Calls Try.prog 3 #[.int .u64 a0, .int .u64 a1, .int .u64 a2, .int .u64 a3] w fun e w' => e = .returned (.bool true) ∧ Below w.heap.size w w' := by
  obtain ⟨a00, a01⟩ := bounds_u64 w0
  obtain ⟨a10, a11⟩ := bounds_u64 w1
  obtain ⟨x0, x1⟩ := bounds_u64 w2
  obtain ⟨y0, y1⟩ := bounds_u64 w3
  clear w0 w1 w2 w3
  by_cases c : a0 % 1048576 * 8 = a1 % 1048576 * 8
  · have T := Lib.hid (two (A := (a0 % 1048576 * 8).toNat) (B := ((a1 % 1048576 * 8 + 8) % 8388608).toNat) (x := a2.toNat) (y := a3.toNat) (by omega) (by omega) (by omega) (by omega) (by omega))
    have c' : (a0 % 1048576 * 8 == a1 % 1048576 * 8) = true := by simpa using c
    have C := Lib.hid c
    clear c
    go_enter Try.func3, Try.ntmps3
    go_wp2_with (go_at_call 8; refine (hnew 16777216 (by omega) _).mono ?_; rintro e w1 ⟨rfl, H1⟩)
    go_wp2_with fail
    refine (hputWord H1 _ _ (by omega) (by omega) (by omega) (by omega) (by omega)).mono ?_
    rintro e w2 ⟨rfl, H2⟩
    go_wp2_with fail
    refine (hputWord H2 _ _ (by omega) (by omega) (by omega) (by omega) (by omega)).mono ?_
    rintro e w3 ⟨rfl, H3⟩
    generalize hg : setW (setW (fun _ => 0) (a0 % 1048576 * 8).toNat a2.toNat) ((a1 % 1048576 * 8 + 8) % 8388608).toNat a3.toNat = g at T H3
    clear hg H1 H2
    have gl := H3.good.lt
    have E1 : ((word g (a0 % 1048576 * 8).toNat : Nat) : Int) = a2 := by rw [T.out.1]; omega
    have E2 : ((word g ((a1 % 1048576 * 8 + 8) % 8388608).toNat : Nat) : Int) = a3 := by rw [T.out.2]; omega
    have E3 := Lib.hid (show ((wordN g (a0 % 1048576 * 8).toNat 8 : Nat) : Int) = a2 from E1)
    clear T
    go_wp2_with (go_at_call 10; refine (hword H3 _ (by omega) (by omega) (by omega)).mono ?_; rintro e w' ⟨rfl, rfl⟩)
    go_loopw [14, 15] (fun n i wr => ∃ k : Nat, k ≤ 8 ∧ i = .int .u64 (k : Int) ∧ n = .int .u64 ((wordN g (a0 % 1048576 * 8).toNat k : Nat) : Int) ∧ Has w wr (w.heap.size + 1) 16777216 g) (fun _ i _ => 8 - (intOf i).toNat)
    case atStart => exact ⟨0, by omega, rfl, rfl, H3⟩
    case round =>
      obtain ⟨k, hk, rfl, rfl, H4⟩ := hrel
      by_cases hlt : k < 8
      · have b1 : wordN g (a0 % 1048576 * 8).toNat k < 72057594037927936 := Nat.lt_of_lt_of_le (wordN_lt g gl _ k) (Nat.pow_le_pow_right (n := 256) (j := 7) (by decide) (by omega))
        have b2 := gl (a0 % 1048576 * 8 + (k : Int)).toNat
        have E := Lib.hid (show 256 * ((wordN g (a0 % 1048576 * 8).toNat k : Nat) : Int) + ((g (a0 % 1048576 * 8 + (k : Int)).toNat : Nat) : Int) = ((wordN g (a0 % 1048576 * 8).toNat (k + 1) : Nat) : Int) by
          have e1 : (a0 % 1048576 * 8 + (k : Int)).toNat = (a0 % 1048576 * 8).toNat + k := by omega
          have e2 : wordN g (a0 % 1048576 * 8).toNat (k + 1) = 256 * wordN g (a0 % 1048576 * 8).toNat k + g ((a0 % 1048576 * 8).toNat + k) := rfl
          rw [e1, e2]; omega)
        go_wp2_with (go_at_call 11; refine (hbyte H4 _ (by omega) (by omega)).mono ?_; rintro e w' ⟨rfl, H5⟩)
        go_roundw
        case rel => exact ⟨k + 1, by omega, by go_num, by rw [← E.out], H5⟩
        case measure => simp [intOf]; omega
      · obtain rfl : k = 8 := by omega
        have E3' := E3.out
        clear E1 E2 E3 hlt
        go_wp2_with (go_at_call 12; refine (mlives_any _).mono ?_; rintro e w' ⟨rfl, hb⟩)
        go_ret
        exact ⟨rfl, H4.below.trans (hb.mono H4.below.size)⟩
  · have T := Lib.hid (two (A := (a0 % 1048576 * 8).toNat) (B := (a1 % 1048576 * 8).toNat) (x := a2.toNat) (y := a3.toNat) (by omega) (by omega) (by omega) (by omega) (by omega))
    have c' : (a0 % 1048576 * 8 == a1 % 1048576 * 8) = false := by simpa using c
    have C := Lib.hid c
    clear c
    go_enter Try.func3, Try.ntmps3
    go_wp2_with (go_at_call 8; refine (hnew 16777216 (by omega) _).mono ?_; rintro e w1 ⟨rfl, H1⟩)
    go_wp2_with fail
    refine (hputWord H1 _ _ (by omega) (by omega) (by omega) (by omega) (by omega)).mono ?_
    rintro e w2 ⟨rfl, H2⟩
    go_wp2_with fail
    refine (hputWord H2 _ _ (by omega) (by omega) (by omega) (by omega) (by omega)).mono ?_
    rintro e w3 ⟨rfl, H3⟩
    generalize hg : setW (setW (fun _ => 0) (a0 % 1048576 * 8).toNat a2.toNat) (a1 % 1048576 * 8).toNat a3.toNat = g at T H3
    clear hg H1 H2
    have gl := H3.good.lt
    have E1 : ((word g (a0 % 1048576 * 8).toNat : Nat) : Int) = a2 := by rw [T.out.1]; omega
    have E2 : ((word g (a1 % 1048576 * 8).toNat : Nat) : Int) = a3 := by rw [T.out.2]; omega
    have E3 := Lib.hid (show ((wordN g (a0 % 1048576 * 8).toNat 8 : Nat) : Int) = a2 from E1)
    clear T
    go_wp2_with (go_at_call 10; refine (hword H3 _ (by omega) (by omega) (by omega)).mono ?_; rintro e w' ⟨rfl, rfl⟩)
    go_loopw [14, 15] (fun n i wr => ∃ k : Nat, k ≤ 8 ∧ i = .int .u64 (k : Int) ∧ n = .int .u64 ((wordN g (a0 % 1048576 * 8).toNat k : Nat) : Int) ∧ Has w wr (w.heap.size + 1) 16777216 g) (fun _ i _ => 8 - (intOf i).toNat)
    case atStart => exact ⟨0, by omega, rfl, rfl, H3⟩
    case round =>
      obtain ⟨k, hk, rfl, rfl, H4⟩ := hrel
      by_cases hlt : k < 8
      · have b1 : wordN g (a0 % 1048576 * 8).toNat k < 72057594037927936 := Nat.lt_of_lt_of_le (wordN_lt g gl _ k) (Nat.pow_le_pow_right (n := 256) (j := 7) (by decide) (by omega))
        have b2 := gl (a0 % 1048576 * 8 + (k : Int)).toNat
        have E := Lib.hid (show 256 * ((wordN g (a0 % 1048576 * 8).toNat k : Nat) : Int) + ((g (a0 % 1048576 * 8 + (k : Int)).toNat : Nat) : Int) = ((wordN g (a0 % 1048576 * 8).toNat (k + 1) : Nat) : Int) by
          have e1 : (a0 % 1048576 * 8 + (k : Int)).toNat = (a0 % 1048576 * 8).toNat + k := by omega
          have e2 : wordN g (a0 % 1048576 * 8).toNat (k + 1) = 256 * wordN g (a0 % 1048576 * 8).toNat k + g ((a0 % 1048576 * 8).toNat + k) := rfl
          rw [e1, e2]; omega)
        go_wp2_with (go_at_call 11; refine (hbyte H4 _ (by omega) (by omega)).mono ?_; rintro e w' ⟨rfl, H5⟩)
        go_roundw
        case rel => exact ⟨k + 1, by omega, by go_num, by rw [← E.out], H5⟩
        case measure => simp [intOf]; omega
      · obtain rfl : k = 8 := by omega
        have E3' := E3.out
        clear E1 E2 E3 hlt
        go_wp2_with (go_at_call 12; refine (mlives_any _).mono ?_; rintro e w' ⟨rfl, hb⟩)
        go_ret
        exact ⟨rfl, H4.below.trans (hb.mono H4.below.size)⟩

/-! ### The row -/
set_option maxRecDepth 100000 in
theorem lifted (os : Os) (started : os.Started) (H : Type) (enc : TypeId × Value → H) :
    ReturnsInHanded {} Try.checked os 3 .any (Rows.memoryRoundSpec.pre6 enc Try.prog Try.f3 Rows.memoryRoundRow.domain false) (Rows.memoryRoundSpec.post enc Try.prog Try.f3 false true false false) := by
  refine returnsInHanded_of_change (C := Try.checked) own started (by kernel_rfl) Try.func3
    (ChangeSpec.witness6 (enc := enc) (C := Try.checked) false ⟨#[], #[.int .u64 0, .int .u64 0, .int .u64 0, .int .u64 0], []⟩ 8 (by kernel_rfl) (by kernel_rfl) (by kernel_rfl) (by kernel_rfl)) ?_
  intro W base args ds gs before hval0 hW hcnd _
  have hval : ∀ (j : Nat) t v, Try.f3.params[j]? = some t → args[j]? = some v → Value.okWide Try.prog W .any base t v := hval0
  have hW' := hW
  obtain ⟨p, q, hA0, hV, rfl, hfz, hnd⟩ := hW
  have hA : DataW.TrodAll enc Try.prog W 0 (fun _ => true) true Try.f3.params.toList args.toList ds p := hA0
  rw [Try.params3] at hA hval
  obtain ⟨v0, vs0, d0, ds0, p0, q0, hargs, rfl, rfl, h0, r0⟩ := trodAll_cons hA
  obtain ⟨v1, vs1, d1, ds1, p1, q1, rfl, rfl, rfl, h1, r1⟩ := trodAll_cons r0
  obtain ⟨v2, vs2, d2, ds2, p2, q2, rfl, rfl, rfl, h2, r2⟩ := trodAll_cons r1
  obtain ⟨v3, vs3, d3, ds3, p3, q3, rfl, rfl, rfl, h3, r3⟩ := trodAll_cons r2
  obtain ⟨rfl, rfl, rfl⟩ := trodAll_nil r3
  obtain rfl : args = #[v0, v1, v2, v3] := by cases args; simp_all
  obtain ⟨rfl, rfl⟩ := trodVars_none hV
  obtain ⟨a0, rfl, rfl, rfl, w0⟩ := open_int Try.underlying22 (hval 0 22 v0 rfl rfl) h0
  obtain ⟨a1, rfl, rfl, rfl, w1⟩ := open_int Try.underlying22 (hval 1 22 v1 rfl rfl) h1
  obtain ⟨a2, rfl, rfl, rfl, w2⟩ := open_int Try.underlying22 (hval 2 22 v2 rfl rfl) h2
  obtain ⟨a3, rfl, rfl, rfl, w3⟩ := open_int Try.underlying22 (hval 3 22 v3 rfl rfl) h3
  clear hA0 hval0
  simp only [List.append_nil] at hW'
  refine (walk a0 a1 a2 a3 w0 w1 w2 w3 W).mono fun e W' ⟨he, hg⟩ => ?_
  subst he
  exact ⟨_, rfl, _, _, _, [], [], [], hW', trodAll_mk1 (shut_bool Try.underlying4 _), (trodAll_cons_mk (shut_int Try.underlying22 w0) (trodAll_cons_mk (shut_int Try.underlying22 w1) (trodAll_cons_mk (shut_int Try.underlying22 w2) (trodAll_cons_mk (shut_int Try.underlying22 w3) trodAll_mk0)))), rfl, hg.frame _, fun h => by cases h⟩

theorem over : Rows.memoryRoundRow.holds Try.pinned (OpenSpec.ofChange Rows.memoryRoundSpec) :=
  OpenClaim.holds_of_wide 3 Try.f3 rfl rfl rfl rfl rfl rfl rfl ⟨rfl, rfl, rfl, rfl, rfl⟩ rfl rfl rfl rfl rfl (by kernel_rfl) Try.func3 (by kernel_rfl)
    (of_decide_eq_true (by kernel_rfl)) (by unfold Func.isWrapper; first | (rw [if_pos (by decide +kernel)]; kernel_rfl) | (rw [if_neg (by decide +kernel)]; exact ⟨rfl, rfl⟩))
    (fun os started H enc _ => lifted os started H enc)

theorem proved : Rows.MemoryRoundSaid :=
  over
#print axioms proved
end Go.Proofs.Ytmhgofhclckdpaa.memoryRound
