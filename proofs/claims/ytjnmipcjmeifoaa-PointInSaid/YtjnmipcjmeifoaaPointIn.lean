/-
  PointIn: for every register, address and offset the law returns true, and its arguments read as before. Conditions: none.
-/
import Derived.Test.YtjnmipcjmeifoaaRows
import Derived.WalkKit
import Derived.ProofKit
import Derived.OpenShut
import Derived.Test.YtjnmipcjmeifoaaQLaw
import Derived.ShutString
namespace Go.Proofs.Ytjnmipcjmeifoaa.pointIn
open Fld
open Go.ChangeShapes Go.WideShapes Go.ChangeAt Go.RowKit
open Go.ChangeMaps (open_string shut_string)
set_option linter.unusedVariables false

theorem own : ownKnob Try.prog.godebug = none := by kernel_rfl

open Pt
theorem off_lt (x s : Int) (h : sizeB s = true) : offI x s < bytesI s := by
  have := bytes_pos h
  unfold offI; rw [if_pos h]; exact Int.emod_lt_of_pos _ (by omega)
theorem isB_size {s : Int} (h : isB s = true) : sizeB s = true := sizeB_mk (by have := isB_true h; omega)
/-- The page's first address, and an offset, have the address's pointer. -/
theorem page_ptr (t x s o : Int) (t0 : 0 ≤ t) (t1 : t ≤ 18446744073709551615) (x0 : 0 ≤ x) (x1 : x ≤ 18446744073709551615) (h : isB s = true) (w : World) :
    Calls Try.prog 8 #[.int .u64 t, .int .u64 (baseI x s + offI o s), .int .i64 s] w fun e w' => e = .returned (.tuple #[.int .u64 (ptrI t x s), .bool true]) ∧ Below w.heap.size w w' := by
  have b0 := base_bd x s x0 x1
  have b1 := base_top x s x0 x1
  have o0 := off_bd o s
  have o1 := off_lt o s (isB_size h)
  have := pointer_any t (baseI x s + offI o s) s t0 t1 (by omega) (by omega) w
  rw [ptr_page t x s o h, h] at this
  exact this
theorem addr_ptr (t x s : Int) (t0 : 0 ≤ t) (t1 : t ≤ 18446744073709551615) (x0 : 0 ≤ x) (x1 : x ≤ 18446744073709551615) (h : isB s = true) (w : World) :
    Calls Try.prog 8 #[.int .u64 t, .int .u64 x, .int .i64 s] w fun e w' => e = .returned (.tuple #[.int .u64 (ptrI t x s), .bool true]) ∧ Below w.heap.size w w' := by
  have := pointer_any t x s t0 t1 x0 x1 w
  rw [h] at this
  exact this
theorem sum_bd (x s o : Int) (x0 : 0 ≤ x) (x1 : x ≤ 18446744073709551615) (h : isB s = true) : 0 ≤ baseI x s ∧ baseI x s ≤ 18446744073709551615 ∧ 0 ≤ offI o s ∧ offI o s ≤ 4194303 ∧ baseI x s + offI o s ≤ 18446744073709551615 := by
  have b0 := base_bd x s x0 x1
  have b1 := base_top x s x0 x1
  have o0 := off_bd o s
  have o1 := off_lt o s (isB_size h)
  omega
/-- What is known of a pointer, with W bytes from B on, of E entries. -/
theorem known (t x s : Int) (t0 : 0 ≤ t) (t1 : t ≤ 18446744073709551615) (x0 : 0 ≤ x) (h : isB s = true) (hf : splitB t = false) : t / (16 * entI t) * (16 * entI t) ≤ ptrI t x s ∧ ptrI t x s - t / (16 * entI t) * (16 * entI t) < 16 * entI t ∧ ptrI t x s % 16 = 0 ∧ ptrI t x s ≤ 18446744073709551615 := by
  have := ptr_in (x := x) t0 t1 (Int.ediv_nonneg x0 (by have := bytes_bd s; omega)) h
  unfold begI wholeI at this
  rw [hf] at this
  simp only [Bool.false_eq_true, if_false] at this
  exact ⟨this.1, this.2.1, this.2.2.1, this.2.2.2.1⟩
theorem knownS (t x s : Int) (t0 : 0 ≤ t) (t1 : t ≤ 18446744073709551615) (x0 : 0 ≤ x) (h : isB s = true) (hf : splitB t = true) : t / (32 * entI t) * (32 * entI t) ≤ ptrI t x s ∧ ptrI t x s - t / (32 * entI t) * (32 * entI t) < 32 * entI t ∧ ptrI t x s % 16 = 0 ∧ ptrI t x s ≤ 18446744073709551615 ∧ (16 * entI t ≤ ptrI t x s - t / (32 * entI t) * (32 * entI t) ↔ s = 1) := by
  have n0 : 0 ≤ x / bytesI s := Int.ediv_nonneg x0 (by have := bytes_bd s; omega)
  have := ptr_in (x := x) t0 t1 n0 h
  have h2 := ptr_half (x := x) n0 h hf
  unfold begI wholeI at this h2
  rw [hf] at this h2
  simp only [if_true] at this h2
  exact ⟨this.1, this.2.1, this.2.2.1, this.2.2.2.1, h2⟩
/-! ### The walk -/
set_option maxHeartbeats 1000000 in
set_option maxRecDepth 100000 in
theorem walk (a0 : Int) (a1 : Int) (a2 : Int) (w0 : (Lit.int .u64 a0).wf = true) (w1 : (Lit.int .u64 a1).wf = true) (w2 : (Lit.int .u64 a2).wf = true) (w : World) :
    Calls Try.prog 4 #[.int .u64 a0, .int .u64 a1, .int .u64 a2] w fun e w' => e = .returned (.bool true) ∧ Below w.heap.size w w' := by
  obtain ⟨t0, t1⟩ := bounds_u64 w0
  obtain ⟨x0, x1⟩ := bounds_u64 w1
  obtain ⟨o0, o1⟩ := bounds_u64 w2
  clear w0 w1 w2
  have CE := Lib.hid (fun w => rentries_any a0 t0 t1 w)
  have CS := Lib.hid (fun w => rsplit_any a0 t0 t1 w)
  have CP := Lib.hid (fun s h w => addr_ptr a0 a1 s t0 t1 x0 x1 h w)
  have CQ := Lib.hid (fun s h w => page_ptr a0 a1 s a2 t0 t1 x0 x1 h w)
  have CB := Lib.hid (fun s w => rbase_any a1 s x0 x1 w)
  have CO := Lib.hid (fun s w => roff_any a2 s o0 o1 w)
  have SB := Lib.hid (fun s h => sum_bd a1 s a2 x0 x1 h)
  have hE : 512 ≤ entI a0 ∧ entI a0 ≤ 65536 := by rcases ent_or a0 with ⟨h, e⟩ | ⟨h, e⟩ | ⟨h, e⟩ | ⟨h, e⟩ | ⟨h, e⟩ | ⟨h, e⟩ | ⟨h, e⟩ | ⟨h, e⟩ <;> rw [e] <;> decide
  cases hs : splitB a0
  · have K := Lib.hid (fun s h => known a0 a1 s t0 t1 x0 h hs)
    rw [hs] at CS
    clear hs
    have hd := div_mul_bd a0 (16 * entI a0) t0 (by omega)
    generalize entI a0 = n at *
    have hn : 16 * n ≠ 0 := by omega
    go_enter Try.func4, Try.ntmps4
    go_wp2_with (first | (go_at_call 11; refine (CE.out _).mono ?_; rintro e w' ⟨rfl, rfl⟩) | (go_at_call 13; refine (CS.out _).mono ?_; rintro e w' ⟨rfl, rfl⟩))
    generalize a0 / (16 * n) * (16 * n) = B at *
    go_loopw [11, 12, 13, 14, 15] (fun i _ _ _ _ wr => ∃ j : Nat, j ≤ 2 ∧ i = .int .i64 (j : Int) ∧ Below w.heap.size w wr) (fun i _ _ _ _ _ => (2 - intOf i).toNat)
    case atStart => exact ⟨0, by omega, rfl, Below.refl _ _⟩
    case round =>
      obtain ⟨j, hj, rfl, hB⟩ := hrel
      by_cases hlt : (j : Int) < 2
      · have hi : isB (j : Int) = true := isB_mk (by omega)
        obtain ⟨k1, k2, k3, k4⟩ := K.out _ hi
        obtain ⟨l1, l2, l3, l4, l5⟩ := SB.out _ hi
        have DP := Lib.hid (CP.out _ hi)
        have DQ := Lib.hid (CQ.out _ hi)
        have DB := Lib.hid (CB.out (j : Int))
        have DO := Lib.hid (CO.out (j : Int))
        clear hi
        generalize ptrI a0 a1 (j : Int) = p at *
        generalize baseI a1 (j : Int) = y at *
        generalize offI a2 (j : Int) = z at *
        go_wp2_with (first | (go_at_call 8; first | (with_reducible refine (DP.out _).mono ?_; rintro e w' ⟨rfl, h1⟩) | (with_reducible refine (DQ.out _).mono ?_; rintro e w' ⟨rfl, h2⟩)) | (go_at_call 15; refine (DB.out _).mono ?_; rintro e w' ⟨rfl, m, rfl⟩) | (go_at_call 16; refine (DO.out _).mono ?_; rintro e w' ⟨rfl, rfl⟩))
        go_roundw
        case rel =>
          have k1 := below_drewN (hB.trans (h1.mono hB.size)) m
          exact ⟨j + 1, by omega, by go_num, k1.trans (h2.mono k1.size)⟩
        case measure => simp [intOf]; omega
      · go_wp2_with (go_at_call 14; refine (qlives_any _).mono ?_; rintro e w' ⟨rfl, h3⟩)
        go_ret
        exact ⟨rfl, hB.trans (h3.mono hB.size)⟩
  · have K := Lib.hid (fun s h => knownS a0 a1 s t0 t1 x0 h hs)
    rw [hs] at CS
    clear hs
    have hd := div_mul_bd a0 (32 * entI a0) t0 (by omega)
    generalize entI a0 = n at *
    have hn : 32 * n ≠ 0 := by omega
    go_enter Try.func4, Try.ntmps4
    go_wp2_with (first | (go_at_call 11; refine (CE.out _).mono ?_; rintro e w' ⟨rfl, rfl⟩) | (go_at_call 13; refine (CS.out _).mono ?_; rintro e w' ⟨rfl, rfl⟩))
    generalize a0 / (32 * n) * (32 * n) = B at *
    go_loopw [11, 12, 13, 14, 15] (fun i _ _ _ _ wr => ∃ j : Nat, j ≤ 2 ∧ i = .int .i64 (j : Int) ∧ Below w.heap.size w wr) (fun i _ _ _ _ _ => (2 - intOf i).toNat)
    case atStart => exact ⟨0, by omega, rfl, Below.refl _ _⟩
    case round =>
      obtain ⟨j, hj, rfl, hB⟩ := hrel
      by_cases hlt : (j : Int) < 2
      · have hi : isB (j : Int) = true := isB_mk (by omega)
        obtain ⟨k1, k2, k3, k4, k5⟩ := K.out _ hi
        obtain ⟨l1, l2, l3, l4, l5⟩ := SB.out _ hi
        have DP := Lib.hid (CP.out _ hi)
        have DQ := Lib.hid (CQ.out _ hi)
        have DB := Lib.hid (CB.out (j : Int))
        have DO := Lib.hid (CO.out (j : Int))
        clear hi
        generalize ptrI a0 a1 (j : Int) = p at *
        generalize baseI a1 (j : Int) = y at *
        generalize offI a2 (j : Int) = z at *
        have k6 : (!decide (16 * n ≤ p - B) == ((j : Int) == 1)) = false := by
          by_cases hj1 : (j : Int) = 1
          · have := k5.2 hj1
            simp [hj1, this]
          · have : ¬ 16 * n ≤ p - B := fun h => hj1 (k5.1 h)
            simp [hj1, this]
        have K6 := Lib.hid k6
        clear k5 k6
        go_wp2_with (first | (go_at_call 8; first | (with_reducible refine (DP.out _).mono ?_; rintro e w' ⟨rfl, h1⟩) | (with_reducible refine (DQ.out _).mono ?_; rintro e w' ⟨rfl, h2⟩)) | (go_at_call 15; refine (DB.out _).mono ?_; rintro e w' ⟨rfl, m, rfl⟩) | (go_at_call 16; refine (DO.out _).mono ?_; rintro e w' ⟨rfl, rfl⟩))
        all_goals try (rename_i hx; exact absurd (hx.symm.trans K6.out) (by decide))
        go_roundw
        case rel =>
          have k1 := below_drewN (hB.trans (h1.mono hB.size)) m
          exact ⟨j + 1, by omega, by go_num, k1.trans (h2.mono k1.size)⟩
        case measure => simp [intOf]; omega
      · go_wp2_with (go_at_call 14; refine (qlives_any _).mono ?_; rintro e w' ⟨rfl, h3⟩)
        go_ret
        exact ⟨rfl, hB.trans (h3.mono hB.size)⟩

/-! ### The row -/
set_option maxRecDepth 100000 in
theorem lifted (os : Os) (started : os.Started) (H : Type) (enc : TypeId × Value → H) :
    ReturnsInHanded {} Try.checked os 4 .any (Rows.pointInSpec.pre6 enc Try.prog Try.f4 Rows.pointInRow.domain false) (Rows.pointInSpec.post enc Try.prog Try.f4 false true false false) := by
  refine returnsInHanded_of_change (C := Try.checked) own started (by kernel_rfl) Try.func4
    (ChangeSpec.witness6 (enc := enc) (C := Try.checked) false ⟨#[], #[.int .u64 0, .int .u64 0, .int .u64 0], []⟩ 8 (by kernel_rfl) (by kernel_rfl) (by kernel_rfl) (by kernel_rfl)) ?_
  intro W base args ds gs before hval0 hW hcnd _
  have hval : ∀ (j : Nat) t v, Try.f4.params[j]? = some t → args[j]? = some v → Value.okWide Try.prog W .any base t v := hval0
  have hW' := hW
  obtain ⟨p, q, hA0, hV, rfl, hfz, hnd⟩ := hW
  have hA : DataW.TrodAll enc Try.prog W 0 (fun _ => true) true Try.f4.params.toList args.toList ds p := hA0
  rw [Try.params4] at hA hval
  obtain ⟨v0, vs0, d0, ds0, p0, q0, hargs, rfl, rfl, h0, r0⟩ := trodAll_cons hA
  obtain ⟨v1, vs1, d1, ds1, p1, q1, rfl, rfl, rfl, h1, r1⟩ := trodAll_cons r0
  obtain ⟨v2, vs2, d2, ds2, p2, q2, rfl, rfl, rfl, h2, r2⟩ := trodAll_cons r1
  obtain ⟨rfl, rfl, rfl⟩ := trodAll_nil r2
  obtain rfl : args = #[v0, v1, v2] := by cases args; simp_all
  obtain ⟨rfl, rfl⟩ := trodVars_none hV
  obtain ⟨a0, rfl, rfl, rfl, w0⟩ := open_int Try.underlying22 (hval 0 22 v0 rfl rfl) h0
  obtain ⟨a1, rfl, rfl, rfl, w1⟩ := open_int Try.underlying22 (hval 1 22 v1 rfl rfl) h1
  obtain ⟨a2, rfl, rfl, rfl, w2⟩ := open_int Try.underlying22 (hval 2 22 v2 rfl rfl) h2
  clear hA0 hval0
  simp only [List.append_nil] at hW'
  refine (walk a0 a1 a2 w0 w1 w2 W).mono fun e W' ⟨he, hg⟩ => ?_
  subst he
  exact ⟨_, rfl, _, _, _, [], [], [], hW', trodAll_mk1 (shut_bool Try.underlying4 _), (trodAll_cons_mk (shut_int Try.underlying22 w0) (trodAll_cons_mk (shut_int Try.underlying22 w1) (trodAll_cons_mk (shut_int Try.underlying22 w2) trodAll_mk0))), rfl, hg.frame _, fun h => by cases h⟩

theorem over : Rows.pointInRow.holds Try.pinned (OpenSpec.ofChange Rows.pointInSpec) :=
  OpenClaim.holds_of_wide 4 Try.f4 rfl rfl rfl rfl rfl rfl rfl ⟨rfl, rfl, rfl, rfl, rfl⟩ rfl rfl rfl rfl rfl (by kernel_rfl) Try.func4 (by kernel_rfl)
    (of_decide_eq_true (by kernel_rfl)) (by unfold Func.isWrapper; first | (rw [if_pos (by decide +kernel)]; kernel_rfl) | (rw [if_neg (by decide +kernel)]; exact ⟨rfl, rfl⟩))
    (fun os started H enc _ => lifted os started H enc)

theorem proved : Rows.PointInSaid :=
  over
#print axioms proved
end Go.Proofs.Ytjnmipcjmeifoaa.pointIn
