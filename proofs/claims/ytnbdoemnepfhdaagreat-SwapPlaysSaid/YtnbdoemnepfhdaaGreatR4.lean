/-
  Contracts and plain facts: Page, PRef. Conditions: each says its own.
-/
import Derived.Test.YtnbdoemnepfhdaaGreatR3
import Derived.Test.YtnbdoemnepfhdaaGreatR1
import Derived.Lib.MinMax
namespace Go.Proofs.YtnbdoemnepfhdaaGreat.Fld
open Go.ChangeShapes Go.WideShapes Go.ChangeAt Go.RowKit
set_option maxHeartbeats 400000
theorem same_sym {P : Program} {f : FuncId} {args : Array Value} {w : World} {v : Value} (h : Calls P f args w fun e w' => e = .returned v ∧ w = w') : Calls P f args w fun e w' => e = .returned v ∧ w' = w :=
  h.mono fun _ _ ⟨a, b⟩ => ⟨a, b.symm⟩
theorem pmay_any (s : Int) (w : World) :
    Calls Tryz.prog 67 #[.int .i64 s] w fun e w' => e = .returned (.bool (sizeB s)) ∧ w = w' := by
  by_cases h0 : 0 ≤ s
  · by_cases h1 : s < 4
    · have H := Lib.hid (show sizeB s = true from sizeB_mk (by omega))
      go_enter Tryz.func67, Tryz.ntmps67
      go_wp2
      go_ret
      exact ⟨ret_bool H.out.symm, rfl⟩
    · have H := Lib.hid (show sizeB s = false by simp only [sizeB, decide_eq_false_iff_not]; omega)
      go_enter Tryz.func67, Tryz.ntmps67
      go_wp2
      go_ret
      exact ⟨ret_bool H.out.symm, rfl⟩
  · have H := Lib.hid (show sizeB s = false by simp only [sizeB, decide_eq_false_iff_not]; omega)
    go_enter Tryz.func67, Tryz.ntmps67
    go_wp2
    go_ret
    exact ⟨ret_bool H.out.symm, rfl⟩
theorem rpmay_any (s : Int) (w : World) :
    Calls Tryz.prog 73 #[.int .i64 s] w fun e w' => e = .returned (.bool (sizeB s)) ∧ w = w' := by
  by_cases h0 : 0 ≤ s
  · by_cases h1 : s ≤ 3
    · have H := Lib.hid (show sizeB s = true from sizeB_mk (by omega))
      go_enter Tryz.func73, Tryz.ntmps73
      go_wp2
      go_ret
      exact ⟨ret_bool H.out.symm, rfl⟩
    · have H := Lib.hid (show sizeB s = false by simp only [sizeB, decide_eq_false_iff_not]; omega)
      go_enter Tryz.func73, Tryz.ntmps73
      go_wp2
      go_ret
      exact ⟨ret_bool H.out.symm, rfl⟩
  · have H := Lib.hid (show sizeB s = false by simp only [sizeB, decide_eq_false_iff_not]; omega)
    go_enter Tryz.func73, Tryz.ntmps73
    go_wp2
    go_ret
    exact ⟨ret_bool H.out.symm, rfl⟩
theorem rbytes_any (s : Int) (w : World) :
    Calls Tryz.prog 86 #[.int .i64 s] w fun e w' => e = .returned (.int .u64 (bytesI s)) ∧ w = w' := by
  cases h : sizeB s
  · have H := Lib.hid (bytes_none h)
    have hs := sizeB_false h
    have h0 : (s == 0) = false := beq_eq_false_iff_ne.2 (by omega)
    have h1 : (s == 1) = false := beq_eq_false_iff_ne.2 (by omega)
    have h2 : (s == 2) = false := beq_eq_false_iff_ne.2 (by omega)
    have h3 : (s == 3) = false := beq_eq_false_iff_ne.2 (by omega)
    clear hs h
    go_enter Tryz.func86, Tryz.ntmps86
    go_wp2
    go_ret
    exact ⟨ret_int H.out.symm, rfl⟩
  · rcases sizeB_true h with rfl | rfl | rfl | rfl <;>
      (clear h
       go_enter Tryz.func86, Tryz.ntmps86
       go_wp2
       go_ret
       exact ⟨rfl, rfl⟩)
theorem bits_any (s : Int) (w : World) :
    Calls Tryz.prog 104 #[.int .i64 s] w fun e w' => e = .returned (.int .i64 (bitsI s)) ∧ w = w' := by
  cases h : sizeB s
  · have H := Lib.hid (bits_none h)
    go_enter Tryz.func104, Tryz.ntmps104
    go_wp2_with (go_at_call 67; refine (pmay_any _ _).mono ?_; rintro e w' ⟨rfl, rfl⟩)
    go_ret
    exact ⟨ret_int H.out.symm, rfl⟩
  · have H := Lib.hid (show bitsI s = 13 + 3 * s by unfold bitsI; rw [if_pos h])
    have hb : 0 ≤ s ∧ s ≤ 3 := by have := sizeB_true h; omega
    go_enter Tryz.func104, Tryz.ntmps104
    go_wp2_with (go_at_call 67; refine (pmay_any _ _).mono ?_; rintro e w' ⟨rfl, rfl⟩)
    go_ret
    exact ⟨ret_int H.out.symm, rfl⟩
theorem bytes_any (s : Int) (w : World) :
    Calls Tryz.prog 66 #[.int .i64 s] w fun e w' => e = .returned (.int .u64 (bytesI s)) ∧ w = w' := by
  cases h : sizeB s
  · have H := Lib.hid (bytes_none h)
    go_enter Tryz.func66, Tryz.ntmps66
    go_wp2_with (go_at_call 67; refine (pmay_any _ _).mono ?_; rintro e w' ⟨rfl, rfl⟩)
    go_ret
    exact ⟨ret_int H.out.symm, rfl⟩
  · have H := Lib.hid (mask_bytes h)
    go_enter Tryz.func66, Tryz.ntmps66
    go_wp2_with (first | (go_at_call 67; refine (pmay_any _ _).mono ?_; rintro e w' ⟨rfl, rfl⟩) | (go_at_call 104; refine (bits_any _ _).mono ?_; rintro e w' ⟨rfl, rfl⟩) | (go_at_call 103; refine (mask_any _ _ _).mono ?_; rintro e w' ⟨rfl, rfl⟩))
    go_ret
    exact ⟨ret_int H.out, rfl⟩
theorem base_any (x s : Int) (x0 : 0 ≤ x) (x1 : x ≤ 18446744073709551615) (w : World) :
    Calls Tryz.prog 131 #[.int .u64 x, .int .i64 s] w fun e w' => e = .returned (.int .u64 (baseI x s)) ∧ w = w' := by
  cases h : sizeB s
  · have H := Lib.hid (show baseI x s = 0 by unfold baseI; rw [h]; rfl)
    go_enter Tryz.func131, Tryz.ntmps131
    go_wp2_with (go_at_call 67; refine (pmay_any _ _).mono ?_; rintro e w' ⟨rfl, rfl⟩)
    go_ret
    exact ⟨ret_int H.out.symm, rfl⟩
  · have H := Lib.hid (put_base h x0 x1)
    go_enter Tryz.func131, Tryz.ntmps131
    go_wp2_with (first | (go_at_call 67; refine (pmay_any _ _).mono ?_; rintro e w' ⟨rfl, rfl⟩) | (go_at_call 104; refine (bits_any _ _).mono ?_; rintro e w' ⟨rfl, rfl⟩) | (go_at_call 105; refine (put_any _ _ _ _ x0 x1 (by omega) (by omega) _).mono ?_; rintro e w' ⟨rfl, rfl⟩))
    go_ret
    exact ⟨ret_int H.out, rfl⟩
theorem off_any (x s : Int) (x0 : 0 ≤ x) (x1 : x ≤ 18446744073709551615) (w : World) :
    Calls Tryz.prog 141 #[.int .u64 x, .int .i64 s] w fun e w' => e = .returned (.int .u64 (offI x s)) ∧ ∃ n, w' = w.drewN n := by
  have H := Lib.hid (get_off (s := s) x0)
  go_enter Tryz.func141, Tryz.ntmps141
  go_wp2_with (first | (go_at_call 104; refine (bits_any _ _).mono ?_; rintro e w' ⟨rfl, rfl⟩) | (go_at_call 123; refine (get_any _ _ _ x0 x1 _).mono ?_; rintro e w' ⟨rfl, n, rfl⟩))
  go_ret
  exact ⟨ret_int H.out, n, rfl⟩
theorem starts_any (x s : Int) (x0 : 0 ≤ x) (x1 : x ≤ 18446744073709551615) (w : World) :
    Calls Tryz.prog 134 #[.int .u64 x, .int .i64 s] w fun e w' => e = .returned (.bool (startsB x s)) ∧ ∃ n, w' = w.drewN n := by
  have H := Lib.hid (starts_walk x s)
  cases h : sizeB s
  · rw [h] at H
    go_enter Tryz.func134, Tryz.ntmps134
    go_wp2_with (go_at_call 67; refine (pmay_any _ _).mono ?_; rintro e w' ⟨rfl, rfl⟩)
    go_ret
    exact ⟨ret_bool H.out.symm, 0, rfl⟩
  · rw [h] at H
    go_enter Tryz.func134, Tryz.ntmps134
    go_wp2_with (first | (go_at_call 67; refine (pmay_any _ _).mono ?_; rintro e w' ⟨rfl, rfl⟩) | (go_at_call 141; refine (off_any _ _ x0 x1 _).mono ?_; rintro e w' ⟨rfl, n, rfl⟩))
    go_ret
    exact ⟨ret_bool H.out.symm, n, rfl⟩
theorem tag_any (x : Int) (x0 : 0 ≤ x) (x1 : x ≤ 18446744073709551615) (w : World) :
    Calls Tryz.prog 137 #[.int .u64 x] w fun e w' => e = .returned (.int .u64 (tagI x)) ∧ ∃ n, w' = w.drewN n := by
  have H := Lib.hid (get_tag x x0)
  go_enter Tryz.func137, Tryz.ntmps137
  go_wp2_with (go_at_call 123; refine (get_any _ _ _ x0 x1 _).mono ?_; rintro e w' ⟨rfl, n, rfl⟩)
  go_ret
  exact ⟨ret_int H.out, n, rfl⟩
theorem mask21_any (w : World) :
    Calls Tryz.prog 103 #[.int .i64 0, .int .i64 21] w fun e w' => e = .returned (.int .u64 2097151) ∧ w = w' :=
  (mask_any 0 21 w).mono fun _ _ ⟨a, b⟩ => ⟨a.trans (ret_int mask_21), b⟩
theorem hole_any (x : Int) (x0 : 0 ≤ x) (x1 : x ≤ 18446744073709551615) (w : World) :
    Calls Tryz.prog 109 #[.int .u64 x] w fun e w' => e = .returned (.bool (holeB x)) ∧ ∃ n, w' = w.drewN n := by
  have H := Lib.hid (hole_walk x x0 x1)
  go_enter Tryz.func109, Tryz.ntmps109
  go_wp2_with fail
  refine (get_any _ _ _ x0 x1 _).mono ?_
  rintro e w' ⟨rfl, n, rfl⟩
  generalize getI x 43 21 = g at *
  cases h : g != 0
  · rw [h, Bool.false_and] at H
    go_wp2
    go_ret
    exact ⟨ret_bool H.out.symm, n, rfl⟩
  · rw [h, Bool.true_and] at H
    go_wp2_with fail
    refine (mask21_any _).mono ?_
    rintro e w' ⟨rfl, rfl⟩
    go_wp2
    go_ret
    exact ⟨ret_bool H.out.symm, n, rfl⟩
end Go.Proofs.YtnbdoemnepfhdaaGreat.Fld

namespace Go.Proofs.YtnbdoemnepfhdaaGreat.Fld
open Go.ChangeShapes Go.WideShapes Go.ChangeAt Go.RowKit
set_option maxHeartbeats 400000
theorem rbase_any (x s : Int) (x0 : 0 ≤ x) (x1 : x ≤ 18446744073709551615) (w : World) :
    Calls Tryz.prog 53 #[.int .u64 x, .int .i64 s] w fun e w' => e = .returned (.int .u64 (baseI x s)) ∧ ∃ n, w' = w.drewN n := by
  cases h : sizeB s
  · have H := Lib.hid (show baseI x s = 0 by unfold baseI; rw [h]; rfl)
    go_enter Tryz.func53, Tryz.ntmps53
    go_wp2_with (go_at_call 73; refine (rpmay_any _ _).mono ?_; rintro e w' ⟨rfl, rfl⟩)
    go_ret
    exact ⟨ret_int H.out.symm, 0, rfl⟩
  · have H := Lib.hid (show baseI x s = x / bytesI s * bytesI s by unfold baseI; rw [if_pos h])
    have hb := bytes_pos h
    have hb2 := bytes_bd s
    have hd := div_mul_bd x (bytesI s) x0 (by omega)
    have hn : bytesI s ≠ 0 := by omega
    go_enter Tryz.func53, Tryz.ntmps53
    go_wp2_with (go_at_call 73; refine (rpmay_any _ _).mono ?_; rintro e w' ⟨rfl, rfl⟩)
    go_quiet ((go_at_call 86; exact Calls.quiet_of_same (same_sym (rbytes_any _ _))))
    go_wp2
    go_ret
    exact ⟨ret_int H.out.symm, _, rfl⟩
theorem rtag_any (x : Int) (x0 : 0 ≤ x) (x1 : x ≤ 18446744073709551615) (w : World) :
    Calls Tryz.prog 118 #[.int .u64 x] w fun e w' => e = .returned (.int .u64 (tagI x)) ∧ w = w' := by
  go_enter Tryz.func118, Tryz.ntmps118
  go_wp2
  go_ret
  exact ⟨rfl, rfl⟩
theorem rhole_any (x : Int) (x0 : 0 ≤ x) (x1 : x ≤ 18446744073709551615) (w : World) :
    Calls Tryz.prog 138 #[.int .u64 x] w fun e w' => e = .returned (.bool (holeB x)) ∧ w = w' := by
  have H := Lib.hid (hole_bits x x0 x1)
  go_enter Tryz.func138, Tryz.ntmps138
  go_wp2
  go_loop [3] (fun t => ∃ i : Int, 44 ≤ i ∧ i ≤ 64 ∧ t = .int .i64 i ∧ Hid (∀ j : Int, 44 ≤ j → j < i → bitI x j = bitI x 43)) (fun t => (64 - intOf t).toNat)
  case atStart => exact ⟨44, by omega, by omega, rfl, Lib.hid (fun j a b => by omega)⟩
  case round =>
    obtain ⟨i, hi0, hi1, rfl, HB⟩ := hrel
    by_cases hlt : i < 64
    · cases hq : bitI x i != bitI x 43
      · have hz := Lib.hid (show bitI x i = bitI x 43 by simpa using hq)
        go_wp2_with (go_at_call 87; refine (rbit_any _ _ (by omega) (by omega) (by omega) (by omega) _).mono ?_; rintro e w' ⟨rfl, rfl⟩)
        go_round
        case rel => exact ⟨i + 1, by omega, by omega, rfl, Lib.hid (fun j a b => by
          by_cases e : j = i
          · rw [e]; exact hz.out
          · exact HB.out j a (by omega))⟩
        case measure => simp [intOf]; omega
      · have hF := Lib.hid (show holeB x = true from H.out.2 ⟨i, hi0, hlt, bne_iff_ne.1 hq⟩)
        go_wp2_with (go_at_call 87; refine (rbit_any _ _ (by omega) (by omega) (by omega) (by omega) _).mono ?_; rintro e w' ⟨rfl, rfl⟩)
        go_ret
        exact ⟨ret_bool hF.out.symm, rfl⟩
    · have hF := Lib.hid (show holeB x = false by
        cases h : holeB x
        · rfl
        · obtain ⟨j, a, b, c⟩ := H.out.1 h
          exact absurd (HB.out j a (by omega)) c)
      go_wp2
      go_ret
      exact ⟨ret_bool hF.out.symm, rfl⟩
theorem rva_any (x : Int) (x0 : 0 ≤ x) (x1 : x ≤ 18446744073709551615) (w : World) :
    Calls Tryz.prog 54 #[.int .u64 x] w fun e w' => e = .returned (.int .u64 (vaI x)) ∧ w = w' := by
  have hb := bitI_bd x 43
  cases hq : bitI x 43 == 1
  · have H := Lib.hid (show vaI x = x % 8796093022208 by unfold vaI; rw [if_neg (by simpa using hq)])
    go_enter Tryz.func54, Tryz.ntmps54
    go_wp2_with (go_at_call 87; refine (rbit_any _ _ (by omega) (by omega) (by omega) (by omega) _).mono ?_; rintro e w' ⟨rfl, rfl⟩)
    go_ret
    exact ⟨ret_int H.out.symm, rfl⟩
  · have H := Lib.hid (show vaI x = x % 8796093022208 + 18446735277616529408 by unfold vaI; rw [if_pos (by simpa using hq)])
    go_enter Tryz.func54, Tryz.ntmps54
    go_wp2_with (go_at_call 87; refine (rbit_any _ _ (by omega) (by omega) (by omega) (by omega) _).mono ?_; rintro e w' ⟨rfl, rfl⟩)
    go_ret
    exact ⟨ret_int H.out.symm, rfl⟩
end Go.Proofs.YtnbdoemnepfhdaaGreat.Fld

