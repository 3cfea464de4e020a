/-
  Contracts of package fault's May, Judge, lets, isFault and Worse, and of the document's Judge and Worse. Conditions: none.
-/
import Derived.Test.YtfkbloclogeacaaDoorJMath
namespace Go.Proofs.YtfkbloclogeacaaDoor.Jd
open Fld
open Go.ChangeShapes Go.WideShapes Go.ChangeAt Go.RowKit
set_option maxHeartbeats 1000000
set_option maxRecDepth 100000
theorem isFault_any (n : Int) (w : World) :
    Calls Tryd.prog 33 #[.int .i64 n] w fun e w' => e = .returned (.bool (isF n)) ∧ w = w' := by
  have H := Lib.hid (show isF n = decide (0 < n ∧ n < 7) from rfl)
  by_cases h1 : 0 < n
  · by_cases h2 : n < 7
    · go_enter Tryd.func33, Tryd.ntmps33
      go_wp2
      go_ret
      exact ⟨ret_bool (by rw [H.out]; simp; omega), rfl⟩
    · go_enter Tryd.func33, Tryd.ntmps33
      go_wp2
      go_ret
      exact ⟨ret_bool (by rw [H.out]; simp; omega), rfl⟩
  · go_enter Tryd.func33, Tryd.ntmps33
    go_wp2
    go_ret
    exact ⟨ret_bool (by rw [H.out]; simp; omega), rfl⟩
theorem jmay_any (x : Acc) (w : World) :
    Calls Tryd.prog 10 #[.agg #[.int .i64 x.kind, .bool x.priv, .int .u64 x.va]] w fun e w' => e = .returned (.bool (mayA x.kind)) ∧ Below w.heap.size w w' := by
  obtain ⟨k, p, v⟩ := x
  dsimp only
  have H := Lib.hid (show mayA k = decide (0 ≤ k ∧ k < 4) from rfl)
  by_cases h1 : 0 ≤ k
  · by_cases h2 : k < 4
    · go_enter Tryd.func10, Tryd.ntmps10
      go_wp2
      go_ret
      exact ⟨ret_bool (by rw [H.out]; simp; omega), (Below.refl _ _).alloc (Nat.le_refl _) _⟩
    · go_enter Tryd.func10, Tryd.ntmps10
      go_wp2
      go_ret
      exact ⟨ret_bool (by rw [H.out]; simp; omega), (Below.refl _ _).alloc (Nat.le_refl _) _⟩
  · go_enter Tryd.func10, Tryd.ntmps10
    go_wp2
    go_ret
    exact ⟨ret_bool (by rw [H.out]; simp; omega), (Below.refl _ _).alloc (Nat.le_refl _) _⟩
theorem judge_any (a : Att) (x : Acc) (w : World) :
    Calls Tryd.prog 11 #[.agg #[.bool a.write, .bool a.priv, .bool a.exec, .bool a.lock, .bool a.global, .bool a.quiet], .agg #[.int .i64 x.kind, .bool x.priv, .int .u64 x.va]] w fun e w' => e = .returned (.int .i64 (judgeI a x)) ∧ Below w.heap.size w w' := by
  have HJ := Lib.hid (show judgeI a x = if (a.priv && !x.priv) = true then 3 else if (a.quiet && x.kind != 3) = true then 4 else if (x.kind == 1 && !a.write) = true then 5 else if (x.kind == 2 && !a.exec) = true then 6 else 0 from rfl)
  generalize judgeI a x = J at *
  obtain ⟨wr, pr, ex, lk, gl, qu⟩ := a
  obtain ⟨k, p, v⟩ := x
  dsimp only at *
  go_enter Tryd.func11, Tryd.ntmps11
  go_wp2
  all_goals
    go_ret
    refine ⟨ret_int ?_, ((Below.refl _ _).alloc (Nat.le_refl _) _).alloc (by simp) _⟩
    rw [HJ.out]; simp_all
theorem rjudge_any (a : Att) (x : Acc) (w : World) :
    Calls Tryd.prog 12 #[.agg #[.bool a.write, .bool a.priv, .bool a.exec, .bool a.lock, .bool a.global, .bool a.quiet], .agg #[.int .i64 x.kind, .bool x.priv, .int .u64 x.va]] w fun e w' => e = .returned (.int .i64 (judgeI a x)) ∧ Below w.heap.size w w' := by
  have HJ := Lib.hid (show judgeI a x = if (a.priv && !x.priv) = true then 3 else if (a.quiet && x.kind != 3) = true then 4 else if (x.kind == 1 && !a.write) = true then 5 else if (x.kind == 2 && !a.exec) = true then 6 else 0 from rfl)
  generalize judgeI a x = J at *
  obtain ⟨wr, pr, ex, lk, gl, qu⟩ := a
  obtain ⟨k, p, v⟩ := x
  dsimp only at *
  go_enter Tryd.func12, Tryd.ntmps12
  go_wp2
  all_goals
    go_ret
    refine ⟨ret_int ?_, ((Below.refl _ _).alloc (Nat.le_refl _) _).alloc (by simp) _⟩
    rw [HJ.out]; simp_all
theorem lets_any (a : Att) (x : Acc) (w : World) :
    Calls Tryd.prog 34 #[.agg #[.bool a.write, .bool a.priv, .bool a.exec, .bool a.lock, .bool a.global, .bool a.quiet], .agg #[.int .i64 x.kind, .bool x.priv, .int .u64 x.va]] w fun e w' => e = .returned (.bool (letsB a x)) ∧ Below w.heap.size w w' := by
  have C := Lib.hid (fun W => judge_any a x W)
  have H := Lib.hid (show letsB a x = (judgeI a x == 0) from rfl)
  generalize judgeI a x = J at *
  generalize letsB a x = L at *
  go_enter Tryd.func34, Tryd.ntmps34
  go_wp2_with fail
  refine (C.out _).mono ?_; rintro r w1 ⟨rfl, hb⟩
  go_wp2_with fail
  go_ret
  exact ⟨ret_bool H.out.symm, (((Below.refl _ _).alloc (Nat.le_refl _) _).alloc (by simp) _).trans (hb.mono (by simp; omega))⟩
theorem worse_any (a b : Int) (w : World) :
    Calls Tryd.prog 22 #[.int .i64 a, .int .i64 b] w fun e w' => e = .returned (.int .i64 (worseI a b)) ∧ w = w' := by
  have HW := Lib.hid (show worseI a b = if isF b = true ∧ (isF a = false ∨ b < a) then b else a from rfl)
  have C1 := Lib.hid (fun W => isFault_any b W)
  have C2 := Lib.hid (fun W => isFault_any a W)
  generalize worseI a b = V at *
  cases h1 : isF b
  · rw [h1] at HW C1
    go_enter Tryd.func22, Tryd.ntmps22
    go_wp2_with (go_at_call 33; refine (C1.out _).mono ?_; rintro r w1 ⟨rfl, rfl⟩)
    go_ret
    refine ⟨ret_int ?_, rfl⟩
    rw [HW.out]; simp
  · cases h2 : isF a
    · rw [h1, h2] at HW
      rw [h1] at C1
      rw [h2] at C2
      go_enter Tryd.func22, Tryd.ntmps22
      go_wp2_with (first | (go_at_call 33; (with_reducible refine (C1.out _).mono ?_); rintro r w1 ⟨rfl, rfl⟩) | (go_at_call 33; (with_reducible refine (C2.out _).mono ?_); rintro r w1 ⟨rfl, rfl⟩))
      go_ret
      refine ⟨ret_int ?_, rfl⟩
      rw [HW.out]; simp
    · rw [h1, h2] at HW
      rw [h1] at C1
      rw [h2] at C2
      by_cases h3 : b < a
      · go_enter Tryd.func22, Tryd.ntmps22
        go_wp2_with (first | (go_at_call 33; (with_reducible refine (C1.out _).mono ?_); rintro r w1 ⟨rfl, rfl⟩) | (go_at_call 33; (with_reducible refine (C2.out _).mono ?_); rintro r w1 ⟨rfl, rfl⟩))
        go_ret
        refine ⟨ret_int ?_, rfl⟩
        rw [HW.out, if_pos ⟨trivial, .inr h3⟩]
      · go_enter Tryd.func22, Tryd.ntmps22
        go_wp2_with (first | (go_at_call 33; (with_reducible refine (C1.out _).mono ?_); rintro r w1 ⟨rfl, rfl⟩) | (go_at_call 33; (with_reducible refine (C2.out _).mono ?_); rintro r w1 ⟨rfl, rfl⟩))
        go_ret
        refine ⟨ret_int ?_, rfl⟩
        rw [HW.out, if_neg (fun h => absurd (h.2.resolve_left (by simp)) (by omega))]
theorem rworse_any (a b : Int) (w : World) :
    Calls Tryd.prog 23 #[.int .i64 a, .int .i64 b] w fun e w' => e = .returned (.int .i64 (worseI a b)) ∧ w = w' := by
  have HW := Lib.hid (show worseI a b = if isF b = true ∧ (isF a = false ∨ b < a) then b else a from rfl)
  have F1 := Lib.hid (show isF b = decide (0 < b ∧ b < 7) from rfl)
  have F2 := Lib.hid (show isF a = decide (0 < a ∧ a < 7) from rfl)
  generalize worseI a b = V at *
  generalize isF a = A at *
  generalize isF b = B at *
  go_enter Tryd.func23, Tryd.ntmps23
  go_wp2
  all_goals
    go_ret
    refine ⟨ret_int ?_, rfl⟩
    have f1 := F1.out
    have f2 := F2.out
    rw [HW.out, f1, f2]
    simp only [decide_eq_true_eq, decide_eq_false_iff_not]
    split <;> omega
end Go.Proofs.YtfkbloclogeacaaDoor.Jd
