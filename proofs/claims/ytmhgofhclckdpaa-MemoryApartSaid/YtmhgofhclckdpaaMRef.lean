/-
  Contracts of New and May of the document's answer for memory. Conditions: words are below 2 to the 64.
-/
import Derived.Test.YtmhgofhclckdpaaMCp2
namespace Go.Proofs.Ytmhgofhclckdpaa.Mem
open Go.ChangeShapes Go.WideShapes Go.ChangeAt Go.RowKit Go.Maps
set_option maxHeartbeats 400000
theorem rnew_any (s : Int) (h0 : 0 ≤ s) (h1 : s ≤ 2199023255552) (w : World) :
    Calls Try.prog 13 #[.int .u64 s] w fun e w' => e = .returned (.agg #[.int .u64 s, .slice none 0 0]) ∧ Below w.heap.size w w' := by
  go_enter Try.func13, Try.ntmps13
  go_wp2
  all_goals (try (exfalso; omega))
  exact bodyPost_ret (v := .agg #[.int .u64 s, .slice none 0 0]) (by simp [results, Try.results13, go_sem]) rfl ⟨rfl, (Below.refl _ _).alloc (Nat.le_refl _) _⟩
theorem rmay_any (S a n st : Int) (v : Value) (w : World) (hS0 : 0 ≤ S) (hS1 : S ≤ 2199023255552) (h0 : 0 ≤ a) (h1 : a < 18446744073709551616) (hst : 0 < st) (hst1 : st ≤ 16) (n0 : 0 ≤ n) (n1 : n < 18446744073709551616) (hv : ∃ ao l c, v = .slice ao l c) :
    Calls Try.prog 15 #[.agg #[.int .u64 S, v], .int .u64 a, .int .u64 n, .int .u64 st] w fun e w' => e = .returned (.int .i64 (mayI S a st n)) ∧ Below w.heap.size w w' := by
  obtain ⟨ao, l, c, rfl⟩ := hv
  have m0 : 0 ≤ a % st := Int.emod_nonneg _ (by omega)
  have m1 : a % st < st := Int.emod_lt_of_pos _ hst
  have hb : ∀ o : Obj, Below w.heap.size w (w.alloc o) := fun o => (Below.refl _ _).alloc (Nat.le_refl _) _
  by_cases c1 : a % st = 0
  · by_cases c2 : 0 < n
    · by_cases c3 : S ≤ a
      · have M := Lib.hid (show mayI S a st n = 5 by unfold mayI; rw [if_neg (by omega), if_pos (by omega)])
        go_enter Try.func15, Try.ntmps15
        go_wp2
        go_ret
        exact ⟨ret_int M.out.symm, hb _⟩
      · by_cases c4 : S < n
        · have M := Lib.hid (show mayI S a st n = 5 by unfold mayI; rw [if_neg (by omega), if_pos (by omega)])
          go_enter Try.func15, Try.ntmps15
          go_wp2
          go_ret
          exact ⟨ret_int M.out.symm, hb _⟩
        · by_cases c5 : S - n < a
          · have M := Lib.hid (show mayI S a st n = 5 by unfold mayI; rw [if_neg (by omega), if_pos (by omega)])
            go_enter Try.func15, Try.ntmps15
            go_wp2
            go_ret
            exact ⟨ret_int M.out.symm, hb _⟩
          · have M := Lib.hid (show mayI S a st n = 0 by unfold mayI; rw [if_neg (by omega), if_neg (by omega)])
            go_enter Try.func15, Try.ntmps15
            go_wp2
            go_ret
            exact ⟨ret_int M.out.symm, hb _⟩
    · have M := Lib.hid (show mayI S a st n = 0 by unfold mayI; rw [if_neg (by omega), if_neg (by omega)])
      have c3 : n = 0 := by omega
      subst c3
      go_enter Try.func15, Try.ntmps15
      go_wp2
      go_ret
      exact ⟨ret_int M.out.symm, hb _⟩
  · have M := Lib.hid (show mayI S a st n = 4 by unfold mayI; rw [if_pos c1])
    go_enter Try.func15, Try.ntmps15
    go_wp2
    go_ret
    exact ⟨ret_int M.out.symm, hb _⟩
end Go.Proofs.Ytmhgofhclckdpaa.Mem
