/-
  Contracts of New and may of package memory. Conditions: words are below 2 to the 64.
-/
import Derived.Test.YtmhgofhclckdpaaMCall
namespace Go.Proofs.Ytmhgofhclckdpaa.Mem
open Go.ChangeShapes Go.WideShapes Go.ChangeAt Go.RowKit Go.Maps
set_option maxHeartbeats 400000
/-- The error of n bytes at an address that must be a multiple of st. -/
def mayI (S a st n : Int) : Int := if a % st ≠ 0 then 4 else if 0 < n ∧ (S ≤ a ∨ S - a < n) then 5 else 0
theorem may_any (sb : Nat) (S a st n : Int) (w : World) (hS0 : 0 ≤ S) (hS1 : S ≤ 2199023255552) (h0 : 0 ≤ a) (h1 : a < 18446744073709551616) (hst : 0 < st) (hst1 : st ≤ 16) (n0 : 0 ≤ n) (n1 : n < 18446744073709551616)
    (c0 : w.cell? ⟨sb, 0, none⟩ = some (.int .u64 S)) :
    Calls Try.prog 22 #[.pointer (some ⟨sb, 0, none⟩), .int .u64 a, .int .u64 st, .int .u64 n] w fun e w' => e = .returned (.int .i64 (mayI S a st n)) ∧ w = w' := by
  have m0 : 0 ≤ a % st := Int.emod_nonneg _ (by omega)
  have m1 : a % st < st := Int.emod_lt_of_pos _ hst
  by_cases c1 : a % st = 0
  · by_cases c2 : 0 < n
    · by_cases c3 : S ≤ a
      · have M := Lib.hid (show mayI S a st n = 5 by unfold mayI; rw [if_neg (by omega), if_pos (by omega)])
        go_enter Try.func22, Try.ntmps22
        go_wp2
        go_ret
        exact ⟨ret_int M.out.symm, rfl⟩
      · by_cases c4 : S - a < n
        · have M := Lib.hid (show mayI S a st n = 5 by unfold mayI; rw [if_neg (by omega), if_pos (by omega)])
          go_enter Try.func22, Try.ntmps22
          go_wp2
          go_ret
          exact ⟨ret_int M.out.symm, rfl⟩
        · have M := Lib.hid (show mayI S a st n = 0 by unfold mayI; rw [if_neg (by omega), if_neg (by omega)])
          go_enter Try.func22, Try.ntmps22
          go_wp2
          go_ret
          exact ⟨ret_int M.out.symm, rfl⟩
    · have M := Lib.hid (show mayI S a st n = 0 by unfold mayI; rw [if_neg (by omega), if_neg (by omega)])
      have c3 : n = 0 := by omega
      subst c3
      go_enter Try.func22, Try.ntmps22
      go_wp2
      go_ret
      exact ⟨ret_int M.out.symm, rfl⟩
  · have M := Lib.hid (show mayI S a st n = 4 by unfold mayI; rw [if_pos c1])
    go_enter Try.func22, Try.ntmps22
    go_wp2
    go_ret
    exact ⟨ret_int M.out.symm, rfl⟩
theorem new_mem (w : World) (n : Nat) (hn : n ≤ 2199023255552) : MemAt ((w.alloc (Obj.map #[] 0)).alloc (.cells #[.int .u64 (n : Int), .map (some w.heap.size), .int .i64 0] 56)) (w.heap.size + 1) w.heap.size n (fun _ => 0) where
  row := ⟨0, by omega, by
    have := heap_alloc_new (w.alloc (Obj.map #[] 0)) (.cells #[.int .u64 (n : Int), .map (some w.heap.size), .int .i64 0] 56)
    simpa using this⟩
  words := ⟨.map [], ((World.ownsMap_made _ _ _ _).alloc _).mono (by simp [Maps.size]), MapIs.empty⟩
  good := ⟨hn, fun _ => by decide, fun _ _ => rfl⟩
theorem new_any (s : Int) (h0 : 0 ≤ s) (h1 : s < 18446744073709551616) (w : World) :
    Calls Try.prog 8 #[.int .u64 s] w fun e w' => e = .returned (.pointer (some ⟨w.heap.size + 1, 0, none⟩)) ∧ MemAt w' (w.heap.size + 1) w.heap.size (min s 2199023255552).toNat (fun _ => 0) ∧ Below w.heap.size w w' := by
  have hmm := @run_makeMap Try.prog
  by_cases c : s ≤ 2199023255552
  · have M := new_mem w s.toNat (by omega)
    rw [Int.toNat_of_nonneg h0] at M
    have E := Lib.hid (show (min s 2199023255552).toNat = s.toNat by omega)
    go_enter Try.func8, Try.ntmps8
    go_wp2
    all_goals (try (exfalso; omega))
    go_ret
    exact ⟨rfl, by rw [E.out]; exact M, ((Below.refl _ _).alloc (Nat.le_refl _) _).alloc (by simp) _⟩
  · have M := new_mem w 2199023255552 (by omega)
    have E := Lib.hid (show (min s 2199023255552).toNat = 2199023255552 by omega)
    go_enter Try.func8, Try.ntmps8
    go_wp2
    all_goals (try (exfalso; omega))
    go_ret
    exact ⟨rfl, by rw [E.out]; exact M, ((Below.refl _ _).alloc (Nat.le_refl _) _).alloc (by simp) _⟩
end Go.Proofs.Ytmhgofhclckdpaa.Mem
