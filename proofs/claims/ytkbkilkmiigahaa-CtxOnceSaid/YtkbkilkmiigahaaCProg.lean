/-
  Contracts of Len, Free, Of, Owner, Hand, Rounds, has, behind of package ctx. Conditions: they read a pool that is there.
-/
import Derived.Test.YtkbkilkmiigahaaCState
namespace Go.Proofs.Ytkbkilkmiigahaa.Cx
open Fld
open Go.ChangeShapes Go.WideShapes Go.ChangeAt Go.RowKit Go.Maps
set_option maxHeartbeats 400000
section
variable {pb bm ob n h R : Nat} {T M : Nat → Int}
theorem len_any (w : World) (H : PoolRow w pb bm ob n T M h R) :
    Calls Try.prog 24 #[.pointer (some ⟨pb, 0, none⟩)] w fun e w' => e = .returned (.int .i64 (n : Int)) ∧ w = w' := by
  obtain ⟨c0, c1, c2, c3⟩ := H.cells
  go_enter Try.func24, Try.ntmps24
  go_wp2
  go_ret
  exact ⟨rfl, rfl⟩
theorem hand_any (w : World) (H : PoolRow w pb bm ob n T M h R) :
    Calls Try.prog 21 #[.pointer (some ⟨pb, 0, none⟩)] w fun e w' => e = .returned (.int .i64 (h : Int)) ∧ w = w' := by
  obtain ⟨c0, c1, c2, c3⟩ := H.cells
  go_enter Try.func21, Try.ntmps21
  go_wp2
  go_ret
  exact ⟨rfl, rfl⟩
theorem rounds_any (w : World) (H : PoolRow w pb bm ob n T M h R) :
    Calls Try.prog 20 #[.pointer (some ⟨pb, 0, none⟩)] w fun e w' => e = .returned (.int .i64 (R : Int)) ∧ w = w' := by
  obtain ⟨c0, c1, c2, c3⟩ := H.cells
  go_enter Try.func20, Try.ntmps20
  go_wp2
  go_ret
  exact ⟨rfl, rfl⟩
theorem free_any (w : World) (H : PoolRow w pb bm ob n T M h R) (ha : Apart n M) :
    Calls Try.prog 16 #[.pointer (some ⟨pb, 0, none⟩)] w fun e w' => e = .returned (.int .i64 (frN M n : Int)) ∧ ∃ m, w' = w.drewN m := by
  obtain ⟨c0, c1, c2, c3⟩ := H.cells
  have hl := fun m ty => (H.drewN m).m.len ha ty
  have hle := frN_le M n
  have hn := H.le
  obtain ⟨d, hd⟩ : ∃ d, n - frN M n = d := ⟨_, rfl⟩
  have E : (frN M n : Int) = (n : Int) - (d : Int) := by omega
  rw [hd] at hl
  have hdn : d ≤ n := by omega
  rw [E]
  clear E hd hle ha
  go_enter Try.func16, Try.ntmps16
  go_wp2
  go_quiet (fail)
  go_wp2
  go_ret
  exact ⟨rfl, _, rfl⟩
theorem has_any (w : World) (H : PoolRow w pb bm ob n T M h R) (x : Int) :
    Calls Try.prog 33 #[.pointer (some ⟨pb, 0, none⟩), .int .i64 x] w fun e w' => e = .returned (.bool (decide (1 ≤ x) && decide (x ≤ (n : Int)))) ∧ w = w' := by
  obtain ⟨c0, c1, c2, c3⟩ := H.cells
  by_cases h0 : 1 ≤ x
  · rw [decide_eq_true h0, Bool.true_and]
    by_cases h1 : x ≤ (n : Int)
    · have E := Lib.hid (show decide (x ≤ (n : Int)) = true by simp [h1])
      go_enter Try.func33, Try.ntmps33
      go_wp2
      go_ret
      exact ⟨ret_bool E.out.symm, rfl⟩
    · have E := Lib.hid (show decide (x ≤ (n : Int)) = false by simp [h1])
      go_enter Try.func33, Try.ntmps33
      go_wp2
      go_ret
      exact ⟨ret_bool E.out.symm, rfl⟩
  · have E := Lib.hid (show (decide (1 ≤ x) && decide (x ≤ (n : Int))) = false by simp [h0])
    go_enter Try.func33, Try.ntmps33
    go_wp2
    go_ret
    exact ⟨ret_bool E.out.symm, rfl⟩
theorem behind_cell (w : World) (c1 : w.cell? ⟨pb, 1, none⟩ = some (.slice (some ⟨ob, 0, none⟩) n n)) (hn : n ≤ 8191) (k : Nat) (k0 : 1 ≤ k) (k1 : k ≤ n) :
    Calls Try.prog 42 #[.pointer (some ⟨pb, 0, none⟩), .int .i64 (k : Int)] w fun e w' => e = .returned (.int .i64 ((k % n + 1 : Nat) : Int)) ∧ w = w' := by
  have e : ((k % n + 1 : Nat) : Int) = (k : Int) % (n : Int) + 1 := by rw [Int.natCast_add, Int.natCast_emod]; rfl
  have hm := Int.emod_lt_of_pos (k : Int) (show (0 : Int) < (n : Int) by omega)
  have hm0 := Int.emod_nonneg (k : Int) (show (n : Int) ≠ 0 by omega)
  have ht : Int.tmod (k : Int) (n : Int) = (k : Int) % (n : Int) := Int.tmod_eq_emod_of_nonneg (by omega)
  rw [e]
  clear e
  go_enter Try.func42, Try.ntmps42
  go_wp2
  go_ret
  exact ⟨rfl, rfl⟩
/-- A space's number, as a world tells it. -/
def Tells (n : Nat) (M : Nat → Int) (x : Int) (m : Nat) : Prop := (m = 0 ∧ ∀ i, i < n → 0 ≤ M i → M i ≠ x) ∨ (1 ≤ m ∧ m ≤ n ∧ M (m - 1) = x ∧ 0 ≤ x)
theorem of_any (w : World) (H : PoolRow w pb bm ob n T M h R) {x : Int} (h0 : -9223372036854775808 ≤ x) (h1 : x ≤ 9223372036854775807) {m : Nat} (hm : Tells n M x m) :
    Calls Try.prog 14 #[.pointer (some ⟨pb, 0, none⟩), .int .i64 x] w fun e w' => e = .returned (.tuple #[.int .i64 (m : Int), .bool (decide (m ≠ 0))]) ∧ w = w' := by
  obtain ⟨c0, c1, c2, c3⟩ := H.cells
  have hl := H.m.look h0 h1 hm
  generalize decide (m ≠ 0) = b at *
  generalize (m : Int) = k at *
  go_enter Try.func14, Try.ntmps14
  go_wp2
  go_ret2
  exact ⟨rfl, rfl⟩
theorem owner_any (w : World) (H : PoolRow w pb bm ob n T M h R) (hT : ∀ i, i < n → -1 ≤ T i ∧ T i ≤ 9223372036854775807) (x : Int) :
    Calls Try.prog 15 #[.pointer (some ⟨pb, 0, none⟩), .int .i64 x] w fun e w' => e = .returned (.tuple #[.int .i64 (Pl.ownI ⟨n, T, h, R⟩ x), .bool (Pl.ownB ⟨n, T, h, R⟩ x)]) ∧ w = w' := by
  obtain ⟨c0, c1, c2, c3⟩ := H.cells
  have HA := has_any w H x
  by_cases hx : 1 ≤ x ∧ x ≤ (n : Int)
  · rw [show (decide (1 ≤ x) && decide (x ≤ (n : Int))) = true by simp [hx.1, hx.2]] at HA
    obtain ⟨x0, x1⟩ := hx
    obtain ⟨k, rfl⟩ : ∃ k : Nat, x = (k : Int) + 1 := ⟨(x - 1).toNat, by omega⟩
    have co := H.co (j := k) (by omega)
    have hb := hT k (by omega)
    have hn := H.le
    have e1 : ((k : Int) + 1).toNat - 1 = k := by omega
    by_cases hz : T k = -1
    · have E1 := Lib.hid (show Pl.ownB ⟨n, T, h, R⟩ ((k : Int) + 1) = false by unfold Pl.ownB; rw [e1]; simp [hz])
      have E2 := Lib.hid (show Pl.ownI ⟨n, T, h, R⟩ ((k : Int) + 1) = 0 by unfold Pl.ownI; rw [E1.out]; rfl)
      rw [hz] at co
      clear e1 hz hb hT
      go_enter Try.func15, Try.ntmps15
      go_wp2_with (go_at_call 33; refine (HA).mono ?_; rintro e w' ⟨rfl, rfl⟩)
      go_ret2
      exact ⟨by rw [E1.out, E2.out]; rfl, rfl⟩
    · have E1 := Lib.hid (show Pl.ownB ⟨n, T, h, R⟩ ((k : Int) + 1) = true by unfold Pl.ownB; rw [e1]; simp; omega)
      have E2 := Lib.hid (show Pl.ownI ⟨n, T, h, R⟩ ((k : Int) + 1) = T k by unfold Pl.ownI; rw [E1.out, e1]; rfl)
      generalize T k = y at *
      clear e1 hT
      go_enter Try.func15, Try.ntmps15
      go_wp2_with (go_at_call 33; refine (HA).mono ?_; rintro e w' ⟨rfl, rfl⟩)
      go_ret2
      exact ⟨by rw [E1.out, E2.out]; rfl, rfl⟩
  · have hd : (decide (1 ≤ x) && decide (x ≤ (n : Int))) = false := by
      rw [Bool.and_eq_false_iff, decide_eq_false_iff_not, decide_eq_false_iff_not]; omega
    rw [hd] at HA
    have E1 := Lib.hid (show Pl.ownB ⟨n, T, h, R⟩ x = false by unfold Pl.ownB; rw [hd]; rfl)
    have E2 := Lib.hid (show Pl.ownI ⟨n, T, h, R⟩ x = 0 by unfold Pl.ownI; rw [E1.out]; rfl)
    clear hd hx hT
    go_enter Try.func15, Try.ntmps15
    go_wp2_with (go_at_call 33; refine (HA).mono ?_; rintro e w' ⟨rfl, rfl⟩)
    go_ret2
    exact ⟨by rw [E1.out, E2.out]; rfl, rfl⟩
end
end Go.Proofs.Ytkbkilkmiigahaa.Cx
