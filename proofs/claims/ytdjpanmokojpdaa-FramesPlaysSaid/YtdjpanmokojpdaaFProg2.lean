/-
  Contracts of all, mark, take, next, Give of package frames. Conditions: those that read or write frames read frames that are there.
-/
import Derived.Test.YtdjpanmokojpdaaFProg
namespace Go.Proofs.Ytdjpanmokojpdaa.Frm
open Fld
open Go.ChangeShapes Go.WideShapes Go.ChangeAt Go.RowKit
set_option maxHeartbeats 400000
theorem all_any {sb bb n : Nat} {T : Nat → Bool} {fr : Int} (f k : Nat) (v : Bool) (hk : f + k ≤ n) (w : World) (h : FrRow w sb bb n T fr) :
    Calls Try.prog 32 #[.pointer (some ⟨sb, 0, none⟩), .int .i64 (f : Int), .int .i64 (k : Int), .bool v] w fun e w' => e = .returned (.bool (allB T f k v)) ∧ w = w' := by
  have c0 := h.c0
  have hn := h.le
  by_cases hnf : n = f
  · obtain rfl : k = 0 := by omega
    subst hnf
    go_enter Try.func32, Try.ntmps32
    go_wp2
    go_loop [21] (fun i => i = .int .i64 0) (fun _ => 0)
    case atStart => rfl
    case round =>
      obtain rfl := hrel
      go_wp2
      go_ret
      exact ⟨rfl, rfl⟩
  go_enter Try.func32, Try.ntmps32
  go_wp2
  go_loop [21] (fun i => ∃ j : Nat, j ≤ k ∧ i = .int .i64 (j : Int) ∧ Hid (∀ q, q < j → T (f + q) = v)) (fun i => k - (intOf i).toNat)
  case atStart => exact ⟨0, by omega, rfl, Lib.hid (fun q hq => by omega)⟩
  case round =>
    obtain ⟨j, hj, rfl, HJ⟩ := hrel
    by_cases hlt : (j : Int) < (k : Int)
    · have cb := h.cb (j := f + j) (by omega)
      by_cases hv : T (f + j) = v
      · have HJ2 := Lib.hid (show ∀ q, q < j + 1 → T (f + q) = v from fun q hq => by
          by_cases e : q = j
          · rw [e]; exact hv
          · exact HJ.out q (by omega))
        rw [hv] at cb
        clear hv HJ
        go_wp2
        go_round
        case rel => exact ⟨j + 1, by omega, by go_num, HJ2⟩
        case measure => simp [intOf]; omega
      · have E := Lib.hid (show allB T f k v = false from allB_not.2 ⟨j, by omega, hv⟩)
        have hv2 : T (f + j) = !v := by cases hT : T (f + j) <;> cases v <;> simp_all
        rw [hv2] at cb
        clear hv hv2 HJ
        go_wp2
        go_ret
        exact ⟨ret_bool E.out.symm, rfl⟩
    · obtain rfl : k = j := by omega
      have E := Lib.hid (show allB T f k v = true from allB_iff.2 HJ.out)
      clear HJ
      go_wp2
      go_ret
      exact ⟨ret_bool E.out.symm, rfl⟩
theorem mark_any {sb bb n : Nat} {T : Nat → Bool} {fr : Int} (f k : Nat) (v : Bool) (hk : f + k ≤ n) (w : World) (h : FrRow w sb bb n T fr) :
    Calls Try.prog 35 #[.pointer (some ⟨sb, 0, none⟩), .int .i64 (f : Int), .int .i64 (k : Int), .bool v] w fun e w' => e = .returned (.tuple #[]) ∧ FrRow w' sb bb n (setT T f k v) fr ∧ Turn w w' sb bb := by
  have hn := h.le
  go_enter Try.func35, Try.ntmps35
  go_wp2
  go_loopw [10] (fun i wr => ∃ j : Nat, j ≤ k ∧ i = .int .i64 (j : Int) ∧ FrRow wr sb bb n (setT T f j v) fr ∧ Turn w wr sb bb) (fun i _ => k - (intOf i).toNat)
  case atStart => exact ⟨0, by omega, rfl, by rw [setT_zero]; exact h, Turn.refl _ _ _⟩
  case round =>
    obtain ⟨j, hj, rfl, hr, ht⟩ := hrel
    by_cases hlt : (j : Int) < (k : Int)
    · have c0 := hr.c0
      have cb := hr.cb (j := f + j) (by omega)
      have fb := hr.fb (f + j)
      have hr2 := hr.putB (U := setT T f (j + 1) v) (f + j) v (fun q hq => setT_succ T f j v q)
      have ht2 := ht.setCell ⟨bb, f + j, none⟩ (.inr (.inl rfl)) (.bool v)
      clear hr ht
      go_wp2
      go_roundw
      case rel => exact ⟨j + 1, by omega, by go_num, hr2, ht2⟩
      case measure => simp [intOf]; omega
    · obtain rfl : k = j := by omega
      go_wp2
      go_end0
      exact ⟨rfl, hr, ht⟩
theorem take_any {sb bb n : Nat} {T : Nat → Bool} (f k : Nat) (hk : f + k ≤ n) (ha : allB T f k false = true) (w : World) (h : FrAt w sb bb n T) :
    Calls Try.prog 33 #[.pointer (some ⟨sb, 0, none⟩), .int .i64 (f : Int), .int .i64 (k : Int)] w fun e w' => e = .returned (.tuple #[]) ∧ FrAt w' sb bb n (setT T f k true) ∧ Turn w w' sb bb := by
  have hn := h.le
  have hc := cnt_take hk ha
  have hl := cnt_le T n
  go_enter Try.func33, Try.ntmps33
  go_wp2_with (go_at_call 35; refine (mark_any _ _ _ hk _ h).mono ?_; rintro e w' ⟨rfl, hr, ht⟩; have c1 := hr.c1; have f1 := hr.f1)
  go_end0
  refine ⟨rfl, (hr.putF _).congr (fun _ _ => rfl) (by omega), ht.setCell ⟨sb, 1, none⟩ (.inl rfl) _⟩
theorem next_any {sb bb n : Nat} {T : Nat → Bool} {fr : Int} (f : Nat) (v : Bool) (hf : f ≤ n) (w : World) (h : FrRow w sb bb n T fr) :
    Calls Try.prog 37 #[.pointer (some ⟨sb, 0, none⟩), .int .i64 (f : Int), .bool v] w fun e w' => e = .returned (.int .i64 (nxt T n f v : Int)) ∧ w = w' := by
  have hn := h.le
  have c0 := h.c0
  go_enter Try.func37, Try.ntmps37
  go_wp2
  go_loop [1] (fun i => ∃ j : Nat, f ≤ j ∧ j ≤ n ∧ i = .int .i64 (j : Int) ∧ Hid (∀ q, f ≤ q → q < j → T q ≠ v)) (fun i => n - (intOf i).toNat)
  case atStart => exact ⟨f, by omega, by omega, rfl, Lib.hid (fun q _ hq => by omega)⟩
  case round =>
    obtain ⟨j, hfj, hj, rfl, HJ⟩ := hrel
    by_cases hlt : (j : Int) < (n : Int)
    · have cb := h.cb (j := j) (by omega)
      by_cases hv : T j = v
      · have E := Lib.hid (nxt_eq hf hfj hj HJ.out (fun _ => hv))
        rw [hv] at cb
        clear hv HJ
        go_wp2
        go_ret
        exact ⟨ret_int (by rw [E.out]), rfl⟩
      · have HJ2 := Lib.hid (show ∀ q, f ≤ q → q < j + 1 → T q ≠ v from fun q h1 hq => by
          by_cases e : q = j
          · rw [e]; exact hv
          · exact HJ.out q h1 (by omega))
        have hv2 : T j = !v := by cases hT : T j <;> cases v <;> simp_all
        rw [hv2] at cb
        clear hv hv2 HJ
        go_wp2
        go_round
        case rel => exact ⟨j + 1, by omega, by omega, by go_num, HJ2⟩
        case measure => simp [intOf]; omega
    · obtain rfl : n = j := by omega
      have E := Lib.hid (nxt_eq hf hf (Nat.le_refl _) HJ.out (fun h => absurd h (by omega)))
      clear HJ
      go_wp2
      go_ret
      exact ⟨ret_int (by rw [E.out]), rfl⟩
/-- Give's error, as a number, and what is taken then. -/
def giveE (T : Nat → Bool) (n : Nat) (f k : Int) : Int := if k < 1 then 1 else if f < 0 ∨ (n : Int) - k < f then 5 else if allB T f.toNat k.toNat true then 0 else 11
def giveT (T : Nat → Bool) (n : Nat) (f k : Int) : Nat → Bool := if giveE T n f k = 0 then setT T f.toNat k.toNat false else T
theorem give_any {sb bb n : Nat} {T : Nat → Bool} (f k : Int) (f0 : -9223372036854775808 ≤ f) (f1 : f ≤ 9223372036854775807) (k0 : -9223372036854775808 ≤ k) (k1 : k ≤ 9223372036854775807) (w : World) (h : FrAt w sb bb n T) :
    Calls Try.prog 21 #[.pointer (some ⟨sb, 0, none⟩), .int .i64 f, .int .i64 k] w fun e w' => e = .returned (.int .i64 (giveE T n f k)) ∧ FrAt w' sb bb n (giveT T n f k) ∧ Turn w w' sb bb := by
  have hn := h.le
  have c0 := h.c0
  by_cases a1 : k < 1
  · have E := Lib.hid (show giveE T n f k = 1 by unfold giveE; rw [if_pos a1])
    have hT : giveT T n f k = T := by unfold giveT; rw [E.out]; rfl
    rw [hT]
    clear hT
    go_enter Try.func21, Try.ntmps21
    go_wp2
    go_ret
    exact ⟨ret_int E.out.symm, h, Turn.refl _ _ _⟩
  · by_cases a2 : f < 0
    · have E := Lib.hid (show giveE T n f k = 5 by unfold giveE; rw [if_neg a1, if_pos (.inl a2)])
      have hT : giveT T n f k = T := by unfold giveT; rw [E.out]; rfl
      rw [hT]
      clear hT
      go_enter Try.func21, Try.ntmps21
      go_wp2
      go_ret
      exact ⟨ret_int E.out.symm, h, Turn.refl _ _ _⟩
    · by_cases a3 : (n : Int) - k < f
      · have E := Lib.hid (show giveE T n f k = 5 by unfold giveE; rw [if_neg a1, if_pos (.inr a3)])
        have hT : giveT T n f k = T := by unfold giveT; rw [E.out]; rfl
        rw [hT]
        clear hT
        go_enter Try.func21, Try.ntmps21
        go_wp2
        go_ret
        exact ⟨ret_int E.out.symm, h, Turn.refl _ _ _⟩
      · obtain ⟨F, rfl⟩ : ∃ F : Nat, f = (F : Int) := ⟨f.toNat, by omega⟩
        obtain ⟨K, rfl⟩ : ∃ K : Nat, k = (K : Int) := ⟨k.toNat, by omega⟩
        have hFK : F + K ≤ n := by omega
        cases ha : allB T F K true
        · have E := Lib.hid (show giveE T n F K = 11 by unfold giveE; rw [if_neg a1, if_neg (by omega)]; simp [ha])
          have hT : giveT T n F K = T := by unfold giveT; rw [E.out]; rfl
          rw [hT]
          clear hT
          go_enter Try.func21, Try.ntmps21
          go_wp2_with (go_at_call 32; refine (all_any _ _ _ hFK _ h).mono ?_; rintro e w' ⟨rfl, rfl⟩)
          go_ret
          exact ⟨ret_int E.out.symm, h, Turn.refl _ _ _⟩
        · have E := Lib.hid (show giveE T n F K = 0 by unfold giveE; rw [if_neg a1, if_neg (by omega)]; simp [ha])
          have hT : giveT T n F K = setT T F K false := by unfold giveT; rw [E.out]; simp
          have hc := cnt_give hFK ha
          have hl := cnt_le T n
          rw [hT]
          clear hT
          go_enter Try.func21, Try.ntmps21
          go_wp2_with (first | (go_at_call 32; refine (all_any _ _ _ hFK _ h).mono ?_; rintro e w' ⟨rfl, rfl⟩) | (go_at_call 35; refine (mark_any _ _ _ hFK _ h).mono ?_; rintro e w' ⟨rfl, hr, ht⟩; have c1 := hr.c1; have f1 := hr.f1))
          go_ret
          exact ⟨ret_int E.out.symm, (hr.putF _).congr (fun _ _ => rfl) (by omega), ht.setCell ⟨sb, 1, none⟩ (.inl rfl) _⟩
end Go.Proofs.Ytdjpanmokojpdaa.Frm
