/-
  Contracts of the document's own May, Hits and Frame of layer 3. Conditions: words are below 2 to the 64.
-/
import Derived.Test.YtbhpljjogmagoaaTRefB
namespace Go.Proofs.Ytbhpljjogmagoaa.Fld
open Go.ChangeShapes Go.WideShapes Go.ChangeAt Go.RowKit
set_option maxHeartbeats 1000000
set_option maxRecDepth 100000
/-- The first half of the document's May. -/
def Ent.halfB (e : Ent) : Bool := e.valid && sizeB e.size && decide (0 ≤ e.ctx ∧ e.ctx ≤ 8191) && !holeB e.va && !(e.att.global && e.ctx != 0)
theorem Ent.may_half (e : Ent) : e.mayB = (e.halfB && (e.va % bytesI e.size == 0 && (e.pa % bytesI e.size == 0 && decide (e.pa < 2199023255552)))) := by
  unfold Ent.mayB Ent.halfB
  rw [Bool.eq_iff_iff]; simp [and_assoc]
theorem rmay_no (e : Ent) (v0 : 0 ≤ e.va) (v1 : e.va ≤ 18446744073709551615) (hh : e.halfB = false) (w : World) :
    Calls Try.prog 56 #[.agg #[.int .i64 e.size, .int .i64 e.ctx, .int .u64 e.va, .int .u64 e.pa, .bool e.att.write, .bool e.att.priv, .bool e.att.exec, .bool e.att.lock, .bool e.att.global, .bool e.att.quiet, .bool e.valid]] w fun r w' => r = .returned (.bool false) ∧ Below w.heap.size w w' := by
  obtain ⟨s, c, v, p, ⟨wr, pr, ex, lk, gl, qu⟩, vd⟩ := e
  unfold Ent.halfB at hh
  dsimp only at *
  have q1 := rpmay_any s
  have q2 := rhole_any v v0 v1
  generalize sizeB s = S at *
  generalize holeB v = O at *
  have Q1 := Lib.hid q1
  have Q2 := Lib.hid q2
  clear q1 q2
  cases vd
  · clear hh
    go_enter Try.func56, Try.ntmps56
    go_wp2_with (first | (go_at_call 39; refine (Q1.out _).mono ?_; rintro e w' ⟨rfl, rfl⟩) | (go_at_call 66; refine (Q2.out _).mono ?_; rintro e w' ⟨rfl, rfl⟩))
    go_ret
    exact ⟨rfl, (Below.refl _ _).alloc (Nat.le_refl _) _⟩
  cases S
  · clear hh
    go_enter Try.func56, Try.ntmps56
    go_wp2_with (first | (go_at_call 39; refine (Q1.out _).mono ?_; rintro e w' ⟨rfl, rfl⟩) | (go_at_call 66; refine (Q2.out _).mono ?_; rintro e w' ⟨rfl, rfl⟩))
    go_ret
    exact ⟨rfl, (Below.refl _ _).alloc (Nat.le_refl _) _⟩
  by_cases c0 : c < 0
  · clear hh
    go_enter Try.func56, Try.ntmps56
    go_wp2_with (first | (go_at_call 39; refine (Q1.out _).mono ?_; rintro e w' ⟨rfl, rfl⟩) | (go_at_call 66; refine (Q2.out _).mono ?_; rintro e w' ⟨rfl, rfl⟩))
    go_ret
    exact ⟨rfl, (Below.refl _ _).alloc (Nat.le_refl _) _⟩
  by_cases c1 : 8191 < c
  · clear hh
    go_enter Try.func56, Try.ntmps56
    go_wp2_with (first | (go_at_call 39; refine (Q1.out _).mono ?_; rintro e w' ⟨rfl, rfl⟩) | (go_at_call 66; refine (Q2.out _).mono ?_; rintro e w' ⟨rfl, rfl⟩))
    go_ret
    exact ⟨rfl, (Below.refl _ _).alloc (Nat.le_refl _) _⟩
  cases O
  · have hd : decide (0 ≤ c ∧ c ≤ 8191) = true := decide_eq_true (by omega)
    rw [hd] at hh
    have hg : gl = true ∧ (c != 0) = true := by simpa using hh
    obtain ⟨rfl, hc⟩ := hg
    clear hh hd
    go_enter Try.func56, Try.ntmps56
    go_wp2_with (first | (go_at_call 39; refine (Q1.out _).mono ?_; rintro e w' ⟨rfl, rfl⟩) | (go_at_call 66; refine (Q2.out _).mono ?_; rintro e w' ⟨rfl, rfl⟩))
    go_ret
    exact ⟨rfl, (Below.refl _ _).alloc (Nat.le_refl _) _⟩
  · clear hh
    go_enter Try.func56, Try.ntmps56
    go_wp2_with (first | (go_at_call 39; refine (Q1.out _).mono ?_; rintro e w' ⟨rfl, rfl⟩) | (go_at_call 66; refine (Q2.out _).mono ?_; rintro e w' ⟨rfl, rfl⟩))
    go_ret
    exact ⟨rfl, (Below.refl _ _).alloc (Nat.le_refl _) _⟩
theorem rmay_yes (e : Ent) (v0 : 0 ≤ e.va) (v1 : e.va ≤ 18446744073709551615) (p0 : 0 ≤ e.pa) (p1 : e.pa ≤ 18446744073709551615) (hh : e.halfB = true) (w : World) :
    Calls Try.prog 56 #[.agg #[.int .i64 e.size, .int .i64 e.ctx, .int .u64 e.va, .int .u64 e.pa, .bool e.att.write, .bool e.att.priv, .bool e.att.exec, .bool e.att.lock, .bool e.att.global, .bool e.att.quiet, .bool e.valid]] w fun r w' => r = .returned (.bool (e.va % bytesI e.size == 0 && (e.pa % bytesI e.size == 0 && decide (e.pa < 2199023255552)))) ∧ Below w.heap.size w w' := by
  obtain ⟨s, c, v, p, ⟨wr, pr, ex, lk, gl, qu⟩, vd⟩ := e
  unfold Ent.halfB at hh
  dsimp only at *
  simp only [Bool.and_eq_true, decide_eq_true_eq, Bool.not_eq_true', Bool.and_eq_false_iff] at hh
  obtain ⟨⟨⟨⟨rfl, hs⟩, c0, c1⟩, ho⟩, hg⟩ := hh
  have hp := bytes_pos hs
  have hbb := bytes_bd s
  have q3 := rbytes_any s
  generalize bytesI s = B at *
  have Q3 := Lib.hid q3
  clear q3
  obtain ⟨x, hx⟩ : ∃ x, v % B = x := ⟨_, rfl⟩
  obtain ⟨y, hy⟩ : ∃ y, p % B = y := ⟨_, rfl⟩
  have hcc : gl = true → (c != 0) = false := fun h => by rcases hg with h' | h'; (rw [h] at h'; cases h'); exact h'
  clear hg
  cases hxb : (x == 0) <;> cases hyb : (y == 0) <;> cases gl
  all_goals
    (first | (have hc0 := hcc rfl; clear hcc) | clear hcc)
    go_enter Try.func56, Try.ntmps56
    go_wp2_with (first | (go_at_call 39; refine (rpmay_any _ _).mono ?_; rintro e w' ⟨rfl, rfl⟩) | (go_at_call 66; refine (rhole_any _ v0 v1 _).mono ?_; rintro e w' ⟨rfl, rfl⟩))
    go_quiet ((go_at_call 55; exact quiet_left (Q3.out _)))
    go_wp2
    go_ret
    refine ⟨ret_bool ?_, below_drewN ((Below.refl _ _).alloc (Nat.le_refl _) _) _⟩
    rw [hx, hxb, hy, hyb]
    rfl
end Go.Proofs.Ytbhpljjogmagoaa.Fld
