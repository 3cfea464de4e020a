/-
  Contracts of the document's own Hits and Frame of layer 3. Conditions: words are below 2 to the 64.
-/
import Derived.Test.YtambpmbgepgkdaaTRefB
namespace Go.Proofs.Ytambpmbgepgkdaa.Fld
open Go.ChangeShapes Go.WideShapes Go.ChangeAt Go.RowKit
set_option maxHeartbeats 1000000
set_option maxRecDepth 100000
theorem Ent.holds_doc (e : Ent) (va : Int) : e.holdsB va = (e.valid && (sizeB e.size && (baseI va e.size == baseI e.va e.size))) := by
  unfold Ent.holdsB; rw [in_walk]
theorem rhits_any (e : Ent) (va ctx : Int) (v0 : 0 ≤ e.va) (v1 : e.va ≤ 18446744073709551615) (x0 : 0 ≤ va) (x1 : va ≤ 18446744073709551615) (w : World) :
    Calls Try.prog 28 #[.agg #[.int .i64 e.size, .int .i64 e.ctx, .int .u64 e.va, .int .u64 e.pa, .bool e.att.write, .bool e.att.priv, .bool e.att.exec, .bool e.att.lock, .bool e.att.global, .bool e.att.quiet, .bool e.valid], .int .u64 va, .int .i64 ctx] w fun r w' => r = .returned (.bool (e.hitsB va ctx)) ∧ Below w.heap.size w w' := by
  have H := Lib.hid (show e.hitsB va ctx = ((e.valid && (sizeB e.size && (baseI va e.size == baseI e.va e.size))) && (e.att.global || e.ctx == ctx)) by unfold Ent.hitsB; rw [Ent.holds_doc])
  generalize e.hitsB va ctx = R at *
  obtain ⟨s, c, v, p, ⟨wr, pr, ex, lk, gl, qu⟩, vd⟩ := e
  dsimp only at *
  have q1 := rpmay_any s
  generalize sizeB s = S at *
  have Q1 := Lib.hid q1
  clear q1
  cases vd
  · go_enter Try.func28, Try.ntmps28
    go_wp2_with (go_at_call 39; refine (Q1.out _).mono ?_; rintro e w' ⟨rfl, rfl⟩)
    go_quiet (fail)
    go_wp2
    go_ret
    exact ⟨ret_bool H.out.symm, below_drewN ((Below.refl _ _).alloc (Nat.le_refl _) _) _⟩
  cases S
  · go_enter Try.func28, Try.ntmps28
    go_wp2_with (go_at_call 39; refine (Q1.out _).mono ?_; rintro e w' ⟨rfl, rfl⟩)
    go_quiet (fail)
    go_wp2
    go_ret
    exact ⟨ret_bool H.out.symm, below_drewN ((Below.refl _ _).alloc (Nat.le_refl _) _) _⟩
  cases hxy : (baseI va s == baseI v s)
  · rw [hxy] at H
    go_enter Try.func28, Try.ntmps28
    go_wp2_with (go_at_call 39; refine (Q1.out _).mono ?_; rintro e w' ⟨rfl, rfl⟩)
    go_quiet ((go_at_call 32; exact Calls.quiet_of (rbase_any _ _ (by omega) (by omega) _)))
    go_wp2
    go_ret
    exact ⟨ret_bool H.out.symm, below_drewN ((Below.refl _ _).alloc (Nat.le_refl _) _) _⟩
  rw [hxy] at H
  cases gl
  · go_enter Try.func28, Try.ntmps28
    go_wp2_with (go_at_call 39; refine (Q1.out _).mono ?_; rintro e w' ⟨rfl, rfl⟩)
    go_quiet ((go_at_call 32; exact Calls.quiet_of (rbase_any _ _ (by omega) (by omega) _)))
    go_wp2
    go_ret
    exact ⟨ret_bool H.out.symm, below_drewN ((Below.refl _ _).alloc (Nat.le_refl _) _) _⟩
  · go_enter Try.func28, Try.ntmps28
    go_wp2_with (go_at_call 39; refine (Q1.out _).mono ?_; rintro e w' ⟨rfl, rfl⟩)
    go_quiet ((go_at_call 32; exact Calls.quiet_of (rbase_any _ _ (by omega) (by omega) _)))
    go_wp2
    go_ret
    exact ⟨ret_bool H.out.symm, below_drewN ((Below.refl _ _).alloc (Nat.le_refl _) _) _⟩
theorem rframe_any (e : Ent) (va : Int) (v0 : 0 ≤ e.va) (v1 : e.va ≤ 18446744073709551615) (x0 : 0 ≤ va) (x1 : va ≤ 18446744073709551615) (w : World) :
    Calls Try.prog 26 #[.agg #[.int .i64 e.size, .int .i64 e.ctx, .int .u64 e.va, .int .u64 e.pa, .bool e.att.write, .bool e.att.priv, .bool e.att.exec, .bool e.att.lock, .bool e.att.global, .bool e.att.quiet, .bool e.valid], .int .u64 va] w fun r w' => r = .returned (.tuple #[.int .u64 (e.frameI va), .bool (e.holdsB va)]) ∧ Below w.heap.size w w' := by
  have H := Lib.hid (Ent.holds_doc e va)
  have HF := Lib.hid (show e.frameI va = (if e.holdsB va then IntKind.u64.wrap (e.pa + offI va e.size) else 0) from rfl)
  generalize e.frameI va = F at *
  generalize e.holdsB va = R at *
  obtain ⟨s, c, v, p, ⟨wr, pr, ex, lk, gl, qu⟩, vd⟩ := e
  dsimp only at *
  have q1 := rpmay_any s
  have q4 := roff_any va s x0 x1
  generalize offI va s = O at *
  generalize sizeB s = S at *
  have Q1 := Lib.hid q1
  have Q4 := Lib.hid q4
  clear q1 q4
  cases vd
  · obtain rfl : R = false := H.out
    go_enter Try.func26, Try.ntmps26
    go_wp2_with (go_at_call 39; refine (Q1.out _).mono ?_; rintro e w' ⟨rfl, rfl⟩)
    go_quiet (fail)
    go_wp2
    go_ret2
    exact ⟨ret_two HF.out.symm rfl, below_drewN ((Below.refl _ _).alloc (Nat.le_refl _) _) _⟩
  cases S
  · obtain rfl : R = false := H.out
    go_enter Try.func26, Try.ntmps26
    go_wp2_with (go_at_call 39; refine (Q1.out _).mono ?_; rintro e w' ⟨rfl, rfl⟩)
    go_quiet (fail)
    go_wp2
    go_ret2
    exact ⟨ret_two HF.out.symm rfl, below_drewN ((Below.refl _ _).alloc (Nat.le_refl _) _) _⟩
  cases hxy : (baseI va s == baseI v s)
  · rw [hxy] at H
    obtain rfl : R = false := H.out
    have hxy' : (baseI va s != baseI v s) = true := by simp [bne, hxy]
    go_enter Try.func26, Try.ntmps26
    go_wp2_with (go_at_call 39; refine (Q1.out _).mono ?_; rintro e w' ⟨rfl, rfl⟩)
    go_quiet ((go_at_call 32; exact Calls.quiet_of (rbase_any _ _ (by omega) (by omega) _)))
    go_wp2
    go_ret2
    exact ⟨ret_two HF.out.symm rfl, below_drewN ((Below.refl _ _).alloc (Nat.le_refl _) _) _⟩
  rw [hxy] at H
  obtain rfl : R = true := H.out
  have hxy' : (baseI va s != baseI v s) = false := by simp [bne, hxy]
  go_enter Try.func26, Try.ntmps26
  go_wp2_with (go_at_call 39; refine (Q1.out _).mono ?_; rintro e w' ⟨rfl, rfl⟩)
  go_quiet ((go_at_call 32; exact Calls.quiet_of (rbase_any _ _ (by omega) (by omega) _)))
  go_wp2_with fail
  go_quiet ((go_at_call 20; exact quiet_add_left (Q4.out _)))
  go_wp2
  go_ret2
  exact ⟨ret_two HF.out.symm rfl, below_drewN (below_drewN ((Below.refl _ _).alloc (Nat.le_refl _) _) _) _⟩
end Go.Proofs.Ytambpmbgepgkdaa.Fld
