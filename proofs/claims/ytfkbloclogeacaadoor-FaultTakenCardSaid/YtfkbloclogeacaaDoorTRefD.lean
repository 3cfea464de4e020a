/-
  Contracts of the document's own Hits and Frame of layer 3. Conditions: words are below 2 to the 64.
-/
import Derived.Test.YtfkbloclogeacaaDoorTRefB
namespace Go.Proofs.YtfkbloclogeacaaDoor.Fld
open Go.ChangeShapes Go.WideShapes Go.ChangeAt Go.RowKit
set_option maxHeartbeats 1000000
set_option maxRecDepth 100000
theorem Ent.holds_doc (e : Ent) (va : Int) : e.holdsB va = (e.valid && (sizeB e.size && (baseI va e.size == baseI e.va e.size))) := by
  unfold Ent.holdsB; rw [in_walk]
theorem rhits_any (e : Ent) (va ctx : Int) (v0 : 0 ≤ e.va) (v1 : e.va ≤ 18446744073709551615) (x0 : 0 ≤ va) (x1 : va ≤ 18446744073709551615) (w : World) :
    Calls Tryd.prog 31 #[.agg #[.int .i64 e.size, .int .i64 e.ctx, .int .u64 e.va, .int .u64 e.pa, .bool e.att.write, .bool e.att.priv, .bool e.att.exec, .bool e.att.lock, .bool e.att.global, .bool e.att.quiet, .bool e.valid], .int .u64 va, .int .i64 ctx] w fun r w' => r = .returned (.bool (e.hitsB va ctx)) ∧ Below w.heap.size w w' := by
  have H := Lib.hid (show e.hitsB va ctx = ((e.valid && (sizeB e.size && (baseI va e.size == baseI e.va e.size))) && (e.att.global || e.ctx == ctx)) by unfold Ent.hitsB; rw [Ent.holds_doc])
  generalize e.hitsB va ctx = R at *
  obtain ⟨s, c, v, p, ⟨wr, pr, ex, lk, gl, qu⟩, vd⟩ := e
  dsimp only at *
  have q1 := rpmay_any s
  generalize sizeB s = S at *
  have Q1 := Lib.hid q1
  clear q1
  cases vd
  · go_enter Tryd.func31, Tryd.ntmps31
    go_wp2_with (go_at_call 36; refine (Q1.out _).mono ?_; rintro e w' ⟨rfl, rfl⟩)
    go_quiet (fail)
    go_wp2
    go_ret
    exact ⟨ret_bool H.out.symm, below_drewN ((Below.refl _ _).alloc (Nat.le_refl _) _) _⟩
  cases S
  · go_enter Tryd.func31, Tryd.ntmps31
    go_wp2_with (go_at_call 36; refine (Q1.out _).mono ?_; rintro e w' ⟨rfl, rfl⟩)
    go_quiet (fail)
    go_wp2
    go_ret
    exact ⟨ret_bool H.out.symm, below_drewN ((Below.refl _ _).alloc (Nat.le_refl _) _) _⟩
  cases hxy : (baseI va s == baseI v s)
  · rw [hxy] at H
    go_enter Tryd.func31, Tryd.ntmps31
    go_wp2_with (go_at_call 36; refine (Q1.out _).mono ?_; rintro e w' ⟨rfl, rfl⟩)
    go_quiet ((go_at_call 27; exact Calls.quiet_of (rbase_any _ _ (by omega) (by omega) _)))
    go_wp2
    go_ret
    exact ⟨ret_bool H.out.symm, below_drewN ((Below.refl _ _).alloc (Nat.le_refl _) _) _⟩
  rw [hxy] at H
  cases gl
  · go_enter Tryd.func31, Tryd.ntmps31
    go_wp2_with (go_at_call 36; refine (Q1.out _).mono ?_; rintro e w' ⟨rfl, rfl⟩)
    go_quiet ((go_at_call 27; exact Calls.quiet_of (rbase_any _ _ (by omega) (by omega) _)))
    go_wp2
    go_ret
    exact ⟨ret_bool H.out.symm, below_drewN ((Below.refl _ _).alloc (Nat.le_refl _) _) _⟩
  · go_enter Tryd.func31, Tryd.ntmps31
    go_wp2_with (go_at_call 36; refine (Q1.out _).mono ?_; rintro e w' ⟨rfl, rfl⟩)
    go_quiet ((go_at_call 27; exact Calls.quiet_of (rbase_any _ _ (by omega) (by omega) _)))
    go_wp2
    go_ret
    exact ⟨ret_bool H.out.symm, below_drewN ((Below.refl _ _).alloc (Nat.le_refl _) _) _⟩
end Go.Proofs.YtfkbloclogeacaaDoor.Fld
