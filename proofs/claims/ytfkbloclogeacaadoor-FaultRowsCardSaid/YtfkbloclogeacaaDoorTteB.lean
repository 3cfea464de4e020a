/-
  Contracts of package tte's Target, Tag, Valid, Bad, Hits and Frame. Conditions: words are below 2 to the 64.
-/
import Derived.Test.YtfkbloclogeacaaDoorTte
namespace Go.Proofs.YtfkbloclogeacaaDoor.Fld
open Go.ChangeShapes Go.WideShapes Go.ChangeAt Go.RowKit
set_option maxHeartbeats 400000
theorem quiet_add {P : Program} {f : FuncId} {args : Array Value} {w : World} {a n : Nat} {v : Value}
    (h : Calls P f args (w.drewN (a + n)) fun e w' => e = .returned v ∧ ∃ m, w' = (w.drewN (a + n)).drewN m) :
    Calls P f args (w.drewN (a + n)) fun e w'' => e = .returned v ∧ ∃ m, w'' = w.drewN (a + m) :=
  h.mono fun _ _ ⟨he, m, hm⟩ => ⟨he, n + m, by rw [hm, World.drewN_drewN, Nat.add_assoc]⟩
theorem quiet_add_left {P : Program} {f : FuncId} {args : Array Value} {w : World} {a n : Nat} {v : Value}
    (h : Calls P f args (w.drewN (a + n)) fun e w' => e = .returned v ∧ w.drewN (a + n) = w') :
    Calls P f args (w.drewN (a + n)) fun e w'' => e = .returned v ∧ ∃ m, w'' = w.drewN (a + m) :=
  h.mono fun _ _ ⟨he, hm⟩ => ⟨he, n, hm.symm⟩
theorem quiet_left {P : Program} {f : FuncId} {args : Array Value} {w : World} {n : Nat} {v : Value}
    (h : Calls P f args (w.drewN n) fun e w' => e = .returned v ∧ w.drewN n = w') : Calls P f args (w.drewN n) fun e w'' => e = .returned v ∧ ∃ m, w'' = w.drewN m :=
  h.mono fun _ _ ⟨he, hm⟩ => ⟨he, n, hm.symm⟩
/-- The tag of an address in a context, whatever the number. -/
def targetI (va ctx : Int) : Int := ctx % 8192 * 281474976710656 + tagI va
def Ent.tagG (e : Ent) : Int := b2i e.att.global * 9223372036854775808 + targetI e.va e.ctx
theorem target_bd (va ctx : Int) : 0 ≤ targetI va ctx ∧ targetI va ctx < 9223372036854775808 := by
  have := tag_bd va; unfold targetI; omega
theorem Ent.tagG_bd (e : Ent) : 0 ≤ e.tagG ∧ e.tagG ≤ 18446744073709551615 := by
  have := target_bd e.va e.ctx; have := b2i_bd e.att.global; unfold Ent.tagG; omega
theorem Ent.tagG_fit {e : Ent} (h : 0 ≤ e.ctx ∧ e.ctx ≤ 8191) : e.tagG = e.tagW := by
  unfold Ent.tagG Ent.tagW targetI; rw [Int.emod_eq_of_lt h.1 (by omega)]; omega
theorem target_put (va ctx c : Int) (c0 : 0 ≤ c) (hc : c % 8192 = ctx % 8192) : putI (putI 0 0 22 (tagI va)) 48 13 c = targetI va ctx := by
  have ht := tag_bd va
  have e1 : putI 0 0 22 (tagI va) = tagI va := by
    rw [putI_at 0 0 22 (tagI va) 1 4194304 (by decide) (by omega) (by omega) ht.1 (by decide) (by decide)]; omega
  rw [e1, putI_at (tagI va) 48 13 c 281474976710656 8192 (by decide) ht.1 (by omega) c0 (by decide) (by decide)]
  unfold targetI; omega
theorem tag_put (e : Ent) : putI (targetI e.va e.ctx) 63 1 ((e.att.global.toNat : Nat) : Int) = e.tagG := by
  have hb := target_bd e.va e.ctx
  rw [putI_at _ 63 1 _ 9223372036854775808 2 (by decide) hb.1 (by omega) (by omega) (by decide) (by decide), b2i_nat]
  have := b2i_bd e.att.global
  unfold Ent.tagG; omega
theorem wrap_u64 (x : Int) : 0 ≤ IntKind.u64.wrap x ∧ IntKind.u64.wrap x ≤ 18446744073709551615 ∧ IntKind.u64.wrap x % 8192 = x % 8192 := by
  have h : IntKind.u64.wrap x = x % 18446744073709551616 := by simp [IntKind.wrap, IntKind.signed, IntKind.bits]
  rw [h]; omega
theorem bad_ex : maskI 63 1 = 9223372036854775808 := by kernel_rfl
def Ent.holdsB (e : Ent) (va : Int) : Bool := e.valid && inB va e.va e.size
def Ent.hitsB (e : Ent) (va ctx : Int) : Bool := e.holdsB va && (e.att.global || e.ctx == ctx)
def Ent.frameI (e : Ent) (va : Int) : Int := if e.holdsB va then IntKind.u64.wrap (e.pa + offI va e.size) else 0
theorem tholds_any (e : Ent) (va : Int) (v0 : 0 ≤ e.va) (v1 : e.va ≤ 18446744073709551615) (x0 : 0 ≤ va) (x1 : va ≤ 18446744073709551615) (w : World) :
    Calls Tryd.prog 40 #[.agg #[.int .i64 e.size, .int .i64 e.ctx, .int .u64 e.va, .int .u64 e.pa, .bool e.att.write, .bool e.att.priv, .bool e.att.exec, .bool e.att.lock, .bool e.att.global, .bool e.att.quiet, .bool e.valid], .int .u64 va] w fun r w' => r = .returned (.bool (e.holdsB va)) ∧ Below w.heap.size w w' := by
  have H := Lib.hid (show e.holdsB va = (e.valid && inB va e.va e.size) from rfl)
  cases hv : e.valid
  · rw [hv] at H
    go_enter Tryd.func40, Tryd.ntmps40
    go_wp2
    go_ret
    exact ⟨ret_bool H.out.symm, (Below.refl _ _).alloc (Nat.le_refl _) _⟩
  · rw [hv] at H
    go_enter Tryd.func40, Tryd.ntmps40
    go_wp2_with (go_at_call 43; refine (in_any _ _ _ x0 x1 v0 v1 _).mono ?_; rintro e w' ⟨rfl, rfl⟩)
    go_ret
    exact ⟨ret_bool H.out.symm, (Below.refl _ _).alloc (Nat.le_refl _) _⟩
theorem thits_any (e : Ent) (va ctx : Int) (v0 : 0 ≤ e.va) (v1 : e.va ≤ 18446744073709551615) (x0 : 0 ≤ va) (x1 : va ≤ 18446744073709551615) (w : World) :
    Calls Tryd.prog 29 #[.agg #[.int .i64 e.size, .int .i64 e.ctx, .int .u64 e.va, .int .u64 e.pa, .bool e.att.write, .bool e.att.priv, .bool e.att.exec, .bool e.att.lock, .bool e.att.global, .bool e.att.quiet, .bool e.valid], .int .u64 va, .int .i64 ctx] w fun r w' => r = .returned (.bool (e.hitsB va ctx)) ∧ Below w.heap.size w w' := by
  have H := Lib.hid (show e.hitsB va ctx = (e.holdsB va && (e.att.global || e.ctx == ctx)) from rfl)
  go_enter Tryd.func29, Tryd.ntmps29
  go_wp2_with fail
  refine (tholds_any e _ v0 v1 x0 x1 _).mono ?_; rintro r w1 ⟨rfl, hb1⟩
  obtain ⟨hc, hf⟩ := bcell hb1
  have hz : w.heap.size < w1.heap.size := by have := hb1.size; simp at this; omega
  cases hh : e.holdsB va
  · rw [hh] at H
    go_wp2
    go_ret
    exact ⟨ret_bool H.out.symm, below_box hb1⟩
  · rw [hh] at H
    cases hg : e.att.global
    · rw [hg] at H
      go_wp2
      go_ret
      exact ⟨ret_bool H.out.symm, below_box hb1⟩
    · rw [hg] at H
      go_wp2
      go_ret
      exact ⟨ret_bool H.out.symm, below_box hb1⟩
end Go.Proofs.YtfkbloclogeacaaDoor.Fld
