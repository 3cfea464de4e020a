/-
  Contracts of the document's own Tag, Data, Target, May, Hits and Frame of layer 3. Conditions: words are below 2 to the 64; Tag and Data of an entry whose numbers fit.
-/
import Derived.Test.YtambpmbgepgkdaaTRef
namespace Go.Proofs.Ytambpmbgepgkdaa.Fld
open Go.ChangeShapes Go.WideShapes Go.ChangeAt Go.RowKit
set_option maxHeartbeats 1000000
set_option maxRecDepth 100000
theorem u64_mod (x : Int) : IntKind.u64.wrap x = x % 18446744073709551616 := by simp [IntKind.wrap, IntKind.signed, IntKind.bits]
def placeI (b : Bool) (p : Int) : Int := b2i b * ((2 ^ p.toNat : Nat) : Int)
theorem rplace_any (b : Bool) (p : Int) (h0 : 0 ≤ p) (h1 : p ≤ 63) (w : World) :
    Calls Try.prog 42 #[.bool b, .int .i64 p] w fun r w' => r = .returned (.int .u64 (placeI b p)) ∧ w = w' :=
  rbit_at b p p.toNat (by omega) _ rfl (by omega) w
theorem place_at (b : Bool) (p P : Int) (h : ((2 ^ p.toNat : Nat) : Int) = P) : placeI b p = b2i b * P := by unfold placeI; rw [h]
theorem place_true (p P : Int) (h : ((2 ^ p.toNat : Nat) : Int) = P) : placeI true p = P := by rw [place_at _ _ _ h, show b2i true = 1 from rfl, Int.one_mul]
theorem rtage_any (e : Ent) (h : e.Fit) (v0 : 0 ≤ e.va) (v1 : e.va ≤ 18446744073709551615) (w : World) :
    Calls Try.prog 15 #[.agg #[.int .i64 e.size, .int .i64 e.ctx, .int .u64 e.va, .int .u64 e.pa, .bool e.att.write, .bool e.att.priv, .bool e.att.exec, .bool e.att.lock, .bool e.att.global, .bool e.att.quiet, .bool e.valid]] w fun r w' => r = .returned (.int .u64 e.tagW) ∧ Below w.heap.size w w' := by
  have c0 := h.c0
  have c1 := h.c1
  have ht := tag_bd e.va
  have hb := b2i_bd e.att.global
  have H := Lib.hid (show e.tagW = b2i e.att.global * 9223372036854775808 + e.ctx * 281474976710656 + tagI e.va from rfl)
  clear h
  go_enter Try.func15, Try.ntmps15
  go_wp2_with fail
  go_quiet ((first | (go_at_call 42; exact quiet_left (rb63 _ _)) | (go_at_call 43; exact quiet_left (rtag_any _ v0 v1 _))))
  go_wp2
  go_ret
  refine ⟨ret_int ?_, below_drewN ((Below.refl _ _).alloc (Nat.le_refl _) _) _⟩
  rw [H.out]
theorem rdata_any (e : Ent) (h : e.Fit) (w : World) :
    Calls Try.prog 17 #[.agg #[.int .i64 e.size, .int .i64 e.ctx, .int .u64 e.va, .int .u64 e.pa, .bool e.att.write, .bool e.att.priv, .bool e.att.exec, .bool e.att.lock, .bool e.att.global, .bool e.att.quiet, .bool e.valid]] w fun r w' => r = .returned (.int .u64 e.dataW) ∧ Below w.heap.size w w' := by
  have g1 := b2i_bd e.att.quiet; have g2 := b2i_bd e.att.lock; have g3 := b2i_bd e.att.exec; have g4 := b2i_bd e.att.priv; have g5 := b2i_bd e.att.write; have g6 := b2i_bd e.att.global
  have h2 := h.s0; have h3 := h.s1; have h4 := h.p0; have h5 := h.p1
  have p63 := place_true 63 9223372036854775808 (by decide)
  have p61 := place_true 61 2305843009213693952 (by decide)
  have p60 := place_at e.att.quiet 60 1152921504606846976 (by decide)
  have p6 := place_at e.att.lock 6 64 (by decide)
  have p3 := place_at e.att.exec 3 8 (by decide)
  have p2 := place_at e.att.priv 2 4 (by decide)
  have p1 := place_at e.att.write 1 2 (by decide)
  have p0 := place_at e.att.global 0 1 (by decide)
  have H := Lib.hid (show e.dataW = 9223372036854775808 + e.size * 2305843009213693952 + e.pa + (b2i e.att.quiet * 1152921504606846976 + b2i e.att.lock * 64 + b2i e.att.exec * 8 + b2i e.att.priv * 4 + b2i e.att.write * 2 + b2i e.att.global) from rfl)
  clear h
  go_enter Try.func17, Try.ntmps17
  go_wp2_with fail
  go_quiet ((go_at_call 42; exact quiet_left (rplace_any _ _ (by decide) (by decide) _)))
  go_wp2_with fail
  obtain ⟨N, hN⟩ : ∃ N, 9223372036854775808 + e.size * 2305843009213693952 + b2i e.att.quiet * 1152921504606846976 + e.pa = N := ⟨_, rfl⟩
  rw [hN]
  have hN0 : 0 ≤ N := by omega
  have hN1 : N ≤ 18446744073709551000 := by omega
  have HN := Lib.hid hN
  clear hN
  obtain ⟨W, hW⟩ : ∃ W, W = (((w.alloc (.cells #[.int .i64 e.size, .int .i64 e.ctx, .int .u64 e.va, .int .u64 e.pa, .bool e.att.write, .bool e.att.priv, .bool e.att.exec, .bool e.att.lock, .bool e.att.global, .bool e.att.quiet, .bool e.valid] 26)).alloc (.cells #[.bool e.att.write, .bool e.att.priv, .bool e.att.exec, .bool e.att.lock, .bool e.att.global, .bool e.att.quiet] 24)).drewN nq) := ⟨_, rfl⟩
  rw [← hW]
  have hr : W.heap[w.heap.size + 1]? = some (.cells #[.bool e.att.write, .bool e.att.priv, .bool e.att.exec, .bool e.att.lock, .bool e.att.global, .bool e.att.quiet] 24 (0, 0)) := by rw [hW]; exact heap_alloc2_new _ _ _
  have HB := Lib.hid (show Below w.heap.size w W by rw [hW]; exact below_drewN (((Below.refl _ _).alloc (Nat.le_refl _) _).alloc (by simp) _) _)
  clear hW
  have r0 := cell_of_row _ _ 0 _ _ _ hr
  have r1 := cell_of_row _ _ 1 _ _ _ hr
  have r2 := cell_of_row _ _ 2 _ _ _ hr
  have r3 := cell_of_row _ _ 3 _ _ _ hr
  have r4 := cell_of_row _ _ 4 _ _ _ hr
  clear hr g1 h2 h3 h4 h5

  go_quiet ((go_at_call 42; exact quiet_left (rplace_any _ _ (by decide) (by decide) _)))
  go_wp2
  go_ret
  exact ⟨ret_int (by have h1 := H.out; have h2 := HN.out; omega), below_drewN HB.out _⟩
theorem rtarget_any (va ctx : Int) (c0 : 0 ≤ ctx) (c1 : ctx ≤ 8191) (v0 : 0 ≤ va) (v1 : va ≤ 18446744073709551615) (w : World) :
    Calls Try.prog 30 #[.int .u64 va, .int .i64 ctx] w fun r w' => r = .returned (.int .u64 (targetI va ctx)) ∧ w = w' := by
  have ht := tag_bd va
  have H := Lib.hid (show targetI va ctx = ctx * 281474976710656 + tagI va by unfold targetI; rw [Int.emod_eq_of_lt c0 (by omega)])
  go_enter Try.func30, Try.ntmps30
  go_wp2_with (go_at_call 43; refine (rtag_any _ v0 v1 _).mono ?_; rintro e w' ⟨rfl, rfl⟩)
  go_ret
  exact ⟨ret_int H.out.symm, rfl⟩
end Go.Proofs.Ytambpmbgepgkdaa.Fld
