/-
  Contracts and plain facts: Tte, TteB, TRef, TRefB, LMath, TRefC. Conditions: each says its own.
-/
import Derived.Test.YtnbdoemnepfhdaaGreatR4
import Derived.Test.YtnbdoemnepfhdaaGreatR6
import Derived.Test.YtnbdoemnepfhdaaGreatR2
import Derived.Below
namespace Go.Proofs.YtnbdoemnepfhdaaGreat.Fld
open Go.ChangeShapes Go.WideShapes Go.ChangeAt Go.RowKit
set_option maxHeartbeats 400000
def Ent.ctxB (e : Ent) : Bool := if e.att.global then e.ctx == 0 else decide (0 ≤ e.ctx ∧ e.ctx ≤ 8191)
theorem tmayctx_any (e : Ent) (w : World) :
    Calls Tryz.prog 119 #[.agg #[.int .i64 e.size, .int .i64 e.ctx, .int .u64 e.va, .int .u64 e.pa, .bool e.att.write, .bool e.att.priv, .bool e.att.exec, .bool e.att.lock, .bool e.att.global, .bool e.att.quiet, .bool e.valid]] w fun r w' => r = .returned (.bool e.ctxB) ∧ Below w.heap.size w w' := by
  cases hg : e.att.global
  · by_cases h0 : 0 ≤ e.ctx
    · have H := Lib.hid (show e.ctxB = decide (e.ctx ≤ 8191) by unfold Ent.ctxB; rw [hg]; simp [h0])
      go_enter Tryz.func119, Tryz.ntmps119
      go_wp2
      go_ret
      exact ⟨ret_bool H.out.symm, (Below.refl _ _).alloc (Nat.le_refl _) _⟩
    · have H := Lib.hid (show e.ctxB = false by unfold Ent.ctxB; rw [hg]; simp; omega)
      go_enter Tryz.func119, Tryz.ntmps119
      go_wp2
      go_ret
      exact ⟨ret_bool H.out.symm, (Below.refl _ _).alloc (Nat.le_refl _) _⟩
  · have H := Lib.hid (show e.ctxB = (e.ctx == 0) by unfold Ent.ctxB; rw [hg]; rfl)
    go_enter Tryz.func119, Tryz.ntmps119
    go_wp2
    go_ret
    exact ⟨ret_bool H.out.symm, (Below.refl _ _).alloc (Nat.le_refl _) _⟩
def Ent.vaB (e : Ent) : Bool := !holeB e.va && startsB e.va e.size
def Ent.paB (e : Ent) : Bool := fitsB e.pa 41 && startsB e.pa e.size
theorem Ent.may_parts (e : Ent) (p0 : 0 ≤ e.pa) : e.mayB = (e.valid && sizeB e.size && e.ctxB && e.vaB && e.paB) := by
  have hf : fitsB e.pa 41 = decide (e.pa < 2199023255552) := by unfold fitsB; rfl
  unfold Ent.mayB Ent.ctxB Ent.vaB Ent.paB startsB
  rw [hf]
  cases e.valid <;> cases sizeB e.size <;> cases hg : e.att.global <;> cases holeB e.va <;> simp
  · rw [Bool.eq_iff_iff]; simp [and_assoc, and_comm, and_left_comm]
  · rw [Bool.eq_iff_iff]; simp; omega
theorem bcell {W w1 : World} {B : Nat} (hb : Below B W w1) : (∀ b o, b < B → w1.cell? ⟨b, o, none⟩ = W.cell? ⟨b, o, none⟩) ∧ (∀ b o, b < B → w1.frozen? ⟨b, o, none⟩ = W.frozen? ⟨b, o, none⟩) :=
  ⟨fun b o h => hb.cell (p := ⟨b, o, none⟩) h, fun b o h => hb.frozen (p := ⟨b, o, none⟩) h⟩
theorem tmayva_any (e : Ent) (x0 : 0 ≤ e.va) (x1 : e.va ≤ 18446744073709551615) (w : World) :
    Calls Tryz.prog 120 #[.agg #[.int .i64 e.size, .int .i64 e.ctx, .int .u64 e.va, .int .u64 e.pa, .bool e.att.write, .bool e.att.priv, .bool e.att.exec, .bool e.att.lock, .bool e.att.global, .bool e.att.quiet, .bool e.valid]] w fun r w' => r = .returned (.bool e.vaB) ∧ Below w.heap.size w w' := by
  cases hh : holeB e.va
  · have H := Lib.hid (show e.vaB = startsB e.va e.size by unfold Ent.vaB; rw [hh]; rfl)
    go_enter Tryz.func120, Tryz.ntmps120
    go_wp2_with (first | (go_at_call 109; refine (hole_any _ x0 x1 _).mono ?_; rintro e w' ⟨rfl, n, rfl⟩) | (go_at_call 134; refine (starts_any _ _ x0 x1 _).mono ?_; rintro e w' ⟨rfl, m, rfl⟩))
    go_ret
    exact ⟨ret_bool H.out.symm, below_drewN ((Below.refl _ _).alloc (Nat.le_refl _) _) _⟩
  · have H := Lib.hid (show e.vaB = false by unfold Ent.vaB; rw [hh]; rfl)
    go_enter Tryz.func120, Tryz.ntmps120
    go_wp2_with (first | (go_at_call 109; refine (hole_any _ x0 x1 _).mono ?_; rintro e w' ⟨rfl, n, rfl⟩) | (go_at_call 134; refine (starts_any _ _ x0 x1 _).mono ?_; rintro e w' ⟨rfl, m, rfl⟩))
    go_ret
    exact ⟨ret_bool H.out.symm, below_drewN ((Below.refl _ _).alloc (Nat.le_refl _) _) _⟩
theorem tmaypa_any (e : Ent) (x0 : 0 ≤ e.pa) (x1 : e.pa ≤ 18446744073709551615) (w : World) :
    Calls Tryz.prog 121 #[.agg #[.int .i64 e.size, .int .i64 e.ctx, .int .u64 e.va, .int .u64 e.pa, .bool e.att.write, .bool e.att.priv, .bool e.att.exec, .bool e.att.lock, .bool e.att.global, .bool e.att.quiet, .bool e.valid]] w fun r w' => r = .returned (.bool e.paB) ∧ Below w.heap.size w w' := by
  cases hh : fitsB e.pa 41
  · have H := Lib.hid (show e.paB = false by unfold Ent.paB; rw [hh]; rfl)
    go_enter Tryz.func121, Tryz.ntmps121
    go_wp2_with (first | (go_at_call 135; refine (fits_any _ _ x0 x1 _).mono ?_; rintro e w' ⟨rfl, rfl⟩) | (go_at_call 134; refine (starts_any _ _ x0 x1 _).mono ?_; rintro e w' ⟨rfl, m, rfl⟩))
    go_ret
    exact ⟨ret_bool H.out.symm, ((Below.refl _ _).alloc (Nat.le_refl _) _)⟩
  · have H := Lib.hid (show e.paB = startsB e.pa e.size by unfold Ent.paB; rw [hh]; rfl)
    go_enter Tryz.func121, Tryz.ntmps121
    go_wp2_with (first | (go_at_call 135; refine (fits_any _ _ x0 x1 _).mono ?_; rintro e w' ⟨rfl, rfl⟩) | (go_at_call 134; refine (starts_any _ _ x0 x1 _).mono ?_; rintro e w' ⟨rfl, m, rfl⟩))
    go_ret
    exact ⟨ret_bool H.out.symm, below_drewN ((Below.refl _ _).alloc (Nat.le_refl _) _) _⟩
theorem below_box {w u : World} {o : Obj} (h : Below (w.alloc o).heap.size (w.alloc o) u) : Below w.heap.size w u :=
  ((Below.refl _ _).alloc (Nat.le_refl _) _).trans (h.mono (by simp))
theorem tmay_any (e : Ent) (v0 : 0 ≤ e.va) (v1 : e.va ≤ 18446744073709551615) (p0 : 0 ≤ e.pa) (p1 : e.pa ≤ 18446744073709551615) (w : World) :
    Calls Tryz.prog 94 #[.agg #[.int .i64 e.size, .int .i64 e.ctx, .int .u64 e.va, .int .u64 e.pa, .bool e.att.write, .bool e.att.priv, .bool e.att.exec, .bool e.att.lock, .bool e.att.global, .bool e.att.quiet, .bool e.valid]] w fun r w' => r = .returned (.bool e.mayB) ∧ Below w.heap.size w w' := by
  have HM := Lib.hid (Ent.may_parts e p0)
  obtain ⟨s, c, v, p, a, vd⟩ := e
  dsimp only at *
  cases vd
  · go_enter Tryz.func94, Tryz.ntmps94
    go_wp2
    go_ret
    exact ⟨ret_bool HM.out.symm, ((Below.refl _ _).alloc (Nat.le_refl _) _)⟩
  cases h2 : sizeB s
  · rw [h2] at HM
    go_enter Tryz.func94, Tryz.ntmps94
    go_wp2_with (first | (go_at_call 67; refine (pmay_any _ _).mono ?_; rintro e w' ⟨rfl, rfl⟩))
    go_ret
    exact ⟨ret_bool HM.out.symm, ((Below.refl _ _).alloc (Nat.le_refl _) _)⟩
  rw [h2] at HM
  go_enter Tryz.func94, Tryz.ntmps94
  go_wp2_with fail
  refine (pmay_any _ _).mono ?_; rintro r w' ⟨rfl, rfl⟩
  go_wp2_with fail
  refine (tmayctx_any ⟨s, c, v, p, a, true⟩ _).mono ?_; rintro r w1 ⟨rfl, hb1⟩
  cases h3 : Ent.ctxB ⟨s, c, v, p, a, true⟩
  · rw [h3] at HM
    go_wp2_with fail
    go_ret
    exact ⟨ret_bool HM.out.symm, below_box hb1⟩
  rw [h3] at HM
  obtain ⟨hc, hf⟩ := bcell hb1
  have hz : w.heap.size < w1.heap.size := by have := hb1.size; simp at this; omega
  go_wp2_with fail
  refine (tmayva_any ⟨s, c, v, p, a, true⟩ v0 v1 _).mono ?_; rintro r w2 ⟨rfl, hb2⟩
  cases h4 : Ent.vaB ⟨s, c, v, p, a, true⟩
  · rw [h4] at HM
    go_wp2_with fail
    go_ret
    exact ⟨ret_bool HM.out.symm, below_box (hb1.trans (hb2.mono (by simp; omega)))⟩
  rw [h4] at HM
  have hb12 := hb1.trans (hb2.mono (by simp; omega))
  clear hc hf
  obtain ⟨hc, hf⟩ := bcell hb12
  have hz2 : w.heap.size < w2.heap.size := by have := hb2.size; omega
  go_wp2_with fail
  refine (tmaypa_any ⟨s, c, v, p, a, true⟩ p0 p1 _).mono ?_; rintro r w3 ⟨rfl, hb3⟩
  go_wp2_with fail
  go_ret
  exact ⟨ret_bool HM.out.symm, below_box (hb12.trans (hb3.mono (by simp; omega)))⟩
end Go.Proofs.YtnbdoemnepfhdaaGreat.Fld

namespace Go.Proofs.YtnbdoemnepfhdaaGreat.Fld
open Go.ChangeShapes Go.WideShapes Go.ChangeAt Go.RowKit
set_option maxHeartbeats 400000
theorem quiet_left {P : Program} {f : FuncId} {args : Array Value} {w : World} {n : Nat} {v : Value}
    (h : Calls P f args (w.drewN n) fun e w' => e = .returned v ∧ w.drewN n = w') : Calls P f args (w.drewN n) fun e w'' => e = .returned v ∧ ∃ m, w'' = w.drewN m :=
  h.mono fun _ _ ⟨he, hm⟩ => ⟨he, n, hm.symm⟩
/-- The tag of an address in a context, whatever the number. -/
def targetI (va ctx : Int) : Int := ctx % 8192 * 281474976710656 + tagI va
def Ent.tagG (e : Ent) : Int := b2i e.att.global * 9223372036854775808 + targetI e.va e.ctx
theorem target_bd (va ctx : Int) : 0 ≤ targetI va ctx ∧ targetI va ctx < 9223372036854775808 := by
  have := tag_bd va; unfold targetI; omega
theorem Ent.tagG_fit {e : Ent} (h : 0 ≤ e.ctx ∧ e.ctx ≤ 8191) : e.tagG = e.tagW := by
  unfold Ent.tagG Ent.tagW targetI; rw [Int.emod_eq_of_lt h.1 (by omega)]; omega
theorem target_put (va ctx c : Int) (c0 : 0 ≤ c) (hc : c % 8192 = ctx % 8192) : putI (putI 0 0 22 (tagI va)) 48 13 c = targetI va ctx := by
  have ht := tag_bd va
  have e1 : putI 0 0 22 (tagI va) = tagI va := by
    rw [putI_at 0 0 22 (tagI va) 1 4194304 (by decide) (by omega) (by omega) ht.1 (by decide) (by decide)]; omega
  rw [e1, putI_at (tagI va) 48 13 c 281474976710656 8192 (by decide) ht.1 (by omega) c0 (by decide) (by decide)]
  unfold targetI; omega
theorem tag_put (e : Ent) : putI (targetI e.va e.ctx) 63 1 ((e.att.global.toNat : Nat) : Int) = e.tagG := by
  have hb := target_bd e.va e.ctx
  rw [putI_at _ 63 1 _ 9223372036854775808 2 (by decide) hb.1 (by omega) (by omega) (by decide) (by decide), b2i_nat]
  have := b2i_bd e.att.global
  unfold Ent.tagG; omega
theorem wrap_u64 (x : Int) : 0 ≤ IntKind.u64.wrap x ∧ IntKind.u64.wrap x ≤ 18446744073709551615 ∧ IntKind.u64.wrap x % 8192 = x % 8192 := by
  have h : IntKind.u64.wrap x = x % 18446744073709551616 := by simp [IntKind.wrap, IntKind.signed, IntKind.bits]
  rw [h]; omega
theorem ttarget_any (va ctx : Int) (v0 : 0 ≤ va) (v1 : va ≤ 18446744073709551615) (w : World) :
    Calls Tryz.prog 125 #[.int .u64 va, .int .i64 ctx] w fun r w' => r = .returned (.int .u64 (targetI va ctx)) ∧ ∃ n, w' = w.drewN n := by
  obtain ⟨u0, u1, u2⟩ := wrap_u64 ctx
  have H := Lib.hid (target_put va ctx _ u0 u2)
  have ht := tag_bd va
  have hp := putI_bd 0 0 22 (tagI va) (by omega) (by omega)
  clear u2
  go_enter Tryz.func125, Tryz.ntmps125
  go_wp2_with fail
  refine (tag_any _ v0 v1 _).mono ?_; rintro r w' ⟨rfl, n, rfl⟩
  go_wp2_with fail
  refine (put_any _ _ _ _ (by omega) (by omega) (by omega) (by omega) _).mono ?_; rintro r w' ⟨rfl, rfl⟩
  go_wp2_with fail
  refine (put_any _ _ _ _ (by omega) (by omega) (by omega) (by omega) _).mono ?_; rintro r w' ⟨rfl, rfl⟩
  go_wp2_with fail
  go_ret
  exact ⟨ret_int H.out, n, rfl⟩
theorem ttag_any (e : Ent) (v0 : 0 ≤ e.va) (v1 : e.va ≤ 18446744073709551615) (w : World) :
    Calls Tryz.prog 98 #[.agg #[.int .i64 e.size, .int .i64 e.ctx, .int .u64 e.va, .int .u64 e.pa, .bool e.att.write, .bool e.att.priv, .bool e.att.exec, .bool e.att.lock, .bool e.att.global, .bool e.att.quiet, .bool e.valid]] w fun r w' => r = .returned (.int .u64 e.tagG) ∧ Below w.heap.size w w' := by
  have H := Lib.hid (tag_put e)
  have ht := target_bd e.va e.ctx
  go_enter Tryz.func98, Tryz.ntmps98
  go_wp2_with fail
  go_quiet ((first | (go_at_call 125; exact Calls.quiet_of (ttarget_any _ _ v0 v1 _)) | (go_at_call 122; exact quiet_left (set_any _ _ _ (by omega) (by omega) _))))
  go_wp2
  go_ret
  exact ⟨ret_int H.out, below_drewN ((Below.refl _ _).alloc (Nat.le_refl _) _) _⟩
theorem tvalid_any (d : Int) (d0 : 0 ≤ d) (d1 : d ≤ 18446744073709551615) (w : World) :
    Calls Tryz.prog 110 #[.int .u64 d] w fun r w' => r = .returned (.bool (bitI d 63 == 1)) ∧ ∃ n, w' = w.drewN n := by
  have H := Lib.hid (show getI d 63 1 = bitI d 63 from get1_bit d 63 (by omega) d0)
  go_enter Tryz.func110, Tryz.ntmps110
  go_wp2_with (go_at_call 106; refine (bit_any _ _ d0 d1 _).mono ?_; rintro e w' ⟨rfl, n, rfl⟩)
  go_ret
  exact ⟨ret_bool (by rw [H.out]), n, rfl⟩
theorem bad_ex : maskI 63 1 = 9223372036854775808 := by kernel_rfl
theorem tbad_any (w : World) :
    Calls Tryz.prog 96 #[] w fun r w' => r = .returned (.int .u64 9223372036854775807) ∧ w = w' := by
  have h := bad_ex
  go_enter Tryz.func96, Tryz.ntmps96
  go_wp2_with (go_at_call 103; refine (mask_any _ _ _).mono ?_; rintro e w' ⟨rfl, rfl⟩)
  go_ret
  exact ⟨rfl, rfl⟩
end Go.Proofs.YtnbdoemnepfhdaaGreat.Fld

namespace Go.Proofs.YtnbdoemnepfhdaaGreat.Fld
open Go.ChangeShapes Go.WideShapes Go.ChangeAt Go.RowKit
set_option maxHeartbeats 1000000
set_option maxRecDepth 100000
/-- A truth at a place. -/
def pwI (b : Bool) (k : Nat) : Int := b2i b * ((2 ^ k : Nat) : Int)
theorem pwI_succ (b : Bool) (k : Nat) : 2 * pwI b k = pwI b (k + 1) := by
  unfold pwI; rw [Nat.pow_succ, Int.natCast_mul, show ((2 : Nat) : Int) = 2 from rfl]
  generalize ((2 ^ k : Nat) : Int) = z
  cases b <;> simp [b2i]; omega
theorem pwI_bd (b : Bool) (k : Nat) (h : k ≤ 63) : 0 ≤ pwI b k ∧ pwI b k ≤ 9223372036854775808 := by
  have hp : 2 ^ k ≤ 9223372036854775808 := Nat.le_trans (Nat.pow_le_pow_right (by decide) h) (by decide)
  unfold pwI
  generalize 2 ^ k = z at *
  have hb := b2i_bd b
  have : b2i b = 0 ∨ b2i b = 1 := by omega
  rcases this with e | e <;> rw [e] <;> omega
theorem rbitp_any (b : Bool) (k : Nat) (h : k ≤ 63) (w : World) :
    Calls Tryz.prog 117 #[.bool b, .int .i64 (k : Int)] w fun r w' => r = .returned (.int .u64 (pwI b k)) ∧ w = w' := by
  cases b
  all_goals
    go_enter Tryz.func117, Tryz.ntmps117
    go_wp2
  · go_loop [5, 6] (fun n i => ∃ j : Nat, j ≤ k ∧ i = .int .i64 (j : Int) ∧ n = .int .u64 (pwI false j)) (fun _ i => k - (intOf i).toNat)
    case atStart => exact ⟨0, by omega, rfl, rfl⟩
    case round =>
      obtain ⟨j, hj, rfl, rfl⟩ := hrel
      have hb := pwI_bd false j (by omega)
      by_cases hlt : j < k
      · have hb' := pwI_bd false (j + 1) (by omega)
        have hs := Lib.hid (pwI_succ false j)
        have hq : pwI false j * 2 ≤ 9223372036854775808 := by have := hs.out; omega
        have hlt' : (j : Int) < (k : Int) := by omega
        go_wp2
        go_round
        case rel => exact ⟨j + 1, by omega, by go_num, by rw [← hs.out]⟩
        case measure => simp [intOf]; omega
      · obtain rfl : j = k := by omega
        go_wp2
        go_ret
        exact ⟨rfl, rfl⟩
  · go_loop [5, 6] (fun n i => ∃ j : Nat, j ≤ k ∧ i = .int .i64 (j : Int) ∧ n = .int .u64 (pwI true j)) (fun _ i => k - (intOf i).toNat)
    case atStart => exact ⟨0, by omega, rfl, rfl⟩
    case round =>
      obtain ⟨j, hj, rfl, rfl⟩ := hrel
      have hb := pwI_bd true j (by omega)
      by_cases hlt : j < k
      · have hb' := pwI_bd true (j + 1) (by omega)
        have hs := Lib.hid (pwI_succ true j)
        have hq : pwI true j * 2 ≤ 9223372036854775808 := by have := hs.out; omega
        have hlt' : (j : Int) < (k : Int) := by omega
        go_wp2
        go_round
        case rel => exact ⟨j + 1, by omega, by go_num, by rw [← hs.out]⟩
        case measure => simp [intOf]; omega
      · obtain rfl : j = k := by omega
        go_wp2
        go_ret
        exact ⟨rfl, rfl⟩
/-- The same, at a place's number as the text has it. -/
theorem rbit_at (b : Bool) (p : Int) (k : Nat) (hk : (k : Int) = p) (P : Int) (hP : ((2 ^ k : Nat) : Int) = P) (h : k ≤ 63) (w : World) :
    Calls Tryz.prog 117 #[.bool b, .int .i64 p] w fun r w' => r = .returned (.int .u64 (b2i b * P)) ∧ w = w' := by
  have := rbitp_any b k h w
  unfold pwI at this
  rw [hP, hk] at this
  exact this
theorem rb63 (b : Bool) (w : World) : Calls Tryz.prog 117 #[.bool b, .int .i64 63] w fun r w' => r = .returned (.int .u64 (b2i b * 9223372036854775808)) ∧ w = w' := rbit_at b 63 63 rfl _ (by decide) (by omega) w
theorem rb61 (b : Bool) (w : World) : Calls Tryz.prog 117 #[.bool b, .int .i64 61] w fun r w' => r = .returned (.int .u64 (b2i b * 2305843009213693952)) ∧ w = w' := rbit_at b 61 61 rfl _ (by decide) (by omega) w
theorem rb60 (b : Bool) (w : World) : Calls Tryz.prog 117 #[.bool b, .int .i64 60] w fun r w' => r = .returned (.int .u64 (b2i b * 1152921504606846976)) ∧ w = w' := rbit_at b 60 60 rfl _ (by decide) (by omega) w
theorem rb6 (b : Bool) (w : World) : Calls Tryz.prog 117 #[.bool b, .int .i64 6] w fun r w' => r = .returned (.int .u64 (b2i b * 64)) ∧ w = w' := rbit_at b 6 6 rfl _ (by decide) (by omega) w
theorem rb3 (b : Bool) (w : World) : Calls Tryz.prog 117 #[.bool b, .int .i64 3] w fun r w' => r = .returned (.int .u64 (b2i b * 8)) ∧ w = w' := rbit_at b 3 3 rfl _ (by decide) (by omega) w
theorem rb2 (b : Bool) (w : World) : Calls Tryz.prog 117 #[.bool b, .int .i64 2] w fun r w' => r = .returned (.int .u64 (b2i b * 4)) ∧ w = w' := rbit_at b 2 2 rfl _ (by decide) (by omega) w
theorem rb1 (b : Bool) (w : World) : Calls Tryz.prog 117 #[.bool b, .int .i64 1] w fun r w' => r = .returned (.int .u64 (b2i b * 2)) ∧ w = w' := rbit_at b 1 1 rfl _ (by decide) (by omega) w
end Go.Proofs.YtnbdoemnepfhdaaGreat.Fld

namespace Go.Proofs.YtnbdoemnepfhdaaGreat.Fld
open Go.ChangeShapes Go.WideShapes Go.ChangeAt Go.RowKit
set_option maxHeartbeats 1000000
set_option maxRecDepth 100000
def placeI (b : Bool) (p : Int) : Int := b2i b * ((2 ^ p.toNat : Nat) : Int)
theorem rplace_any (b : Bool) (p : Int) (h0 : 0 ≤ p) (h1 : p ≤ 63) (w : World) :
    Calls Tryz.prog 117 #[.bool b, .int .i64 p] w fun r w' => r = .returned (.int .u64 (placeI b p)) ∧ w = w' :=
  rbit_at b p p.toNat (by omega) _ rfl (by omega) w
theorem place_at (b : Bool) (p P : Int) (h : ((2 ^ p.toNat : Nat) : Int) = P) : placeI b p = b2i b * P := by unfold placeI; rw [h]
theorem place_true (p P : Int) (h : ((2 ^ p.toNat : Nat) : Int) = P) : placeI true p = P := by rw [place_at _ _ _ h, show b2i true = 1 from rfl, Int.one_mul]
theorem rtage_any (e : Ent) (h : e.Fit) (v0 : 0 ≤ e.va) (v1 : e.va ≤ 18446744073709551615) (w : World) :
    Calls Tryz.prog 90 #[.agg #[.int .i64 e.size, .int .i64 e.ctx, .int .u64 e.va, .int .u64 e.pa, .bool e.att.write, .bool e.att.priv, .bool e.att.exec, .bool e.att.lock, .bool e.att.global, .bool e.att.quiet, .bool e.valid]] w fun r w' => r = .returned (.int .u64 e.tagW) ∧ Below w.heap.size w w' := by
  have c0 := h.c0
  have c1 := h.c1
  have ht := tag_bd e.va
  have hb := b2i_bd e.att.global
  have H := Lib.hid (show e.tagW = b2i e.att.global * 9223372036854775808 + e.ctx * 281474976710656 + tagI e.va from rfl)
  clear h
  go_enter Tryz.func90, Tryz.ntmps90
  go_wp2_with fail
  go_quiet ((first | (go_at_call 117; exact quiet_left (rb63 _ _)) | (go_at_call 118; exact quiet_left (rtag_any _ v0 v1 _))))
  go_wp2
  go_ret
  refine ⟨ret_int ?_, below_drewN ((Below.refl _ _).alloc (Nat.le_refl _) _) _⟩
  rw [H.out]
theorem rdata_any (e : Ent) (h : e.Fit) (w : World) :
    Calls Tryz.prog 92 #[.agg #[.int .i64 e.size, .int .i64 e.ctx, .int .u64 e.va, .int .u64 e.pa, .bool e.att.write, .bool e.att.priv, .bool e.att.exec, .bool e.att.lock, .bool e.att.global, .bool e.att.quiet, .bool e.valid]] w fun r w' => r = .returned (.int .u64 e.dataW) ∧ Below w.heap.size w w' := by
  have g1 := b2i_bd e.att.quiet; have g2 := b2i_bd e.att.lock; have g3 := b2i_bd e.att.exec; have g4 := b2i_bd e.att.priv; have g5 := b2i_bd e.att.write; have g6 := b2i_bd e.att.global
  have h2 := h.s0; have h3 := h.s1; have h4 := h.p0; have h5 := h.p1
  have p63 := place_true 63 9223372036854775808 (by decide)
  have p61 := place_true 61 2305843009213693952 (by decide)
  have p60 := place_at e.att.quiet 60 1152921504606846976 (by decide)
  have p6 := place_at e.att.lock 6 64 (by decide)
  have p3 := place_at e.att.exec 3 8 (by decide)
  have p2 := place_at e.att.priv 2 4 (by decide)
  have p1 := place_at e.att.write 1 2 (by decide)
  have p0 := place_at e.att.global 0 1 (by decide)
  have H := Lib.hid (show e.dataW = 9223372036854775808 + e.size * 2305843009213693952 + e.pa + (b2i e.att.quiet * 1152921504606846976 + b2i e.att.lock * 64 + b2i e.att.exec * 8 + b2i e.att.priv * 4 + b2i e.att.write * 2 + b2i e.att.global) from rfl)
  clear h
  go_enter Tryz.func92, Tryz.ntmps92
  go_wp2_with fail
  go_quiet ((go_at_call 117; exact quiet_left (rplace_any _ _ (by decide) (by decide) _)))
  go_wp2_with fail
  obtain ⟨N, hN⟩ : ∃ N, 9223372036854775808 + e.size * 2305843009213693952 + b2i e.att.quiet * 1152921504606846976 + e.pa = N := ⟨_, rfl⟩
  rw [hN]
  have hN0 : 0 ≤ N := by omega
  have hN1 : N ≤ 18446744073709551000 := by omega
  have HN := Lib.hid hN
  clear hN
  obtain ⟨W, hW⟩ : ∃ W, W = (((w.alloc (.cells #[.int .i64 e.size, .int .i64 e.ctx, .int .u64 e.va, .int .u64 e.pa, .bool e.att.write, .bool e.att.priv, .bool e.att.exec, .bool e.att.lock, .bool e.att.global, .bool e.att.quiet, .bool e.valid] 30)).alloc (.cells #[.bool e.att.write, .bool e.att.priv, .bool e.att.exec, .bool e.att.lock, .bool e.att.global, .bool e.att.quiet] 28)).drewN nq) := ⟨_, rfl⟩
  rw [← hW]
  have hr : W.heap[w.heap.size + 1]? = some (.cells #[.bool e.att.write, .bool e.att.priv, .bool e.att.exec, .bool e.att.lock, .bool e.att.global, .bool e.att.quiet] 28 (0, 0)) := by rw [hW]; exact heap_alloc2_new _ _ _
  have HB := Lib.hid (show Below w.heap.size w W by rw [hW]; exact below_drewN (((Below.refl _ _).alloc (Nat.le_refl _) _).alloc (by simp) _) _)
  clear hW
  have r0 := cell_of_row _ _ 0 _ _ _ hr
  have r1 := cell_of_row _ _ 1 _ _ _ hr
  have r2 := cell_of_row _ _ 2 _ _ _ hr
  have r3 := cell_of_row _ _ 3 _ _ _ hr
  have r4 := cell_of_row _ _ 4 _ _ _ hr
  clear hr g1 h2 h3 h4 h5

  go_quiet ((go_at_call 117; exact quiet_left (rplace_any _ _ (by decide) (by decide) _)))
  go_wp2
  go_ret
  exact ⟨ret_int (by have h1 := H.out; have h2 := HN.out; omega), below_drewN HB.out _⟩
end Go.Proofs.YtnbdoemnepfhdaaGreat.Fld

namespace Go.Proofs.YtnbdoemnepfhdaaGreat.Tl
open Fld
/-- Whether two entries part. -/
def partsB (a b : Ent) : Bool := !meetB a.va a.size b.va b.size || (!a.att.global && !b.att.global && a.ctx != b.ctx)
def setE (T : Nat → Ent) (i : Nat) (e : Ent) : Nat → Ent := fun k => if k = i then e else T k
theorem setE_at (T : Nat → Ent) (i : Nat) (e : Ent) : setE T i e i = e := if_pos rfl
theorem setE_ne {T : Nat → Ent} {i k : Nat} {e : Ent} (h : k ≠ i) : setE T i e k = T k := if_neg h
/-- Of how many valid entries a thing is so. -/
def cntE (T : Nat → Ent) (p : Ent → Bool) : Nat → Nat
  | 0 => 0
  | n + 1 => cntE T p n + if (T n).valid && p (T n) then 1 else 0
/-- Those of the first j that are to go are gone. -/
def dropE (T : Nat → Ent) (p : Ent → Bool) (j : Nat) : Nat → Ent := fun k => if decide (k < j) && ((T k).valid && p (T k)) then Ent.zero else T k
theorem dropE_valid {T : Nat → Ent} {p : Ent → Bool} {j k : Nat} (h : (dropE T p j k).valid = true) : dropE T p j k = T k := by
  unfold dropE at *
  split at h
  · cases h
  · rw [if_neg (by assumption)]
/-- The first of n places of which a thing is so; n, where there is none. -/
def fst (T : Nat → Ent) (p : Ent → Bool) : Nat → Nat
  | 0 => 0
  | n + 1 => if fst T p n < n then fst T p n else if p (T n) then n else n + 1
theorem fst_spec (T : Nat → Ent) (p : Ent → Bool) (n : Nat) : fst T p n ≤ n ∧ (∀ k, k < fst T p n → p (T k) = false) ∧ (fst T p n < n → p (T (fst T p n)) = true) := by
  induction n with
  | zero => exact ⟨Nat.le_refl _, fun k hk => absurd hk (Nat.not_lt_zero k), fun h => absurd h (Nat.not_lt_zero 0)⟩
  | succ n ih =>
    obtain ⟨a, b, c⟩ := ih
    unfold fst
    by_cases h : fst T p n < n
    · rw [if_pos h]; exact ⟨by omega, b, fun _ => c h⟩
    · rw [if_neg h]
      have e : fst T p n = n := by omega
      rw [e] at b
      cases hp : p (T n)
      · rw [if_neg (by decide)]
        refine ⟨Nat.le_refl _, fun k hk => ?_, fun h => by omega⟩
        by_cases ek : k = n
        · rw [ek]; exact hp
        · exact b k (by omega)
      · rw [if_pos rfl]; exact ⟨by omega, b, fun _ => hp⟩
theorem fst_eq {T : Nat → Ent} {p : Ent → Bool} {n i : Nat} (h1 : i ≤ n) (h2 : ∀ k, k < i → p (T k) = false) (h3 : i < n → p (T i) = true) : fst T p n = i := by
  obtain ⟨a, b, c⟩ := fst_spec T p n
  rcases Nat.lt_trichotomy (fst T p n) i with h | h | h
  · have := h2 _ h; rw [c (by omega)] at this; cases this
  · exact h
  · have := b _ h; rw [h3 (by omega)] at this; cases this
theorem fst_none {T : Nat → Ent} {p : Ent → Bool} {n : Nat} : fst T p n = n ↔ ∀ k, k < n → p (T k) = false :=
  ⟨fun h k hk => (fst_spec T p n).2.1 k (by omega), fun h => fst_eq (Nat.le_refl _) h (fun h => by omega)⟩
/-- The places without a lock, rising. -/
def opens (T : Nat → Ent) (n : Nat) : List Int := ((List.range n).filter fun i => !(T i).att.lock).map Int.ofNat
/-- A pick's distance. -/
def pickP (p : Int) : Int := if p < 0 then -1 - p else p
def pickN (T : Nat → Ent) (n : Nat) (p : Int) : Nat := (pickP p % ((opens T n).length : Int)).toNat
def roomI (T : Nat → Ent) (n : Nat) (p : Int) : Nat := if fst T (fun e => !e.valid) n < n then fst T (fun e => !e.valid) n else ((opens T n).getD (pickN T n p) 0).toNat
/-! ### What is found -/
/-! ### What is put -/
def hasB (n : Nat) (i : Int) : Bool := decide (0 ≤ i) && decide (i < n)
/-- What is in the way of an entry. -/
def wayB (e : Ent) (o : Ent) : Bool := !partsB e o
def putW (n : Nat) (T : Nat → Ent) (i : Int) (e : Ent) : Nat := fst (fun k => if (k : Int) = i then Ent.zero else T k) (fun o => o.valid && wayB e o) n
def putE (T : Nat → Ent) (n : Nat) (i : Int) (e : Ent) : Int := if e.mayB then if hasB n i then if putW n T i e < n then 9 else 0 else 5 else 1
def putT (T : Nat → Ent) (n : Nat) (i : Int) (e : Ent) : Nat → Ent := if putE T n i e = 0 then setE T i.toNat e else T
/-! ### What is inserted -/
def stuckB (T : Nat → Ent) (n : Nat) (e : Ent) : Bool := decide (0 < cntE T (fun o => o.att.lock && wayB e o) n) || decide (cntE T (fun o => o.att.lock) n = n)
def freeT (T : Nat → Ent) (n : Nat) (e : Ent) : Nat → Ent := dropE T (wayB e) n
def insE (T : Nat → Ent) (n : Nat) (e : Ent) : Int := if e.mayB then if stuckB T n e then 7 else 0 else 1
def insN (T : Nat → Ent) (n : Nat) (e : Ent) (p : Int) : Nat := if insE T n e = 0 then roomI (freeT T n e) n p else 0
def insT (T : Nat → Ent) (n : Nat) (e : Ent) (p : Int) : Nat → Ent := if insE T n e = 0 then setE (freeT T n e) (insN T n e p) e else T
/-! ### Well made places -/
structure Ok (T : Nat → Ent) (n : Nat) : Prop where
  wf : ∀ k, k < n → (T k).wf
  may : ∀ k, k < n → (T k).valid = true → (T k).mayB = true
  zero : ∀ k, k < n → (T k).valid = false → T k = Ent.zero
  part : ∀ i k, i < n → k < n → i ≠ k → (T i).valid = true → (T k).valid = true → partsB (T i) (T k) = true
theorem zero_wf : Ent.zero.wf := by unfold Ent.wf Ent.zero; simp
theorem Ok.new (n : Nat) : Ok (fun _ => Ent.zero) n := ⟨fun _ _ => zero_wf, fun _ _ h => (by cases h), fun _ _ _ => rfl, fun _ _ _ _ _ h => (by cases h)⟩
theorem Ok.drop {T : Nat → Ent} {n : Nat} (h : Ok T n) (p : Ent → Bool) (j : Nat) : Ok (dropE T p j) n := by
  have hd : ∀ k, dropE T p j k = Ent.zero ∨ dropE T p j k = T k := fun k => by unfold dropE; split; exact .inl rfl; exact .inr rfl
  refine ⟨fun k hk => ?_, fun k hk hv => ?_, fun k hk hv => ?_, fun i k hi hk hne hi2 hk2 => ?_⟩
  · rcases hd k with e | e <;> rw [e]; exact zero_wf; exact h.wf k hk
  · have e := dropE_valid hv; rw [e] at hv ⊢; exact h.may k hk hv
  · rcases hd k with e | e
    · exact e
    · rw [e] at hv ⊢; exact h.zero k hk hv
  · have e1 := dropE_valid hi2; have e2 := dropE_valid hk2
    rw [e1] at hi2 ⊢; rw [e2] at hk2 ⊢
    exact h.part i k hi hk hne hi2 hk2
theorem meet_comm' (a s b t : Int) : meetB a s b t = meetB b t a s := by
  unfold meetB
  rw [Int.max_comm, Bool.and_comm (sizeB s)]
  congr 1
  unfold inB
  congr 1
  rw [decide_eq_decide]
  exact ⟨Eq.symm, Eq.symm⟩
theorem parts_comm (a b : Ent) : partsB a b = partsB b a := by
  unfold partsB
  rw [meet_comm', Bool.and_comm (!a.att.global), bne_comm]
theorem Ok.set {T : Nat → Ent} {n i : Nat} {e : Ent} (h : Ok T n) (hw : e.wf) (hm : e.mayB = true) (hp : ∀ k, k < n → k ≠ i → (T k).valid = true → partsB e (T k) = true) : Ok (setE T i e) n := by
  have hv : e.valid = true := by unfold Ent.mayB at hm; simp only [Bool.and_eq_true] at hm; exact hm.1.1.1.1.1.1.1
  refine ⟨fun k hk => ?_, fun k hk hv => ?_, fun k hk hv => ?_, fun a b ha hb hne ha2 hb2 => ?_⟩
  · by_cases hki : k = i
    · rw [hki, setE_at]; exact hw
    · rw [setE_ne hki]; exact h.wf k hk
  · by_cases hki : k = i
    · rw [hki, setE_at]; exact hm
    · rw [setE_ne hki] at hv ⊢; exact h.may k hk hv
  · by_cases hki : k = i
    · rw [hki, setE_at, ‹e.valid = true›] at hv; cases hv
    · rw [setE_ne hki] at hv ⊢; exact h.zero k hk hv
  · by_cases hai : a = i
    · have hbi : b ≠ i := fun e2 => hne (hai.trans e2.symm)
      rw [hai, setE_at, setE_ne hbi]; rw [setE_ne hbi] at hb2
      exact hp b hb hbi hb2
    · rw [setE_ne hai] at ha2 ⊢
      by_cases hbi : b = i
      · rw [hbi, setE_at, parts_comm]; exact hp a ha hai ha2
      · rw [setE_ne hbi] at hb2 ⊢; exact h.part a b ha hb hne ha2 hb2
theorem Ok.put {T : Nat → Ent} {n : Nat} (h : Ok T n) {e : Ent} (hw : e.wf) (i : Int) : Ok (putT T n i e) n := by
  unfold putT
  split
  · rename_i h0
    unfold putE at h0
    cases hm : e.mayB
    · rw [hm] at h0; cases h0
    · rw [hm] at h0
      cases hb : hasB n i
      · rw [hb] at h0; cases h0
      · rw [hb] at h0
        simp only [if_true] at h0
        have hn : putW n T i e = n := by
          by_cases hc : putW n T i e < n
          · rw [if_pos hc] at h0; cases h0
          · have := (fst_spec (fun k => if (k : Int) = i then Ent.zero else T k) (fun o => o.valid && wayB e o) n).1
            unfold putW at *; omega
        unfold hasB at hb
        simp only [Bool.and_eq_true, decide_eq_true_eq] at hb
        refine h.set hw hm fun k hk hne hv => ?_
        have := fst_none.1 hn k hk
        rw [if_neg (by omega), hv, Bool.true_and] at this
        simpa [wayB] using this
  · exact h
theorem Ok.clear {T : Nat → Ent} {n : Nat} (h : Ok T n) (i : Nat) : Ok (setE T i Ent.zero) n := by
  have hd : ∀ k, setE T i Ent.zero k = Ent.zero ∨ setE T i Ent.zero k = T k := fun k => by unfold setE; split; exact .inl rfl; exact .inr rfl
  have hv' : ∀ k, (setE T i Ent.zero k).valid = true → setE T i Ent.zero k = T k := fun k hv => by
    rcases hd k with e | e
    · rw [e] at hv; cases hv
    · exact e
  refine ⟨fun k hk => ?_, fun k hk hv => ?_, fun k hk hv => ?_, fun i k hi hk hne hi2 hk2 => ?_⟩
  · rcases hd k with e | e <;> rw [e]; exact zero_wf; exact h.wf k hk
  · have e := hv' k hv; rw [e] at hv ⊢; exact h.may k hk hv
  · rcases hd k with e | e
    · exact e
    · rw [e] at hv ⊢; exact h.zero k hk hv
  · have e1 := hv' _ hi2; have e2 := hv' _ hk2
    rw [e1] at hi2 ⊢; rw [e2] at hk2 ⊢
    exact h.part _ _ hi hk hne hi2 hk2
end Go.Proofs.YtnbdoemnepfhdaaGreat.Tl

namespace Go.Proofs.YtnbdoemnepfhdaaGreat.Fld
open Go.ChangeShapes Go.WideShapes Go.ChangeAt Go.RowKit
set_option maxHeartbeats 1000000
set_option maxRecDepth 100000
/-- The first half of the document's May. -/
def Ent.halfB (e : Ent) : Bool := e.valid && sizeB e.size && decide (0 ≤ e.ctx ∧ e.ctx ≤ 8191) && !holeB e.va && !(e.att.global && e.ctx != 0)
theorem Ent.may_half (e : Ent) : e.mayB = (e.halfB && (e.va % bytesI e.size == 0 && (e.pa % bytesI e.size == 0 && decide (e.pa < 2199023255552)))) := by
  unfold Ent.mayB Ent.halfB
  rw [Bool.eq_iff_iff]; simp [and_assoc]
theorem rmay_no (e : Ent) (v0 : 0 ≤ e.va) (v1 : e.va ≤ 18446744073709551615) (hh : e.halfB = false) (w : World) :
    Calls Tryz.prog 126 #[.agg #[.int .i64 e.size, .int .i64 e.ctx, .int .u64 e.va, .int .u64 e.pa, .bool e.att.write, .bool e.att.priv, .bool e.att.exec, .bool e.att.lock, .bool e.att.global, .bool e.att.quiet, .bool e.valid]] w fun r w' => r = .returned (.bool false) ∧ Below w.heap.size w w' := by
  obtain ⟨s, c, v, p, ⟨wr, pr, ex, lk, gl, qu⟩, vd⟩ := e
  unfold Ent.halfB at hh
  dsimp only at *
  have q1 := rpmay_any s
  have q2 := rhole_any v v0 v1
  generalize sizeB s = S at *
  generalize holeB v = O at *
  have Q1 := Lib.hid q1
  have Q2 := Lib.hid q2
  clear q1 q2
  cases vd
  · clear hh
    go_enter Tryz.func126, Tryz.ntmps126
    go_wp2_with (first | (go_at_call 73; refine (Q1.out _).mono ?_; rintro e w' ⟨rfl, rfl⟩) | (go_at_call 138; refine (Q2.out _).mono ?_; rintro e w' ⟨rfl, rfl⟩))
    go_ret
    exact ⟨rfl, (Below.refl _ _).alloc (Nat.le_refl _) _⟩
  cases S
  · clear hh
    go_enter Tryz.func126, Tryz.ntmps126
    go_wp2_with (first | (go_at_call 73; refine (Q1.out _).mono ?_; rintro e w' ⟨rfl, rfl⟩) | (go_at_call 138; refine (Q2.out _).mono ?_; rintro e w' ⟨rfl, rfl⟩))
    go_ret
    exact ⟨rfl, (Below.refl _ _).alloc (Nat.le_refl _) _⟩
  by_cases c0 : c < 0
  · clear hh
    go_enter Tryz.func126, Tryz.ntmps126
    go_wp2_with (first | (go_at_call 73; refine (Q1.out _).mono ?_; rintro e w' ⟨rfl, rfl⟩) | (go_at_call 138; refine (Q2.out _).mono ?_; rintro e w' ⟨rfl, rfl⟩))
    go_ret
    exact ⟨rfl, (Below.refl _ _).alloc (Nat.le_refl _) _⟩
  by_cases c1 : 8191 < c
  · clear hh
    go_enter Tryz.func126, Tryz.ntmps126
    go_wp2_with (first | (go_at_call 73; refine (Q1.out _).mono ?_; rintro e w' ⟨rfl, rfl⟩) | (go_at_call 138; refine (Q2.out _).mono ?_; rintro e w' ⟨rfl, rfl⟩))
    go_ret
    exact ⟨rfl, (Below.refl _ _).alloc (Nat.le_refl _) _⟩
  cases O
  · have hd : decide (0 ≤ c ∧ c ≤ 8191) = true := decide_eq_true (by omega)
    rw [hd] at hh
    have hg : gl = true ∧ (c != 0) = true := by simpa using hh
    obtain ⟨rfl, hc⟩ := hg
    clear hh hd
    go_enter Tryz.func126, Tryz.ntmps126
    go_wp2_with (first | (go_at_call 73; refine (Q1.out _).mono ?_; rintro e w' ⟨rfl, rfl⟩) | (go_at_call 138; refine (Q2.out _).mono ?_; rintro e w' ⟨rfl, rfl⟩))
    go_ret
    exact ⟨rfl, (Below.refl _ _).alloc (Nat.le_refl _) _⟩
  · clear hh
    go_enter Tryz.func126, Tryz.ntmps126
    go_wp2_with (first | (go_at_call 73; refine (Q1.out _).mono ?_; rintro e w' ⟨rfl, rfl⟩) | (go_at_call 138; refine (Q2.out _).mono ?_; rintro e w' ⟨rfl, rfl⟩))
    go_ret
    exact ⟨rfl, (Below.refl _ _).alloc (Nat.le_refl _) _⟩
theorem rmay_yes (e : Ent) (v0 : 0 ≤ e.va) (v1 : e.va ≤ 18446744073709551615) (p0 : 0 ≤ e.pa) (p1 : e.pa ≤ 18446744073709551615) (hh : e.halfB = true) (w : World) :
    Calls Tryz.prog 126 #[.agg #[.int .i64 e.size, .int .i64 e.ctx, .int .u64 e.va, .int .u64 e.pa, .bool e.att.write, .bool e.att.priv, .bool e.att.exec, .bool e.att.lock, .bool e.att.global, .bool e.att.quiet, .bool e.valid]] w fun r w' => r = .returned (.bool (e.va % bytesI e.size == 0 && (e.pa % bytesI e.size == 0 && decide (e.pa < 2199023255552)))) ∧ Below w.heap.size w w' := by
  obtain ⟨s, c, v, p, ⟨wr, pr, ex, lk, gl, qu⟩, vd⟩ := e
  unfold Ent.halfB at hh
  dsimp only at *
  simp only [Bool.and_eq_true, decide_eq_true_eq, Bool.not_eq_true', Bool.and_eq_false_iff] at hh
  obtain ⟨⟨⟨⟨rfl, hs⟩, c0, c1⟩, ho⟩, hg⟩ := hh
  have hp := bytes_pos hs
  have hbb := bytes_bd s
  have q3 := rbytes_any s
  generalize bytesI s = B at *
  have Q3 := Lib.hid q3
  clear q3
  obtain ⟨x, hx⟩ : ∃ x, v % B = x := ⟨_, rfl⟩
  obtain ⟨y, hy⟩ : ∃ y, p % B = y := ⟨_, rfl⟩
  have hcc : gl = true → (c != 0) = false := fun h => by rcases hg with h' | h'; (rw [h] at h'; cases h'); exact h'
  clear hg
  cases hxb : (x == 0) <;> cases hyb : (y == 0) <;> cases gl
  all_goals
    (first | (have hc0 := hcc rfl; clear hcc) | clear hcc)
    go_enter Tryz.func126, Tryz.ntmps126
    go_wp2_with (first | (go_at_call 73; refine (rpmay_any _ _).mono ?_; rintro e w' ⟨rfl, rfl⟩) | (go_at_call 138; refine (rhole_any _ v0 v1 _).mono ?_; rintro e w' ⟨rfl, rfl⟩))
    go_quiet ((go_at_call 86; exact quiet_left (Q3.out _)))
    go_wp2
    go_ret
    refine ⟨ret_bool ?_, below_drewN ((Below.refl _ _).alloc (Nat.le_refl _) _) _⟩
    rw [hx, hxb, hy, hyb]
    rfl
end Go.Proofs.YtnbdoemnepfhdaaGreat.Fld

