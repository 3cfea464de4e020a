/-
  Contracts and plain facts: TData. Conditions: each says its own.
-/
import Derived.Test.YtnbdoemnepfhdaaGreatR9
namespace Go.Proofs.YtnbdoemnepfhdaaGreat.Fld
open Go.ChangeShapes Go.WideShapes Go.ChangeAt Go.RowKit
set_option maxHeartbeats 1000000
set_option maxRecDepth 100000
def Ent.dataB (e : Ent) : Int := putI (putI 9223372036854775808 61 2 (IntKind.u64.wrap e.size)) 13 28 (getI e.pa 13 28)
def putAll (a : Att) (x : Int) : Int := putUp a x 61
def Ent.dataG (e : Ent) : Int := if e.valid then putAll e.att e.dataB else 0
theorem putall_any (x : Int) (a : Att) (x0 : 0 ≤ x) (x1 : x ≤ 18446744073709551615) (w : World) :
    Calls Tryz.prog 124 #[.int .u64 x, .agg #[.bool a.write, .bool a.priv, .bool a.exec, .bool a.lock, .bool a.global, .bool a.quiet]] w fun r w' => r = .returned (.int .u64 (putAll a x)) ∧ Below w.heap.size w w' := putattr_any x a x0 x1 w
theorem Ent.dataB_bd (e : Ent) : 0 ≤ e.dataB ∧ e.dataB ≤ 18446744073709551615 := by
  have h2 := putI_bd 9223372036854775808 61 2 (IntKind.u64.wrap e.size) (by omega) (by omega)
  exact putI_bd _ 13 28 (getI e.pa 13 28) h2.1 h2.2
theorem put_bit (y : Int) (k : Nat) (P : Int) (b : Bool) (hk : k < 64) (hP : ((2 ^ k : Nat) : Int) = P) (y0 : 0 ≤ y) (y1 : y ≤ 18446744073709551615) : putI y k 1 ((b.toNat : Nat) : Int) = y - y / P % 2 * P + b2i b * P := by
  have hb := b2i_bd b
  rw [putI_at y k 1 _ P 2 (mayB_mk (by omega)) y0 y1 (by omega) (by simpa using hP) (by decide), b2i_nat, Int.emod_eq_of_lt hb.1 (by omega)]
theorem putUp_all (a : Att) (x : Int) : putUp a x 61 = putI (putI (putI (putI (putI (putI x (0 : Nat) 1 (a.global.toNat : Nat)) (1 : Nat) 1 (a.write.toNat : Nat)) (2 : Nat) 1 (a.priv.toNat : Nat)) (3 : Nat) 1 (a.exec.toNat : Nat)) (6 : Nat) 1 (a.lock.toNat : Nat)) (60 : Nat) 1 (a.quiet.toNat : Nat) := by
  simp only [putUp, attBit]
theorem putUp_att (a : Att) (x : Int) (x0 : 0 ≤ x) (x1 : x ≤ 18446744073709551615) (h0 : x % 16 = 0) (h6 : x / 64 % 2 = 0) (h60 : x / 1152921504606846976 % 2 = 0) : putUp a x 61 = x + Ent.attW a := by
  have b0 := b2i_bd a.global; have b1 := b2i_bd a.write; have b2 := b2i_bd a.priv; have b3 := b2i_bd a.exec; have b6 := b2i_bd a.lock; have b60 := b2i_bd a.quiet
  rw [putUp_all]
  have e0 : putI x (0 : Nat) 1 (a.global.toNat : Nat) = x + b2i a.global := by
    rw [put_bit x 0 1 _ (by omega) (by decide) x0 x1]; omega
  rw [e0]
  have e1 : putI (x + b2i a.global) (1 : Nat) 1 (a.write.toNat : Nat) = x + b2i a.global + b2i a.write * 2 := by
    rw [put_bit _ 1 2 _ (by omega) (by decide) (by omega) (by omega)]; omega
  rw [e1]
  have e2 : putI (x + b2i a.global + b2i a.write * 2) (2 : Nat) 1 (a.priv.toNat : Nat) = x + b2i a.global + b2i a.write * 2 + b2i a.priv * 4 := by
    rw [put_bit _ 2 4 _ (by omega) (by decide) (by omega) (by omega)]; omega
  rw [e2]
  have e3 : putI (x + b2i a.global + b2i a.write * 2 + b2i a.priv * 4) (3 : Nat) 1 (a.exec.toNat : Nat) = x + b2i a.global + b2i a.write * 2 + b2i a.priv * 4 + b2i a.exec * 8 := by
    rw [put_bit _ 3 8 _ (by omega) (by decide) (by omega) (by omega)]; omega
  rw [e3]
  have e6 : putI (x + b2i a.global + b2i a.write * 2 + b2i a.priv * 4 + b2i a.exec * 8) (6 : Nat) 1 (a.lock.toNat : Nat) = x + b2i a.global + b2i a.write * 2 + b2i a.priv * 4 + b2i a.exec * 8 + b2i a.lock * 64 := by
    rw [put_bit _ 6 64 _ (by omega) (by decide) (by omega) (by omega)]; omega
  rw [e6]
  rw [put_bit _ 60 1152921504606846976 _ (by omega) (by decide) (by omega) (by omega)]
  unfold Ent.attW
  omega
theorem Ent.dataB_fit {e : Ent} (h : e.Fit) : e.dataB = 9223372036854775808 + e.size * 2305843009213693952 + e.pa := by
  have s0 := h.s0; have s1 := h.s1; have p0 := h.p0; have p1 := h.p1; have p2 := h.p2
  have e1 : IntKind.u64.wrap e.size = e.size := IntWalk.u64_in _ ⟨by omega, by omega⟩
  unfold Ent.dataB
  rw [e1, putI_at _ 61 2 _ 2305843009213693952 4 (by decide) (by omega) (by omega) s0 (by decide) (by decide)]
  have g : getI e.pa 13 28 = e.pa / 8192 := by
    rw [getI_at _ 13 28 8192 268435456 (by decide) p0 (by decide) (by decide)]; omega
  rw [g, putI_at _ 13 28 _ 8192 268435456 (by decide) (by omega) (by omega) (by omega) (by decide) (by decide)]
  omega
theorem Ent.dataG_fit {e : Ent} (h : e.Fit) (hv : e.valid = true) : e.dataG = e.dataW := by
  have s0 := h.s0; have s1 := h.s1; have p0 := h.p0; have p1 := h.p1; have p2 := h.p2
  have hb := Ent.dataB_fit h
  have hbd := Ent.dataB_bd e
  unfold Ent.dataG Ent.dataW putAll
  rw [hv, if_pos rfl, putUp_att _ _ hbd.1 hbd.2 (by rw [hb]; omega) (by rw [hb]; omega) (by rw [hb]; omega), hb]
theorem Ent.dataG_none {e : Ent} (hv : e.valid = false) : e.dataG = 0 := by unfold Ent.dataG; rw [hv]; rfl
theorem put63 : putI 0 63 1 ((true.toNat : Nat) : Int) = 9223372036854775808 := by kernel_rfl
theorem set63 (w : World) : Calls Tryz.prog 122 #[.int .u64 0, .int .i64 63, .bool true] w fun e w' => e = .returned (.int .u64 9223372036854775808) ∧ w = w' :=
  (set_any 0 63 true (by omega) (by omega) w).mono fun _ _ h => ⟨h.1.trans (ret_int put63), h.2⟩
theorem tdata_no (e : Ent) (hv : e.valid = false) (w : World) :
    Calls Tryz.prog 97 #[.agg #[.int .i64 e.size, .int .i64 e.ctx, .int .u64 e.va, .int .u64 e.pa, .bool e.att.write, .bool e.att.priv, .bool e.att.exec, .bool e.att.lock, .bool e.att.global, .bool e.att.quiet, .bool e.valid]] w fun r w' => r = .returned (.int .u64 e.dataG) ∧ Below w.heap.size w w' := by
  have H := Lib.hid (Ent.dataG_none hv)
  go_enter Tryz.func97, Tryz.ntmps97
  go_wp2
  go_ret
  exact ⟨ret_int H.out.symm, (Below.refl _ _).alloc (Nat.le_refl _) _⟩
theorem tdata_yes (e : Ent) (hv : e.valid = true) (p0 : 0 ≤ e.pa) (p1 : e.pa ≤ 18446744073709551615) (d D2 D3 : Int) (hd : putAll e.att D3 = d) (hD2 : putI 9223372036854775808 61 2 (IntKind.u64.wrap e.size) = D2) (hD3 : putI D2 13 28 (getI e.pa 13 28) = D3) (w : World) :
    Calls Tryz.prog 97 #[.agg #[.int .i64 e.size, .int .i64 e.ctx, .int .u64 e.va, .int .u64 e.pa, .bool e.att.write, .bool e.att.priv, .bool e.att.exec, .bool e.att.lock, .bool e.att.global, .bool e.att.quiet, .bool e.valid]] w fun r w' => r = .returned (.int .u64 d) ∧ Below w.heap.size w w' := by
  have H := Lib.hid hd
  have h2 := putI_bd 9223372036854775808 61 2 (IntKind.u64.wrap e.size) (by omega) (by omega)
  rw [hD2] at h2
  have h3 := putI_bd D2 13 28 (getI e.pa 13 28) h2.1 h2.2
  rw [hD3] at h3
  have h4 := getI_bd e.pa 13 28
  have HD2 := Lib.hid hD2
  have HD3 := Lib.hid hD3
  clear hD2 hD3 hd
  obtain ⟨u0, u1, _⟩ := wrap_u64 e.size
  go_enter Tryz.func97, Tryz.ntmps97
  go_wp2_with fail
  refine (set63 _).mono ?_; rintro r w2 ⟨rfl, rfl⟩
  go_wp2_with fail
  refine (put_any _ _ _ _ (by omega) (by omega) u0 u1 _).mono ?_; rintro r w2 ⟨rfl, rfl⟩
  rw [HD2.out]
  go_wp2_with fail
  refine (get_any _ _ _ p0 p1 _).mono ?_; rintro r w2 ⟨rfl, n, rfl⟩
  go_wp2_with fail
  refine (put_any _ _ _ _ h2.1 h2.2 h4.1 h4.2 _).mono ?_; rintro r w2 ⟨rfl, rfl⟩
  rw [HD3.out]
  go_wp2_with fail
  refine (putall_any _ e.att h3.1 h3.2 _).mono ?_; rintro r w2 ⟨rfl, hb⟩
  go_wp2_with fail
  go_ret
  exact ⟨ret_int H.out, (below_drewN ((Below.refl _ _).alloc (Nat.le_refl _) _) _).trans (hb.mono (by simp))⟩
theorem tdata_any (e : Ent) (p0 : 0 ≤ e.pa) (p1 : e.pa ≤ 18446744073709551615) (w : World) :
    Calls Tryz.prog 97 #[.agg #[.int .i64 e.size, .int .i64 e.ctx, .int .u64 e.va, .int .u64 e.pa, .bool e.att.write, .bool e.att.priv, .bool e.att.exec, .bool e.att.lock, .bool e.att.global, .bool e.att.quiet, .bool e.valid]] w fun r w' => r = .returned (.int .u64 e.dataG) ∧ Below w.heap.size w w' := by
  cases hv : e.valid
  · have := tdata_no e hv w; rwa [hv] at this
  · have := tdata_yes e hv p0 p1 e.dataG _ _ (by unfold Ent.dataG Ent.dataB; rw [hv, if_pos rfl]) rfl rfl w; rwa [hv] at this
end Go.Proofs.YtnbdoemnepfhdaaGreat.Fld

