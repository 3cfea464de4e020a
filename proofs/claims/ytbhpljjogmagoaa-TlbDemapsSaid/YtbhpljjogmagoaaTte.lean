/-
  Contracts of package tte's functions that only compute. Conditions: words are below 2 to the 64.
-/
import Derived.Test.YtbhpljjogmagoaaPNext
import Derived.Test.YtbhpljjogmagoaaBits
import Derived.Test.YtbhpljjogmagoaaTMath
import Derived.Below
namespace Go.Proofs.Ytbhpljjogmagoaa.Fld
open Go.ChangeShapes Go.WideShapes Go.ChangeAt Go.RowKit
set_option maxHeartbeats 400000
def Ent.ctxB (e : Ent) : Bool := if e.att.global then e.ctx == 0 else decide (0 ≤ e.ctx ∧ e.ctx ≤ 8191)
theorem tmayctx_any (e : Ent) (w : World) :
    Calls Try.prog 62 #[.agg #[.int .i64 e.size, .int .i64 e.ctx, .int .u64 e.va, .int .u64 e.pa, .bool e.att.write, .bool e.att.priv, .bool e.att.exec, .bool e.att.lock, .bool e.att.global, .bool e.att.quiet, .bool e.valid]] w fun r w' => r = .returned (.bool e.ctxB) ∧ Below w.heap.size w w' := by
  cases hg : e.att.global
  · by_cases h0 : 0 ≤ e.ctx
    · have H := Lib.hid (show e.ctxB = decide (e.ctx ≤ 8191) by unfold Ent.ctxB; rw [hg]; simp [h0])
      go_enter Try.func62, Try.ntmps62
      go_wp2
      go_ret
      exact ⟨ret_bool H.out.symm, (Below.refl _ _).alloc (Nat.le_refl _) _⟩
    · have H := Lib.hid (show e.ctxB = false by unfold Ent.ctxB; rw [hg]; simp; omega)
      go_enter Try.func62, Try.ntmps62
      go_wp2
      go_ret
      exact ⟨ret_bool H.out.symm, (Below.refl _ _).alloc (Nat.le_refl _) _⟩
  · have H := Lib.hid (show e.ctxB = (e.ctx == 0) by unfold Ent.ctxB; rw [hg]; rfl)
    go_enter Try.func62, Try.ntmps62
    go_wp2
    go_ret
    exact ⟨ret_bool H.out.symm, (Below.refl _ _).alloc (Nat.le_refl _) _⟩
def Ent.vaB (e : Ent) : Bool := !holeB e.va && startsB e.va e.size
def Ent.paB (e : Ent) : Bool := fitsB e.pa 41 && startsB e.pa e.size
theorem Ent.may_parts (e : Ent) (p0 : 0 ≤ e.pa) : e.mayB = (e.valid && sizeB e.size && e.ctxB && e.vaB && e.paB) := by
  have hf : fitsB e.pa 41 = decide (e.pa < 2199023255552) := by unfold fitsB; rfl
  unfold Ent.mayB Ent.ctxB Ent.vaB Ent.paB startsB
  rw [hf]
  cases e.valid <;> cases sizeB e.size <;> cases hg : e.att.global <;> cases holeB e.va <;> simp
  · rw [Bool.eq_iff_iff]; simp [and_assoc, and_comm, and_left_comm]
  · rw [Bool.eq_iff_iff]; simp; omega
theorem bcell {W w1 : World} {B : Nat} (hb : Below B W w1) : (∀ b o, b < B → w1.cell? ⟨b, o, none⟩ = W.cell? ⟨b, o, none⟩) ∧ (∀ b o, b < B → w1.frozen? ⟨b, o, none⟩ = W.frozen? ⟨b, o, none⟩) :=
  ⟨fun b o h => hb.cell (p := ⟨b, o, none⟩) h, fun b o h => hb.frozen (p := ⟨b, o, none⟩) h⟩
theorem tmayva_any (e : Ent) (x0 : 0 ≤ e.va) (x1 : e.va ≤ 18446744073709551615) (w : World) :
    Calls Try.prog 63 #[.agg #[.int .i64 e.size, .int .i64 e.ctx, .int .u64 e.va, .int .u64 e.pa, .bool e.att.write, .bool e.att.priv, .bool e.att.exec, .bool e.att.lock, .bool e.att.global, .bool e.att.quiet, .bool e.valid]] w fun r w' => r = .returned (.bool e.vaB) ∧ Below w.heap.size w w' := by
  cases hh : holeB e.va
  · have H := Lib.hid (show e.vaB = startsB e.va e.size by unfold Ent.vaB; rw [hh]; rfl)
    go_enter Try.func63, Try.ntmps63
    go_wp2_with (first | (go_at_call 68; refine (hole_any _ x0 x1 _).mono ?_; rintro e w' ⟨rfl, n, rfl⟩) | (go_at_call 69; refine (starts_any _ _ x0 x1 _).mono ?_; rintro e w' ⟨rfl, m, rfl⟩))
    go_ret
    exact ⟨ret_bool H.out.symm, below_drewN ((Below.refl _ _).alloc (Nat.le_refl _) _) _⟩
  · have H := Lib.hid (show e.vaB = false by unfold Ent.vaB; rw [hh]; rfl)
    go_enter Try.func63, Try.ntmps63
    go_wp2_with (first | (go_at_call 68; refine (hole_any _ x0 x1 _).mono ?_; rintro e w' ⟨rfl, n, rfl⟩) | (go_at_call 69; refine (starts_any _ _ x0 x1 _).mono ?_; rintro e w' ⟨rfl, m, rfl⟩))
    go_ret
    exact ⟨ret_bool H.out.symm, below_drewN ((Below.refl _ _).alloc (Nat.le_refl _) _) _⟩
theorem tmaypa_any (e : Ent) (x0 : 0 ≤ e.pa) (x1 : e.pa ≤ 18446744073709551615) (w : World) :
    Calls Try.prog 64 #[.agg #[.int .i64 e.size, .int .i64 e.ctx, .int .u64 e.va, .int .u64 e.pa, .bool e.att.write, .bool e.att.priv, .bool e.att.exec, .bool e.att.lock, .bool e.att.global, .bool e.att.quiet, .bool e.valid]] w fun r w' => r = .returned (.bool e.paB) ∧ Below w.heap.size w w' := by
  cases hh : fitsB e.pa 41
  · have H := Lib.hid (show e.paB = false by unfold Ent.paB; rw [hh]; rfl)
    go_enter Try.func64, Try.ntmps64
    go_wp2_with (first | (go_at_call 70; refine (fits_any _ _ x0 x1 _).mono ?_; rintro e w' ⟨rfl, rfl⟩) | (go_at_call 69; refine (starts_any _ _ x0 x1 _).mono ?_; rintro e w' ⟨rfl, m, rfl⟩))
    go_ret
    exact ⟨ret_bool H.out.symm, ((Below.refl _ _).alloc (Nat.le_refl _) _)⟩
  · have H := Lib.hid (show e.paB = startsB e.pa e.size by unfold Ent.paB; rw [hh]; rfl)
    go_enter Try.func64, Try.ntmps64
    go_wp2_with (first | (go_at_call 70; refine (fits_any _ _ x0 x1 _).mono ?_; rintro e w' ⟨rfl, rfl⟩) | (go_at_call 69; refine (starts_any _ _ x0 x1 _).mono ?_; rintro e w' ⟨rfl, m, rfl⟩))
    go_ret
    exact ⟨ret_bool H.out.symm, below_drewN ((Below.refl _ _).alloc (Nat.le_refl _) _) _⟩
theorem below_box {w u : World} {o : Obj} (h : Below (w.alloc o).heap.size (w.alloc o) u) : Below w.heap.size w u :=
  ((Below.refl _ _).alloc (Nat.le_refl _) _).trans (h.mono (by simp))
theorem tmay_any (e : Ent) (v0 : 0 ≤ e.va) (v1 : e.va ≤ 18446744073709551615) (p0 : 0 ≤ e.pa) (p1 : e.pa ≤ 18446744073709551615) (w : World) :
    Calls Try.prog 44 #[.agg #[.int .i64 e.size, .int .i64 e.ctx, .int .u64 e.va, .int .u64 e.pa, .bool e.att.write, .bool e.att.priv, .bool e.att.exec, .bool e.att.lock, .bool e.att.global, .bool e.att.quiet, .bool e.valid]] w fun r w' => r = .returned (.bool e.mayB) ∧ Below w.heap.size w w' := by
  have HM := Lib.hid (Ent.may_parts e p0)
  obtain ⟨s, c, v, p, a, vd⟩ := e
  dsimp only at *
  cases vd
  · go_enter Try.func44, Try.ntmps44
    go_wp2
    go_ret
    exact ⟨ret_bool HM.out.symm, ((Below.refl _ _).alloc (Nat.le_refl _) _)⟩
  cases h2 : sizeB s
  · rw [h2] at HM
    go_enter Try.func44, Try.ntmps44
    go_wp2_with (first | (go_at_call 60; refine (pmay_any _ _).mono ?_; rintro e w' ⟨rfl, rfl⟩))
    go_ret
    exact ⟨ret_bool HM.out.symm, ((Below.refl _ _).alloc (Nat.le_refl _) _)⟩
  rw [h2] at HM
  go_enter Try.func44, Try.ntmps44
  go_wp2_with fail
  refine (pmay_any _ _).mono ?_; rintro r w' ⟨rfl, rfl⟩
  go_wp2_with fail
  refine (tmayctx_any ⟨s, c, v, p, a, true⟩ _).mono ?_; rintro r w1 ⟨rfl, hb1⟩
  cases h3 : Ent.ctxB ⟨s, c, v, p, a, true⟩
  · rw [h3] at HM
    go_wp2_with fail
    go_ret
    exact ⟨ret_bool HM.out.symm, below_box hb1⟩
  rw [h3] at HM
  obtain ⟨hc, hf⟩ := bcell hb1
  have hz : w.heap.size < w1.heap.size := by have := hb1.size; simp at this; omega
  go_wp2_with fail
  refine (tmayva_any ⟨s, c, v, p, a, true⟩ v0 v1 _).mono ?_; rintro r w2 ⟨rfl, hb2⟩
  cases h4 : Ent.vaB ⟨s, c, v, p, a, true⟩
  · rw [h4] at HM
    go_wp2_with fail
    go_ret
    exact ⟨ret_bool HM.out.symm, below_box (hb1.trans (hb2.mono (by simp; omega)))⟩
  rw [h4] at HM
  have hb12 := hb1.trans (hb2.mono (by simp; omega))
  clear hc hf
  obtain ⟨hc, hf⟩ := bcell hb12
  have hz2 : w.heap.size < w2.heap.size := by have := hb2.size; omega
  go_wp2_with fail
  refine (tmaypa_any ⟨s, c, v, p, a, true⟩ p0 p1 _).mono ?_; rintro r w3 ⟨rfl, hb3⟩
  go_wp2_with fail
  go_ret
  exact ⟨ret_bool HM.out.symm, below_box (hb12.trans (hb3.mono (by simp; omega)))⟩
end Go.Proofs.Ytbhpljjogmagoaa.Fld
