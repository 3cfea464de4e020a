/-
  Contracts of package fault's Of, and of the document's Of and Good (of an access). Conditions: numbers are what Go's types hold.
-/
import Derived.Test.YtfkbloclogeacaaDoorJFind
namespace Go.Proofs.YtfkbloclogeacaaDoor.Jd
open Fld
open Go.ChangeShapes Go.WideShapes Go.ChangeAt Go.RowKit
set_option maxHeartbeats 1000000
set_option maxRecDepth 100000
theorem of_any (e : Ent) (ctx : Int) (x : Acc) (v0 : 0 ≤ e.va) (v1 : e.va ≤ 18446744073709551615) (x0 : 0 ≤ x.va) (x1 : x.va ≤ 18446744073709551615) (w : World) :
    Calls Tryd.prog 13 #[.agg #[.int .i64 e.size, .int .i64 e.ctx, .int .u64 e.va, .int .u64 e.pa, .bool e.att.write, .bool e.att.priv, .bool e.att.exec, .bool e.att.lock, .bool e.att.global, .bool e.att.quiet, .bool e.valid], .int .i64 ctx, .agg #[.int .i64 x.kind, .bool x.priv, .int .u64 x.va]] w fun r w' => r = .returned (.int .i64 (ofI e ctx x)) ∧ Below w.heap.size w w' := by
  have HO := Lib.hid (show ofI e ctx x = if holeB x.va = true then 1 else if e.hitsB x.va ctx = true then judgeI e.att x else 2 from rfl)
  have C1 := Lib.hid (fun W => hole_any x.va x0 x1 W)
  have C2 := Lib.hid (fun W => thits_any e x.va ctx v0 v1 x0 x1 W)
  have C3 := Lib.hid (fun W => judge_any e.att x W)
  generalize ofI e ctx x = O at *
  generalize holeB x.va = h at *
  generalize e.hitsB x.va ctx = H at *
  generalize judgeI e.att x = J at *
  go_enter Tryd.func13, Tryd.ntmps13
  go_wp2_with fail
  refine (C1.out _).mono ?_; rintro r w1 ⟨rfl, n, rfl⟩
  cases h
  · go_wp2_with fail
    refine (C2.out _).mono ?_; rintro r w1 ⟨rfl, hb⟩
    obtain ⟨hc, hf⟩ := bcell hb
    have hz : w.heap.size + 1 < w1.heap.size := by have := hb.size; simp at this; omega
    have B1 := Lib.hid ((below_drewN (((Below.refl w.heap.size w).alloc (Nat.le_refl _) (.cells #[.int .i64 e.size, .int .i64 e.ctx, .int .u64 e.va, .int .u64 e.pa, .bool e.att.write, .bool e.att.priv, .bool e.att.exec, .bool e.att.lock, .bool e.att.global, .bool e.att.quiet, .bool e.valid] 26)).alloc (by simp) (.cells #[.int .i64 x.kind, .bool x.priv, .int .u64 x.va] 28)) n).trans (hb.mono (by simp; omega)))
    cases H
    · go_wp2_with fail
      go_ret
      exact ⟨ret_int (by rw [HO.out]; rfl), B1.out⟩
    · go_wp2_with fail
      refine (C3.out _).mono ?_; rintro r w2 ⟨rfl, hb2⟩
      go_wp2_with fail
      go_ret
      exact ⟨ret_int (by rw [HO.out]; rfl), B1.out.trans (hb2.mono (by omega))⟩
  · go_wp2_with fail
    go_ret
    exact ⟨ret_int (by rw [HO.out]; rfl), below_drewN (((Below.refl _ _).alloc (Nat.le_refl _) _).alloc (by simp) _) _⟩
theorem rof_any (e : Ent) (ctx : Int) (x : Acc) (v0 : 0 ≤ e.va) (v1 : e.va ≤ 18446744073709551615) (x0 : 0 ≤ x.va) (x1 : x.va ≤ 18446744073709551615) (w : World) :
    Calls Tryd.prog 14 #[.agg #[.int .i64 e.size, .int .i64 e.ctx, .int .u64 e.va, .int .u64 e.pa, .bool e.att.write, .bool e.att.priv, .bool e.att.exec, .bool e.att.lock, .bool e.att.global, .bool e.att.quiet, .bool e.valid], .int .i64 ctx, .agg #[.int .i64 x.kind, .bool x.priv, .int .u64 x.va]] w fun r w' => r = .returned (.int .i64 (ofI e ctx x)) ∧ Below w.heap.size w w' := by
  have HO := Lib.hid (show ofI e ctx x = if holeB x.va = true then 1 else if e.hitsB x.va ctx = true then judgeI e.att x else 2 from rfl)
  have C1 := Lib.hid (fun W => rhole_any x.va x0 x1 W)
  have C2 := Lib.hid (fun W => rhits_any e x.va ctx v0 v1 x0 x1 W)
  have C3 := Lib.hid (fun W => rjudge_any e.att x W)
  generalize ofI e ctx x = O at *
  generalize holeB x.va = h at *
  generalize e.hitsB x.va ctx = H at *
  generalize judgeI e.att x = J at *
  go_enter Tryd.func14, Tryd.ntmps14
  go_wp2_with fail
  refine (C1.out _).mono ?_; rintro r w1 ⟨rfl, rfl⟩
  go_wp2_with fail
  refine (C2.out _).mono ?_; rintro r w1 ⟨rfl, hb⟩
  obtain ⟨hc, hf⟩ := bcell hb
  have hz : w.heap.size + 1 < w1.heap.size := by have := hb.size; simp at this; omega
  have B1 := Lib.hid ((((Below.refl w.heap.size w).alloc (Nat.le_refl _) (.cells #[.int .i64 e.size, .int .i64 e.ctx, .int .u64 e.va, .int .u64 e.pa, .bool e.att.write, .bool e.att.priv, .bool e.att.exec, .bool e.att.lock, .bool e.att.global, .bool e.att.quiet, .bool e.valid] 26)).alloc (by simp) (.cells #[.int .i64 x.kind, .bool x.priv, .int .u64 x.va] 28)).trans (hb.mono (by simp; omega)))
  cases h
  · cases H
    · go_wp2_with fail
      go_ret
      exact ⟨ret_int (by rw [HO.out]; rfl), B1.out⟩
    · go_wp2_with fail
      refine (C3.out _).mono ?_; rintro r w2 ⟨rfl, hb2⟩
      go_wp2_with fail
      go_ret
      exact ⟨ret_int (by rw [HO.out]; rfl), B1.out.trans (hb2.mono (by omega))⟩
  · go_wp2_with fail
    go_ret
    exact ⟨ret_int (by rw [HO.out]; rfl), B1.out⟩
/-- An access that may be, made of any. -/
def goodA (x : Acc) (b : Bool) : Acc := ⟨nrm x.kind 4, x.priv, if b = true then vaI x.va else x.va⟩
theorem goodA_facts (x : Acc) (b : Bool) (h : x.wf) : (0 ≤ (goodA x b).kind ∧ (goodA x b).kind < 4) ∧ (goodA x b).wf := by
  have h1 := nrm_bd x.kind 4 (by omega)
  have h2 := vaI_bd x.va
  have h3 := h.2
  refine ⟨⟨h1.1, h1.2⟩, ⟨by show -9223372036854775808 ≤ nrm x.kind 4; omega, by show nrm x.kind 4 ≤ _; omega⟩, ?_⟩
  cases b
  · exact h3
  · exact h2
theorem agood_any (x : Acc) (b : Bool) (h : x.wf) (w : World) :
    Calls Tryd.prog 8 #[.agg #[.int .i64 x.kind, .bool x.priv, .int .u64 x.va], .bool b] w fun r w' => r = .returned (.agg #[.int .i64 (goodA x b).kind, .bool (goodA x b).priv, .int .u64 (goodA x b).va]) ∧ Below w.heap.size w w' := by
  obtain ⟨⟨k0, k1⟩, ⟨x0, x1⟩⟩ := h
  obtain ⟨k, p, v⟩ := x
  dsimp only [goodA] at *
  have n1 := abs_nrm k 4
  have ak := absI_bd k k0 k1
  have C := Lib.hid (fun W => rva_any v x0 x1 W)
  have e1 : absI k = if k < 0 then -(k + 1) else k := rfl
  clear ak
  by_cases hk : k < 0
  · have N : -(k + 1).tmod 4 = nrm k 4 := by unfold nrm; rw [if_pos hk]
    clear n1 e1
    generalize nrm k 4 = K at *
    cases b
    · go_enter Tryd.func8, Tryd.ntmps8
      go_wp2_with fail
      refine bodyPost_ret (results_cell_row rfl _ _ _ _ _ (0, 0) _ rfl (heap_alloc2_new _ _ _) Tryd.underlying28 (by kernel_rfl) (by kernel_rfl)) rfl ⟨rfl, ?_⟩
      exact ((Below.refl _ _).alloc (Nat.le_refl _) _).alloc (by simp) _
    · rw [if_pos rfl]
      generalize vaI v = V at *
      go_enter Tryd.func8, Tryd.ntmps8
      go_wp2_with fail
      refine (C.out _).mono ?_; rintro r w1 ⟨rfl, rfl⟩
      go_wp2_with fail
      refine bodyPost_ret (results_cell_row rfl _ _ _ _ _ (0, 0) _ rfl (heap_alloc2_new _ _ _) Tryd.underlying28 (by kernel_rfl) (by kernel_rfl)) rfl ⟨rfl, ?_⟩
      exact ((Below.refl _ _).alloc (Nat.le_refl _) _).alloc (by simp) _
  · have N : k % 4 = nrm k 4 := by rw [← n1, e1, if_neg hk]
    clear n1 e1
    generalize nrm k 4 = K at *
    cases b
    · go_enter Tryd.func8, Tryd.ntmps8
      go_wp2_with fail
      refine bodyPost_ret (results_cell_row rfl _ _ _ _ _ (0, 0) _ rfl (heap_alloc2_new _ _ _) Tryd.underlying28 (by kernel_rfl) (by kernel_rfl)) rfl ⟨rfl, ?_⟩
      exact ((Below.refl _ _).alloc (Nat.le_refl _) _).alloc (by simp) _
    · rw [if_pos rfl]
      generalize vaI v = V at *
      go_enter Tryd.func8, Tryd.ntmps8
      go_wp2_with fail
      refine (C.out _).mono ?_; rintro r w1 ⟨rfl, rfl⟩
      go_wp2_with fail
      refine bodyPost_ret (results_cell_row rfl _ _ _ _ _ (0, 0) _ rfl (heap_alloc2_new _ _ _) Tryd.underlying28 (by kernel_rfl) (by kernel_rfl)) rfl ⟨rfl, ?_⟩
      exact ((Below.refl _ _).alloc (Nat.le_refl _) _).alloc (by simp) _
end Go.Proofs.YtfkbloclogeacaaDoor.Jd
