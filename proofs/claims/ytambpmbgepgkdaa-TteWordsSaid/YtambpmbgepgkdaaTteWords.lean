/-
  TteWords: for every entry the law returns true, and its argument reads as before. Conditions: none.
-/
import Derived.Test.YtambpmbgepgkdaaRows
import Derived.WalkKit
import Derived.ProofKit
import Derived.OpenShut
import Derived.Test.YtambpmbgepgkdaaTKeep
import Derived.Test.YtambpmbgepgkdaaTOpen
namespace Go.Proofs.Ytambpmbgepgkdaa.tteWords
open Fld
open Go.ChangeShapes Go.WideShapes Go.ChangeAt Go.RowKit
set_option linter.unusedVariables false

theorem own : ownKnob Try.prog.godebug = none := by kernel_rfl

/-! ### The walk -/
set_option maxHeartbeats 4000000 in
set_option maxRecDepth 100000 in
theorem walk (E0 : Ent) (l0 : E0.lits) (w : World) :
    Calls Try.prog 3 #[.agg #[.int .i64 E0.size, .int .i64 E0.ctx, .int .u64 E0.va, .int .u64 E0.pa, .bool E0.att.write, .bool E0.att.priv, .bool E0.att.exec, .bool E0.att.lock, .bool E0.att.global, .bool E0.att.quiet, .bool E0.valid]] w fun e w' => e = .returned (.bool true) ∧ Below w.heap.size w w' := by
  obtain ⟨g, hok, HG⟩ := good_some E0 l0
  obtain ⟨_, _, ⟨ev0, ev1⟩, ⟨ep0, ep1⟩⟩ := Ent.lits_wf l0
  have v0 := hok.v0
  have v1 := hok.v1
  have p0 := hok.fit.p0
  have p1 := hok.p1
  have C1 := Lib.hid (fun W => tmay_any E0 ev0 ev1 ep0 ep1 W)
  have C2 := Lib.hid (fun W => rmaye_any E0 ev0 ev1 ep0 ep1 W)
  have C3 := Lib.hid (fun W => tmay_any g v0 v1 p0 p1 W)
  rw [hok.may] at C3
  have ht := Ent.tagG_fit (e := g) ⟨hok.fit.c0, hok.fit.c1⟩
  have hd := Ent.dataG_fit hok.fit hok.valid
  have C4 := Lib.hid (fun W => ttag_any g v0 v1 W)
  have C5 := Lib.hid (fun W => (ht ▸ rtage_any g hok.fit v0 v1 W : Calls Try.prog 15 #[.agg #[.int .i64 g.size, .int .i64 g.ctx, .int .u64 g.va, .int .u64 g.pa, .bool g.att.write, .bool g.att.priv, .bool g.att.exec, .bool g.att.lock, .bool g.att.global, .bool g.att.quiet, .bool g.valid]] W fun r w' => r = .returned (.int .u64 g.tagG) ∧ Below W.heap.size W w'))
  have C6 := Lib.hid (fun W => tdata_any g p0 p1 W)
  have C7 := Lib.hid (fun W => (hd ▸ rdata_any g hok.fit W : Calls Try.prog 17 #[.agg #[.int .i64 g.size, .int .i64 g.ctx, .int .u64 g.va, .int .u64 g.pa, .bool g.att.write, .bool g.att.priv, .bool g.att.exec, .bool g.att.lock, .bool g.att.global, .bool g.att.quiet, .bool g.valid]] W fun r w' => r = .returned (.int .u64 g.dataG) ∧ Below W.heap.size W w'))
  have db := Ent.dataG_bd g
  have hbit : bitI g.dataG 63 = 1 := by rw [hd]; exact (Ent.data_fields hok.fit).2.2
  have C9 := Lib.hid (fun W => tvalid_any g.dataG db.1 db.2 W)
  rw [hbit] at C9
  have C8 := Lib.hid (fun W => (Ent.dataG_none (e := g.inval) rfl ▸ tdata_any g.inval p0 p1 W : Calls Try.prog 16 #[.agg #[.int .i64 g.size, .int .i64 g.ctx, .int .u64 g.va, .int .u64 g.pa, .bool g.att.write, .bool g.att.priv, .bool g.att.exec, .bool g.att.lock, .bool g.att.global, .bool g.att.quiet, .bool false]] W fun r w' => r = .returned (.int .u64 0) ∧ Below W.heap.size W w'))
  have HLV := Lib.hid (fun W => tlives_any W)
  clear hok l0 ht hd hbit
  generalize E0.mayB = M at *
  generalize g.tagG = T at *
  generalize g.dataG = D at *
  go_enter Try.func3, Try.ntmps3
  go_wp2_with fail
  refine (HG.out _).mono ?_; rintro r u1 ⟨rfl, hb1⟩
  have hz1 : w.heap.size < u1.heap.size := by have := hb1.size; simp at this; omega
  have K1 := KeepE.mk (below_box hb1) ((RowE.new w E0).below hb1 (by simp))
  clear hb1 HG
  go_wp2_with fail
  have K2 := (K1.alloc (.cells #[.int .i64 g.size, .int .i64 g.ctx, .int .u64 g.va, .int .u64 g.pa, .bool g.att.write, .bool g.att.priv, .bool g.att.exec, .bool g.att.lock, .bool g.att.global, .bool g.att.quiet, .bool g.valid] 26)).alloc (.cells #[.int .i64 g.size, .int .i64 g.ctx, .int .u64 g.va, .int .u64 g.pa, .bool g.att.write, .bool g.att.priv, .bool g.att.exec, .bool g.att.lock, .bool g.att.global, .bool g.att.quiet, .bool false] 26)
  have G2 := (KeepE.mk (K1.below.alloc K1.below.size _) (RowE.new u1 g)).alloc (.cells #[.int .i64 g.size, .int .i64 g.ctx, .int .u64 g.va, .int .u64 g.pa, .bool g.att.write, .bool g.att.priv, .bool g.att.exec, .bool g.att.lock, .bool g.att.global, .bool g.att.quiet, .bool false] 26)
  have I2 : KeepE w ((u1.alloc (.cells #[.int .i64 g.size, .int .i64 g.ctx, .int .u64 g.va, .int .u64 g.pa, .bool g.att.write, .bool g.att.priv, .bool g.att.exec, .bool g.att.lock, .bool g.att.global, .bool g.att.quiet, .bool g.valid] 26)).alloc (.cells #[.int .i64 g.size, .int .i64 g.ctx, .int .u64 g.va, .int .u64 g.pa, .bool g.att.write, .bool g.att.priv, .bool g.att.exec, .bool g.att.lock, .bool g.att.global, .bool g.att.quiet, .bool false] 26)) (u1.heap.size + 1) g.inval := KeepE.mk K2.below ⟨heap_alloc2_new _ _ _⟩
  clear K1
  generalize World.alloc (World.alloc u1 _) _ = u2 at K2 G2 I2 ⊢
  have K3 := keep_cells3 K2 G2 I2
  go_region_held3 (fun w1 => w1.cell? ⟨w.heap.size, 0, none⟩ = some (.int .i64 E0.size) ∧ w1.cell? ⟨w.heap.size, 1, none⟩ = some (.int .i64 E0.ctx) ∧ w1.cell? ⟨w.heap.size, 2, none⟩ = some (.int .u64 E0.va) ∧ w1.cell? ⟨w.heap.size, 3, none⟩ = some (.int .u64 E0.pa) ∧ w1.cell? ⟨w.heap.size, 4, none⟩ = some (.bool E0.att.write) ∧ w1.cell? ⟨w.heap.size, 5, none⟩ = some (.bool E0.att.priv) ∧ w1.cell? ⟨w.heap.size, 6, none⟩ = some (.bool E0.att.exec) ∧ w1.cell? ⟨w.heap.size, 7, none⟩ = some (.bool E0.att.lock) ∧ w1.cell? ⟨w.heap.size, 8, none⟩ = some (.bool E0.att.global) ∧ w1.cell? ⟨w.heap.size, 9, none⟩ = some (.bool E0.att.quiet) ∧ w1.cell? ⟨w.heap.size, 10, none⟩ = some (.bool E0.valid) ∧ w1.cell? ⟨u1.heap.size, 0, none⟩ = some (.int .i64 g.size) ∧ w1.cell? ⟨u1.heap.size, 1, none⟩ = some (.int .i64 g.ctx) ∧ w1.cell? ⟨u1.heap.size, 2, none⟩ = some (.int .u64 g.va) ∧ w1.cell? ⟨u1.heap.size, 3, none⟩ = some (.int .u64 g.pa) ∧ w1.cell? ⟨u1.heap.size, 4, none⟩ = some (.bool g.att.write) ∧ w1.cell? ⟨u1.heap.size, 5, none⟩ = some (.bool g.att.priv) ∧ w1.cell? ⟨u1.heap.size, 6, none⟩ = some (.bool g.att.exec) ∧ w1.cell? ⟨u1.heap.size, 7, none⟩ = some (.bool g.att.lock) ∧ w1.cell? ⟨u1.heap.size, 8, none⟩ = some (.bool g.att.global) ∧ w1.cell? ⟨u1.heap.size, 9, none⟩ = some (.bool g.att.quiet) ∧ w1.cell? ⟨u1.heap.size, 10, none⟩ = some (.bool g.valid) ∧ w1.cell? ⟨u1.heap.size + 1, 0, none⟩ = some (.int .i64 g.size) ∧ w1.cell? ⟨u1.heap.size + 1, 1, none⟩ = some (.int .i64 g.ctx) ∧ w1.cell? ⟨u1.heap.size + 1, 2, none⟩ = some (.int .u64 g.va) ∧ w1.cell? ⟨u1.heap.size + 1, 3, none⟩ = some (.int .u64 g.pa) ∧ w1.cell? ⟨u1.heap.size + 1, 4, none⟩ = some (.bool g.att.write) ∧ w1.cell? ⟨u1.heap.size + 1, 5, none⟩ = some (.bool g.att.priv) ∧ w1.cell? ⟨u1.heap.size + 1, 6, none⟩ = some (.bool g.att.exec) ∧ w1.cell? ⟨u1.heap.size + 1, 7, none⟩ = some (.bool g.att.lock) ∧ w1.cell? ⟨u1.heap.size + 1, 8, none⟩ = some (.bool g.att.global) ∧ w1.cell? ⟨u1.heap.size + 1, 9, none⟩ = some (.bool g.att.quiet) ∧ w1.cell? ⟨u1.heap.size + 1, 10, none⟩ = some (.bool false))
    ((refine keep_cells3 (w0 := w) (e := E0) (f := g) (g := g.inval) ?_ ?_ ?_ <;> (repeat (first | (with_reducible assumption) | (with_reducible refine KeepE.drew ?_) | (with_reducible refine KeepE.drewN ?_ _) | (with_reducible refine KeepE.alloc ?_ _) | (with_reducible refine KeepE.setNew ?_ ?_) | (with_reducible refine KeepE.call ?_ (by assumption))))))
    (first
      | (go_at_call 12; (with_reducible refine (C1.out _).mono ?_); rintro r w' ⟨rfl, hb⟩)
      | (go_at_call 12; (with_reducible refine (C3.out _).mono ?_); rintro r w' ⟨rfl, hb⟩)
      | (go_at_call 13; (with_reducible refine (C2.out _).mono ?_); rintro r w' ⟨rfl, hb⟩)
      | (go_at_call 14; (with_reducible refine (C4.out _).mono ?_); rintro r w' ⟨rfl, hb⟩)
      | (go_at_call 15; (with_reducible refine (C5.out _).mono ?_); rintro r w' ⟨rfl, hb⟩)
      | (go_at_call 16; (with_reducible refine (C6.out _).mono ?_); rintro r w' ⟨rfl, hb⟩)
      | (go_at_call 16; (with_reducible refine (C8.out _).mono ?_); rintro r w' ⟨rfl, hb⟩)
      | (go_at_call 17; (with_reducible refine (C7.out _).mono ?_); rintro r w' ⟨rfl, hb⟩)
      | (go_at_call 18; (with_reducible refine (C9.out _).mono ?_); rintro r w' ⟨rfl, n, rfl⟩)
      | (go_at_call 19; (with_reducible refine (HLV.out _).mono ?_); rintro r w' ⟨rfl, hb⟩))
  all_goals
    have K6 : KeepE w w' u1.heap.size g := by (repeat (first | (with_reducible assumption) | (with_reducible refine KeepE.drew ?_) | (with_reducible refine KeepE.drewN ?_ _) | (with_reducible refine KeepE.alloc ?_ _) | (with_reducible refine KeepE.setNew ?_ ?_) | (with_reducible refine KeepE.call ?_ (by assumption))))
    go_wp2_with fail
    go_ret
    exact ⟨rfl, K6.below⟩

/-! ### The row -/
set_option maxRecDepth 100000 in
theorem lifted (os : Os) (started : os.Started) (H : Type) (enc : TypeId × Value → H) :
    ReturnsInHanded {} Try.checked os 3 .any (Rows.tteWordsSpec.pre6 enc Try.prog Try.f3 Rows.tteWordsRow.domain false) (Rows.tteWordsSpec.post enc Try.prog Try.f3 false true false false) := by
  refine returnsInHanded_of_change (C := Try.checked) own started (by kernel_rfl) Try.func3
    (ChangeSpec.witness6 (enc := enc) (C := Try.checked) false ⟨#[], #[.agg #[.int .i64 0, .int .i64 0, .int .u64 0, .int .u64 0, .bool false, .bool false, .bool false, .bool false, .bool false, .bool false, .bool false]], []⟩ 8 (by kernel_rfl) (by kernel_rfl) (by kernel_rfl) (by kernel_rfl)) ?_
  intro W base args ds gs before hval0 hW hcnd _
  have hval : ∀ (j : Nat) t v, Try.f3.params[j]? = some t → args[j]? = some v → Value.okWide Try.prog W .any base t v := hval0
  have hW' := hW
  obtain ⟨p, q, hA0, hV, rfl, hfz, hnd⟩ := hW
  have hA : DataW.TrodAll enc Try.prog W 0 (fun _ => true) true Try.f3.params.toList args.toList ds p := hA0
  rw [Try.params3] at hA hval
  obtain ⟨v0, vs0, d0, ds0, p0, q0, hargs, rfl, rfl, h0, r0⟩ := trodAll_cons hA
  obtain ⟨rfl, rfl, rfl⟩ := trodAll_nil r0
  obtain rfl : args = #[v0] := by cases args; simp_all
  obtain ⟨rfl, rfl⟩ := trodVars_none hV
  obtain ⟨E0, rfl, rfl, rfl, l0⟩ := open_entry (hval 0 26 v0 rfl rfl) h0
  clear hA0 hval0
  simp only [List.append_nil] at hW'
  refine (walk E0 l0 W).mono fun e W' ⟨he, hg⟩ => ?_
  subst he
  exact ⟨_, rfl, _, _, _, [], [], [], hW', trodAll_mk1 (shut_bool Try.underlying4 _), (trodAll_cons_mk (shut_entry l0) trodAll_mk0), rfl, hg.frame _, fun h => by cases h⟩

theorem over : Rows.tteWordsRow.holds Try.pinned (OpenSpec.ofChange Rows.tteWordsSpec) :=
  OpenClaim.holds_of_wide 3 Try.f3 rfl rfl rfl rfl rfl rfl rfl ⟨rfl, rfl, rfl, rfl, rfl⟩ rfl rfl rfl rfl rfl (by kernel_rfl) Try.func3 (by kernel_rfl)
    (of_decide_eq_true (by kernel_rfl)) (by unfold Func.isWrapper; first | (rw [if_pos (by decide +kernel)]; kernel_rfl) | (rw [if_neg (by decide +kernel)]; exact ⟨rfl, rfl⟩))
    (fun os started H enc _ => lifted os started H enc)

theorem proved : Rows.TteWordsSaid :=
  over
#print axioms proved
end Go.Proofs.Ytambpmbgepgkdaa.tteWords
