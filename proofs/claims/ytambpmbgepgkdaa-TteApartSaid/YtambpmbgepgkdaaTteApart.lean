/-
  TteApart: for every two entries (made such as may be) the law returns true, and its arguments read as before. Conditions: none.
-/
import Derived.Test.YtambpmbgepgkdaaRows
import Derived.WalkKit
import Derived.ProofKit
import Derived.OpenShut
import Derived.Test.YtambpmbgepgkdaaTKeep
import Derived.Deep.DeepCutAuto
import Derived.Test.YtambpmbgepgkdaaTOpen
namespace Go.Proofs.Ytambpmbgepgkdaa.tteApart
open Fld
open Go.ChangeShapes Go.WideShapes Go.ChangeAt Go.RowKit
set_option linter.unusedVariables false

theorem own : ownKnob Try.prog.godebug = none := by kernel_rfl

theorem apart_same {x y : Ent} (hx : x.Ok) (hy : y.Ok) : ((x.tagG == y.tagG) && (x.dataG == y.dataG)) = decide (x.size = y.size ∧ x.ctx = y.ctx ∧ baseI x.va 3 = baseI y.va 3 ∧ x.pa = y.pa ∧ x.att.write = y.att.write ∧ x.att.priv = y.att.priv ∧ x.att.exec = y.att.exec ∧ x.att.lock = y.att.lock ∧ x.att.global = y.att.global ∧ x.att.quiet = y.att.quiet) ∧ x.valid = true ∧ y.valid = true := by
  refine ⟨?_, hx.valid, hy.valid⟩
  rw [Ent.tagG_fit ⟨hx.fit.c0, hx.fit.c1⟩, Ent.tagG_fit ⟨hy.fit.c0, hy.fit.c1⟩, Ent.dataG_fit hx.fit hx.valid, Ent.dataG_fit hy.fit hy.valid]
  rw [Bool.eq_iff_iff, decide_eq_true_eq, Bool.and_eq_true, beq_iff_eq, beq_iff_eq, Ent.words_same hx.fit hy.fit, tag_same _ _ hx.v0 hx.v1 hy.v0 hy.v1 hx.hole hy.hole]
  obtain ⟨_, _, _, _, ⟨a1, a2, a3, a4, a5, a6⟩, _⟩ := x
  obtain ⟨_, _, _, _, ⟨b1, b2, b3, b4, b5, b6⟩, _⟩ := y
  simp only [Att.mk.injEq]
/-! ### The walk -/
set_option maxHeartbeats 4000000 in
set_option maxRecDepth 100000 in
theorem walk (E0 : Ent) (l0 : E0.lits) (E1 : Ent) (l1 : E1.lits) (w : World) :
    Calls Try.prog 8 #[.agg #[.int .i64 E0.size, .int .i64 E0.ctx, .int .u64 E0.va, .int .u64 E0.pa, .bool E0.att.write, .bool E0.att.priv, .bool E0.att.exec, .bool E0.att.lock, .bool E0.att.global, .bool E0.att.quiet, .bool E0.valid], .agg #[.int .i64 E1.size, .int .i64 E1.ctx, .int .u64 E1.va, .int .u64 E1.pa, .bool E1.att.write, .bool E1.att.priv, .bool E1.att.exec, .bool E1.att.lock, .bool E1.att.global, .bool E1.att.quiet, .bool E1.valid]] w fun e w' => e = .returned (.bool true) ∧ Below w.heap.size w w' := by
  obtain ⟨x, hox, HX⟩ := good_some E0 l0
  obtain ⟨y, hoy, HY⟩ := good_some E1 l1
  have xv0 := hox.v0
  have xv1 := hox.v1
  have xp0 := hox.fit.p0
  have xp1 := hox.p1
  have yv0 := hoy.v0
  have yv1 := hoy.v1
  have yp0 := hoy.fit.p0
  have yp1 := hoy.p1
  have C1 := Lib.hid (fun W => ttag_any x xv0 xv1 W)
  have C2 := Lib.hid (fun W => ttag_any y yv0 yv1 W)
  have C3 := Lib.hid (fun W => tdata_any x xp0 xp1 W)
  have C4 := Lib.hid (fun W => tdata_any y yp0 yp1 W)
  have HLV := Lib.hid (fun W => tlives_any W)
  clear l0 l1
  generalize hT : x.tagG = T at *
  generalize hU : y.tagG = U at *
  generalize hD : x.dataG = D at *
  generalize hF : y.dataG = F at *
  have HH := Lib.hid (And.intro hT (And.intro hU (And.intro hD (And.intro hF (And.intro hox hoy)))))
  clear hT hU hD hF hox hoy
  go_enter Try.func8, Try.ntmps8
  go_wp2_with fail
  refine (HX.out _).mono ?_; rintro r u1 ⟨rfl, hb1⟩
  have hz1 : w.heap.size + 1 < u1.heap.size := by have := hb1.size; simp at this; omega
  have B1 : Below w.heap.size w u1 := (((Below.refl _ _).alloc (Nat.le_refl _) _).alloc (by simp) _).trans (hb1.mono (by simp; omega))
  have E1' : KeepE w u1 (w.heap.size + 1) E1 := KeepE.mk B1 (RowE.mk ((hb1.block (w.heap.size + 1) (by simp)).trans (heap_alloc2_new _ _ _)))
  clear hb1 HX
  have E2 := E1'.alloc (.cells #[.int .i64 x.size, .int .i64 x.ctx, .int .u64 x.va, .int .u64 x.pa, .bool x.att.write, .bool x.att.priv, .bool x.att.exec, .bool x.att.lock, .bool x.att.global, .bool x.att.quiet, .bool x.valid] 26)
  have X2 := KeepE.mk (B1.alloc B1.size _) (RowE.new u1 x)
  obtain ⟨y0, y1, y2, y3, y4, y5, y6, y7, y8, y9, y10⟩ := E1'.row.cells
  go_wp2_with fail
  refine (HY.out _).mono ?_; rintro r u2 ⟨rfl, hb2⟩
  have X3 := X2.call hb2
  clear hb2 HY E1' E2 X2 y0 y1 y2 y3 y4 y5 y6 y7 y8 y9 y10 B1
  go_wp2_with fail
  have X4 := X3.alloc (.cells #[.int .i64 y.size, .int .i64 y.ctx, .int .u64 y.va, .int .u64 y.pa, .bool y.att.write, .bool y.att.priv, .bool y.att.exec, .bool y.att.lock, .bool y.att.global, .bool y.att.quiet, .bool y.valid] 26)
  have Y4 := KeepE.mk (X3.below.alloc X3.below.size _) (RowE.new u2 y)
  have hxy : u1.heap.size < u2.heap.size := X3.row.lt
  clear X3
  generalize World.alloc u2 _ = u3 at X4 Y4 ⊢
  have K4 := keep_cells2 X4 Y4
  go_cut [7] (fun t wx => t = .bool ((T == U) && (D == F)) ∧ KeepE w wx u1.heap.size x ∧ KeepE w wx u2.heap.size y)
  case first =>
    cases htu : (T == U)
    · obtain ⟨k0, k1, k2, k3, k4, k5, k6, k7, k8, k9, k10, l0, l1, l2, l3, l4, l5, l6, l7, l8, l9, l10⟩ := K4
      have hl1 := X4.row.lt
      have hl2 := Y4.row.lt
      have hds : ∀ W : World, W.drew.heap.size = W.heap.size := fun _ => rfl
      go_region_with (first
          | (go_at_call 14; (with_reducible refine (C1.out _).mono ?_); rintro r w' ⟨rfl, hb⟩; obtain ⟨hc, hf, hs1, hs2⟩ := bfacts hb)
          | (go_at_call 14; (with_reducible refine (C2.out _).mono ?_); rintro r w' ⟨rfl, hb⟩; obtain ⟨hc, hf, hs1, hs2⟩ := bfacts hb))
      all_goals
        go_wp2_with fail
        go_meet
        refine ⟨by rw [htu]; rfl, ?_, ?_⟩ <;> (repeat (first | (with_reducible assumption) | (with_reducible refine KeepE.drew ?_) | (with_reducible refine KeepE.drewN ?_ _) | (with_reducible refine KeepE.alloc ?_ _) | (with_reducible refine KeepE.setNew ?_ ?_) | (with_reducible refine KeepE.call ?_ (by assumption))))
    · go_region_held3 (fun w1 => w1.cell? ⟨u1.heap.size, 0, none⟩ = some (.int .i64 x.size) ∧ w1.cell? ⟨u1.heap.size, 1, none⟩ = some (.int .i64 x.ctx) ∧ w1.cell? ⟨u1.heap.size, 2, none⟩ = some (.int .u64 x.va) ∧ w1.cell? ⟨u1.heap.size, 3, none⟩ = some (.int .u64 x.pa) ∧ w1.cell? ⟨u1.heap.size, 4, none⟩ = some (.bool x.att.write) ∧ w1.cell? ⟨u1.heap.size, 5, none⟩ = some (.bool x.att.priv) ∧ w1.cell? ⟨u1.heap.size, 6, none⟩ = some (.bool x.att.exec) ∧ w1.cell? ⟨u1.heap.size, 7, none⟩ = some (.bool x.att.lock) ∧ w1.cell? ⟨u1.heap.size, 8, none⟩ = some (.bool x.att.global) ∧ w1.cell? ⟨u1.heap.size, 9, none⟩ = some (.bool x.att.quiet) ∧ w1.cell? ⟨u1.heap.size, 10, none⟩ = some (.bool x.valid) ∧ w1.cell? ⟨u2.heap.size, 0, none⟩ = some (.int .i64 y.size) ∧ w1.cell? ⟨u2.heap.size, 1, none⟩ = some (.int .i64 y.ctx) ∧ w1.cell? ⟨u2.heap.size, 2, none⟩ = some (.int .u64 y.va) ∧ w1.cell? ⟨u2.heap.size, 3, none⟩ = some (.int .u64 y.pa) ∧ w1.cell? ⟨u2.heap.size, 4, none⟩ = some (.bool y.att.write) ∧ w1.cell? ⟨u2.heap.size, 5, none⟩ = some (.bool y.att.priv) ∧ w1.cell? ⟨u2.heap.size, 6, none⟩ = some (.bool y.att.exec) ∧ w1.cell? ⟨u2.heap.size, 7, none⟩ = some (.bool y.att.lock) ∧ w1.cell? ⟨u2.heap.size, 8, none⟩ = some (.bool y.att.global) ∧ w1.cell? ⟨u2.heap.size, 9, none⟩ = some (.bool y.att.quiet) ∧ w1.cell? ⟨u2.heap.size, 10, none⟩ = some (.bool y.valid))
        ((refine keep_cells2 (w0 := w) (e := x) (f := y) ?_ ?_ <;> (repeat (first | (with_reducible assumption) | (with_reducible refine KeepE.drew ?_) | (with_reducible refine KeepE.drewN ?_ _) | (with_reducible refine KeepE.alloc ?_ _) | (with_reducible refine KeepE.setNew ?_ ?_) | (with_reducible refine KeepE.call ?_ (by assumption))))))
        (first
          | (go_at_call 14; (with_reducible refine (C1.out _).mono ?_); rintro r w' ⟨rfl, hb⟩)
          | (go_at_call 14; (with_reducible refine (C2.out _).mono ?_); rintro r w' ⟨rfl, hb⟩)
          | (go_at_call 16; (with_reducible refine (C3.out _).mono ?_); rintro r w' ⟨rfl, hb⟩)
          | (go_at_call 16; (with_reducible refine (C4.out _).mono ?_); rintro r w' ⟨rfl, hb⟩))
      all_goals
        go_wp2_with fail
        go_meet
        refine ⟨by rw [htu]; rfl, ?_, ?_⟩ <;> (repeat (first | (with_reducible assumption) | (with_reducible refine KeepE.drew ?_) | (with_reducible refine KeepE.drewN ?_ _) | (with_reducible refine KeepE.alloc ?_ _) | (with_reducible refine KeepE.setNew ?_ ?_) | (with_reducible refine KeepE.call ?_ (by assumption))))
  case rest =>
    obtain ⟨rfl, X5, Y5⟩ := hcut
    clear X4 Y4 K4
    obtain ⟨y0, y1, y2, y3, y4, y5, y6, y7, y8, y9, y10⟩ := X5.row.cells
    obtain ⟨z0, z1, z2, z3, z4, z5, z6, z7, z8, z9, z10⟩ := Y5.row.cells
    have fx := X5.row.frozen
    have fy := Y5.row.frozen
    have hne : ¬ u1.heap.size = u2.heap.size := by omega
    have hne' : ¬ u2.heap.size = u1.heap.size := by omega
    have hwu : w.heap.size ≤ u1.heap.size := by omega
    have hwv : w.heap.size ≤ u2.heap.size := by omega
    have hx1 := X5.row.lt
    have hx2 := Y5.row.lt
    obtain ⟨hT, hU, hD, hF, hox, hoy⟩ := HH.out
    have HS := apart_same hox hoy
    rw [hT, hU, hD, hF] at HS
    clear hT hU hD hF hox hoy HH
    generalize hbx : baseI x.va 3 = bx at *
    generalize hby : baseI y.va 3 = bz at *
    have HBx := Lib.hid hbx
    have HBy := Lib.hid hby
    clear hbx hby
    have HBx2 := Lib.hid (fun W => (HBx.out ▸ rbase_any x.va 3 xv0 xv1 W : Calls Try.prog 32 #[.int .u64 x.va, .int .i64 3] W fun e w' => e = .returned (.int .u64 bx) ∧ ∃ n, w' = W.drewN n))
    have HBy2 := Lib.hid (fun W => (HBy.out ▸ rbase_any y.va 3 yv0 yv1 W : Calls Try.prog 32 #[.int .u64 y.va, .int .i64 3] W fun e w' => e = .returned (.int .u64 bz) ∧ ∃ n, w' = W.drewN n))
    go_wp2_with fail
    refine (HBx2.out _).mono ?_; rintro r v1 ⟨rfl, n1, rfl⟩
    go_wp2_with fail
    refine (HBy2.out _).mono ?_; rintro r v2 ⟨rfl, n2, rfl⟩
    by_cases hq : x.size = y.size ∧ x.ctx = y.ctx ∧ bx = bz ∧ x.pa = y.pa ∧ x.att.write = y.att.write ∧ x.att.priv = y.att.priv ∧ x.att.exec = y.att.exec ∧ x.att.lock = y.att.lock ∧ x.att.global = y.att.global ∧ x.att.quiet = y.att.quiet
    · have hsame : (T == U && D == F) = true := by rw [HS.1]; exact decide_eq_true hq
      obtain ⟨q1, q2, rfl, q4, q5, q6, q7, q8, q9, q10⟩ := hq
      obtain ⟨_, q11, q12⟩ := HS
      have q13 : x.valid = y.valid := by rw [q11, q12]
      clear q11 q12
      go_wp2_with fail
      refine (HLV.out _).mono ?_; rintro r v3 ⟨rfl, hb3⟩
      go_wp2_with fail
      go_ret
      refine ⟨rfl, Below.trans ?_ (hb3.mono (by simp; omega))⟩
      refine below_setN ?_ hwv
      refine below_drewN ?_ _
      refine below_setN ?_ hwu
      exact below_drewN X5.below _
    · have hsame : (T == U && D == F) = false := by rw [HS.1]; exact decide_eq_false hq
      have HQ := Lib.hid hq
      have hval : x.valid = y.valid := by rw [HS.2.1, HS.2.2]
      clear HS hq
      go_wp2_with (go_at_call 19; refine (HLV.out _).mono ?_; rintro e w' ⟨rfl, hb3⟩)
      all_goals
        first
          | exact absurd (And.intro (by assumption) (And.intro (by assumption) (And.intro (by assumption) (And.intro (by assumption) (And.intro (by assumption) (And.intro (by assumption) (And.intro (by assumption) (And.intro (by assumption) (And.intro (by assumption) (by assumption)))))))))) HQ.out
          | (go_ret
             refine ⟨rfl, Below.trans ?_ (hb3.mono (by simp; omega))⟩
             refine below_setN ?_ hwv
             refine below_drewN ?_ _
             refine below_setN ?_ hwu
             exact below_drewN X5.below _)

/-! ### The row -/
set_option maxRecDepth 100000 in
theorem lifted (os : Os) (started : os.Started) (H : Type) (enc : TypeId × Value → H) :
    ReturnsInHanded {} Try.checked os 8 .any (Rows.tteApartSpec.pre6 enc Try.prog Try.f8 Rows.tteApartRow.domain false) (Rows.tteApartSpec.post enc Try.prog Try.f8 false true false false) := by
  refine returnsInHanded_of_change (C := Try.checked) own started (by kernel_rfl) Try.func8
    (ChangeSpec.witness6 (enc := enc) (C := Try.checked) false ⟨#[], #[.agg #[.int .i64 0, .int .i64 0, .int .u64 0, .int .u64 0, .bool false, .bool false, .bool false, .bool false, .bool false, .bool false, .bool false], .agg #[.int .i64 0, .int .i64 0, .int .u64 0, .int .u64 0, .bool false, .bool false, .bool false, .bool false, .bool false, .bool false, .bool false]], []⟩ 8 (by kernel_rfl) (by kernel_rfl) (by kernel_rfl) (by kernel_rfl)) ?_
  intro W base args ds gs before hval0 hW hcnd _
  have hval : ∀ (j : Nat) t v, Try.f8.params[j]? = some t → args[j]? = some v → Value.okWide Try.prog W .any base t v := hval0
  have hW' := hW
  obtain ⟨p, q, hA0, hV, rfl, hfz, hnd⟩ := hW
  have hA : DataW.TrodAll enc Try.prog W 0 (fun _ => true) true Try.f8.params.toList args.toList ds p := hA0
  rw [Try.params8] at hA hval
  obtain ⟨v0, vs0, d0, ds0, p0, q0, hargs, rfl, rfl, h0, r0⟩ := trodAll_cons hA
  obtain ⟨v1, vs1, d1, ds1, p1, q1, rfl, rfl, rfl, h1, r1⟩ := trodAll_cons r0
  obtain ⟨rfl, rfl, rfl⟩ := trodAll_nil r1
  obtain rfl : args = #[v0, v1] := by cases args; simp_all
  obtain ⟨rfl, rfl⟩ := trodVars_none hV
  obtain ⟨E0, rfl, rfl, rfl, l0⟩ := open_entry (hval 0 26 v0 rfl rfl) h0
  obtain ⟨E1, rfl, rfl, rfl, l1⟩ := open_entry (hval 1 26 v1 rfl rfl) h1
  clear hA0 hval0
  simp only [List.append_nil] at hW'
  refine (walk E0 l0 E1 l1 W).mono fun e W' ⟨he, hg⟩ => ?_
  subst he
  exact ⟨_, rfl, _, _, _, [], [], [], hW', trodAll_mk1 (shut_bool Try.underlying4 _), (trodAll_cons_mk (shut_entry l0) (trodAll_cons_mk (shut_entry l1) trodAll_mk0)), rfl, hg.frame _, fun h => by cases h⟩

theorem over : Rows.tteApartRow.holds Try.pinned (OpenSpec.ofChange Rows.tteApartSpec) :=
  OpenClaim.holds_of_wide 8 Try.f8 rfl rfl rfl rfl rfl rfl rfl ⟨rfl, rfl, rfl, rfl, rfl⟩ rfl rfl rfl rfl rfl (by kernel_rfl) Try.func8 (by kernel_rfl)
    (of_decide_eq_true (by kernel_rfl)) (by unfold Func.isWrapper; first | (rw [if_pos (by decide +kernel)]; kernel_rfl) | (rw [if_neg (by decide +kernel)]; exact ⟨rfl, rfl⟩))
    (fun os started H enc _ => lifted os started H enc)

theorem proved : Rows.TteApartSaid :=
  over
#print axioms proved
end Go.Proofs.Ytambpmbgepgkdaa.tteApart
