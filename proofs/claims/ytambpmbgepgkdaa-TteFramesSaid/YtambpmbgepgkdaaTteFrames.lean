/-
  TteFrames: for every entry (made such as may be) and every two offsets the law returns true, and its arguments read as before. Conditions: none.
-/
import Derived.Test.YtambpmbgepgkdaaRows
import Derived.WalkKit
import Derived.ProofKit
import Derived.OpenShut
import Derived.Test.YtambpmbgepgkdaaTKeep
import Derived.Deep.DeepCutAuto
import Derived.Test.YtambpmbgepgkdaaTOpen
namespace Go.Proofs.Ytambpmbgepgkdaa.tteFrames
open Fld
open Go.ChangeShapes Go.WideShapes Go.ChangeAt Go.RowKit
set_option linter.unusedVariables false

theorem own : ownKnob Try.prog.godebug = none := by kernel_rfl

theorem frame_at {g : Ent} (h : g.Ok) {x : Int} (x0 : 0 ≤ x) (x1 : x < bytesI g.size) : g.frameI (g.va + x) = g.pa + x ∧ g.holdsB (g.va + x) = true := by
  obtain ⟨h1, h2, _⟩ := at_in h x0 x1
  have hb := bytes_bd g.size
  have hp := h.fit.p0; have hp1 := h.fit.p1
  have hh : g.holdsB (g.va + x) = true := by unfold Ent.holdsB; rw [h.valid, h1]; rfl
  refine ⟨?_, hh⟩
  unfold Ent.frameI
  rw [hh, if_pos rfl, h2]
  exact IntWalk.u64_in _ ⟨by omega, by omega⟩
theorem frame_no {g : Ent} (h : g.Ok) {y : Int} (hy : y = IntKind.u64.wrap (g.va + bytesI g.size) ∨ y = IntKind.u64.wrap (g.va - 1)) : (0 ≤ y ∧ y ≤ 18446744073709551615) ∧ g.frameI y = 0 ∧ g.holdsB y = false := by
  have hw : ∀ z, IntKind.u64.wrap z = z % 18446744073709551616 := u64_mod
  rw [hw, hw] at hy
  have hh : g.holdsB y = false := by
    unfold Ent.holdsB inB
    have hs := h.size; have hv := h.vs; have v0 := h.v0; have v1 := h.v1
    rw [h.valid, hs]
    generalize g.size = s at *
    generalize g.va = v at *
    rw [Bool.true_and, Bool.true_and, decide_eq_false_iff_not]
    rcases sizeB_true hs with rfl | rfl | rfl | rfl <;> (simp only [bytesI, if_true, Int.reduceEq, if_false] at *; clear hs hw; omega)
  refine ⟨by omega, ?_, hh⟩
  unfold Ent.frameI
  rw [hh]; rfl
/-! ### The walk -/
set_option maxHeartbeats 4000000 in
set_option maxRecDepth 100000 in
theorem walk (E0 : Ent) (l0 : E0.lits) (a1 : Int) (w1 : (Lit.int .u64 a1).wf = true) (a2 : Int) (w2 : (Lit.int .u64 a2).wf = true) (w : World) :
    Calls Try.prog 10 #[.agg #[.int .i64 E0.size, .int .i64 E0.ctx, .int .u64 E0.va, .int .u64 E0.pa, .bool E0.att.write, .bool E0.att.priv, .bool E0.att.exec, .bool E0.att.lock, .bool E0.att.global, .bool E0.att.quiet, .bool E0.valid], .int .u64 a1, .int .u64 a2] w fun e w' => e = .returned (.bool true) ∧ Below w.heap.size w w' := by
  obtain ⟨o0, o1⟩ := bounds_u64 w1
  obtain ⟨q0, q1⟩ := bounds_u64 w2
  obtain ⟨g, hok, HG⟩ := good_some E0 l0
  have hbp := bytes_pos hok.size
  have hbd := bytes_bd g.size
  have v0 := hok.v0
  have v1 := hok.v1
  have p0 := hok.fit.p0
  have p1 := hok.fit.p1
  have HBy := Lib.hid (fun W => rbytes_any g.size W)
  have ptop := page_top g.va g.size hok.size hok.vs hok.v1
  obtain ⟨P3, hP3⟩ : ∃ P, P = IntKind.u64.wrap (g.va + bytesI g.size) := ⟨_, rfl⟩
  obtain ⟨P4, hP4⟩ : ∃ P, P = IntKind.u64.wrap (g.va - 1) := ⟨_, rfl⟩
  obtain ⟨n3, n3a, n3b⟩ := frame_no hok (.inl hP3)
  obtain ⟨n4, n4a, n4b⟩ := frame_no hok (.inr hP4)
  have C3 := Lib.hid (fun W => tframe_any g P3 v0 v1 n3.1 n3.2 W)
  have C4 := Lib.hid (fun W => tframe_any g P4 v0 v1 n4.1 n4.2 W)
  rw [n3a, n3b] at C3
  rw [n4a, n4b] at C4
  have mx := Int.emod_nonneg a1 (show bytesI g.size ≠ 0 by omega)
  have mx' := Int.emod_lt_of_pos a1 (show 0 < bytesI g.size by omega)
  have my := Int.emod_nonneg a2 (show bytesI g.size ≠ 0 by omega)
  have my' := Int.emod_lt_of_pos a2 (show 0 < bytesI g.size by omega)
  obtain ⟨f1, f1'⟩ := frame_at hok mx mx'
  obtain ⟨f2, f2'⟩ := frame_at hok my my'
  have a1b := at_bd hok mx mx'
  have a2b := at_bd hok my my'
  have C1 := Lib.hid (fun W => tframe_any g (g.va + a1 % bytesI g.size) v0 v1 a1b.1 a1b.2 W)
  have C2 := Lib.hid (fun W => tframe_any g (g.va + a2 % bytesI g.size) v0 v1 a2b.1 a2b.2 W)
  rw [f1, f1'] at C1
  rw [f2, f2'] at C2
  generalize bytesI g.size = B at *
  have t1 : a1.tmod B = a1 % B := Int.tmod_eq_emod_of_nonneg o0
  have t2 : a2.tmod B = a2 % B := Int.tmod_eq_emod_of_nonneg q0
  obtain ⟨x, hx⟩ : ∃ x, a1 % B = x := ⟨_, rfl⟩
  obtain ⟨y, hy⟩ : ∃ y, a2 % B = y := ⟨_, rfl⟩
  rw [hx] at t1 mx mx' a1b C1
  rw [hy] at t2 my my' a2b C2
  have HP3 := Lib.hid hP3.symm
  have HP4 := Lib.hid hP4.symm
  have HX := Lib.hid hx
  have HY := Lib.hid hy
  have HX' := Lib.hid t1
  have HY' := Lib.hid t2
  clear f1 f1' f2 f2' n3a n3b n4a n4b hP3 hP4 hok w1 w2 l0 hx hy t1 t2 n3 n4
  have hB1 : ¬ B = 0 := by omega
  have hB2 : (B == 0) = false := beq_eq_false_iff_ne.2 (by omega)
  go_enter Try.func10, Try.ntmps10
  go_wp2_with fail
  refine (HG.out _).mono ?_; rintro r u1 ⟨rfl, hb1⟩
  have hz1 : w.heap.size < u1.heap.size := by have := hb1.size; simp at this; omega
  have HB1 := Lib.hid (below_box hb1)
  have K1 := KeepE.mk (HB1.out.alloc (by omega) (.cells #[.int .i64 g.size, .int .i64 g.ctx, .int .u64 g.va, .int .u64 g.pa, .bool g.att.write, .bool g.att.priv, .bool g.att.exec, .bool g.att.lock, .bool g.att.global, .bool g.att.quiet, .bool g.valid] 26)) (RowE.new u1 g)
  clear hb1 HG HB1
  go_wp2_with fail
  refine (HBy.out _).mono ?_; rintro r u2 ⟨rfl, rfl⟩
  go_wp2_with fail
  generalize World.alloc u1 _ = u2 at K1 ⊢
  obtain ⟨y0, y1, y2, y3, y4, y5, y6, y7, y8, y9, y10⟩ := K1.row.cells
  have M1 := HX.out
  have M2 := HX'.out
  have hs1 : IntKind.u64.wrap (g.va + x) = g.va + x := IntWalk.u64_in _ ⟨by omega, by omega⟩
  go_cut [9, 10] (fun p f wx => p = .int .u64 (g.pa + x) ∧ f = .bool true ∧ KeepE w wx u1.heap.size g)
  case first =>
    go_region_held3 (fun w1 => w1.cell? ⟨u1.heap.size, 0, none⟩ = some (.int .i64 g.size) ∧ w1.cell? ⟨u1.heap.size, 1, none⟩ = some (.int .i64 g.ctx) ∧ w1.cell? ⟨u1.heap.size, 2, none⟩ = some (.int .u64 g.va) ∧ w1.cell? ⟨u1.heap.size, 3, none⟩ = some (.int .u64 g.pa) ∧ w1.cell? ⟨u1.heap.size, 4, none⟩ = some (.bool g.att.write) ∧ w1.cell? ⟨u1.heap.size, 5, none⟩ = some (.bool g.att.priv) ∧ w1.cell? ⟨u1.heap.size, 6, none⟩ = some (.bool g.att.exec) ∧ w1.cell? ⟨u1.heap.size, 7, none⟩ = some (.bool g.att.lock) ∧ w1.cell? ⟨u1.heap.size, 8, none⟩ = some (.bool g.att.global) ∧ w1.cell? ⟨u1.heap.size, 9, none⟩ = some (.bool g.att.quiet) ∧ w1.cell? ⟨u1.heap.size, 10, none⟩ = some (.bool g.valid)) ((refine keep_cells (w0 := w) ?_; (repeat (first | (with_reducible assumption) | (with_reducible refine KeepE.drew ?_) | (with_reducible refine KeepE.drewN ?_ _) | (with_reducible refine KeepE.alloc ?_ _) | (with_reducible refine KeepE.setNew ?_ ?_) | (with_reducible refine KeepE.call ?_ (by assumption))))))
      (first
        | (go_at_call 25; refine (C1.out _).mono ?_; rintro r w' ⟨rfl, hb⟩))
    all_goals
      go_wp2_with fail
      go_meet
      refine ⟨rfl, rfl, ?_⟩
      (repeat (first | (with_reducible assumption) | (with_reducible refine KeepE.drew ?_) | (with_reducible refine KeepE.drewN ?_ _) | (with_reducible refine KeepE.alloc ?_ _) | (with_reducible refine KeepE.setNew ?_ ?_) | (with_reducible refine KeepE.call ?_ (by assumption))))
  case rest =>
    obtain ⟨rfl, rfl, K2⟩ := hcut
    clear K1 y0 y1 y2 y3 y4 y5 y6 y7 y8 y9 y10 M1 M2 hs1
    obtain ⟨y0, y1, y2, y3, y4, y5, y6, y7, y8, y9, y10⟩ := K2.row.cells
    have M1 := HY.out
    have M2 := HY'.out
    have hs1 : IntKind.u64.wrap (g.va + y) = g.va + y := IntWalk.u64_in _ ⟨by omega, by omega⟩
    go_wp2_with fail
    go_cut [11, 12] (fun p f wx => p = .int .u64 (g.pa + y) ∧ f = .bool true ∧ KeepE w wx u1.heap.size g)
    case first =>
      go_region_held3 (fun w1 => w1.cell? ⟨u1.heap.size, 0, none⟩ = some (.int .i64 g.size) ∧ w1.cell? ⟨u1.heap.size, 1, none⟩ = some (.int .i64 g.ctx) ∧ w1.cell? ⟨u1.heap.size, 2, none⟩ = some (.int .u64 g.va) ∧ w1.cell? ⟨u1.heap.size, 3, none⟩ = some (.int .u64 g.pa) ∧ w1.cell? ⟨u1.heap.size, 4, none⟩ = some (.bool g.att.write) ∧ w1.cell? ⟨u1.heap.size, 5, none⟩ = some (.bool g.att.priv) ∧ w1.cell? ⟨u1.heap.size, 6, none⟩ = some (.bool g.att.exec) ∧ w1.cell? ⟨u1.heap.size, 7, none⟩ = some (.bool g.att.lock) ∧ w1.cell? ⟨u1.heap.size, 8, none⟩ = some (.bool g.att.global) ∧ w1.cell? ⟨u1.heap.size, 9, none⟩ = some (.bool g.att.quiet) ∧ w1.cell? ⟨u1.heap.size, 10, none⟩ = some (.bool g.valid)) ((refine keep_cells (w0 := w) ?_; (repeat (first | (with_reducible assumption) | (with_reducible refine KeepE.drew ?_) | (with_reducible refine KeepE.drewN ?_ _) | (with_reducible refine KeepE.alloc ?_ _) | (with_reducible refine KeepE.setNew ?_ ?_) | (with_reducible refine KeepE.call ?_ (by assumption))))))
        (first
          | (go_at_call 25; refine (C2.out _).mono ?_; rintro r w' ⟨rfl, hb⟩))
      all_goals
        go_wp2_with fail
        go_meet
        refine ⟨rfl, rfl, ?_⟩
        (repeat (first | (with_reducible assumption) | (with_reducible refine KeepE.drew ?_) | (with_reducible refine KeepE.drewN ?_ _) | (with_reducible refine KeepE.alloc ?_ _) | (with_reducible refine KeepE.setNew ?_ ?_) | (with_reducible refine KeepE.call ?_ (by assumption))))
    case rest =>
      obtain ⟨rfl, rfl, K3⟩ := hcut
      clear K2 y0 y1 y2 y3 y4 y5 y6 y7 y8 y9 y10 M1 M2 hs1
      obtain ⟨y0, y1, y2, y3, y4, y5, y6, y7, y8, y9, y10⟩ := K3.row.cells
      have M3 := HP3.out
      go_wp2_with fail
      refine (C3.out _).mono ?_; rintro r u5 ⟨rfl, hb5⟩
      have K4 := K3.call hb5
      clear K3 hb5 y0 y1 y2 y3 y4 y5 y6 y7 y8 y9 y10 M3
      obtain ⟨y0, y1, y2, y3, y4, y5, y6, y7, y8, y9, y10⟩ := K4.row.cells
      have M4 := HP4.out
      go_wp2_with fail
      refine (C4.out _).mono ?_; rintro r u6 ⟨rfl, hb6⟩
      have K5 := K4.call hb6
      clear K4 hb6 y0 y1 y2 y3 y4 y5 y6 y7 y8 y9 y10 M4
      obtain ⟨y0, y1, y2, y3, y4, y5, y6, y7, y8, y9, y10⟩ := K5.row.cells
      go_wp2_with fail
      have M1 := HX.out
      have M2 := HX'.out
      have M3 := HY.out
      have M4 := HY'.out
      obtain ⟨Z, hZ⟩ : ∃ Z, IntKind.u64.wrap (y - x) = Z := ⟨_, rfl⟩
      have hZ2 : IntKind.u64.wrap (g.pa + y - (g.pa + x)) = Z := by rw [← hZ]; congr 1; omega
      have hs1 : IntKind.u64.wrap (g.pa + x) = g.pa + x := IntWalk.u64_in _ ⟨by omega, by omega⟩
      have hLV := Lib.hid (fun W => tlives_any W)
      go_region_held3 (fun w1 => w1.cell? ⟨u1.heap.size, 0, none⟩ = some (.int .i64 g.size) ∧ w1.cell? ⟨u1.heap.size, 1, none⟩ = some (.int .i64 g.ctx) ∧ w1.cell? ⟨u1.heap.size, 2, none⟩ = some (.int .u64 g.va) ∧ w1.cell? ⟨u1.heap.size, 3, none⟩ = some (.int .u64 g.pa) ∧ w1.cell? ⟨u1.heap.size, 4, none⟩ = some (.bool g.att.write) ∧ w1.cell? ⟨u1.heap.size, 5, none⟩ = some (.bool g.att.priv) ∧ w1.cell? ⟨u1.heap.size, 6, none⟩ = some (.bool g.att.exec) ∧ w1.cell? ⟨u1.heap.size, 7, none⟩ = some (.bool g.att.lock) ∧ w1.cell? ⟨u1.heap.size, 8, none⟩ = some (.bool g.att.global) ∧ w1.cell? ⟨u1.heap.size, 9, none⟩ = some (.bool g.att.quiet) ∧ w1.cell? ⟨u1.heap.size, 10, none⟩ = some (.bool g.valid)) ((refine keep_cells (w0 := w) ?_; (repeat (first | (with_reducible assumption) | (with_reducible refine KeepE.drew ?_) | (with_reducible refine KeepE.drewN ?_ _) | (with_reducible refine KeepE.alloc ?_ _) | (with_reducible refine KeepE.setNew ?_ ?_) | (with_reducible refine KeepE.call ?_ (by assumption))))))
        (first
          | (go_at_call 19; refine (hLV.out _).mono ?_; rintro r w' ⟨rfl, hb⟩))
      all_goals
        have K6 : KeepE w w' u1.heap.size g := by (repeat (first | (with_reducible assumption) | (with_reducible refine KeepE.drew ?_) | (with_reducible refine KeepE.drewN ?_ _) | (with_reducible refine KeepE.alloc ?_ _) | (with_reducible refine KeepE.setNew ?_ ?_) | (with_reducible refine KeepE.call ?_ (by assumption))))
        go_wp2_with fail
        go_ret
        exact ⟨rfl, K6.below⟩

/-! ### The row -/
set_option maxRecDepth 100000 in
theorem lifted (os : Os) (started : os.Started) (H : Type) (enc : TypeId × Value → H) :
    ReturnsInHanded {} Try.checked os 10 .any (Rows.tteFramesSpec.pre6 enc Try.prog Try.f10 Rows.tteFramesRow.domain false) (Rows.tteFramesSpec.post enc Try.prog Try.f10 false true false false) := by
  refine returnsInHanded_of_change (C := Try.checked) own started (by kernel_rfl) Try.func10
    (ChangeSpec.witness6 (enc := enc) (C := Try.checked) false ⟨#[], #[.agg #[.int .i64 0, .int .i64 0, .int .u64 0, .int .u64 0, .bool false, .bool false, .bool false, .bool false, .bool false, .bool false, .bool false], .int .u64 0, .int .u64 0], []⟩ 8 (by kernel_rfl) (by kernel_rfl) (by kernel_rfl) (by kernel_rfl)) ?_
  intro W base args ds gs before hval0 hW hcnd _
  have hval : ∀ (j : Nat) t v, Try.f10.params[j]? = some t → args[j]? = some v → Value.okWide Try.prog W .any base t v := hval0
  have hW' := hW
  obtain ⟨p, q, hA0, hV, rfl, hfz, hnd⟩ := hW
  have hA : DataW.TrodAll enc Try.prog W 0 (fun _ => true) true Try.f10.params.toList args.toList ds p := hA0
  rw [Try.params10] at hA hval
  obtain ⟨v0, vs0, d0, ds0, p0, q0, hargs, rfl, rfl, h0, r0⟩ := trodAll_cons hA
  obtain ⟨v1, vs1, d1, ds1, p1, q1, rfl, rfl, rfl, h1, r1⟩ := trodAll_cons r0
  obtain ⟨v2, vs2, d2, ds2, p2, q2, rfl, rfl, rfl, h2, r2⟩ := trodAll_cons r1
  obtain ⟨rfl, rfl, rfl⟩ := trodAll_nil r2
  obtain rfl : args = #[v0, v1, v2] := by cases args; simp_all
  obtain ⟨rfl, rfl⟩ := trodVars_none hV
  obtain ⟨E0, rfl, rfl, rfl, l0⟩ := open_entry (hval 0 26 v0 rfl rfl) h0
  obtain ⟨a1, rfl, rfl, rfl, w1⟩ := open_int Try.underlying22 (hval 1 22 v1 rfl rfl) h1
  obtain ⟨a2, rfl, rfl, rfl, w2⟩ := open_int Try.underlying22 (hval 2 22 v2 rfl rfl) h2
  clear hA0 hval0
  simp only [List.append_nil] at hW'
  refine (walk E0 l0 a1 w1 a2 w2 W).mono fun e W' ⟨he, hg⟩ => ?_
  subst he
  exact ⟨_, rfl, _, _, _, [], [], [], hW', trodAll_mk1 (shut_bool Try.underlying4 _), (trodAll_cons_mk (shut_entry l0) (trodAll_cons_mk (shut_int Try.underlying22 w1) (trodAll_cons_mk (shut_int Try.underlying22 w2) trodAll_mk0))), rfl, hg.frame _, fun h => by cases h⟩

theorem over : Rows.tteFramesRow.holds Try.pinned (OpenSpec.ofChange Rows.tteFramesSpec) :=
  OpenClaim.holds_of_wide 10 Try.f10 rfl rfl rfl rfl rfl rfl rfl ⟨rfl, rfl, rfl, rfl, rfl⟩ rfl rfl rfl rfl rfl (by kernel_rfl) Try.func10 (by kernel_rfl)
    (of_decide_eq_true (by kernel_rfl)) (by unfold Func.isWrapper; first | (rw [if_pos (by decide +kernel)]; kernel_rfl) | (rw [if_neg (by decide +kernel)]; exact ⟨rfl, rfl⟩))
    (fun os started H enc _ => lifted os started H enc)

theorem proved : Rows.TteFramesSaid :=
  over
#print axioms proved
end Go.Proofs.Ytambpmbgepgkdaa.tteFrames
