/-
  TteReads: for every three words, every entry (made such as may be) and every bit the law returns true, and its arguments read as before. Conditions: none.
-/
import Derived.Test.YtambpmbgepgkdaaRows
import Derived.WalkKit
import Derived.ProofKit
import Derived.OpenShut
import Derived.Test.YtambpmbgepgkdaaTStore
import Derived.Deep.DeepCutAuto
import Derived.Test.YtambpmbgepgkdaaTOpen
namespace Go.Proofs.Ytambpmbgepgkdaa.tteReads
open Fld
open Go.ChangeShapes Go.WideShapes Go.ChangeAt Go.RowKit
set_option linter.unusedVariables false

theorem own : ownKnob Try.prog.godebug = none := by kernel_rfl

/-! ### The walk -/
set_option maxHeartbeats 4000000 in
set_option maxRecDepth 100000 in
theorem walk (a0 : Int) (w0 : (Lit.int .u64 a0).wf = true) (a1 : Int) (w1 : (Lit.int .u64 a1).wf = true) (a2 : Int) (w2 : (Lit.int .u64 a2).wf = true) (E3 : Ent) (l3 : E3.lits) (a4 : Int) (w4 : (Lit.int .i64 a4).wf = true) (w : World) :
    Calls Try.prog 5 #[.int .u64 a0, .int .u64 a1, .int .u64 a2, .agg #[.int .i64 E3.size, .int .i64 E3.ctx, .int .u64 E3.va, .int .u64 E3.pa, .bool E3.att.write, .bool E3.att.priv, .bool E3.att.exec, .bool E3.att.lock, .bool E3.att.global, .bool E3.att.quiet, .bool E3.valid], .int .i64 a4] w fun e w' => e = .returned (.bool true) ∧ Below w.heap.size w w' := by
  obtain ⟨t0, t1⟩ := bounds_u64 w0
  obtain ⟨d0, d1⟩ := bounds_u64 w1
  obtain ⟨v0, v1⟩ := bounds_u64 w2
  obtain ⟨q0, q1⟩ := bounds_i64 w4
  obtain ⟨g, hok, HG⟩ := good_some E3 l3
  have HT := Lib.hid (fun W => rtage_any g hok.fit hok.v0 hok.v1 W)
  have HD := Lib.hid (fun W => rdata_any g hok.fit W)
  have tb := Ent.tag_bd hok.fit
  have db := Ent.data_bd hok.fit
  have gv0 := hok.v0
  have gv1 := hok.v1
  have ab := absI_bd a4 q0 q1
  have kb := nrm_bd a4 128 (by omega)
  have NK := Lib.hid (abs_nrm a4 128)
  generalize nrm a4 128 = k at *
  generalize g.tagW = T at *
  generalize g.dataW = D at *
  clear hok w0 w1 w2 w4 l3
  have HR1 := Lib.hid (fun W => tread_any a0 a1 a2 t0 t1 d0 d1 v0 v1 W)
  have HR2 := Lib.hid (fun W => rread_any a0 a1 a2 t0 t1 d0 d1 v0 v1 W)
  generalize Ent.readE a0 a1 a2 = X at *
  generalize Ent.readN a0 a1 a2 = N at *
  go_enter Try.func5, Try.ntmps5
  go_wp2_with fail
  refine (HR1.out _).mono ?_; rintro r u1 ⟨rfl, hb1⟩
  have hz1 : w.heap.size < u1.heap.size := by have := hb1.size; simp at this; omega
  have e1 := Lib.hid ((RowE.new w E3).below hb1 (by simp))
  have HB1 := Lib.hid (below_box hb1)
  clear hb1 HR1
  go_wp2_with fail
  refine (HR2.out _).mono ?_; rintro r u2 ⟨rfl, hb2⟩
  have hz2 : u1.heap.size < u2.heap.size := by have := hb2.size; simp at this; omega
  have x2 := Lib.hid ((RowE.new u1 X).below hb2 (by simp))
  have e2 := Lib.hid ((e1.out.alloc _ hz1).below hb2 (by simp; omega))
  have HB2 := Lib.hid (show Below w.heap.size w u2 from (HB1.out.alloc (by omega) _).trans (hb2.mono (by simp; omega)))
  clear hb2 HR2 e1 HB1
  obtain ⟨y0, y1, y2, y3, y4, y5, y6, y7, y8, y9, y10⟩ := x2.out.cells
  obtain ⟨f0, f1, f2, f3, f4, f5, f6, f7, f8, f9, f10⟩ := e2.out.cells
  have hw2 : w.heap.size < u2.heap.size := by omega
  go_wp2_with fail
  refine (HG.out _).mono ?_; rintro r u3 ⟨rfl, hb3⟩
  have hz3 : u2.heap.size < u3.heap.size := by have := hb3.size; simp at this; omega
  have x3 := Lib.hid ((x2.out.alloc _ hz2).below hb3 (by simp; omega))
  have y3' := Lib.hid ((RowE.new u2 X).below hb3 (by simp))
  have HB3 := Lib.hid (show Below w.heap.size w u3 from (HB2.out.alloc (by omega) _).trans (hb3.mono (by simp; omega)))
  clear hb3 HG x2 e2 HB2 y0 y1 y2 y3 y4 y5 y6 y7 y8 y9 y10 f0 f1 f2 f3 f4 f5 f6 f7 f8 f9 f10
  go_upto_if 43 with (fail)
  go_cut [4] (fun t wx => t = .int .i64 (absI a4) ∧ u3.alloc (.cells #[.int .i64 g.size, .int .i64 g.ctx, .int .u64 g.va, .int .u64 g.pa, .bool g.att.write, .bool g.att.priv, .bool g.att.exec, .bool g.att.lock, .bool g.att.global, .bool g.att.quiet, .bool g.valid] 26) = wx)
  case first =>
    by_cases h : a4 < 0
    · have H := Lib.hid (absI_neg h)
      go_wp2_with fail
      go_meet
      exact ⟨by rw [H.out], rfl⟩
    · have H := Lib.hid (absI_pos h)
      go_wp2_with fail
      go_meet
      exact ⟨by rw [← H.out], rfl⟩
  case rest =>
    obtain ⟨rfl, rfl⟩ := hcut
    have MK := NK.out
    clear NK
    go_wp2_with fail
    try rw [MK]
    clear MK
    refine (HT.out _).mono ?_; rintro r u4 ⟨rfl, hb4⟩
    have hz4 : u3.heap.size < u4.heap.size := by have := hb4.size; simp at this; omega
    have x4 := Lib.hid ((x3.out.alloc _ (by omega)).below hb4 (by simp; omega))
    have y4' := Lib.hid ((y3'.out.alloc _ hz3).below hb4 (by simp; omega))
    have g4 := Lib.hid ((RowE.new u3 g).below hb4 (by simp))
    have HB4 := Lib.hid (show Below w.heap.size w u4 from (HB3.out.alloc (by omega) _).trans (hb4.mono (by simp; omega)))
    clear hb4 x3 y3' HB3 HT
    obtain ⟨y0, y1, y2, y3, y4, y5, y6, y7, y8, y9, y10⟩ := g4.out.cells
    go_wp2_with fail
    refine (HD.out _).mono ?_; rintro r u5 ⟨rfl, hb5⟩
    have hz5 : u3.heap.size < u5.heap.size := by have := hb5.size; omega
    have x5 := Lib.hid (x4.out.below hb5 (by omega))
    have y5' := Lib.hid (y4'.out.below hb5 (by omega))
    have g5 := Lib.hid (g4.out.below hb5 (by omega))
    have HB5 := Lib.hid (show Below w.heap.size w u5 from HB4.out.trans (hb5.mono (by omega)))
    clear hb5 x4 y4' g4 HB4 HD y0 y1 y2 y3 y4 y5 y6 y7 y8 y9 y10
    go_upto_if 54 with (fail)
    go_cut [16, 17] (fun t d wx => (∃ T' D' : Int, (0 ≤ T' ∧ T' ≤ 18446744073709551615) ∧ (0 ≤ D' ∧ D' ≤ 18446744073709551615) ∧ t = .int .u64 T' ∧ d = .int .u64 D') ∧ u5 = wx)
    case first =>
      by_cases h : k < 64
      · have b1 := bitI_bd T k
        have b2 := putI_bd T k 1 (1 - bitI T k) tb.1 tb.2
        go_wp2_with (first | (go_at_call 24; refine (rbit_any _ _ (by omega) (by omega) (by omega) (by omega) _).mono ?_; rintro e w' ⟨rfl, rfl⟩) | (go_at_call 23; refine (rput_any _ _ _ _ (by omega) (by omega) (by omega) (by omega) _).mono ?_; rintro e w' ⟨rfl, rfl⟩))
        go_meet
        exact ⟨⟨_, _, b2, ⟨by omega, db.2⟩, rfl, rfl⟩, rfl⟩
      · have b1 := bitI_bd D (k - 64)
        have b2 := putI_bd D (k - 64) 1 (1 - bitI D (k - 64)) (by omega) db.2
        go_wp2_with (first | (go_at_call 24; refine (rbit_any _ _ (by omega) (by omega) (by omega) (by omega) _).mono ?_; rintro e w' ⟨rfl, rfl⟩) | (go_at_call 23; refine (rput_any _ _ _ _ (by omega) (by omega) (by omega) (by omega) _).mono ?_; rintro e w' ⟨rfl, rfl⟩))
        go_meet
        exact ⟨⟨_, _, tb, b2, rfl, rfl⟩, rfl⟩
    case rest =>
      obtain ⟨⟨T', D', ⟨t2, t3⟩, ⟨d2, d3⟩, rfl, rfl⟩, rfl⟩ := hcut
      have HR1 := Lib.hid (fun W => tread_any T' D' g.va t2 t3 d2 d3 gv0 gv1 W)
      have HR2 := Lib.hid (fun W => rread_any T' D' g.va t2 t3 d2 d3 gv0 gv1 W)
      generalize Ent.readE T' D' g.va = Y at *
      generalize Ent.readN T' D' g.va = M at *
      obtain ⟨y0, y1, y2, y3, y4, y5, y6, y7, y8, y9, y10⟩ := g5.out.cells
      clear y0 y1 y3 y4 y5 y6 y7 y8 y9 y10
      go_wp2_with fail
      refine (HR1.out _).mono ?_; rintro r u6 ⟨rfl, hb6⟩
      have hz6 : u3.heap.size < u6.heap.size := by have := hb6.size; omega
      have x6 := Lib.hid (x5.out.below hb6 (by omega))
      have y6' := Lib.hid (y5'.out.below hb6 (by omega))
      have g6 := Lib.hid (g5.out.below hb6 (by omega))
      have HB6 := Lib.hid (show Below w.heap.size w u6 from HB5.out.trans (hb6.mono (by omega)))
      clear hb6 x5 y5' g5 HB5 HR1 y2
      obtain ⟨y0, y1, y2, y3, y4, y5, y6, y7, y8, y9, y10⟩ := x6.out.cells
      have fz := x6.out.frozen
      obtain ⟨s0, s1, s2, s3, s4, s5, s6, s7, s8, s9, s10⟩ := g6.out.cells
      clear s0 s1 s3 s4 s5 s6 s7 s8 s9 s10
      have hne : ¬ u3.heap.size = u1.heap.size := by omega
      have hne' : ¬ u1.heap.size = u3.heap.size := by omega
      go_wp2_with fail
      refine (HR2.out _).mono ?_; rintro r u7 ⟨rfl, hb7⟩
      have hz7 : u3.heap.size < u7.heap.size := by have := hb7.size; simp at this; omega
      have x7 := Lib.hid (RowE.mk (w := u7) (b := u1.heap.size) (e := Y) ((hb7.block u1.heap.size (by simp; omega)).trans (row_eleven x6.out.row)))
      have y7' := Lib.hid (RowE.mk (w := u7) (b := u2.heap.size) (e := X) ((hb7.block u2.heap.size (by simp; omega)).trans ((row_far (by omega)).trans y6'.out.row)))
      have HB7 := Lib.hid (show Below w.heap.size w u7 by
        refine Below.trans ?_ (hb7.mono (by simp; omega))
        iterate 11 refine below_setN ?_ (by omega)
        exact HB6.out)
      clear hb7 x6 y6' g6 HB6 HR2 y0 y1 y2 y3 y4 y5 y6 y7 y8 y9 y10 fz s2 hne hne'
      obtain ⟨y0, y1, y2, y3, y4, y5, y6, y7, y8, y9, y10⟩ := y7'.out.cells
      have fz := y7'.out.frozen
      obtain ⟨s0, s1, s2, s3, s4, s5, s6, s7, s8, s9, s10⟩ := x7.out.cells
      have hne : ¬ u2.heap.size = u1.heap.size := by omega
      have hne' : ¬ u1.heap.size = u2.heap.size := by omega
      go_wp2_with fail
      refine (tlives_any _).mono ?_; rintro r u8 ⟨rfl, hb8⟩
      go_wp2_with fail
      go_ret
      refine ⟨rfl, Below.trans ?_ (hb8.mono (by simp; omega))⟩
      iterate 11 refine below_setN ?_ (by omega)
      exact HB7.out

/-! ### The row -/
set_option maxRecDepth 100000 in
theorem lifted (os : Os) (started : os.Started) (H : Type) (enc : TypeId × Value → H) :
    ReturnsInHanded {} Try.checked os 5 .any (Rows.tteReadsSpec.pre6 enc Try.prog Try.f5 Rows.tteReadsRow.domain false) (Rows.tteReadsSpec.post enc Try.prog Try.f5 false true false false) := by
  refine returnsInHanded_of_change (C := Try.checked) own started (by kernel_rfl) Try.func5
    (ChangeSpec.witness6 (enc := enc) (C := Try.checked) false ⟨#[], #[.int .u64 0, .int .u64 0, .int .u64 0, .agg #[.int .i64 0, .int .i64 0, .int .u64 0, .int .u64 0, .bool false, .bool false, .bool false, .bool false, .bool false, .bool false, .bool false], .int .i64 0], []⟩ 8 (by kernel_rfl) (by kernel_rfl) (by kernel_rfl) (by kernel_rfl)) ?_
  intro W base args ds gs before hval0 hW hcnd _
  have hval : ∀ (j : Nat) t v, Try.f5.params[j]? = some t → args[j]? = some v → Value.okWide Try.prog W .any base t v := hval0
  have hW' := hW
  obtain ⟨p, q, hA0, hV, rfl, hfz, hnd⟩ := hW
  have hA : DataW.TrodAll enc Try.prog W 0 (fun _ => true) true Try.f5.params.toList args.toList ds p := hA0
  rw [Try.params5] at hA hval
  obtain ⟨v0, vs0, d0, ds0, p0, q0, hargs, rfl, rfl, h0, r0⟩ := trodAll_cons hA
  obtain ⟨v1, vs1, d1, ds1, p1, q1, rfl, rfl, rfl, h1, r1⟩ := trodAll_cons r0
  obtain ⟨v2, vs2, d2, ds2, p2, q2, rfl, rfl, rfl, h2, r2⟩ := trodAll_cons r1
  obtain ⟨v3, vs3, d3, ds3, p3, q3, rfl, rfl, rfl, h3, r3⟩ := trodAll_cons r2
  obtain ⟨v4, vs4, d4, ds4, p4, q4, rfl, rfl, rfl, h4, r4⟩ := trodAll_cons r3
  obtain ⟨rfl, rfl, rfl⟩ := trodAll_nil r4
  obtain rfl : args = #[v0, v1, v2, v3, v4] := by cases args; simp_all
  obtain ⟨rfl, rfl⟩ := trodVars_none hV
  obtain ⟨a0, rfl, rfl, rfl, w0⟩ := open_int Try.underlying22 (hval 0 22 v0 rfl rfl) h0
  obtain ⟨a1, rfl, rfl, rfl, w1⟩ := open_int Try.underlying22 (hval 1 22 v1 rfl rfl) h1
  obtain ⟨a2, rfl, rfl, rfl, w2⟩ := open_int Try.underlying22 (hval 2 22 v2 rfl rfl) h2
  obtain ⟨E3, rfl, rfl, rfl, l3⟩ := open_entry (hval 3 26 v3 rfl rfl) h3
  obtain ⟨a4, rfl, rfl, rfl, w4⟩ := open_int Try.underlying3 (hval 4 3 v4 rfl rfl) h4
  clear hA0 hval0
  simp only [List.append_nil] at hW'
  refine (walk a0 w0 a1 w1 a2 w2 E3 l3 a4 w4 W).mono fun e W' ⟨he, hg⟩ => ?_
  subst he
  exact ⟨_, rfl, _, _, _, [], [], [], hW', trodAll_mk1 (shut_bool Try.underlying4 _), (trodAll_cons_mk (shut_int Try.underlying22 w0) (trodAll_cons_mk (shut_int Try.underlying22 w1) (trodAll_cons_mk (shut_int Try.underlying22 w2) (trodAll_cons_mk (shut_entry l3) (trodAll_cons_mk (shut_int Try.underlying3 w4) trodAll_mk0))))), rfl, hg.frame _, fun h => by cases h⟩

theorem over : Rows.tteReadsRow.holds Try.pinned (OpenSpec.ofChange Rows.tteReadsSpec) :=
  OpenClaim.holds_of_wide 5 Try.f5 rfl rfl rfl rfl rfl rfl rfl ⟨rfl, rfl, rfl, rfl, rfl⟩ rfl rfl rfl rfl rfl (by kernel_rfl) Try.func5 (by kernel_rfl)
    (of_decide_eq_true (by kernel_rfl)) (by unfold Func.isWrapper; first | (rw [if_pos (by decide +kernel)]; kernel_rfl) | (rw [if_neg (by decide +kernel)]; exact ⟨rfl, rfl⟩))
    (fun os started H enc _ => lifted os started H enc)

theorem proved : Rows.TteReadsSaid :=
  over
#print axioms proved
end Go.Proofs.Ytambpmbgepgkdaa.tteReads
