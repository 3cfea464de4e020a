/-
  TteTargets: for every entry (made such as may be) and every offset the law returns true, and its arguments read as before. Conditions: none.
-/
import Derived.Test.YtambpmbgepgkdaaRows
import Derived.WalkKit
import Derived.ProofKit
import Derived.OpenShut
import Derived.Test.YtambpmbgepgkdaaTRefC
import Derived.Test.YtambpmbgepgkdaaTLaw
import Derived.Test.YtambpmbgepgkdaaTOpen
namespace Go.Proofs.Ytambpmbgepgkdaa.tteTargets
open Fld
open Go.ChangeShapes Go.WideShapes Go.ChangeAt Go.RowKit
set_option linter.unusedVariables false

theorem own : ownKnob Try.prog.godebug = none := by kernel_rfl

theorem target_tag {g : Ent} (h : g.Ok) (o : Int) (hg : g.att.global = false) : targetI (g.va + offI o g.size) g.ctx = g.tagG := by
  have ho := off_lt h.size o
  unfold Ent.tagG targetI
  rw [tag_at h.size h.vs ho.1 ho.2, hg]
  show _ = 0 * 9223372036854775808 + _
  omega
theorem tag_nbad {g : Ent} (h : g.Ok) : (g.tagG == 9223372036854775807) = false := by
  rw [Ent.tagG_fit ⟨h.fit.c0, h.fit.c1⟩]
  exact beq_eq_false_iff_ne.2 (Ent.tag_bad h.fit)
/-! ### The walk -/
set_option maxHeartbeats 1000000 in
set_option maxRecDepth 100000 in
theorem walk (E0 : Ent) (l0 : E0.lits) (a1 : Int) (w1 : (Lit.int .u64 a1).wf = true) (w : World) :
    Calls Try.prog 7 #[.agg #[.int .i64 E0.size, .int .i64 E0.ctx, .int .u64 E0.va, .int .u64 E0.pa, .bool E0.att.write, .bool E0.att.priv, .bool E0.att.exec, .bool E0.att.lock, .bool E0.att.global, .bool E0.att.quiet, .bool E0.valid], .int .u64 a1] w fun e w' => e = .returned (.bool true) ∧ Below w.heap.size w w' := by
  obtain ⟨o0, o1⟩ := bounds_u64 w1
  obtain ⟨g, hok, HG⟩ := good_some E0 l0
  have ho := off_lt hok.size a1
  have hat := at_bd hok ho.1 ho.2
  have hob := off_bd a1 g.size
  have hs := hok.size
  have v0 := hok.v0
  have v1 := hok.v1
  have c0 := hok.fit.c0
  have c1 := hok.fit.c1
  have HT := Lib.hid (target_tag hok a1)
  have hbad := tag_nbad hok
  clear hok w1 l0 hs
  go_enter Try.func7, Try.ntmps7
  go_wp2_with fail
  refine (HG.out _).mono ?_; rintro r u1 ⟨rfl, hb1⟩
  have HB1 := Lib.hid (below_box hb1)
  have hz1 : w.heap.size < u1.heap.size := by have := hb1.size; simp at this; omega
  clear hb1 HG
  go_wp2_with fail
  go_quiet ((go_at_call 20; exact quiet_left (roff_any _ _ o0 o1 _)))
  go_wp2_with fail
  refine (ttarget_any _ _ hat.1 hat.2 _).mono ?_; rintro r u2 ⟨rfl, n2, rfl⟩
  go_wp2_with fail
  refine (rtarget_any _ _ c0 c1 hat.1 hat.2 _).mono ?_; rintro r u2 ⟨rfl, rfl⟩
  go_wp2_with fail
  refine (tbad_any _).mono ?_; rintro r u2 ⟨rfl, rfl⟩
  go_wp2_with fail
  refine (ttag_any g v0 v1 _).mono ?_; rintro r u2 ⟨rfl, hb2⟩
  have hc2 : ∀ o, u2.cell? ⟨u1.heap.size, o, none⟩ = _ := fun o => (bcell hb2).1 u1.heap.size o (by simp)
  have hz2 : u1.heap.size < u2.heap.size := by have := hb2.size; simp at this; omega
  have HB2 := Lib.hid (show Below w.heap.size w u2 from (below_drewN (HB1.out.alloc (by omega) _) _).trans (hb2.mono (by simp; omega)))
  clear hb2
  go_wp2_with fail
  refine (tbad_any _).mono ?_; rintro r u3 ⟨rfl, rfl⟩
  cases hgl : g.att.global
  · have htt : (targetI (g.va + offI a1 g.size) g.ctx == g.tagG) = true := beq_iff_eq.2 (HT.out hgl)
    have HQ := Lib.hid (fun W => (hgl ▸ ttag_any g v0 v1 W : Calls Try.prog 14 #[.agg #[.int .i64 g.size, .int .i64 g.ctx, .int .u64 g.va, .int .u64 g.pa, .bool g.att.write, .bool g.att.priv, .bool g.att.exec, .bool g.att.lock, .bool false, .bool g.att.quiet, .bool g.valid]] W fun r w' => r = .returned (.int .u64 g.tagG) ∧ Below W.heap.size W w'))
    go_wp2_with fail
    refine (HQ.out _).mono ?_; rintro r u3 ⟨rfl, hb3⟩
    have hz3 : u1.heap.size < u3.heap.size := by have := hb3.size; omega
    go_wp2_with fail
    refine (tlives_any _).mono ?_; rintro r u4 ⟨rfl, hb4⟩
    go_wp2
    go_ret
    exact ⟨rfl, (HB2.out.trans (hb3.mono (by omega))).trans (hb4.mono (by omega))⟩
  · go_wp2_with fail
    refine (tlives_any _).mono ?_; rintro r u4 ⟨rfl, hb4⟩
    go_wp2
    go_ret
    exact ⟨rfl, HB2.out.trans (hb4.mono (by omega))⟩

/-! ### The row -/
set_option maxRecDepth 100000 in
theorem lifted (os : Os) (started : os.Started) (H : Type) (enc : TypeId × Value → H) :
    ReturnsInHanded {} Try.checked os 7 .any (Rows.tteTargetsSpec.pre6 enc Try.prog Try.f7 Rows.tteTargetsRow.domain false) (Rows.tteTargetsSpec.post enc Try.prog Try.f7 false true false false) := by
  refine returnsInHanded_of_change (C := Try.checked) own started (by kernel_rfl) Try.func7
    (ChangeSpec.witness6 (enc := enc) (C := Try.checked) false ⟨#[], #[.agg #[.int .i64 0, .int .i64 0, .int .u64 0, .int .u64 0, .bool false, .bool false, .bool false, .bool false, .bool false, .bool false, .bool false], .int .u64 0], []⟩ 8 (by kernel_rfl) (by kernel_rfl) (by kernel_rfl) (by kernel_rfl)) ?_
  intro W base args ds gs before hval0 hW hcnd _
  have hval : ∀ (j : Nat) t v, Try.f7.params[j]? = some t → args[j]? = some v → Value.okWide Try.prog W .any base t v := hval0
  have hW' := hW
  obtain ⟨p, q, hA0, hV, rfl, hfz, hnd⟩ := hW
  have hA : DataW.TrodAll enc Try.prog W 0 (fun _ => true) true Try.f7.params.toList args.toList ds p := hA0
  rw [Try.params7] at hA hval
  obtain ⟨v0, vs0, d0, ds0, p0, q0, hargs, rfl, rfl, h0, r0⟩ := trodAll_cons hA
  obtain ⟨v1, vs1, d1, ds1, p1, q1, rfl, rfl, rfl, h1, r1⟩ := trodAll_cons r0
  obtain ⟨rfl, rfl, rfl⟩ := trodAll_nil r1
  obtain rfl : args = #[v0, v1] := by cases args; simp_all
  obtain ⟨rfl, rfl⟩ := trodVars_none hV
  obtain ⟨E0, rfl, rfl, rfl, l0⟩ := open_entry (hval 0 26 v0 rfl rfl) h0
  obtain ⟨a1, rfl, rfl, rfl, w1⟩ := open_int Try.underlying22 (hval 1 22 v1 rfl rfl) h1
  clear hA0 hval0
  simp only [List.append_nil] at hW'
  refine (walk E0 l0 a1 w1 W).mono fun e W' ⟨he, hg⟩ => ?_
  subst he
  exact ⟨_, rfl, _, _, _, [], [], [], hW', trodAll_mk1 (shut_bool Try.underlying4 _), (trodAll_cons_mk (shut_entry l0) (trodAll_cons_mk (shut_int Try.underlying22 w1) trodAll_mk0)), rfl, hg.frame _, fun h => by cases h⟩

theorem over : Rows.tteTargetsRow.holds Try.pinned (OpenSpec.ofChange Rows.tteTargetsSpec) :=
  OpenClaim.holds_of_wide 7 Try.f7 rfl rfl rfl rfl rfl rfl rfl ⟨rfl, rfl, rfl, rfl, rfl⟩ rfl rfl rfl rfl rfl (by kernel_rfl) Try.func7 (by kernel_rfl)
    (of_decide_eq_true (by kernel_rfl)) (by unfold Func.isWrapper; first | (rw [if_pos (by decide +kernel)]; kernel_rfl) | (rw [if_neg (by decide +kernel)]; exact ⟨rfl, rfl⟩))
    (fun os started H enc _ => lifted os started H enc)

theorem proved : Rows.TteTargetsSaid :=
  over
#print axioms proved
end Go.Proofs.Ytambpmbgepgkdaa.tteTargets
