/-
  TteHits: for every entry, address and context the law returns true, and its arguments read as before. Conditions: none.
-/
import Derived.Test.YtambpmbgepgkdaaRows
import Derived.WalkKit
import Derived.ProofKit
import Derived.OpenShut
import Derived.Test.YtambpmbgepgkdaaTHits
import Derived.Deep.DeepCutAuto
import Derived.Test.YtambpmbgepgkdaaTOpen
namespace Go.Proofs.Ytambpmbgepgkdaa.tteHits
open Fld
open Go.ChangeShapes Go.WideShapes Go.ChangeAt Go.RowKit
set_option linter.unusedVariables false

theorem own : ownKnob Try.prog.godebug = none := by kernel_rfl

/-! ### The walk -/
set_option maxHeartbeats 8000000 in
set_option maxRecDepth 100000 in
theorem walk (E0 : Ent) (l0 : E0.lits) (a1 : Int) (w1 : (Lit.int .u64 a1).wf = true) (a2 : Int) (w2 : (Lit.int .i64 a2).wf = true) (w : World) :
    Calls Try.prog 6 #[.agg #[.int .i64 E0.size, .int .i64 E0.ctx, .int .u64 E0.va, .int .u64 E0.pa, .bool E0.att.write, .bool E0.att.priv, .bool E0.att.exec, .bool E0.att.lock, .bool E0.att.global, .bool E0.att.quiet, .bool E0.valid], .int .u64 a1, .int .i64 a2] w fun e w' => e = .returned (.bool true) ∧ Below w.heap.size w w' := by
  obtain ⟨o0, o1⟩ := bounds_u64 w1
  obtain ⟨g, hok, HG⟩ := good_some E0 l0
  obtain ⟨_, _, ⟨ev0, ev1⟩, _⟩ := Ent.lits_wf l0
  have ho := off_lt hok.size a1
  have hat := at_bd hok ho.1 ho.2
  have hob := off_bd a1 g.size
  have v0 := hok.v0
  have v1 := hok.v1
  have HLV := Lib.hid (fun W => tlives_any W)
  clear hok l0 w1 w2
  go_enter Try.func6, Try.ntmps6
  go_wp2_with fail
  refine (HG.out _).mono ?_; rintro r u1 ⟨rfl, hb1⟩
  have hz1 : w.heap.size < u1.heap.size := by have := hb1.size; simp at this; omega
  have K1 := KeepE.mk (below_box hb1) ((RowE.new w E0).below hb1 (by simp))
  clear hb1 HG
  go_wp2_with fail
  have K2 := K1.alloc (.cells #[.int .i64 g.size, .int .i64 g.ctx, .int .u64 g.va, .int .u64 g.pa, .bool g.att.write, .bool g.att.priv, .bool g.att.exec, .bool g.att.lock, .bool g.att.global, .bool g.att.quiet, .bool g.valid] 26)
  have G2 := KeepE.mk (K1.below.alloc K1.below.size _) (RowE.new u1 g)
  go_quiet ((go_at_call 20; exact quiet_left (roff_any _ _ o0 o1 _)))
  have K3 := K2.drewN nq
  have G3 := G2.drewN nq
  clear K1 K2 G2
  generalize (World.alloc u1 _).drewN nq = u2 at K3 G3 ⊢
  obtain ⟨y0, y1, y2, y3, y4, y5, y6, y7, y8, y9, y10⟩ := K3.row.cells
  obtain ⟨z0, z1, z2, z3, z4, z5, z6, z7, z8, z9, z10⟩ := G3.row.cells
  have hk1 := K3.row.lt
  go_wp2_with fail
  have BE : KeepB w ((u2.alloc (.cells (Ent.list4 E0 E0 g g) 26)).alloc (.cells #[.int .u64 a1, .int .u64 E0.va, .int .u64 a1, .int .u64 (g.va + offI a1 g.size)] 22)) u2.heap.size 26 (Ent.list4 E0 E0 g g) :=
    (KeepB.mk (K3.below.alloc K3.below.size _) (heap_alloc_new _ _)).alloc _
  have BV : KeepB w ((u2.alloc (.cells (Ent.list4 E0 E0 g g) 26)).alloc (.cells #[.int .u64 a1, .int .u64 E0.va, .int .u64 a1, .int .u64 (g.va + offI a1 g.size)] 22)) (u2.heap.size + 1) 22 #[.int .u64 a1, .int .u64 E0.va, .int .u64 a1, .int .u64 (g.va + offI a1 g.size)] :=
    KeepB.mk BE.below (heap_alloc2_new _ _ _)
  change Code.wp _ _ _ _ ((u2.alloc (.cells (Ent.list4 E0 E0 g g) 26)).alloc (.cells #[.int .u64 a1, .int .u64 E0.va, .int .u64 a1, .int .u64 (g.va + offI a1 g.size)] 22))
  generalize World.alloc (World.alloc u2 _) _ = u3 at BE BV ⊢
  obtain ⟨bE, hbE⟩ : ∃ b, b = u2.heap.size := ⟨_, rfl⟩
  obtain ⟨bV, hbV⟩ : ∃ b, b = u2.heap.size + 1 := ⟨_, rfl⟩
  rw [← hbE] at BE ⊢
  rw [← hbV] at BV
  have hbV' : bE + 1 = bV := by omega
  rw [hbV']
  clear hbE hbV hbV' K3 G3 y0 y1 y2 y3 y4 y5 y6 y7 y8 y9 y10 z0 z1 z2 z3 z4 z5 z6 z7 z8 z9 z10 hk1 hz1
  obtain ⟨csE, hcsE⟩ : ∃ c, Ent.list4 E0 E0 g g = c := ⟨_, rfl⟩
  obtain ⟨csV, hcsV⟩ : ∃ c, (#[Value.int .u64 a1, .int .u64 E0.va, .int .u64 a1, .int .u64 (g.va + offI a1 g.size)]) = c := ⟨_, rfl⟩
  have HL := Lib.hid (fun k hk => list4_at E0 E0 g g a1 E0.va a1 (g.va + offI a1 g.size) k hk)
  rw [hcsE, hcsV] at HL
  rw [hcsE] at BE
  rw [hcsV] at BV
  clear hcsE hcsV
  go_loopw [11] (fun i wr => ∃ k : Nat, k ≤ 4 ∧ i = .int .i64 (k : Int) ∧ KeepB w wr bE 26 csE ∧ KeepB w wr bV 22 csV) (fun i _ => 4 - (intOf i).toNat)
  case atStart => exact ⟨0, by omega, rfl, BE, BV⟩
  case round =>
    clear BE BV
    obtain ⟨k, hk, rfl, HE, HV⟩ := hrel
    by_cases hlt : k < 4
    · obtain ⟨E, v, hev, hP, hv⟩ := HL.out k hlt
      have hEb : 0 ≤ E.va ∧ E.va ≤ 18446744073709551615 := by rcases hev with ⟨rfl, _⟩ | ⟨rfl, _⟩ | ⟨rfl, _⟩ | ⟨rfl, _⟩ <;> (constructor <;> assumption)
      have hvb : 0 ≤ v ∧ v ≤ 18446744073709551615 := by rcases hev with ⟨_, rfl⟩ | ⟨_, rfl⟩ | ⟨_, rfl⟩ | ⟨_, rfl⟩ <;> (first | exact hat | (constructor <;> assumption))
      clear hev
      have C1 := Lib.hid (fun W => tframe_any E v hEb.1 hEb.2 hvb.1 hvb.2 W)
      have C2 := Lib.hid (fun W => rframe_any E v hEb.1 hEb.2 hvb.1 hvb.2 W)
      have C3 := Lib.hid (fun W => thits_any E v a2 hEb.1 hEb.2 hvb.1 hvb.2 W)
      have C4 := Lib.hid (fun W => rhits_any E v a2 hEb.1 hEb.2 hvb.1 hvb.2 W)
      have C5 := Lib.hid (fun W => thits_any E v E.ctx hEb.1 hEb.2 hvb.1 hvb.2 W)
      have C6 := Lib.hid (fun W => rhits_any E v E.ctx hEb.1 hEb.2 hvb.1 hvb.2 W)
      generalize E.frameI v = Fr at *
      generalize E.holdsB v = Ho at *
      generalize E.hitsB v a2 = H1 at *
      generalize E.hitsB v E.ctx = H2 at *
      have hlt' : (k : Int) < 4 := by omega
      have hk0 : (0 : Int) ≤ (k : Int) := by omega
      obtain ⟨o, ho11⟩ : ∃ o, k * 11 = o := ⟨_, rfl⟩
      rw [ho11] at hP
      have hAE : (⟨bE, 0, none⟩ : Addr).add o = ⟨bE, o, none⟩ := by unfold Addr.add; split <;> simp_all
      have hAV : (⟨bV, 0, none⟩ : Addr).add k = ⟨bV, k, none⟩ := by unfold Addr.add; split <;> simp_all
      have hcs := keepB_cells hP hv HE HV
      go_wp2_with fail
      go_cut [12, 13] (fun p f wx => p = .int .u64 Fr ∧ f = .bool Ho ∧ KeepB w wx bE 26 csE ∧ KeepB w wx bV 22 csV)
      case first =>
        go_region_held3 (fun w1 => w1.cell? ⟨bE, o, none⟩ = some (.int .i64 E.size) ∧ w1.cell? ⟨bE, o + 1, none⟩ = some (.int .i64 E.ctx) ∧ w1.cell? ⟨bE, o + 2, none⟩ = some (.int .u64 E.va) ∧ w1.cell? ⟨bE, o + 3, none⟩ = some (.int .u64 E.pa) ∧ w1.cell? ⟨bE, o + 4, none⟩ = some (.bool E.att.write) ∧ w1.cell? ⟨bE, o + 5, none⟩ = some (.bool E.att.priv) ∧ w1.cell? ⟨bE, o + 6, none⟩ = some (.bool E.att.exec) ∧ w1.cell? ⟨bE, o + 7, none⟩ = some (.bool E.att.lock) ∧ w1.cell? ⟨bE, o + 8, none⟩ = some (.bool E.att.global) ∧ w1.cell? ⟨bE, o + 9, none⟩ = some (.bool E.att.quiet) ∧ w1.cell? ⟨bE, o + 10, none⟩ = some (.bool E.valid) ∧ w1.cell? ⟨bV, k, none⟩ = some (.int .u64 v)) ((refine keepB_cells (w0 := w) (t := 26) (u := 22) hP hv ?_ ?_ <;> (repeat (first | (with_reducible assumption) | (with_reducible refine KeepB.drew ?_) | (with_reducible refine KeepB.drewN ?_ _) | (with_reducible refine KeepB.alloc ?_ _) | (with_reducible refine KeepB.call ?_ (by assumption))))))
          (first
            | (go_at_call 25; (with_reducible refine (C1.out _).mono ?_); rintro r w' ⟨rfl, hb⟩))
        all_goals
          go_wp2_with fail
          go_meet
          refine ⟨rfl, rfl, ?_, ?_⟩ <;> (repeat (first | (with_reducible assumption) | (with_reducible refine KeepB.drew ?_) | (with_reducible refine KeepB.drewN ?_ _) | (with_reducible refine KeepB.alloc ?_ _) | (with_reducible refine KeepB.call ?_ (by assumption))))
      case rest =>
        obtain ⟨rfl, rfl, HE2, HV2⟩ := hcut
        clear HE HV hcs
        have hcs := keepB_cells hP hv HE2 HV2
        go_wp2_with fail
        go_cut [14, 15] (fun p f wx => p = .int .u64 Fr ∧ f = .bool Ho ∧ KeepB w wx bE 26 csE ∧ KeepB w wx bV 22 csV)
        case first =>
          go_region_held3 (fun w1 => w1.cell? ⟨bE, o, none⟩ = some (.int .i64 E.size) ∧ w1.cell? ⟨bE, o + 1, none⟩ = some (.int .i64 E.ctx) ∧ w1.cell? ⟨bE, o + 2, none⟩ = some (.int .u64 E.va) ∧ w1.cell? ⟨bE, o + 3, none⟩ = some (.int .u64 E.pa) ∧ w1.cell? ⟨bE, o + 4, none⟩ = some (.bool E.att.write) ∧ w1.cell? ⟨bE, o + 5, none⟩ = some (.bool E.att.priv) ∧ w1.cell? ⟨bE, o + 6, none⟩ = some (.bool E.att.exec) ∧ w1.cell? ⟨bE, o + 7, none⟩ = some (.bool E.att.lock) ∧ w1.cell? ⟨bE, o + 8, none⟩ = some (.bool E.att.global) ∧ w1.cell? ⟨bE, o + 9, none⟩ = some (.bool E.att.quiet) ∧ w1.cell? ⟨bE, o + 10, none⟩ = some (.bool E.valid) ∧ w1.cell? ⟨bV, k, none⟩ = some (.int .u64 v)) ((refine keepB_cells (w0 := w) (t := 26) (u := 22) hP hv ?_ ?_ <;> (repeat (first | (with_reducible assumption) | (with_reducible refine KeepB.drew ?_) | (with_reducible refine KeepB.drewN ?_ _) | (with_reducible refine KeepB.alloc ?_ _) | (with_reducible refine KeepB.call ?_ (by assumption))))))
            (first
              | (go_at_call 26; (with_reducible refine (C2.out _).mono ?_); rintro r w' ⟨rfl, hb⟩))
          all_goals
            go_wp2_with fail
            go_meet
            refine ⟨rfl, rfl, ?_, ?_⟩ <;> (repeat (first | (with_reducible assumption) | (with_reducible refine KeepB.drew ?_) | (with_reducible refine KeepB.drewN ?_ _) | (with_reducible refine KeepB.alloc ?_ _) | (with_reducible refine KeepB.call ?_ (by assumption))))
        case rest =>
          obtain ⟨rfl, rfl, HE3, HV3⟩ := hcut
          clear HE2 HV2 hcs
          have hcs := keepB_cells hP hv HE3 HV3
          go_wp2_with fail
          go_cut [125] (fun p wx => p = .bool false ∧ KeepB w wx bE 26 csE ∧ KeepB w wx bV 22 csV)
          case first =>
            go_region_held3 (fun w1 => w1.cell? ⟨bE, o, none⟩ = some (.int .i64 E.size) ∧ w1.cell? ⟨bE, o + 1, none⟩ = some (.int .i64 E.ctx) ∧ w1.cell? ⟨bE, o + 2, none⟩ = some (.int .u64 E.va) ∧ w1.cell? ⟨bE, o + 3, none⟩ = some (.int .u64 E.pa) ∧ w1.cell? ⟨bE, o + 4, none⟩ = some (.bool E.att.write) ∧ w1.cell? ⟨bE, o + 5, none⟩ = some (.bool E.att.priv) ∧ w1.cell? ⟨bE, o + 6, none⟩ = some (.bool E.att.exec) ∧ w1.cell? ⟨bE, o + 7, none⟩ = some (.bool E.att.lock) ∧ w1.cell? ⟨bE, o + 8, none⟩ = some (.bool E.att.global) ∧ w1.cell? ⟨bE, o + 9, none⟩ = some (.bool E.att.quiet) ∧ w1.cell? ⟨bE, o + 10, none⟩ = some (.bool E.valid) ∧ w1.cell? ⟨bV, k, none⟩ = some (.int .u64 v)) ((refine keepB_cells (w0 := w) (t := 26) (u := 22) hP hv ?_ ?_ <;> (repeat (first | (with_reducible assumption) | (with_reducible refine KeepB.drew ?_) | (with_reducible refine KeepB.drewN ?_ _) | (with_reducible refine KeepB.alloc ?_ _) | (with_reducible refine KeepB.call ?_ (by assumption))))))
              (first
                | (go_at_call 27; (with_reducible refine (C3.out _).mono ?_); rintro r w' ⟨rfl, hb⟩)
                | (go_at_call 27; (with_reducible refine (C5.out _).mono ?_); rintro r w' ⟨rfl, hb⟩)
                | (go_at_call 28; (with_reducible refine (C4.out _).mono ?_); rintro r w' ⟨rfl, hb⟩)
                | (go_at_call 28; (with_reducible refine (C6.out _).mono ?_); rintro r w' ⟨rfl, hb⟩))
            all_goals
              go_wp2_with fail
              go_meet
              refine ⟨rfl, ?_, ?_⟩ <;> (repeat (first | (with_reducible assumption) | (with_reducible refine KeepB.drew ?_) | (with_reducible refine KeepB.drewN ?_ _) | (with_reducible refine KeepB.alloc ?_ _) | (with_reducible refine KeepB.call ?_ (by assumption))))
          case rest =>
            obtain ⟨rfl, HE4, HV4⟩ := hcut
            clear HE3 HV3 hcs
            go_wp2_with fail
            go_roundw
            case rel => first | exact ⟨k + 1, by omega, by go_num, HE4, HV4⟩ | ((repeat apply Exists.intro); exact ⟨⟨k + 1, by omega, by go_num, HE4, HV4⟩, rfl⟩)
            case measure => simp [intOf]; omega
    · obtain rfl : k = 4 := by omega
      go_wp2_with fail
      refine (HLV.out _).mono ?_; rintro r u9 ⟨rfl, hb9⟩
      go_wp2_with fail
      go_ret
      exact ⟨rfl, (HE.call hb9).below⟩

/-! ### The row -/
set_option maxRecDepth 100000 in
theorem lifted (os : Os) (started : os.Started) (H : Type) (enc : TypeId × Value → H) :
    ReturnsInHanded {} Try.checked os 6 .any (Rows.tteHitsSpec.pre6 enc Try.prog Try.f6 Rows.tteHitsRow.domain false) (Rows.tteHitsSpec.post enc Try.prog Try.f6 false true false false) := by
  refine returnsInHanded_of_change (C := Try.checked) own started (by kernel_rfl) Try.func6
    (ChangeSpec.witness6 (enc := enc) (C := Try.checked) false ⟨#[], #[.agg #[.int .i64 0, .int .i64 0, .int .u64 0, .int .u64 0, .bool false, .bool false, .bool false, .bool false, .bool false, .bool false, .bool false], .int .u64 0, .int .i64 0], []⟩ 8 (by kernel_rfl) (by kernel_rfl) (by kernel_rfl) (by kernel_rfl)) ?_
  intro W base args ds gs before hval0 hW hcnd _
  have hval : ∀ (j : Nat) t v, Try.f6.params[j]? = some t → args[j]? = some v → Value.okWide Try.prog W .any base t v := hval0
  have hW' := hW
  obtain ⟨p, q, hA0, hV, rfl, hfz, hnd⟩ := hW
  have hA : DataW.TrodAll enc Try.prog W 0 (fun _ => true) true Try.f6.params.toList args.toList ds p := hA0
  rw [Try.params6] at hA hval
  obtain ⟨v0, vs0, d0, ds0, p0, q0, hargs, rfl, rfl, h0, r0⟩ := trodAll_cons hA
  obtain ⟨v1, vs1, d1, ds1, p1, q1, rfl, rfl, rfl, h1, r1⟩ := trodAll_cons r0
  obtain ⟨v2, vs2, d2, ds2, p2, q2, rfl, rfl, rfl, h2, r2⟩ := trodAll_cons r1
  obtain ⟨rfl, rfl, rfl⟩ := trodAll_nil r2
  obtain rfl : args = #[v0, v1, v2] := by cases args; simp_all
  obtain ⟨rfl, rfl⟩ := trodVars_none hV
  obtain ⟨E0, rfl, rfl, rfl, l0⟩ := open_entry (hval 0 26 v0 rfl rfl) h0
  obtain ⟨a1, rfl, rfl, rfl, w1⟩ := open_int Try.underlying22 (hval 1 22 v1 rfl rfl) h1
  obtain ⟨a2, rfl, rfl, rfl, w2⟩ := open_int Try.underlying3 (hval 2 3 v2 rfl rfl) h2
  clear hA0 hval0
  simp only [List.append_nil] at hW'
  refine (walk E0 l0 a1 w1 a2 w2 W).mono fun e W' ⟨he, hg⟩ => ?_
  subst he
  exact ⟨_, rfl, _, _, _, [], [], [], hW', trodAll_mk1 (shut_bool Try.underlying4 _), (trodAll_cons_mk (shut_entry l0) (trodAll_cons_mk (shut_int Try.underlying22 w1) (trodAll_cons_mk (shut_int Try.underlying3 w2) trodAll_mk0))), rfl, hg.frame _, fun h => by cases h⟩

theorem over : Rows.tteHitsRow.holds Try.pinned (OpenSpec.ofChange Rows.tteHitsSpec) :=
  OpenClaim.holds_of_wide 6 Try.f6 rfl rfl rfl rfl rfl rfl rfl ⟨rfl, rfl, rfl, rfl, rfl⟩ rfl rfl rfl rfl rfl (by kernel_rfl) Try.func6 (by kernel_rfl)
    (of_decide_eq_true (by kernel_rfl)) (by unfold Func.isWrapper; first | (rw [if_pos (by decide +kernel)]; kernel_rfl) | (rw [if_neg (by decide +kernel)]; exact ⟨rfl, rfl⟩))
    (fun os started H enc _ => lifted os started H enc)

theorem proved : Rows.TteHitsSaid :=
  over
#print axioms proved
end Go.Proofs.Ytambpmbgepgkdaa.tteHits
