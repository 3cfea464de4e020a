/-
  TteBits: for every entry (made such as may be) the law returns true, and its argument reads as before. Conditions: none.
-/
import Derived.Test.YtambpmbgepgkdaaRows
import Derived.WalkKit
import Derived.ProofKit
import Derived.OpenShut
import Derived.Test.YtambpmbgepgkdaaTLaw
import Derived.Deep.DeepCutAuto
import Derived.Test.YtambpmbgepgkdaaTOpen
namespace Go.Proofs.Ytambpmbgepgkdaa.tteBits
open Fld
open Go.ChangeShapes Go.WideShapes Go.ChangeAt Go.RowKit
set_option linter.unusedVariables false

theorem own : ownKnob Try.prog.godebug = none := by kernel_rfl

theorem ret0 {k : IntKind} {a b : Int} (h : a = b) : Value.int k a = .int k b := by rw [h]
theorem b2i_two (b : Bool) : b2i b = 0 ∨ b2i b = 1 := by cases b; exact .inl rfl; exact .inr rfl
/-! ### The walk -/
set_option maxHeartbeats 1000000 in
set_option maxRecDepth 100000 in
theorem walk (E0 : Ent) (l0 : E0.lits) (w : World) :
    Calls Try.prog 9 #[.agg #[.int .i64 E0.size, .int .i64 E0.ctx, .int .u64 E0.va, .int .u64 E0.pa, .bool E0.att.write, .bool E0.att.priv, .bool E0.att.exec, .bool E0.att.lock, .bool E0.att.global, .bool E0.att.quiet, .bool E0.valid]] w fun e w' => e = .returned (.bool true) ∧ Below w.heap.size w w' := by
  obtain ⟨g, hok, HG⟩ := good_some E0 l0
  have hs0 := hok.fit.s0
  have hs1 := hok.fit.s1
  have p0 := hok.fit.p0
  have p1 := hok.fit.p1
  have p2 := hok.p1
  have g1 := b2i_bd g.att.quiet; have g2 := b2i_bd g.att.lock; have g3 := b2i_bd g.att.exec; have g4 := b2i_bd g.att.priv; have g5 := b2i_bd g.att.write; have g6 := b2i_bd g.att.global
  have HD := Lib.hid (full_data hok)
  have HQ := Lib.hid (fun W => (bare_data hok ▸ tdata_any g.bare p0 p2 W : Calls Try.prog 16 #[.agg #[.int .i64 g.size, .int .i64 g.ctx, .int .u64 g.va, .int .u64 g.pa, .bool false, .bool false, .bool false, .bool false, .bool false, .bool false, .bool g.valid]] W fun r w' => r = .returned (.int .u64 (9223372036854775808 + g.size * 2305843009213693952 + g.pa)) ∧ Below W.heap.size W w'))
  clear hok l0
  go_enter Try.func9, Try.ntmps9
  go_wp2_with fail
  refine (HG.out _).mono ?_; rintro r u1 ⟨rfl, hb1⟩
  have HB1 := Lib.hid (below_box hb1)
  have hz1 : w.heap.size < u1.heap.size := by have := hb1.size; simp at this; omega
  clear hb1 HG
  go_wp2_with fail
  refine (tdata_any g p0 p2 _).mono ?_; rintro r u2 ⟨rfl, hb2⟩
  have hE2 : ∀ o, u2.cell? ⟨u1.heap.size, o, none⟩ = _ := fun o => (bcell hb2).1 u1.heap.size o (by simp; omega)
  have hF2 : ∀ o, u2.cell? ⟨u1.heap.size + 1, o, none⟩ = _ := fun o => (bcell hb2).1 (u1.heap.size + 1) o (by simp)
  have hz2 : u1.heap.size + 1 < u2.heap.size := by have := hb2.size; simp at this; omega
  have HB2 := Lib.hid (show Below w.heap.size w u2 by
    refine Below.trans ?_ (hb2.mono (by simp; omega))
    repeat (refine below_setN ?_ (by omega))
    exact (HB1.out.alloc (by omega) _).alloc (by simp; omega) _)
  clear hb2
  go_wp2_with fail
  refine (HQ.out _).mono ?_; rintro r u3 ⟨rfl, hb3⟩
  have hE3 : ∀ o, u3.cell? ⟨u1.heap.size, o, none⟩ = _ := fun o => (bcell hb3).1 u1.heap.size o (by omega)
  have hz3 : u1.heap.size + 1 < u3.heap.size := by have := hb3.size; omega
  have HB3 := Lib.hid (show Below w.heap.size w u3 from HB2.out.trans (hb3.mono (by omega)))
  clear hb3
  obtain ⟨N, hN⟩ : ∃ N, 9223372036854775808 + g.size * 2305843009213693952 + g.pa = N := ⟨_, rfl⟩
  rw [hN] at HD
  rw [hN]
  have n0 : 0 ≤ N := by omega
  have n1 : N ≤ 17000000000000000000 := by omega
  have HN := Lib.hid hN
  clear hN
  have k0 := (hE3 0).trans ((hE2 0).trans (show _ = some (.int .i64 g.size) by simp))
  have k3 := (hE3 3).trans ((hE2 3).trans (show _ = some (.int .u64 g.pa) by simp))
  have k4 := (hE3 4).trans ((hE2 4).trans (show _ = some (.bool g.att.write) by simp))
  have k5 := (hE3 5).trans ((hE2 5).trans (show _ = some (.bool g.att.priv) by simp))
  have k6 := (hE3 6).trans ((hE2 6).trans (show _ = some (.bool g.att.exec) by simp))
  have k7 := (hE3 7).trans ((hE2 7).trans (show _ = some (.bool g.att.lock) by simp))
  have k8 := (hE3 8).trans ((hE2 8).trans (show _ = some (.bool g.att.global) by simp))
  have k9 := (hE3 9).trans ((hE2 9).trans (show _ = some (.bool g.att.quiet) by simp))
  clear hE2 hF2 hE3 HB1 HB2 HQ
  go_upto_if 20 with (fail)
  go_cut [7] (fun t wx => t = .int .i64 (b2i g.att.write * 2) ∧ u3 = wx)
  case first =>
    have HV := Lib.hid (b2i_two g.att.write)
    cases hb : g.att.write
    · rw [hb] at k4 HV
      have HC := Lib.hid hb
      clear hb
      go_wp2_with fail
      go_meet
      exact ⟨by rw [HC.out]; exact ret0 (by rw [show b2i false = 0 from rfl]; omega), rfl⟩
    · rw [hb] at k4 HV
      have HC := Lib.hid hb
      clear hb
      go_wp2_with fail
      go_meet
      exact ⟨by rw [HC.out]; exact ret0 (by rw [show b2i true = 1 from rfl]; try omega), rfl⟩
  case rest =>
    obtain ⟨rfl, rfl⟩ := hcut
    go_upto_if 25 with (fail)
    go_cut [7] (fun t wx => t = .int .i64 (b2i g.att.write * 2 + b2i g.att.priv * 4) ∧ u3 = wx)
    case first =>
      have HV := Lib.hid (b2i_two g.att.priv)
      cases hb : g.att.priv
      · rw [hb] at k5 HV
        have HC := Lib.hid hb
        clear hb
        go_wp2_with fail
        go_meet
        exact ⟨by rw [HC.out]; exact ret0 (by rw [show b2i false = 0 from rfl]; omega), rfl⟩
      · rw [hb] at k5 HV
        have HC := Lib.hid hb
        clear hb
        go_wp2_with fail
        go_meet
        exact ⟨by rw [HC.out]; exact ret0 (by rw [show b2i true = 1 from rfl]; try omega), rfl⟩
    case rest =>
      obtain ⟨rfl, rfl⟩ := hcut
      go_upto_if 30 with (fail)
      go_cut [7] (fun t wx => t = .int .i64 (b2i g.att.write * 2 + b2i g.att.priv * 4 + b2i g.att.exec * 8) ∧ u3 = wx)
      case first =>
        have HV := Lib.hid (b2i_two g.att.exec)
        cases hb : g.att.exec
        · rw [hb] at k6 HV
          have HC := Lib.hid hb
          clear hb
          go_wp2_with fail
          go_meet
          exact ⟨by rw [HC.out]; exact ret0 (by rw [show b2i false = 0 from rfl]; omega), rfl⟩
        · rw [hb] at k6 HV
          have HC := Lib.hid hb
          clear hb
          go_wp2_with fail
          go_meet
          exact ⟨by rw [HC.out]; exact ret0 (by rw [show b2i true = 1 from rfl]; try omega), rfl⟩
      case rest =>
        obtain ⟨rfl, rfl⟩ := hcut
        go_upto_if 35 with (fail)
        go_cut [7] (fun t wx => t = .int .i64 (b2i g.att.write * 2 + b2i g.att.priv * 4 + b2i g.att.exec * 8 + b2i g.att.lock * 64) ∧ u3 = wx)
        case first =>
          have HV := Lib.hid (b2i_two g.att.lock)
          cases hb : g.att.lock
          · rw [hb] at k7 HV
            have HC := Lib.hid hb
            clear hb
            go_wp2_with fail
            go_meet
            exact ⟨by rw [HC.out]; exact ret0 (by rw [show b2i false = 0 from rfl]; omega), rfl⟩
          · rw [hb] at k7 HV
            have HC := Lib.hid hb
            clear hb
            go_wp2_with fail
            go_meet
            exact ⟨by rw [HC.out]; exact ret0 (by rw [show b2i true = 1 from rfl]; try omega), rfl⟩
        case rest =>
          obtain ⟨rfl, rfl⟩ := hcut
          go_upto_if 40 with (fail)
          go_cut [7] (fun t wx => t = .int .i64 (b2i g.att.write * 2 + b2i g.att.priv * 4 + b2i g.att.exec * 8 + b2i g.att.lock * 64 + b2i g.att.global) ∧ u3 = wx)
          case first =>
            have HV := Lib.hid (b2i_two g.att.global)
            cases hb : g.att.global
            · rw [hb] at k8 HV
              have HC := Lib.hid hb
              clear hb
              go_wp2_with fail
              go_meet
              exact ⟨by rw [HC.out]; exact ret0 (by rw [show b2i false = 0 from rfl]; omega), rfl⟩
            · rw [hb] at k8 HV
              have HC := Lib.hid hb
              clear hb
              go_wp2_with fail
              go_meet
              exact ⟨by rw [HC.out]; exact ret0 (by rw [show b2i true = 1 from rfl]; try omega), rfl⟩
          case rest =>
            obtain ⟨rfl, rfl⟩ := hcut
            obtain ⟨M, hM⟩ : ∃ M, b2i g.att.write * 2 + b2i g.att.priv * 4 + b2i g.att.exec * 8 + b2i g.att.lock * 64 + b2i g.att.global = M := ⟨_, rfl⟩
            rw [hM] at HD
            rw [hM]
            have m0 : 0 ≤ M := by omega
            have m1 : M ≤ 100 := by omega
            clear hM g2 g3 g4 g5 g6
            go_upto_if 45 with (fail)
            go_cut [8] (fun t wx => t = .int .u64 (b2i g.att.quiet * 1152921504606846976) ∧ u3 = wx)
            case first =>
              cases hb : g.att.quiet
              · rw [hb] at k9
                have HC := Lib.hid hb
                clear hb
                go_wp2_with fail
                go_meet
                exact ⟨by rw [HC.out]; rfl, rfl⟩
              · rw [hb] at k9
                have HC := Lib.hid hb
                clear hb
                go_wp2_with fail
                go_meet
                exact ⟨by rw [HC.out]; rfl, rfl⟩
            case rest =>
              obtain ⟨rfl, rfl⟩ := hcut
              have hq1 : (g.dataG == N + M + b2i g.att.quiet * 1152921504606846976) = true := beq_iff_eq.2 HD.out
              have hq2 : (N == 9223372036854775808 + g.size * 2305843009213693952 + g.pa) = true := beq_iff_eq.2 HN.out.symm
              clear HD HN
              go_wp2_with fail
              refine (tlives_any _).mono ?_; rintro r u4 ⟨rfl, hb4⟩
              go_wp2
              go_ret
              exact ⟨rfl, HB3.out.trans (hb4.mono (by omega))⟩

/-! ### The row -/
set_option maxRecDepth 100000 in
theorem lifted (os : Os) (started : os.Started) (H : Type) (enc : TypeId × Value → H) :
    ReturnsInHanded {} Try.checked os 9 .any (Rows.tteBitsSpec.pre6 enc Try.prog Try.f9 Rows.tteBitsRow.domain false) (Rows.tteBitsSpec.post enc Try.prog Try.f9 false true false false) := by
  refine returnsInHanded_of_change (C := Try.checked) own started (by kernel_rfl) Try.func9
    (ChangeSpec.witness6 (enc := enc) (C := Try.checked) false ⟨#[], #[.agg #[.int .i64 0, .int .i64 0, .int .u64 0, .int .u64 0, .bool false, .bool false, .bool false, .bool false, .bool false, .bool false, .bool false]], []⟩ 8 (by kernel_rfl) (by kernel_rfl) (by kernel_rfl) (by kernel_rfl)) ?_
  intro W base args ds gs before hval0 hW hcnd _
  have hval : ∀ (j : Nat) t v, Try.f9.params[j]? = some t → args[j]? = some v → Value.okWide Try.prog W .any base t v := hval0
  have hW' := hW
  obtain ⟨p, q, hA0, hV, rfl, hfz, hnd⟩ := hW
  have hA : DataW.TrodAll enc Try.prog W 0 (fun _ => true) true Try.f9.params.toList args.toList ds p := hA0
  rw [Try.params9] at hA hval
  obtain ⟨v0, vs0, d0, ds0, p0, q0, hargs, rfl, rfl, h0, r0⟩ := trodAll_cons hA
  obtain ⟨rfl, rfl, rfl⟩ := trodAll_nil r0
  obtain rfl : args = #[v0] := by cases args; simp_all
  obtain ⟨rfl, rfl⟩ := trodVars_none hV
  obtain ⟨E0, rfl, rfl, rfl, l0⟩ := open_entry (hval 0 26 v0 rfl rfl) h0
  clear hA0 hval0
  simp only [List.append_nil] at hW'
  refine (walk E0 l0 W).mono fun e W' ⟨he, hg⟩ => ?_
  subst he
  exact ⟨_, rfl, _, _, _, [], [], [], hW', trodAll_mk1 (shut_bool Try.underlying4 _), (trodAll_cons_mk (shut_entry l0) trodAll_mk0), rfl, hg.frame _, fun h => by cases h⟩

theorem over : Rows.tteBitsRow.holds Try.pinned (OpenSpec.ofChange Rows.tteBitsSpec) :=
  OpenClaim.holds_of_wide 9 Try.f9 rfl rfl rfl rfl rfl rfl rfl ⟨rfl, rfl, rfl, rfl, rfl⟩ rfl rfl rfl rfl rfl (by kernel_rfl) Try.func9 (by kernel_rfl)
    (of_decide_eq_true (by kernel_rfl)) (by unfold Func.isWrapper; first | (rw [if_pos (by decide +kernel)]; kernel_rfl) | (rw [if_neg (by decide +kernel)]; exact ⟨rfl, rfl⟩))
    (fun os started H enc _ => lifted os started H enc)

theorem proved : Rows.TteBitsSaid :=
  over
#print axioms proved
end Go.Proofs.Ytambpmbgepgkdaa.tteBits
