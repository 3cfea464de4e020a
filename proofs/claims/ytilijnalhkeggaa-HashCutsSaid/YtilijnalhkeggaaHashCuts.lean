/-
  HashCuts: for all keys (made such as may be), any of them and any number of chains the law returns true, and its arguments read as before. Conditions: none.
-/
import Derived.Test.YtilijnalhkeggaaRows
import Derived.WalkKit
import Derived.ProofKit
import Derived.OpenShut
import Derived.Test.YtilijnalhkeggaaHList
import Derived.Deep.CutBlock
import Derived.Deep.DeepCutAuto
import Derived.Deep.RegionHeld3
import Derived.Test.YtilijnalhkeggaaHOpen
namespace Go.Proofs.Ytilijnalhkeggaa.hashCuts
open Fld Hs
open Go.ChangeShapes Go.WideShapes Go.ChangeAt Go.RowKit Go.Deep Go.Maps
set_option linter.unusedVariables false

theorem own : ownKnob Try.prog.godebug = none := by kernel_rfl

/-! ### The walk -/
set_option maxHeartbeats 4000000 in
set_option maxRecDepth 100000 in
theorem walk (w : World) (s0 : Option Addr) (len0 cap0 : Nat) (w0 : IsKeys w s0 len0 cap0) (a1 : Int) (w1 : (Lit.int .i64 a1).wf = true) (a2 : Int) (w2 : (Lit.int .i64 a2).wf = true) :
    Calls Try.prog 7 #[.slice s0 len0 cap0, .int .i64 a1, .int .i64 a2] w fun e w' => e = .returned (.bool true) ∧ Below w.heap.size w w' := by
  obtain ⟨n0, n1⟩ := bounds_i64 w1
  obtain ⟨m0, m1⟩ := bounds_i64 w2
  obtain ⟨ik, hik, hz0, hz1, hz2⟩ := info_parts infoKK
  have wk := w0
  have CG := Lib.hid (fun k (h : Ky.wf k) w => good_any k h w)
  have CK := Lib.hid (fun k w => key_any k w)
  have CL := Lib.hid (fun w => hlives_any w)
  clear w1 w2
  go_enter Try.func7, Try.ntmps7
  go_upto_if 17 with (fail)
  go_cut [1] from 16 to 20 (fun a wx => ∃ x : Int, a = .int .i64 x ∧ 0 ≤ x ∧ x ≤ 9223372036854775807 ∧ w = wx)
  case first =>
    go_wp2_with fail
    all_goals
      go_meet
      exact ⟨_, rfl, by omega, by omega, rfl⟩
  case rest =>
    obtain ⟨x, rfl, x0, x1, rfl⟩ := hcut
    clear n0 n1
    go_upto_if 22 with (fail)
    go_cut [2] from 21 to 25 (fun a wx => ∃ y : Int, a = .int .i64 y ∧ 0 ≤ y ∧ y ≤ 9223372036854775807 ∧ w = wx)
    case first =>
      go_wp2_with fail
      all_goals
        go_meet
        exact ⟨_, rfl, by omega, by omega, rfl⟩
    case rest =>
      obtain ⟨y, rfl, y0, y1, rfl⟩ := hcut
      clear m0 m1
      obtain ⟨N, hN⟩ : ∃ N : Nat, 1 + y % 20 = (N : Int) := ⟨(1 + y % 20).toNat, by omega⟩
      have hN1 : 1 ≤ N := by omega
      have hN2 : N ≤ 20 := by omega
      have CN := Lib.hid (fun w => new_ct N hN1 (by omega) w)
      go_wp2_with fail
      refine (CN.out _).mono ?_; rintro e w1 ⟨rfl, C1⟩
      have K1 := KL.start C1
      clear C1 CN hN
      generalize w.heap.size + 1 = sb at *
      go_upto_block 0 with fail
      go_cut [8] (fun v wx => ∃ (L : Nat → List Bk) (own : List Ky), own.length ≤ 12 ∧ Puts N L own ∧ KL w wx sb N 20 L v own)
      case first =>
        go_wp2_with fail
        go_loopw [8, 9] (fun v i wr => ∃ (j : Nat) (L : Nat → List Bk) (own : List Ky), i = .int .i64 (j : Int) ∧ j ≤ len0 ∧ j ≤ 12 ∧ own.length ≤ j ∧ Puts N L own ∧ KL w wr sb N 20 L v own) (fun _ i _ => 12 - (RowKit.intOf i).toNat)
        case atStart => exact ⟨0, _, [], rfl, Nat.zero_le _, Nat.zero_le _, Nat.zero_le _, Puts.nil N, K1⟩
        case round =>
          clear K1
          obtain ⟨j, L, own, rfl, hj, hj2, hlen, hP, KK⟩ := hrel
          obtain ⟨ao, cap, rfl⟩ := own_shape3 KK.own
          by_cases hj1 : j < len0
          · by_cases hj12 : j < 12
            · obtain ⟨ib, o, off, k, rfl, ho, hlc, hcm, he, c0, c1, c2⟩ := keys_at wk j hj1
              subst ho
              unfold maxLen at hcm
              have hbel := KK.ct.low
              replace c0 := cell_low c0 hbel; replace c1 := cell_low c1 hbel; replace c2 := cell_low c2 hbel
              have hkw := Ky.lits_wf he
              have hok := goodK_ok hkw
              have CGk := Lib.hid (fun w => CG.out k hkw w)
              generalize goodK k = g at *
              have h1' : (j : Int) < (len0 : Int) := by omega
              have h2' : (j : Int) < 12 := by omega
              clear hkw hbel
              go_wp2_with fail
              refine (CGk.out _).mono ?_; rintro e w2 ⟨rfl, hb2⟩
              have K2 := (KK.low hb2).box g
              clear KK c0 c1 c2 CGk
              go_wp2_with fail
              refine (CK.out _ _).mono ?_; rintro e w3 ⟨rfl, hb3⟩
              have K3 := K2.low hb3
              clear K2 hb2 hb3
              generalize w2.heap.size = gb at *
              have CP := Lib.hid (K3.put g hok.wf (own.length : Int))
              go_wp2_with fail
              refine CP.out.mono ?_; rintro e w4 ⟨rfl, K4⟩
              clear CP K3
              obtain ⟨d0, d1, d2⟩ := K4.cells
              rcases hP.put hN1 hok (bl := 20) (by omega) with ⟨e1, P1⟩ | ⟨e1, e2, P1⟩
              · rw [e1]
                have HP1 := Lib.hid P1
                have KB5 := K4.alloc (.cells #[.int .i64 g.sp, .int .u64 g.va, .int .i64 g.sz] 33)
                have hnew := heap_alloc_new w4 (.cells #[.int .i64 g.sp, .int .u64 g.va, .int .i64 g.sz] 33)
                have HK5 := Lib.hid KB5
                have hl12 : own.length ≤ 12 := by omega
                have hone := Lib.hid (kyL_one [g])
                have hown5 := Lib.hid KB5.own
                clear e1 hP P1 K4 KB5
                go_wp2_with (at_builtin; (refine wpList_append_lies _ rfl _ _ 47 rfl w.heap.size 33 ik _ 3 24 Try.underlying47 hik hz0 hz1 hz2 rfl (by decide) _ _ _ rfl (by exact hown5.out) ⟨w4.heap.size, 0, none⟩ 1 1 (kyC g) rfl rfl (by exact World.news_of_block hnew) (fun u hu => hone.out u (by simpa [kyL] using hu)) Nat.one_pos (by unfold maxLen; omega) (by omega) (by have := HK5.out.ct.low.size; simpa using this) _ rfl ?_); intro q cap5 w5 ho5 hg5 hat5 hlt5)
                have K6 := HK5.out.append rfl hg5 ho5 hat5
                clear ho5 hg5 hat5 hlt5 hnew d0 d1 d2
                go_wp2_with fail
                go_roundw
                case rel => exact ⟨j + 1, _, _, by go_num, by omega, by omega, by simp; omega, HP1.out, K6⟩
                case measure => simp [RowKit.intOf]; omega
              · rw [e1]
                have K6 := K4.kl
                rw [e2] at K6
                clear e1 e2 P1 K4 d0 d1 d2
                go_wp2_with fail
                go_roundw
                case rel => exact ⟨j + 1, _, _, by go_num, by omega, by omega, by omega, hP, K6⟩
                case measure => simp [RowKit.intOf]; omega
            · obtain rfl : j = 12 := by omega
              go_wp2_with fail
              go_meet
              exact ⟨L, own, hlen, hP, KK⟩
          · obtain rfl : len0 = j := by omega
            go_wp2_with fail
            go_meet
            exact ⟨L, own, by omega, hP, KK⟩
      case rest =>
        obtain ⟨L, own, hl12, hP, KK⟩ := hcut
        clear K1 hz0 hz1 hz2 hik CG wk
        by_cases h0 : own.length = 0
        · obtain ⟨ao, cap, rfl⟩ := own_shape3 KK.own
          have hlow := KK.ct.low
          rw [h0]
          clear KK hP h0
          go_wp2_with fail
          refine (CL.out _).mono ?_; rintro e w9 ⟨rfl, hb9⟩
          go_wp2_with fail
          go_ret
          exact ⟨rfl, lo_step hlow hb9⟩
        · obtain ⟨q, hq⟩ : ∃ q : Nat, x % (own.length : Int) = (q : Int) := ⟨(x % (own.length : Int)).toNat, by have := Int.emod_nonneg x (b := (own.length : Int)) (by omega); omega⟩
          have hql : q < own.length := by have := Int.emod_lt_of_pos x (b := (own.length : Int)) (by omega); omega
          obtain ⟨k, hk⟩ : ∃ k, own[q]? = some k := ⟨_, List.getElem?_eq_getElem hql⟩
          have hok := hP.ok k (List.mem_of_getElem? hk)
          obtain ⟨e1, e2, e3, e4⟩ := hP.cut hN1 hk
          obtain ⟨f1, f2, f3, f4⟩ := no_cut e2
          rcases own_form KK.own with ⟨_, hn⟩ | ⟨g, cap, rfl, hgb, hnc, hcm⟩
          · exact absurd hn h0
          obtain ⟨m, hm⟩ : ∃ m, own.length = m := ⟨_, rfl⟩
          have HQ := Lib.hid hq
          have HE := Lib.hid (And.intro e4 hP.ok)
          have HK := Lib.hid hk
          have HM := Lib.hid hm
          have hlI : (lenL (cutT N L k) N : Int) = (m : Int) - 1 := by omega
          obtain ⟨c0, c1, c2⟩ := keys_cells KK.own hgb hk
          have CC1 := Lib.hid (KK.low (Below.refl _ _))
          have CU1 := Lib.hid (fun (W : World) (h : KL w W sb N 20 L (.slice (some ⟨g, 0, none⟩) own.length cap) own) => h.cut k hok.wf)
          have CU2 := Lib.hid (fun (W : World) (h : KL w W sb N 20 (cutT N L k) (.slice (some ⟨g, 0, none⟩) own.length cap) own) => h.cut k hok.wf)
          have CU3 := Lib.hid (fun (W : World) (h : KL w W sb N 20 (cutT N L k) (.slice (some ⟨g, 0, none⟩) own.length cap) own) => h.set k hok.wf 5)
          have HC := Lib.hid (fun (W : World) (l : Nat → List Bk) (h : KL w W sb N 20 l (.slice (some ⟨g, 0, none⟩) own.length cap) own) => keys_cells h.own hgb hk)
          rw [hm, e1] at CU1
          rw [hm, f1, f2] at CU2
          rw [hm, f1, f3] at CU3
          rw [hm] at HC KK hq hql hl12 h0 hnc ⊢
          unfold maxLen at hcm
          have HG : Hid (getB N (cutT N L k) k = false ∧ getV N (cutT N L k) k = 0) := Lib.hid ⟨e2, f4⟩
          clear e1 e2 e3 e4 f1 f2 f3 f4 hP hk hm CC1 hok
          generalize cutT N L k = L1 at *
          have hqm : (q : Int) < (m : Int) := by omega
          have hm0 : ¬ (m : Int) = 0 := by omega
          go_wp2_with fail
          refine (CK.out _ _).mono ?_; rintro e w2 ⟨rfl, hb2⟩
          have K2 := KK.low hb2
          clear KK hb2 c0 c1 c2
          go_wp2_with fail
          refine (CU1.out _ K2).mono ?_; rintro e w3 ⟨rfl, K3⟩
          obtain ⟨c0, c1, c2⟩ := HC.out _ _ K3
          clear K2 CU1
          go_wp2_with fail
          refine (CK.out _ _).mono ?_; rintro e w4 ⟨rfl, hb4⟩
          have K4 := K3.low hb4
          clear K3 hb4 c0 c1 c2
          go_wp2_with fail
          refine (CU2.out _ K4).mono ?_; rintro e w5 ⟨rfl, K5⟩
          obtain ⟨c0, c1, c2⟩ := HC.out _ _ K5
          clear K4 CU2
          go_wp2_with fail
          refine (CK.out _ _).mono ?_; rintro e w6 ⟨rfl, hb6⟩
          have K6 := K5.low hb6
          clear K5 hb6 c0 c1 c2
          go_wp2_with fail
          refine (CU3.out _ K6).mono ?_; rintro e w7 ⟨rfl, K7⟩
          clear K6 CU3 HC
          go_wp2_with fail
          go_loopw [12] (fun i wr => ∃ j : Nat, i = .int .i64 (j : Int) ∧ j ≤ m ∧ KL w wr sb N 20 L1 (.slice (some ⟨g, 0, none⟩) m cap) own) (fun i _ => m - (RowKit.intOf i).toNat)
          case atStart => exact ⟨0, rfl, Nat.zero_le _, K7⟩
          case round =>
            clear K7
            obtain ⟨j, rfl, hj, KK⟩ := hrel
            by_cases hlt : j < m
            · obtain ⟨k2, hk2⟩ : ∃ k2, own[j]? = some k2 := ⟨_, List.getElem?_eq_getElem (by rw [HM.out]; exact hlt)⟩
              have hok2 := HE.out.2 k2 (List.mem_of_getElem? hk2)
              obtain ⟨c0, c1, c2⟩ := keys_cells KK.own hgb hk2
              have hlt' : (j : Int) < (m : Int) := by omega
              by_cases hjq : j = q
              · obtain rfl : k2 = k := by rw [hjq, HK.out] at hk2; exact (Option.some.inj hk2).symm
                subst hjq
                have CGt := Lib.hid (fun (W : World) (h : KL w W sb N 20 L1 (.slice (some ⟨g, 0, none⟩) m cap) own) => h.ct.get k2 hok2.wf)
                rw [HG.out.1, HG.out.2] at CGt
                generalize getN N L1 k2 = gn at *
                clear hk2 hok2 hgb
                go_wp2_with fail
                refine (CK.out _ _).mono ?_; rintro e w8 ⟨rfl, hb8⟩
                have K8 := KK.low hb8
                clear KK hb8 c0 c1 c2
                go_wp2_with fail
                refine (CGt.out _ K8).mono ?_; rintro e w9 ⟨rfl, hb9⟩
                have K9 := K8.low hb9
                clear K8 hb9 CGt
                go_wp2_with fail
                go_roundw
                case rel => exact ⟨j + 1, by go_num, by omega, K9⟩
                case measure => simp [RowKit.intOf]; omega
              · obtain ⟨b1, b2⟩ := HE.out.1 j k2 hk2 hjq
                have CGt := Lib.hid (fun (W : World) (h : KL w W sb N 20 L1 (.slice (some ⟨g, 0, none⟩) m cap) own) => h.ct.get k2 hok2.wf)
                rw [b1, b2] at CGt
                have hne : (!((j : Int) != (q : Int))) = false := by simp; omega
                generalize getN N L1 k2 = gn at *
                clear hk2 hok2 hgb b1 b2
                go_wp2_with fail
                refine (CK.out _ _).mono ?_; rintro e w8 ⟨rfl, hb8⟩
                have K8 := KK.low hb8
                clear KK hb8 c0 c1 c2
                go_wp2_with fail
                refine (CGt.out _ K8).mono ?_; rintro e w9 ⟨rfl, hb9⟩
                have K9 := K8.low hb9
                clear K8 hb9 CGt
                go_wp2_with fail
                go_roundw
                case rel => exact ⟨j + 1, by go_num, by omega, K9⟩
                case measure => simp [RowKit.intOf]; omega
            · obtain rfl : m = j := by omega
              have CLn := Lib.hid KK.ct.len
              have CFr := Lib.hid KK.ct.free
              have hfr : (20 : Int) - (lenL L1 N : Int) = 21 - (m : Int) := by omega
              rw [hfr] at CFr
              rw [hlI] at CLn
              clear hfr hlI
              go_wp2_with fail
              refine CLn.out.mono ?_; rintro e w8 ⟨rfl, rfl⟩
              go_wp2_with fail
              refine CFr.out.mono ?_; rintro e w8b ⟨rfl, mm, rfl⟩
              have hlow := (KK.drewN mm).ct.low
              clear KK CFr CLn
              go_wp2_with fail
              refine (CL.out _).mono ?_; rintro e w9 ⟨rfl, hb9⟩
              go_wp2_with fail
              go_ret
              exact ⟨rfl, lo_step hlow hb9⟩

/-! ### The row -/
set_option maxRecDepth 100000 in
theorem lifted (os : Os) (started : os.Started) (H : Type) (enc : TypeId × Value → H) :
    ReturnsInHanded {} Try.checked os 7 .any (Rows.hashCutsSpec.pre6 enc Try.prog Try.f7 Rows.hashCutsRow.domain false) (Rows.hashCutsSpec.post enc Try.prog Try.f7 false true false false) := by
  refine returnsInHanded_of_change (C := Try.checked) own started (by kernel_rfl) Try.func7
    (ChangeSpec.witness6 (enc := enc) (C := Try.checked) false ⟨#[], #[.slice none 0 0, .int .i64 0, .int .i64 0], []⟩ 8 (by kernel_rfl) (by kernel_rfl) (by kernel_rfl) (by kernel_rfl)) ?_
  intro W base args ds gs before hval0 hW hcnd _
  have hval : ∀ (j : Nat) t v, Try.f7.params[j]? = some t → args[j]? = some v → Value.okWide Try.prog W .any base t v := hval0
  have hW' := hW
  obtain ⟨p, q, hA0, hV, rfl, hfz, hnd⟩ := hW
  have hA : DataW.TrodAll enc Try.prog W 0 (fun _ => true) true Try.f7.params.toList args.toList ds p := hA0
  rw [Try.params7] at hA hval
  obtain ⟨v0, vs0, d0, ds0, p0, q0, hargs, rfl, rfl, h0, r0⟩ := trodAll_cons hA
  obtain ⟨v1, vs1, d1, ds1, p1, q1, rfl, rfl, rfl, h1, r1⟩ := trodAll_cons r0
  obtain ⟨v2, vs2, d2, ds2, p2, q2, rfl, rfl, rfl, h2, r2⟩ := trodAll_cons r1
  obtain ⟨rfl, rfl, rfl⟩ := trodAll_nil r2
  obtain rfl : args = #[v0, v1, v2] := by cases args; simp_all
  obtain ⟨rfl, rfl⟩ := trodVars_none hV
  obtain ⟨s0, len0, cap0, rfl⟩ := okWide_slice Try.underlying47 (hval 0 47 v0 rfl rfl)
  have k0 := h0
  have lt0 : ∀ x ∈ p0, x.block < W.heap.size := by obtain ⟨m, hm⟩ := k0; exact DataW.trod_lt m _ _ _ hm
  have w0 : IsKeys W s0 len0 cap0 := by
    obtain ⟨fuel, hf⟩ := h0
    exact open_keys hf
  obtain ⟨a1, rfl, rfl, rfl, w1⟩ := open_int Try.underlying3 (hval 1 3 v1 rfl rfl) h1
  obtain ⟨a2, rfl, rfl, rfl, w2⟩ := open_int Try.underlying3 (hval 2 3 v2 rfl rfl) h2
  clear hA0 hval0
  simp only [List.append_nil] at hW'
  refine (walk W s0 len0 cap0 w0 a1 w1 a2 w2).mono fun e W' ⟨he, hg⟩ => ?_
  subst he
  exact ⟨_, rfl, _, _, _, [], _, [], hW', trodAll_mk1 (shut_bool Try.underlying4 _), (trodAll_cons_mk (Below.trod laidOut (by kernel_rfl) (of_decide_eq_true (by kernel_rfl)) k0 hg lt0) (trodAll_cons_mk (shut_int Try.underlying3 w1) (trodAll_cons_mk (shut_int Try.underlying3 w2) trodAll_mk0))), rfl, hg.frame _, fun h => by cases h⟩

theorem over : Rows.hashCutsRow.holds Try.pinned (OpenSpec.ofChange Rows.hashCutsSpec) :=
  OpenClaim.holds_of_wide 7 Try.f7 rfl rfl rfl rfl rfl rfl rfl ⟨rfl, rfl, rfl, rfl, rfl⟩ rfl rfl rfl rfl rfl (by kernel_rfl) Try.func7 (by kernel_rfl)
    (of_decide_eq_true (by kernel_rfl)) (by unfold Func.isWrapper; first | (rw [if_pos (by decide +kernel)]; kernel_rfl) | (rw [if_neg (by decide +kernel)]; exact ⟨rfl, rfl⟩))
    (fun os started H enc _ => lifted os started H enc)

theorem proved : Rows.HashCutsSaid :=
  over
#print axioms proved
end Go.Proofs.Ytilijnalhkeggaa.hashCuts
