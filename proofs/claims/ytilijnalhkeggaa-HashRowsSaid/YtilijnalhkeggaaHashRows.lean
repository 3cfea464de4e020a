/-
  HashRows: for all keys (made such as may be) and any number of chains the law returns true, and its arguments read as before. Conditions: none.
-/
import Derived.Test.YtilijnalhkeggaaRows
import Derived.WalkKit
import Derived.ProofKit
import Derived.OpenShut
import Derived.Test.YtilijnalhkeggaaHList
import Derived.Deep.CutBlock
import Derived.Deep.DeepCutAuto
import Derived.Deep.RegionHeld3
import Derived.Test.YtilijnalhkeggaaHOpen
namespace Go.Proofs.Ytilijnalhkeggaa.hashRows
open Fld Hs
open Go.ChangeShapes Go.WideShapes Go.ChangeAt Go.RowKit Go.Deep Go.Maps
set_option linter.unusedVariables false

theorem own : ownKnob Try.prog.godebug = none := by kernel_rfl

/-! ### The walk -/
set_option maxHeartbeats 4000000 in
set_option maxRecDepth 100000 in
theorem walk (w : World) (s0 : Option Addr) (len0 cap0 : Nat) (w0 : IsKeys w s0 len0 cap0) (a1 : Int) (w1 : (Lit.int .i64 a1).wf = true) :
    Calls Try.prog 8 #[.slice s0 len0 cap0, .int .i64 a1] w fun e w' => e = .returned (.bool true) ∧ Below w.heap.size w w' := by
  obtain ⟨n0, n1⟩ := bounds_i64 w1
  have wk := w0
  have CG := Lib.hid (fun k (h : Ky.wf k) w => good_any k h w)
  have CK := Lib.hid (fun k w => key_any k w)
  have CL := Lib.hid (fun w => hlives_any w)
  clear w1
  go_enter Try.func8, Try.ntmps8
  go_upto_if 14 with (fail)
  go_cut [1] from 13 to 17 (fun a wx => ∃ x : Int, a = .int .i64 x ∧ 0 ≤ x ∧ x ≤ 9223372036854775807 ∧ w = wx)
  case first =>
    go_wp2_with fail
    all_goals
      go_meet
      exact ⟨_, rfl, by omega, by omega, rfl⟩
  case rest =>
    obtain ⟨x, rfl, x0, x1, rfl⟩ := hcut
    clear n0 n1
    obtain ⟨N, hN⟩ : ∃ N : Nat, 1 + x % 10 = (N : Int) := ⟨(1 + x % 10).toNat, by omega⟩
    have hN1 : 1 ≤ N := by omega
    have hN2 : N ≤ 10 := by omega
    have CN := Lib.hid (fun w => new_ct N hN1 (by omega) w)
    go_wp2_with fail
    refine (CN.out _).mono ?_; rintro e w1 ⟨rfl, C1⟩
    clear CN hN
    generalize w.heap.size + 1 = sb at *
    go_wp2_with fail
    go_loopw [7] (fun i wr => ∃ (j : Nat) (L : Nat → List Bk), i = .int .i64 (j : Int) ∧ j ≤ len0 ∧ j ≤ 12 ∧ lenL L N ≤ j ∧ CT w wr sb N 20 L (fun _ => False)) (fun i _ => 12 - (RowKit.intOf i).toNat)
    case atStart => exact ⟨0, _, rfl, Nat.zero_le _, Nat.zero_le _, by rw [tlen_nil]; exact Nat.zero_le _, C1⟩
    case round =>
      clear C1
      obtain ⟨j, L, rfl, hj, hj2, hlen, C⟩ := hrel
      by_cases hj1 : j < len0
      · by_cases hj12 : j < 12
        · obtain ⟨ib, o, off, k, rfl, ho, hlc, hcm, he, c0, c1, c2⟩ := keys_at wk j hj1
          subst ho
          unfold maxLen at hcm
          have hbel := C.low
          replace c0 := cell_low c0 hbel; replace c1 := cell_low c1 hbel; replace c2 := cell_low c2 hbel
          have hkw := Ky.lits_wf he
          have hok := goodK_ok hkw
          have CGk := Lib.hid (fun w => CG.out k hkw w)
          generalize goodK k = g at *
          have CC := Lib.hid (fun w => chain_any g hok.wf N hN1 (by omega) w)
          rw [chI_ok hok, chain_cast _ hN1] at CC
          obtain ⟨c, hc⟩ : ∃ c, c = chainN g N := ⟨_, rfl⟩
          have hcN : c < N := by rw [hc]; exact chain_lt g hN1
          rw [← hc] at CC
          have HC := Lib.hid hc
          have h1' : (j : Int) < (len0 : Int) := by omega
          have h2' : (j : Int) < 12 := by omega
          clear hkw hbel hc
          go_wp2_with fail
          refine (CGk.out _).mono ?_; rintro e w2 ⟨rfl, hb2⟩
          clear c0 c1 c2 CGk
          go_wp2_with fail
          refine (CK.out _ _).mono ?_; rintro e w3 ⟨rfl, hb3⟩
          have b3 : Below wr.heap.size wr w3 := lo_step hb2 hb3
          clear hb2 hb3
          go_wp2_with fail
          refine (CC.out _).mono ?_; rintro e w4 ⟨rfl, hb4⟩
          have hx4 := blk_low (heap_alloc_new w3 (.cells #[.int .i64 g.sp, .int .u64 g.va, .int .i64 g.sz] 41)) hb4
          have s3 := b3.size
          have s4 := hb4.size
          rw [World.size_alloc] at s4
          have b4 : Below wr.heap.size wr w4 := lo_step (lo_alloc b3 _) hb4
          have C4 := C.below b4
          have CR := Lib.hid (C4.rowd hcN (by omega))
          clear CC hb4
          go_wp2_with fail
          refine CR.out.mono ?_; rintro e w5 ⟨v, rfl, hv5, hb5⟩
          have s5 := hb5.size
          have R5 : RB w w5 sb N 20 L w4.heap.size v (keysL (L c)) w3.heap.size g := RB.start C (lo_step b4 hb5) (fun q hq => by have := hv5.lt q hq; omega) ⟨by omega, by omega⟩ hv5 (blk_low hx4 hb5)
          clear C C4 CR b4 hb5 hv5 hx4 b3
          generalize w3.heap.size = gb at *
          generalize w4.heap.size = B at *
          obtain ⟨d0, d1, d2⟩ := key_cells R5.box
          have CP := Lib.hid (R5.put g hok.wf (j : Int))
          have hlw : (L c).length ≤ 12 := by have := len_one L hcN; omega
          have hkl : (keysL (L c)).length = (L c).length := by simp [keysL]
          go_wp2_with fail
          refine CP.out.mono ?_; rintro e w6 ⟨rfl, R6⟩
          clear CP d0 d1 d2 R5
          by_cases hE : putE 20 N L g = 0
          · have hl6 : lenL (putT 20 N L g (j : Int)) N ≤ j + 1 := by rw [(put_len hN1 hE).1]; omega
            have hT : putT 20 N L g (j : Int) c = ⟨g, (j : Int)⟩ :: L c := by unfold putT; rw [if_pos hE, HC.out, setL_same]
            have CR := Lib.hid (R6.ct.rowc hcN (by omega))
            rw [hT] at CR
            have hkc : keysL (⟨g, (j : Int)⟩ :: L c) = g :: keysL (L c) := rfl
            rw [hkc] at CR
            rw [hE]
            have HL6 := Lib.hid hl6
            have hws : (keysL (L c)).length ≤ 12 := by omega
            clear hkl hlw
            generalize putT 20 N L g (j : Int) = L6 at *
            generalize keysL (L c) = ws at *
            clear hE hT hl6 hkc
            go_wp2_with fail
            refine CR.out.mono ?_; rintro e w7 ⟨v7, rfl, hv7, hb7⟩
            have R7 := R6.low hb7
            clear CR R6 hb7
            obtain ⟨ao, cap, rfl⟩ := own_shape3 R7.was
            have hv7c := hv7
            rw [List.length_cons] at hv7
            rcases own_form hv7 with ⟨_, hn⟩ | ⟨g7, cap7, rfl, hg7, hnc7, hcm7⟩
            · cases hn
            unfold maxLen at hcm7
            obtain ⟨e0, e1, e2⟩ := keys_cells hv7c hg7 (i := 0) (k := g) rfl
            obtain ⟨d0, d1, d2⟩ := key_cells R7.box
            have hne := kne_is g g
            rw [keyEq_self] at hne
            have H7 := Lib.hid (And.intro hv7c R7)
            clear hv7 hv7c R7
            go_wp2_with fail
            go_quiet (fail)
            clear hne d0 d1 d2 e0 e1 e2
            go_wp2_with fail
            generalize hW : World.drewN w7 _ = W7 at *
            have R8 := H7.out.2.low (show Below w7.heap.size w7 W7 by rw [← hW]; exact below_drewN (Below.refl _ w7) _)
            have V8 := Lib.hid (own_same H7.out.1 (w' := W7) (fun q hq => by rw [← hW]; rfl))
            clear hW H7
            go_loopw [12] (fun i wx => ∃ k m : Nat, i = .int .i64 (k : Int) ∧ k ≤ ws.length ∧ wx = W7.drewN m) (fun i _ => ws.length - (RowKit.intOf i).toNat)
            case atStart => exact ⟨0, 0, rfl, Nat.zero_le _, rfl⟩
            case round =>
              obtain ⟨q, mm, rfl, hq, rfl⟩ := hrel
              by_cases hqw : q < ws.length
              · obtain ⟨kq, hkq⟩ : ∃ kq, ws[q]? = some kq := ⟨_, List.getElem?_eq_getElem hqw⟩
                obtain ⟨g8, cap8, hv8, hg8, hnc8, hcm8⟩ : ∃ g c', Value.slice ao ws.length cap = .slice (some ⟨g, 0, none⟩) ws.length c' ∧ (Value.slice ao ws.length cap).ownBlock = some g ∧ ws.length ≤ c' ∧ c' ≤ maxLen := by
                  rcases own_form R8.was with ⟨_, h0⟩ | ⟨g, cap2, hv, hgb, hnc, hcm⟩
                  · omega
                  · exact ⟨g, cap2, hv, hgb, hnc, hcm⟩
                obtain ⟨d0, d1, d2⟩ := keys_cells R8.was hg8 hkq
                obtain ⟨e0, e1, e2⟩ := keys_cells V8.out hg7 (i := q + 1) (k := kq) (by simpa using hkq)
                simp only [Value.slice.injEq, true_and] at hv8
                obtain ⟨rfl, rfl⟩ := hv8
                unfold maxLen at hcm8
                have hqw' : (q : Int) < (ws.length : Int) := by omega
                have hne := kne_is kq kq
                rw [keyEq_self] at hne
                clear hkq hg8
                go_wp2_with fail
                go_quiet (fail)
                go_wp2_with fail
                go_roundw
                case rel => exact ⟨q + 1, _, by go_num, by omega, by first | rfl | (rw [World.drewN_drewN])⟩
                case measure => simp [RowKit.intOf]; omega
              · obtain rfl : ws.length = q := by omega
                have C8 := (R8.ct.drewN mm).sub (G := fun _ => False) (fun k hk => hk.elim)
                clear R8 V8
                go_wp2_with fail
                go_roundw
                case rel => exact ⟨j + 1, L6, by go_num, by omega, by omega, by have := HL6.out; omega, C8⟩
                case measure => simp [RowKit.intOf]; omega
          · have hT : putT 20 N L g (j : Int) = L := putT_no hE
            rw [hT] at R6
            have C8 := R6.ct.sub (G := fun _ => False) (fun k hk => hk.elim)
            generalize putE 20 N L g = pe at *
            clear R6 hT hkl hlw
            go_wp2_with fail
            go_roundw
            case rel => exact ⟨j + 1, L, by go_num, by omega, by omega, by omega, C8⟩
            case measure => simp [RowKit.intOf]; omega
        · obtain rfl : j = 12 := by omega
          have hlow := C.low
          clear C
          go_wp2_with fail
          refine (CL.out _).mono ?_; rintro e w9 ⟨rfl, hb9⟩
          go_wp2_with fail
          go_ret
          exact ⟨rfl, lo_step hlow hb9⟩
      · obtain rfl : len0 = j := by omega
        have hlow := C.low
        clear C
        go_wp2_with fail
        refine (CL.out _).mono ?_; rintro e w9 ⟨rfl, hb9⟩
        go_wp2_with fail
        go_ret
        exact ⟨rfl, lo_step hlow hb9⟩

/-! ### The row -/
set_option maxRecDepth 100000 in
theorem lifted (os : Os) (started : os.Started) (H : Type) (enc : TypeId × Value → H) :
    ReturnsInHanded {} Try.checked os 8 .any (Rows.hashRowsSpec.pre6 enc Try.prog Try.f8 Rows.hashRowsRow.domain false) (Rows.hashRowsSpec.post enc Try.prog Try.f8 false true false false) := by
  refine returnsInHanded_of_change (C := Try.checked) own started (by kernel_rfl) Try.func8
    (ChangeSpec.witness6 (enc := enc) (C := Try.checked) false ⟨#[], #[.slice none 0 0, .int .i64 0], []⟩ 8 (by kernel_rfl) (by kernel_rfl) (by kernel_rfl) (by kernel_rfl)) ?_
  intro W base args ds gs before hval0 hW hcnd _
  have hval : ∀ (j : Nat) t v, Try.f8.params[j]? = some t → args[j]? = some v → Value.okWide Try.prog W .any base t v := hval0
  have hW' := hW
  obtain ⟨p, q, hA0, hV, rfl, hfz, hnd⟩ := hW
  have hA : DataW.TrodAll enc Try.prog W 0 (fun _ => true) true Try.f8.params.toList args.toList ds p := hA0
  rw [Try.params8] at hA hval
  obtain ⟨v0, vs0, d0, ds0, p0, q0, hargs, rfl, rfl, h0, r0⟩ := trodAll_cons hA
  obtain ⟨v1, vs1, d1, ds1, p1, q1, rfl, rfl, rfl, h1, r1⟩ := trodAll_cons r0
  obtain ⟨rfl, rfl, rfl⟩ := trodAll_nil r1
  obtain rfl : args = #[v0, v1] := by cases args; simp_all
  obtain ⟨rfl, rfl⟩ := trodVars_none hV
  obtain ⟨s0, len0, cap0, rfl⟩ := okWide_slice Try.underlying47 (hval 0 47 v0 rfl rfl)
  have k0 := h0
  have lt0 : ∀ x ∈ p0, x.block < W.heap.size := by obtain ⟨m, hm⟩ := k0; exact DataW.trod_lt m _ _ _ hm
  have w0 : IsKeys W s0 len0 cap0 := by
    obtain ⟨fuel, hf⟩ := h0
    exact open_keys hf
  obtain ⟨a1, rfl, rfl, rfl, w1⟩ := open_int Try.underlying3 (hval 1 3 v1 rfl rfl) h1
  clear hA0 hval0
  simp only [List.append_nil] at hW'
  refine (walk W s0 len0 cap0 w0 a1 w1).mono fun e W' ⟨he, hg⟩ => ?_
  subst he
  exact ⟨_, rfl, _, _, _, [], _, [], hW', trodAll_mk1 (shut_bool Try.underlying4 _), (trodAll_cons_mk (Below.trod laidOut (by kernel_rfl) (of_decide_eq_true (by kernel_rfl)) k0 hg lt0) (trodAll_cons_mk (shut_int Try.underlying3 w1) trodAll_mk0)), rfl, hg.frame _, fun h => by cases h⟩

theorem over : Rows.hashRowsRow.holds Try.pinned (OpenSpec.ofChange Rows.hashRowsSpec) :=
  OpenClaim.holds_of_wide 8 Try.f8 rfl rfl rfl rfl rfl rfl rfl ⟨rfl, rfl, rfl, rfl, rfl⟩ rfl rfl rfl rfl rfl (by kernel_rfl) Try.func8 (by kernel_rfl)
    (of_decide_eq_true (by kernel_rfl)) (by unfold Func.isWrapper; first | (rw [if_pos (by decide +kernel)]; kernel_rfl) | (rw [if_neg (by decide +kernel)]; exact ⟨rfl, rfl⟩))
    (fun os started H enc _ => lifted os started H enc)

theorem proved : Rows.HashRowsSaid :=
  over
#print axioms proved
end Go.Proofs.Ytilijnalhkeggaa.hashRows
