/-
  HashAll: for all keys (made such as may be), any number of chains and any number asked for the law returns true, and its arguments read as before. Conditions: none.
-/
import Derived.Test.YtilijnalhkeggaaRows
import Derived.WalkKit
import Derived.ProofKit
import Derived.OpenShut
import Derived.Test.YtilijnalhkeggaaHDj
import Derived.Deep.CutBlock
import Derived.Deep.DeepCutAuto
import Derived.Test.YtilijnalhkeggaaHOpen
namespace Go.Proofs.Ytilijnalhkeggaa.hashAll
open Fld Hs
open Go.ChangeShapes Go.WideShapes Go.ChangeAt Go.RowKit Go.Deep Go.Maps
set_option linter.unusedVariables false

theorem own : ownKnob Try.prog.godebug = none := by kernel_rfl

/-! ### The walk -/
set_option maxHeartbeats 4000000 in
set_option maxRecDepth 100000 in
theorem walk (w : World) (s0 : Option Addr) (len0 cap0 : Nat) (w0 : IsKeys w s0 len0 cap0) (a1 : Int) (w1 : (Lit.int .i64 a1).wf = true) (a2 : Int) (w2 : (Lit.int .i64 a2).wf = true) :
    Calls Try.prog 6 #[.slice s0 len0 cap0, .int .i64 a1, .int .i64 a2] w fun e w' => e = .returned (.bool true) ∧ Below w.heap.size w w' := by
  obtain ⟨n0, n1⟩ := bounds_i64 w1
  have wk := w0
  have CG := Lib.hid (fun k (h : Ky.wf k) w => good_any k h w)
  have CK := Lib.hid (fun k w => key_any k w)
  have CL := Lib.hid (fun w => hlives_any w)
  clear w1 w2
  have r1 := Int.tmod_lt_of_pos a1 (show (0 : Int) < 20 by decide)
  have r2 := Int.lt_tmod_of_pos a1 (show (0 : Int) < 20 by decide)
  generalize hc : Int.tmod a1 20 = c at r1 r2
  obtain ⟨N, hN⟩ : ∃ N : Nat, N = (max (1 + c) 1).toNat := ⟨_, rfl⟩
  have hN1 : 1 ≤ N := by omega
  have hN2 : N ≤ 20 := by omega
  have CN := Lib.hid (fun w => new_ct2 20 (1 + c) (by decide) (by decide) (by omega) (by omega) w)
  have CD := Lib.hid (fun w => rnew_any 20 (1 + c) (by omega) w)
  rw [← hN, show max (20 : Int) 0 = 20 by decide] at CN CD
  clear hN n0 n1
  go_enter Try.func6, Try.ntmps6
  go_wp2_with fail
  refine (CN.out _).mono ?_; rintro e w1 ⟨rfl, C1⟩
  clear CN hc
  generalize w.heap.size + 1 = sb at *
  go_wp2_with fail
  refine (CD.out _).mono ?_; rintro e w2 ⟨s2, rfl, hd⟩
  have K2 : KD w w2 sb 20 N (fun _ => []) s2 (fun _ => nilS) N (fun _ => []) (fun _ => False) := C1.withDoc hd (fun i k _ e => by cases e)
  obtain ⟨g2, cap2, rfl, _, _, _⟩ := hd.ch.form
  have K3 := K2.turnX (show Below w2.heap.size w2 (w2.alloc (.cells #[.int .i64 20, .slice (some ⟨g2, 0, none⟩) N cap2] 27)) from (Below.refl _ _).alloc (Nat.le_refl _) _) (Y := fun k => k = w2.heap.size) (fun k hk => .inr (by rw [hk]; simp))
  have hx3 := heap_alloc_new w2 (.cells #[.int .i64 20, .slice (some ⟨g2, 0, none⟩) N cap2] 27)
  have ht := Nat.le_trans C1.low.size hd.low.size
  clear C1 hd K2 CD
  go_wp2_with fail
  generalize World.alloc w2 _ = w3 at *
  generalize w2.heap.size = tb at *
  go_loopw [9] (fun i wr => ∃ (wx : World) (j : Nat) (L : Nat → List Bk) (s : Value) (U : Nat → Value), wx = wr ∧ i = .int .i64 (j : Int) ∧ j ≤ len0 ∧ j ≤ 15 ∧ KD w wx sb 20 N L s U N L (fun k => k = tb) ∧ wx.heap[tb]? = some (.cells #[.int .i64 20, s] 27 (0, 0))) (fun i _ => 15 - (RowKit.intOf i).toNat)
  case atStart => exact ⟨_, 0, _, _, _, rfl, rfl, Nat.zero_le _, Nat.zero_le _, K3, hx3⟩
  case round =>
    clear K3 hx3
    obtain ⟨wx, j, L, s, U, rfl, rfl, hj, hj2, K, hx⟩ := hrel
    obtain ⟨g, cap, rfl, _, _, _⟩ := K.doc.form
    by_cases hj1 : j < len0 ∧ j < 15
    · obtain ⟨ib, o, off, k, rfl, ho, hlc, hcm, he, c0, c1, c2⟩ := keys_at wk j hj1.1
      subst ho
      unfold maxLen at hcm
      have hbel := K.ct.low
      replace c0 := cell_low c0 hbel; replace c1 := cell_low c1 hbel; replace c2 := cell_low c2 hbel
      have hkw := Ky.lits_wf he
      have hok := goodK_ok hkw
      have CGk := Lib.hid (fun w => CG.out k hkw w)
      generalize goodK k = gk at *
      have h1' : (j : Int) < (len0 : Int) := by omega
      have h2' : (j : Int) < 15 := by omega
      clear hkw hbel
      go_wp2_with fail
      refine (CGk.out _).mono ?_; rintro e w4 ⟨rfl, hb4⟩
      have K4 := K.low hb4
      have x4 := blk_low hx hb4
      have hl4 : Below w4.heap.size w4 (w4.alloc (.cells #[.int .i64 gk.sp, .int .u64 gk.va, .int .i64 gk.sz] 33)) := (Below.refl _ _).alloc (Nat.le_refl _) _
      have K5 := K4.low hl4
      have x5 := blk_low x4 hl4
      have k5 := heap_alloc_new w4 (.cells #[.int .i64 gk.sp, .int .u64 gk.va, .int .i64 gk.sz] 33)
      have CPd := Lib.hid (tput_any 20 (by decide) gk hok.wf (j : Int) _ K5.doc)
      obtain ⟨t0, t1⟩ := t_cells x5
      obtain ⟨d0, d1, d2⟩ := key_cells k5
      have HX := Lib.hid (And.intro K5 (And.intro x5 k5))
      clear c0 c1 c2 CGk K K4 x4 hx hb4 hl4 K5 x5 k5
      go_wp2_with fail
      refine CPd.out.mono ?_; rintro e w6 ⟨s6, rfl, hd⟩
      obtain ⟨g6, cap6, rfl⟩ := hd.form
      obtain ⟨U6, K6⟩ := HX.out.1.turnDoc hd
      have x6 := blk_low HX.out.2.1 hd.bel
      have k6 := blk_low HX.out.2.2 hd.bel
      have hgt : w4.heap.size ≠ tb := fun e => by
        have h1 := HX.out.2.1
        rw [← e, HX.out.2.2] at h1
        injection h1 with h1; injection h1 with _ h1 _; exact absurd h1 (by decide)
      obtain ⟨K7, x7⟩ := K6.store rfl ht x6 (x := .int .i64 20) (y := .slice (some ⟨g6, 0, none⟩) N cap6)
      have k7 := ((set_two x6 (.int .i64 20) (.slice (some ⟨g6, 0, none⟩) N cap6)).2.2 w4.heap.size hgt).trans k6
      obtain ⟨t0, t1⟩ := t_cells x6
      have z0 : w6.frozen? ⟨tb, 0, none⟩ = false := by simp [World.frozen?, x6]
      have z1 : w6.frozen? ⟨tb, 1, none⟩ = false := by simp [World.frozen?, x6]
      obtain ⟨d0, d1, d2⟩ := key_cells k7
      have H7 := Lib.hid (And.intro K7 x7)
      clear CPd HX hd K6 x6 k6 K7 x7 k7
      go_wp2_with fail
      refine (CK.out _ _).mono ?_; rintro e w8 ⟨rfl, hb8⟩
      have K8 := H7.out.1.low hb8
      have x8 := Lib.hid (blk_low H7.out.2 hb8)
      have CP := Lib.hid (K8.ct.put gk hok.wf (j : Int))
      have H8 := Lib.hid K8
      clear H7 hb8 K8 d0 d1 d2 t0 t1 z0 z1
      go_wp2_with fail
      refine CP.out.mono ?_; rintro e w9 ⟨rfl, C9, k9⟩
      have K9 := H8.out.turn C9 k9
      have x9 := (k9.1 tb (.inl rfl)).trans x8.out
      clear CP H8 x8 C9 k9
      go_wp2_with fail
      go_roundw
      case rel => exact ⟨_, j + 1, _, _, _, rfl, by go_num, by omega, by omega, K9, x9⟩
      case measure => simp [RowKit.intOf]; omega
    · by_cases hj3 : j = len0
      · subst hj3
        have CAl := Lib.hid (tall_any 20 _ K.doc)
        obtain ⟨t0, t1⟩ := t_cells hx
        have HK := Lib.hid K
        clear K hx
        go_wp2_with fail
        refine CAl.out.mono ?_; rintro e w4 ⟨v, rfl, hown, hb4⟩
        have K4 := HK.out.low hb4
        have CLa := Lib.hid (K4.ct.lall (most := a2) (own_base hown))
        have hlow := K4.ct.low
        obtain ⟨ao, capl, rfl⟩ := own_shape3 hown
        clear K4 HK CAl hb4 hown t0 t1
        go_wp2_with fail
        refine CLa.out.mono ?_; rintro e w5 ⟨rfl, hb5⟩
        clear CLa
        go_wp2_with fail
        refine (CL.out _).mono ?_; rintro e w6 ⟨rfl, hb6⟩
        go_wp2_with fail
        go_ret
        exact ⟨rfl, lo_step (lo_step hlow hb5) hb6⟩
      · obtain rfl : j = 15 := by omega
        have hl : (15 : Int) < (len0 : Int) := by omega
        have CAl := Lib.hid (tall_any 20 _ K.doc)
        obtain ⟨t0, t1⟩ := t_cells hx
        have HK := Lib.hid K
        clear K hx
        go_wp2_with fail
        refine CAl.out.mono ?_; rintro e w4 ⟨v, rfl, hown, hb4⟩
        have K4 := HK.out.low hb4
        have CLa := Lib.hid (K4.ct.lall (most := a2) (own_base hown))
        have hlow := K4.ct.low
        obtain ⟨ao, capl, rfl⟩ := own_shape3 hown
        clear K4 HK CAl hb4 hown t0 t1
        go_wp2_with fail
        refine CLa.out.mono ?_; rintro e w5 ⟨rfl, hb5⟩
        clear CLa
        go_wp2_with fail
        refine (CL.out _).mono ?_; rintro e w6 ⟨rfl, hb6⟩
        go_wp2_with fail
        go_ret
        exact ⟨rfl, lo_step (lo_step hlow hb5) hb6⟩

/-! ### The row -/
set_option maxRecDepth 100000 in
theorem lifted (os : Os) (started : os.Started) (H : Type) (enc : TypeId × Value → H) :
    ReturnsInHanded {} Try.checked os 6 .any (Rows.hashAllSpec.pre6 enc Try.prog Try.f6 Rows.hashAllRow.domain false) (Rows.hashAllSpec.post enc Try.prog Try.f6 false true false false) := by
  refine returnsInHanded_of_change (C := Try.checked) own started (by kernel_rfl) Try.func6
    (ChangeSpec.witness6 (enc := enc) (C := Try.checked) false ⟨#[], #[.slice none 0 0, .int .i64 0, .int .i64 0], []⟩ 8 (by kernel_rfl) (by kernel_rfl) (by kernel_rfl) (by kernel_rfl)) ?_
  intro W base args ds gs before hval0 hW hcnd _
  have hval : ∀ (j : Nat) t v, Try.f6.params[j]? = some t → args[j]? = some v → Value.okWide Try.prog W .any base t v := hval0
  have hW' := hW
  obtain ⟨p, q, hA0, hV, rfl, hfz, hnd⟩ := hW
  have hA : DataW.TrodAll enc Try.prog W 0 (fun _ => true) true Try.f6.params.toList args.toList ds p := hA0
  rw [Try.params6] at hA hval
  obtain ⟨v0, vs0, d0, ds0, p0, q0, hargs, rfl, rfl, h0, r0⟩ := trodAll_cons hA
  obtain ⟨v1, vs1, d1, ds1, p1, q1, rfl, rfl, rfl, h1, r1⟩ := trodAll_cons r0
  obtain ⟨v2, vs2, d2, ds2, p2, q2, rfl, rfl, rfl, h2, r2⟩ := trodAll_cons r1
  obtain ⟨rfl, rfl, rfl⟩ := trodAll_nil r2
  obtain rfl : args = #[v0, v1, v2] := by cases args; simp_all
  obtain ⟨rfl, rfl⟩ := trodVars_none hV
  obtain ⟨s0, len0, cap0, rfl⟩ := okWide_slice Try.underlying47 (hval 0 47 v0 rfl rfl)
  have k0 := h0
  have lt0 : ∀ x ∈ p0, x.block < W.heap.size := by obtain ⟨m, hm⟩ := k0; exact DataW.trod_lt m _ _ _ hm
  have w0 : IsKeys W s0 len0 cap0 := by
    obtain ⟨fuel, hf⟩ := h0
    exact open_keys hf
  obtain ⟨a1, rfl, rfl, rfl, w1⟩ := open_int Try.underlying3 (hval 1 3 v1 rfl rfl) h1
  obtain ⟨a2, rfl, rfl, rfl, w2⟩ := open_int Try.underlying3 (hval 2 3 v2 rfl rfl) h2
  clear hA0 hval0
  simp only [List.append_nil] at hW'
  refine (walk W s0 len0 cap0 w0 a1 w1 a2 w2).mono fun e W' ⟨he, hg⟩ => ?_
  subst he
  exact ⟨_, rfl, _, _, _, [], _, [], hW', trodAll_mk1 (shut_bool Try.underlying4 _), (trodAll_cons_mk (Below.trod laidOut (by kernel_rfl) (of_decide_eq_true (by kernel_rfl)) k0 hg lt0) (trodAll_cons_mk (shut_int Try.underlying3 w1) (trodAll_cons_mk (shut_int Try.underlying3 w2) trodAll_mk0))), rfl, hg.frame _, fun h => by cases h⟩

theorem over : Rows.hashAllRow.holds Try.pinned (OpenSpec.ofChange Rows.hashAllSpec) :=
  OpenClaim.holds_of_wide 6 Try.f6 rfl rfl rfl rfl rfl rfl rfl ⟨rfl, rfl, rfl, rfl, rfl⟩ rfl rfl rfl rfl rfl (by kernel_rfl) Try.func6 (by kernel_rfl)
    (of_decide_eq_true (by kernel_rfl)) (by unfold Func.isWrapper; first | (rw [if_pos (by decide +kernel)]; kernel_rfl) | (rw [if_neg (by decide +kernel)]; exact ⟨rfl, rfl⟩))
    (fun os started H enc _ => lifted os started H enc)

theorem proved : Rows.HashAllSaid :=
  over
#print axioms proved
end Go.Proofs.Ytilijnalhkeggaa.hashAll
