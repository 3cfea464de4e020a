/-
  HashPlays: for any numbers of blocks and chains and any deeds the law returns true, and its arguments read as before. Conditions: none.
-/
import Derived.Test.YtilijnalhkeggaaRows
import Derived.WalkKit
import Derived.ProofKit
import Derived.OpenShut
import Derived.Test.YtilijnalhkeggaaHDn
import Derived.Deep.CutBlock
import Derived.Deep.DeepCutAuto
import Derived.Deep.RegionHeld3
import Derived.Test.YtilijnalhkeggaaHOpen
namespace Go.Proofs.Ytilijnalhkeggaa.hashPlays
open Fld Hs
open Go.ChangeShapes Go.WideShapes Go.ChangeAt Go.RowKit Go.Deep Go.Maps
set_option linter.unusedVariables false

theorem own : ownKnob Try.prog.godebug = none := by kernel_rfl

/-! ### The walk -/
set_option maxHeartbeats 4000000 in
set_option maxRecDepth 100000 in
theorem walk (w : World) (a0 : Int) (w0 : (Lit.int .i64 a0).wf = true) (a1 : Int) (w1 : (Lit.int .i64 a1).wf = true) (s2 : Option Addr) (len2 cap2 : Nat) (w2 : IsDeeds w s2 len2 cap2) :
    Calls Try.prog 3 #[.int .i64 a0, .int .i64 a1, .slice s2 len2 cap2] w fun e w' => e = .returned (.bool true) ∧ Below w.heap.size w w' := by
  obtain ⟨m0, m1⟩ := bounds_i64 w0
  obtain ⟨n0, n1⟩ := bounds_i64 w1
  have wk := w2
  have CL := Lib.hid (fun w => hlives_any w)
  clear w0 w1
  have r1 := Int.tmod_lt_of_pos a1 (show (0 : Int) < 31 by decide)
  have r2 := Int.lt_tmod_of_pos a1 (show (0 : Int) < 31 by decide)
  generalize hc : Int.tmod a1 31 = c at r1 r2
  obtain ⟨N, hN⟩ : ∃ N : Nat, N = (max c 1).toNat := ⟨_, rfl⟩
  have hN1 : 1 ≤ N := by omega
  have hN2 : N ≤ 30 := by omega
  clear n0 n1
  have q1 := Int.tmod_lt_of_pos a0 (show (0 : Int) < 21 by decide)
  have q2 := Int.lt_tmod_of_pos a0 (show (0 : Int) < 21 by decide)
  have HN := Lib.hid hN
  clear hN
  go_enter Try.func3, Try.ntmps3
  go_upto_if 14 with (fail)
  go_cut [0] from 13 to 16 (fun a wx => ∃ x : Int, a = .int .i64 x ∧ -9223372036854775808 ≤ x ∧ x ≤ 20 ∧ w = wx)
  case first =>
    go_wp2_with fail
    all_goals
      go_meet
      exact ⟨_, rfl, by omega, by omega, rfl⟩
  case rest =>
    obtain ⟨x, rfl, x0, x1, rfl⟩ := hcut
    clear m0 m1 q1 q2
    have CN := Lib.hid (fun w => new_ct2 x c (by omega) (by omega) (by omega) (by omega) w)
    have CD := Lib.hid (fun w => rnew_any x c (by omega) w)
    rw [← HN.out] at CN CD
    have hb0 : max x 0 ≤ 20 := by omega
    generalize max x 0 = bl at *
    go_wp2_with fail
    refine (CN.out _).mono ?_; rintro e w1 ⟨rfl, C1⟩
    clear CN hc
    generalize w.heap.size + 1 = sb at *
    go_wp2_with fail
    refine (CD.out _).mono ?_; rintro e w2 ⟨s2, rfl, hd⟩
    have K2 : KD w w2 sb bl N (fun _ => []) s2 (fun _ => nilS) N (fun _ => []) (fun _ => False) := C1.withDoc hd (fun i k _ e => by cases e)
    obtain ⟨g2, cap2, rfl, _, _, _⟩ := hd.ch.form
    have K3 := K2.turnX (show Below w2.heap.size w2 (w2.alloc (.cells #[.int .i64 bl, .slice (some ⟨g2, 0, none⟩) N cap2] 27)) from (Below.refl _ _).alloc (Nat.le_refl _) _) (Y := fun k => k = w2.heap.size) (fun k hk => .inr (by rw [hk]; simp))
    have hx3 := heap_alloc_new w2 (.cells #[.int .i64 bl, .slice (some ⟨g2, 0, none⟩) N cap2] 27)
    have ht := Nat.le_trans C1.low.size hd.low.size
    clear C1 hd K2 CD
    go_wp2_with fail
    generalize World.alloc w2 _ = w3 at *
    generalize w2.heap.size = tb at *
    go_loopw [9] (fun i wr => ∃ (wx : World) (j n : Nat) (L : Nat → List Bk) (s : Value) (U : Nat → Value), wx = wr ∧ i = .int .i64 (j : Int) ∧ j ≤ len2 ∧ j ≤ 40 ∧ KD w wx sb bl n L s U n L (fun k => k = tb) ∧ wx.heap[tb]? = some (.cells #[.int .i64 bl, s] 27 (0, 0))) (fun i _ => 40 - (RowKit.intOf i).toNat)
    case atStart => exact ⟨_, 0, _, _, _, _, rfl, rfl, Nat.zero_le _, Nat.zero_le _, K3, hx3⟩
    case round =>
      clear K3 hx3
      obtain ⟨wx, j, n, L, s, U, rfl, rfl, hj, hj2, K, hx⟩ := hrel
      obtain ⟨g, cap, rfl, _, _, _⟩ := K.doc.form
      by_cases hj1 : j < len2 ∧ j < 40
      · obtain ⟨ib, o, off, d, rfl, ho, hlc, hcm, hdw, hdc⟩ := deeds_at wk j hj1.1
        subst ho
        unfold maxLen at hcm
        have SC := Lib.hid (fun (W : World) (hb : Below w.heap.size w W) (hx : W.heap[tb]? = some (.cells #[.int .i64 bl, .slice (some ⟨g, 0, none⟩) n cap] 27 (0, 0))) => (show (fun w1 => (w1.cell? ⟨tb, 0, none⟩ = some (.int .i64 bl) ∧ w1.cell? ⟨tb, 1, none⟩ = some (.slice (some ⟨g, 0, none⟩) n cap)) ∧ (w1.cell? ⟨ib, off + j * 6, none⟩ = some (.int .i64 d.kind) ∧ w1.cell? ⟨ib, off + j * 6 + 1, none⟩ = some (.int .i64 d.n) ∧ w1.cell? ⟨ib, off + j * 6 + 2, none⟩ = some (.int .i64 d.k.sp) ∧ w1.cell? ⟨ib, off + j * 6 + 3, none⟩ = some (.int .u64 d.k.va) ∧ w1.cell? ⟨ib, off + j * 6 + 4, none⟩ = some (.int .i64 d.k.sz) ∧ w1.cell? ⟨ib, off + j * 6 + 5, none⟩ = some (.bool d.raw))) W by
          obtain ⟨c0, c1, c2, c3, c4, c5⟩ := hdc
          exact ⟨t_cells hx, cell_low c0 hb, cell_low c1 hb, cell_low c2 hb, cell_low c3 hb, cell_low c4 hb, cell_low c5 hb⟩))
        have hS0 := SC.out wx.drew K.drew.ct.low hx
        have NL : Below wx.drew.heap.size wx.drew (wx.drew.alloc (.cells #[.int .i64 0, .slice none 0 0] 27)) := (Below.refl _ _).alloc (Nat.le_refl _) _
        have KB := K.drew.turnX NL (Y := fun k => k = tb ∨ k = wx.heap.size) (fun k hk => hk.elim .inl (fun e => .inr ⟨by rw [e]; exact Nat.le_refl _, by rw [e, World.size_alloc]; exact Nat.lt_succ_self _⟩))
        have xB : (wx.drew.alloc (.cells #[.int .i64 0, .slice none 0 0] 27)).heap[wx.heap.size]? = some (.cells #[.int .i64 0, .slice none 0 0] 27 (0, 0)) := heap_alloc_new wx.drew _
        have hxB := blk_low (show wx.drew.heap[tb]? = _ from hx) NL
        have hSB := SC.out _ KB.ct.low hxB
        have CA := Lib.hid (does_any d hdw K.drew)
        have CB := Lib.hid (does_any d hdw KB)
        have hne : tb ≠ wx.heap.size := fun e => by have := (Array.getElem?_eq_some_iff.1 hx).1; omega
        have HK := Lib.hid (And.intro K hx)
        have HB := Lib.hid (And.intro KB (And.intro xB (And.intro hxB hne)))
        have h1' : (j : Int) < (len2 : Int) := by omega
        have h2' : (j : Int) < 40 := by omega
        clear hdc K hx KB xB hxB NL hne hj1
        go_wp2_with fail
        refine wp_region_held_drew (S := fun w1 => (w1.cell? ⟨tb, 0, none⟩ = some (.int .i64 bl) ∧ w1.cell? ⟨tb, 1, none⟩ = some (.slice (some ⟨g, 0, none⟩) n cap)) ∧ (w1.cell? ⟨ib, off + j * 6, none⟩ = some (.int .i64 d.kind) ∧ w1.cell? ⟨ib, off + j * 6 + 1, none⟩ = some (.int .i64 d.n) ∧ w1.cell? ⟨ib, off + j * 6 + 2, none⟩ = some (.int .i64 d.k.sp) ∧ w1.cell? ⟨ib, off + j * 6 + 3, none⟩ = some (.int .u64 d.k.va) ∧ w1.cell? ⟨ib, off + j * 6 + 4, none⟩ = some (.int .i64 d.k.sz) ∧ w1.cell? ⟨ib, off + j * 6 + 5, none⟩ = some (.bool d.raw))) (by kernel_rfl) hS0 (fun hHeld => ?_)
        refine wpAnyH_take (i := 0) (v := ?vt0) rfl (by kernel_rfl) (by kernel_rfl) (by kernel_rfl) (fun _ _ _ h => h) (Or.inl ⟨by rfl, ?ht0⟩) (by assumption) ?rt0
        case ht0 => (intro w hSw; (try dsimp only at hSw); go_simp <;> (with_reducible rfl))
        (try simp only [Act.put, List.setIfInBounds_toArray, List.set_cons_zero, List.set_cons_succ, List.getElem_toArray, List.getElem_cons_zero])
        refine wpAnyH_take (i := 1) (v := ?vt1) rfl (by kernel_rfl) (by kernel_rfl) (by kernel_rfl) (fun _ _ _ h => h) (Or.inl ⟨by rfl, ?ht1⟩) (by assumption) ?rt1
        case ht1 => (intro w hSw; (try dsimp only at hSw); go_simp <;> (with_reducible rfl))
        (try simp only [Act.put, List.setIfInBounds_toArray, List.set_cons_zero, List.set_cons_succ, List.getElem_toArray, List.getElem_cons_zero, List.getElem_cons_succ])
        refine wpAnyH_take (i := 2) (v := ?vt2) rfl (by kernel_rfl) (by kernel_rfl) (by kernel_rfl) (fun _ _ _ h => h) (Or.inl ⟨by rfl, ?ht2⟩) (by assumption) ?rt2
        case ht2 => (intro w hSw; (try dsimp only at hSw); go_simp <;> (with_reducible rfl))
        (try simp only [Act.put, List.setIfInBounds_toArray, List.set_cons_zero, List.set_cons_succ, List.getElem_toArray, List.getElem_cons_zero, List.getElem_cons_succ])
        refine wpAnyH_take (i := 3) (v := ?vt3) rfl (by kernel_rfl) (by kernel_rfl) (by kernel_rfl) (fun _ _ _ h => h) (Or.inl ⟨by rfl, ?ht3⟩) (by assumption) ?rt3
        case ht3 => (intro w hSw; (try dsimp only at hSw); go_simp <;> (with_reducible rfl))
        (try simp only [Act.put, List.setIfInBounds_toArray, List.set_cons_zero, List.set_cons_succ, List.getElem_toArray, List.getElem_cons_zero, List.getElem_cons_succ])
        refine wpAnyH_take (i := 4) (v := ?vt4) rfl (by kernel_rfl) (by kernel_rfl) (by kernel_rfl) (fun _ _ _ h => h) (Or.inl ⟨by rfl, ?ht4⟩) (by assumption) ?rt4
        case ht4 => (intro w hSw; (try dsimp only at hSw); go_simp <;> (with_reducible rfl))
        (try simp only [Act.put, List.setIfInBounds_toArray, List.set_cons_zero, List.set_cons_succ, List.getElem_toArray, List.getElem_cons_zero, List.getElem_cons_succ])
        refine wpAnyH_take (i := 5) (v := ?vt5) rfl (by kernel_rfl) (by kernel_rfl) (by kernel_rfl) (fun _ _ _ h => h) (Or.inl ⟨by rfl, ?ht5⟩) (by assumption) ?rt5
        case ht5 => (intro w hSw; (try dsimp only at hSw); go_simp <;> (with_reducible rfl))
        (try simp only [Act.put, List.setIfInBounds_toArray, List.set_cons_zero, List.set_cons_succ, List.getElem_toArray, List.getElem_cons_zero, List.getElem_cons_succ])
        refine wpAnyH_ready (rs := [6, 10]) (by kernel_rfl) (by simp) ?_
        refine AllReadyH.cons rfl (fun K hK => ?_) (AllReadyH.cons rfl (fun K hK => ?_) AllReadyH.nil)
        · go_simp
          refine CA.out.mono ?_
          rintro r w6 ⟨s6, U6, n6, L6, rfl, K6, hk6, hs6⟩
          obtain ⟨g6, cap6, rfl, _, _, _⟩ := K6.doc.form
          have x6 := (hk6 tb rfl).trans HK.out.2
          have hS6 := SC.out _ K6.ct.low x6
          have NL7 : Below w6.heap.size w6 (w6.alloc (.cells #[.int .i64 0, .slice none 0 0] 27)) := (Below.refl _ _).alloc (Nat.le_refl _) _
          have NL8 : Below w6.heap.size w6 (w6.alloc (.cells #[.int .i64 bl, .slice (some ⟨g6, 0, none⟩) n6 cap6] 27)) := (Below.refl _ _).alloc (Nat.le_refl _) _
          have hS7 := SC.out _ (K6.low NL7).ct.low (blk_low x6 NL7)
          have hS8 := SC.out _ (K6.low NL8).ct.low (blk_low x6 NL8)
          have K8 := K6.turnX NL8 (Y := fun k => k = tb ∨ k = w6.heap.size) (fun k hk => hk.elim .inl (fun e => .inr ⟨by rw [e]; exact Nat.le_refl _, by rw [e, World.size_alloc]; exact Nat.lt_succ_self _⟩))
          have xn := heap_alloc_new w6 (.cells #[.int .i64 bl, .slice (some ⟨g6, 0, none⟩) n6 cap6] 27)
          have xt := blk_low x6 NL8
          have H8 := Lib.hid (And.intro K8 (And.intro xn xt))
          clear K6 hk6 hs6 x6 NL7 NL8 K8 xn xt
          (try go_simp)
          refine hK.out _ _ hS6 (fun hHeld => ?_)
          clear hK K
          (try simp only [Act.put, List.setIfInBounds_toArray, List.set_cons_zero, List.set_cons_succ, List.getElem_toArray, List.getElem_cons_zero, List.getElem_cons_succ])
          refine wpAnyH_take (i := 7) (v := ?vt7) rfl (by kernel_rfl) (by kernel_rfl) (by kernel_rfl) (fun _ _ _ h => h) (Or.inl ⟨by rfl, ?ht7⟩) (by assumption) ?rt7
          case ht7 => (intro w hSw; (try dsimp only at hSw); go_simp <;> (with_reducible rfl))
          (try simp only [Act.put, List.setIfInBounds_toArray, List.set_cons_zero, List.set_cons_succ, List.getElem_toArray, List.getElem_cons_zero, List.getElem_cons_succ])
          refine wpAnyH_take (i := 8) (v := ?vt8) rfl (by kernel_rfl) (by kernel_rfl) (by kernel_rfl) (fun _ _ _ h => h) (Or.inl ⟨by rfl, ?ht8⟩) (by assumption) ?rt8
          case ht8 => (intro w hSw; (try dsimp only at hSw); go_simp <;> (with_reducible rfl))
          (try simp only [Act.put, List.setIfInBounds_toArray, List.set_cons_zero, List.set_cons_succ, List.getElem_toArray, List.getElem_cons_zero, List.getElem_cons_succ])
          refine wpAnyH_take (i := 9) (v := ?vt9) rfl (by kernel_rfl) (by kernel_rfl) (by kernel_rfl) (fun _ _ _ h => h) (Or.inl ⟨by rfl, ?ht9⟩) (by assumption) ?rt9
          case ht9 => (intro w hSw; (try dsimp only at hSw); go_simp <;> (with_reducible rfl))
          (try simp only [Act.put, List.setIfInBounds_toArray, List.set_cons_zero, List.set_cons_succ, List.getElem_toArray, List.getElem_cons_zero, List.getElem_cons_succ])
          refine wpAnyH_ready (rs := [10]) (by kernel_rfl) (by simp) ?_
          refine AllReadyH.cons rfl (fun K hK => ?_) AllReadyH.nil
          go_simp
          refine hK.out _ _ hS7 (fun hHeld => ?_)
          clear hK K
          (try simp only [Act.put, List.setIfInBounds_toArray, List.set_cons_zero, List.set_cons_succ, List.getElem_toArray, List.getElem_cons_zero, List.getElem_cons_succ])
          refine wpAnyH_ready (rs := [11]) (by kernel_rfl) (by simp) ?_
          refine AllReadyH.cons rfl (fun K hK => ?_) AllReadyH.nil
          go_simp
          refine hK.out _ _ hS8 (fun hHeld => ?_)
          clear hK K
          (try simp only [Act.put, List.setIfInBounds_toArray, List.set_cons_zero, List.set_cons_succ, List.getElem_toArray, List.getElem_cons_zero, List.getElem_cons_succ])
          refine wpAnyH_take (i := 12) (v := ?vt12) rfl (by kernel_rfl) (by kernel_rfl) (by kernel_rfl) (fun _ _ _ h => h) (Or.inl ⟨by rfl, ?ht12⟩) (by assumption) ?rt12
          case ht12 => (intro w hSw; (try dsimp only at hSw); go_simp <;> (with_reducible rfl))
          (try simp only [Act.put, List.setIfInBounds_toArray, List.set_cons_zero, List.set_cons_succ, List.getElem_toArray, List.getElem_cons_zero, List.getElem_cons_succ])
          refine wpAnyH_done (by kernel_rfl) ?_ _
          obtain ⟨K8, xn, xt⟩ := H8.out
          clear H8 hS6 hS7 hS8 hS0 hSB
          generalize World.alloc w6 (.cells #[.int .i64 bl, .slice (some ⟨g6, 0, none⟩) n6 cap6] 27) = W8 at *
          generalize w6.heap.size = nb at *
          clear CA CB HK HB SC
          obtain ⟨t0, t1⟩ := t_cells xn
          obtain ⟨u0, u1⟩ := t_cells xt
          have z0 : W8.frozen? ⟨tb, 0, none⟩ = false := by simp [World.frozen?, xt]
          have z1 : W8.frozen? ⟨tb, 1, none⟩ = false := by simp [World.frozen?, xt]
          obtain ⟨K9, x9⟩ := K8.store (.inl rfl) ht xt (x := .int .i64 bl) (y := .slice (some ⟨g6, 0, none⟩) n6 cap6)
          obtain ⟨v0, v1⟩ := t_cells x9
          have CLk := Lib.hid (like_any K9)
          have H9 := Lib.hid (And.intro (K9.sub (Y := fun k => k = tb) (fun k e => .inl e)) x9)
          clear K8 xn xt K9 x9
          go_wp2_with fail
          refine CLk.out.mono ?_; rintro e w10 ⟨rfl, hb10⟩
          have K10 := H9.out.1.low hb10
          have x10 := blk_low H9.out.2 hb10
          clear CLk H9 hb10 t0 t1 u0 u1 z0 z1 v0 v1
          go_wp2_with fail
          go_roundw
          case rel => exact ⟨_, j + 1, _, _, _, _, rfl, by go_num, by omega, by omega, K10, x10⟩
          case measure => (simp [RowKit.intOf] <;> omega)
        · go_simp
          refine hK.out _ _ hSB (fun hHeld => ?_)
          clear hK K
          (try simp only [Act.put, List.setIfInBounds_toArray, List.set_cons_zero, List.set_cons_succ, List.getElem_toArray, List.getElem_cons_zero, List.getElem_cons_succ])
          refine wpAnyH_ready (rs := [6]) (by kernel_rfl) (by simp) ?_
          refine AllReadyH.cons rfl (fun K hK => ?_) AllReadyH.nil
          go_simp
          refine (CB.out).mono ?_
          rintro r w6 ⟨s6, U6, n6, L6, rfl, K6, hk6, hs6⟩
          obtain ⟨g6, cap6, rfl, _, _, _⟩ := K6.doc.form
          have x6 := (hk6 tb (.inl rfl)).trans HB.out.2.2.1
          have y6 := (hk6 wx.heap.size (.inr rfl)).trans HB.out.2.1
          have hS6 := SC.out _ K6.ct.low x6
          have hwt : w.heap.size ≤ wx.heap.size := HK.out.1.ct.low.size
          obtain ⟨K8, xn⟩ := K6.store (.inr rfl) hwt y6 (x := .int .i64 bl) (y := .slice (some ⟨g6, 0, none⟩) n6 cap6)
          have xt := ((set_two y6 (.int .i64 bl) (.slice (some ⟨g6, 0, none⟩) n6 cap6)).2.2 tb HB.out.2.2.2).trans x6
          have hS8 := SC.out _ K8.ct.low xt
          have H8 := Lib.hid (And.intro K8 (And.intro xn xt))
          obtain ⟨f0, f1⟩ := t_cells y6
          have f2 : w6.frozen? ⟨wx.heap.size, 0, none⟩ = false := by simp [World.frozen?, y6]
          have f3 : w6.frozen? ⟨wx.heap.size, 1, none⟩ = false := by simp [World.frozen?, y6]
          clear K6 hk6 hs6 x6 y6 K8 xn xt
          (try go_simp)
          refine hK.out _ _ hS6 (fun hHeld => ?_)
          clear hK K
          (try simp only [Act.put, List.setIfInBounds_toArray, List.set_cons_zero, List.set_cons_succ, List.getElem_toArray, List.getElem_cons_zero, List.getElem_cons_succ])
          refine wpAnyH_take (i := 7) (v := ?vb7) rfl (by kernel_rfl) (by kernel_rfl) (by kernel_rfl) (fun _ _ _ h => h) (Or.inl ⟨by rfl, ?hb7⟩) (by assumption) ?rb7
          case hb7 => (intro w hSw; (try dsimp only at hSw); go_simp <;> (with_reducible rfl))
          (try simp only [Act.put, List.setIfInBounds_toArray, List.set_cons_zero, List.set_cons_succ, List.getElem_toArray, List.getElem_cons_zero, List.getElem_cons_succ])
          refine wpAnyH_take (i := 8) (v := ?vb8) rfl (by kernel_rfl) (by kernel_rfl) (by kernel_rfl) (fun _ _ _ h => h) (Or.inl ⟨by rfl, ?hb8⟩) (by assumption) ?rb8
          case hb8 => (intro w hSw; (try dsimp only at hSw); go_simp <;> (with_reducible rfl))
          (try simp only [Act.put, List.setIfInBounds_toArray, List.set_cons_zero, List.set_cons_succ, List.getElem_toArray, List.getElem_cons_zero, List.getElem_cons_succ])
          refine wpAnyH_take (i := 9) (v := ?vb9) rfl (by kernel_rfl) (by kernel_rfl) (by kernel_rfl) (fun _ _ _ h => h) (Or.inl ⟨by rfl, ?hb9⟩) (by assumption) ?rb9
          case hb9 => (intro w hSw; (try dsimp only at hSw); go_simp <;> (with_reducible rfl))
          (try simp only [Act.put, List.setIfInBounds_toArray, List.set_cons_zero, List.set_cons_succ, List.getElem_toArray, List.getElem_cons_zero, List.getElem_cons_succ])
          refine wpAnyH_ready (rs := [11]) (by kernel_rfl) (by simp) ?_
          refine AllReadyH.cons rfl (fun K hK => ?_) AllReadyH.nil
          go_simp
          refine hK.out _ _ hS8 (fun hHeld => ?_)
          clear hK K
          (try simp only [Act.put, List.setIfInBounds_toArray, List.set_cons_zero, List.set_cons_succ, List.getElem_toArray, List.getElem_cons_zero, List.getElem_cons_succ])
          refine wpAnyH_take (i := 12) (v := ?vb12) rfl (by kernel_rfl) (by kernel_rfl) (by kernel_rfl) (fun _ _ _ h => h) (Or.inl ⟨by rfl, ?hb12⟩) (by assumption) ?rb12
          case hb12 => (intro w hSw; (try dsimp only at hSw); go_simp <;> (with_reducible rfl))
          (try simp only [Act.put, List.setIfInBounds_toArray, List.set_cons_zero, List.set_cons_succ, List.getElem_toArray, List.getElem_cons_zero, List.getElem_cons_succ])
          refine wpAnyH_done (by kernel_rfl) ?_ _
          obtain ⟨K8, xn, xt⟩ := H8.out
          clear H8 hS6 hS8 hS0 hSB f0 f1 f2 f3
          generalize World.setCell (World.setCell w6 _ _) _ _ = W8 at *
          generalize wx.heap.size = nb at *
          clear CA CB HK HB SC
          obtain ⟨t0, t1⟩ := t_cells xn
          obtain ⟨u0, u1⟩ := t_cells xt
          have z0 : W8.frozen? ⟨tb, 0, none⟩ = false := by simp [World.frozen?, xt]
          have z1 : W8.frozen? ⟨tb, 1, none⟩ = false := by simp [World.frozen?, xt]
          obtain ⟨K9, x9⟩ := K8.store (.inl rfl) ht xt (x := .int .i64 bl) (y := .slice (some ⟨g6, 0, none⟩) n6 cap6)
          obtain ⟨v0, v1⟩ := t_cells x9
          have CLk := Lib.hid (like_any K9)
          have H9 := Lib.hid (And.intro (K9.sub (Y := fun k => k = tb) (fun k e => .inl e)) x9)
          clear K8 xn xt K9 x9
          go_wp2_with fail
          refine CLk.out.mono ?_; rintro e w10 ⟨rfl, hb10⟩
          have K10 := H9.out.1.low hb10
          have x10 := blk_low H9.out.2 hb10
          clear CLk H9 hb10 t0 t1 u0 u1 z0 z1 v0 v1
          go_wp2_with fail
          go_roundw
          case rel => exact ⟨_, j + 1, _, _, _, _, rfl, by go_num, by omega, by omega, K10, x10⟩
          case measure => (simp [RowKit.intOf] <;> omega)
      · by_cases hj3 : j = len2
        · subst hj3
          have hlow := K.ct.low
          clear K hx
          go_wp2_with fail
          refine (CL.out _).mono ?_; rintro e w4 ⟨rfl, hb4⟩
          go_wp2_with fail
          go_ret
          exact ⟨rfl, lo_step hlow hb4⟩
        · obtain rfl : j = 40 := by omega
          have hl : (40 : Int) < (len2 : Int) := by omega
          have hlow := K.ct.low
          clear K hx
          go_wp2_with fail
          refine (CL.out _).mono ?_; rintro e w4 ⟨rfl, hb4⟩
          go_wp2_with fail
          go_ret
          exact ⟨rfl, lo_step hlow hb4⟩

/-! ### The row -/
set_option maxRecDepth 100000 in
theorem lifted (os : Os) (started : os.Started) (H : Type) (enc : TypeId × Value → H) :
    ReturnsInHanded {} Try.checked os 3 .any (Rows.hashPlaysSpec.pre6 enc Try.prog Try.f3 Rows.hashPlaysRow.domain false) (Rows.hashPlaysSpec.post enc Try.prog Try.f3 false true false false) := by
  refine returnsInHanded_of_change (C := Try.checked) own started (by kernel_rfl) Try.func3
    (ChangeSpec.witness6 (enc := enc) (C := Try.checked) false ⟨#[], #[.int .i64 0, .int .i64 0, .slice none 0 0], []⟩ 8 (by kernel_rfl) (by kernel_rfl) (by kernel_rfl) (by kernel_rfl)) ?_
  intro W base args ds gs before hval0 hW hcnd _
  have hval : ∀ (j : Nat) t v, Try.f3.params[j]? = some t → args[j]? = some v → Value.okWide Try.prog W .any base t v := hval0
  have hW' := hW
  obtain ⟨p, q, hA0, hV, rfl, hfz, hnd⟩ := hW
  have hA : DataW.TrodAll enc Try.prog W 0 (fun _ => true) true Try.f3.params.toList args.toList ds p := hA0
  rw [Try.params3] at hA hval
  obtain ⟨v0, vs0, d0, ds0, p0, q0, hargs, rfl, rfl, h0, r0⟩ := trodAll_cons hA
  obtain ⟨v1, vs1, d1, ds1, p1, q1, rfl, rfl, rfl, h1, r1⟩ := trodAll_cons r0
  obtain ⟨v2, vs2, d2, ds2, p2, q2, rfl, rfl, rfl, h2, r2⟩ := trodAll_cons r1
  obtain ⟨rfl, rfl, rfl⟩ := trodAll_nil r2
  obtain rfl : args = #[v0, v1, v2] := by cases args; simp_all
  obtain ⟨rfl, rfl⟩ := trodVars_none hV
  obtain ⟨a0, rfl, rfl, rfl, w0⟩ := open_int Try.underlying3 (hval 0 3 v0 rfl rfl) h0
  obtain ⟨a1, rfl, rfl, rfl, w1⟩ := open_int Try.underlying3 (hval 1 3 v1 rfl rfl) h1
  obtain ⟨s2, len2, cap2, rfl⟩ := okWide_slice Try.underlying22 (hval 2 22 v2 rfl rfl)
  have k2 := h2
  have lt2 : ∀ x ∈ p2, x.block < W.heap.size := by obtain ⟨m, hm⟩ := k2; exact DataW.trod_lt m _ _ _ hm
  have w2 : IsDeeds W s2 len2 cap2 := by
    obtain ⟨fuel, hf⟩ := h2
    exact open_deeds hf
  clear hA0 hval0
  simp only [List.append_nil] at hW'
  refine (walk W a0 w0 a1 w1 s2 len2 cap2 w2).mono fun e W' ⟨he, hg⟩ => ?_
  subst he
  exact ⟨_, rfl, _, _, _, [], _, [], hW', trodAll_mk1 (shut_bool Try.underlying4 _), (trodAll_cons_mk (shut_int Try.underlying3 w0) (trodAll_cons_mk (shut_int Try.underlying3 w1) (trodAll_cons_mk (Below.trod laidOut (by kernel_rfl) (of_decide_eq_true (by kernel_rfl)) k2 hg lt2) trodAll_mk0))), rfl, hg.frame _, fun h => by cases h⟩

theorem over : Rows.hashPlaysRow.holds Try.pinned (OpenSpec.ofChange Rows.hashPlaysSpec) :=
  OpenClaim.holds_of_wide 3 Try.f3 rfl rfl rfl rfl rfl rfl rfl ⟨rfl, rfl, rfl, rfl, rfl⟩ rfl rfl rfl rfl rfl (by kernel_rfl) Try.func3 (by kernel_rfl)
    (of_decide_eq_true (by kernel_rfl)) (by unfold Func.isWrapper; first | (rw [if_pos (by decide +kernel)]; kernel_rfl) | (rw [if_neg (by decide +kernel)]; exact ⟨rfl, rfl⟩))
    (fun os started H enc _ => lifted os started H enc)

theorem proved : Rows.HashPlaysSaid :=
  over
#print axioms proved
end Go.Proofs.Ytilijnalhkeggaa.hashPlays
