/-
  HatPlays: for any numbers of spaces, blocks and chains and any deeds the law returns true, and its arguments read as before. Conditions: none.
-/
import Derived.Test.YtffpfceclhogoaaGreatRows
import Derived.WalkKit
import Derived.ProofKit
import Derived.OpenShut
import Derived.Test.YtffpfceclhogoaaGreatGW
import Derived.Deep.CutBlock
import Derived.Deep.DeepCutAuto
import Derived.Deep.RegionHeld3
import Derived.Test.YtffpfceclhogoaaGreatGQ
namespace Go.Proofs.YtffpfceclhogoaaGreat.hatPlays
open Fld Hs Hp
open Go.ChangeShapes Go.WideShapes Go.ChangeAt Go.RowKit Go.Deep Go.Maps
set_option linter.unusedVariables false

theorem own : ownKnob Tryz.prog.godebug = none := by kernel_rfl

/-! ### The walk -/
set_option maxHeartbeats 8000000 in
set_option maxRecDepth 100000 in
theorem walk (w : World) (a0 : Int) (w0 : (Lit.int .i64 a0).wf = true) (a1 : Int) (w1 : (Lit.int .i64 a1).wf = true) (a2 : Int) (w2 : (Lit.int .i64 a2).wf = true) (s3 : Option Addr) (len3 cap3 : Nat) (w3 : Hp.IsDeeds w s3 len3 cap3) :
    Calls Tryz.prog 3 #[.int .i64 a0, .int .i64 a1, .int .i64 a2, .slice s3 len3 cap3] w fun e w' => e = .returned (.bool true) ∧ Below w.heap.size w w' := by
  obtain ⟨p0, p1⟩ := bounds_i64 w0
  obtain ⟨q0, q1⟩ := bounds_i64 w1
  obtain ⟨r0, r1⟩ := bounds_i64 w2
  have wk := w3
  have c0 := Int.tmod_lt_of_pos a2 (show (0 : Int) < 21 by decide)
  have c1 := Int.lt_tmod_of_pos a2 (show (0 : Int) < 21 by decide)
  have s0 := Int.tmod_lt_of_pos a0 (show (0 : Int) < 6 by decide)
  have s1 := Int.lt_tmod_of_pos a0 (show (0 : Int) < 6 by decide)
  have b0 := Int.tmod_lt_of_pos a1 (show (0 : Int) < 13 by decide)
  have b1 := Int.lt_tmod_of_pos a1 (show (0 : Int) < 13 by decide)
  obtain ⟨ch, hch⟩ : ∃ ch, ch = a2.tmod 21 := ⟨_, rfl⟩
  have hch' := hch.symm
  rw [← hch] at c0 c1
  clear hch w0 w1 w2 w3
  have CL := Lib.hid (fun w => klives_any w)
  go_enter Tryz.func3, Tryz.ntmps3
  go_upto_if 16 with (fail)
  go_cut [0] from 15 to 19 (fun a wx => ∃ x : Int, a = .int .i64 x ∧ -9223372036854775808 ≤ x ∧ x ≤ 5 ∧ w = wx)
  case first =>
    go_wp2_with fail
    all_goals
      go_meet
      exact ⟨_, rfl, by omega, by omega, rfl⟩
  case rest =>
    obtain ⟨x, rfl, x0, x1, rfl⟩ := hcut
    clear p0 p1 s0 s1
    go_upto_if 20 with (fail)
    go_cut [1] from 15 to 23 (fun a wx => ∃ y : Int, a = .int .i64 y ∧ -9223372036854775808 ≤ y ∧ y ≤ 12 ∧ w = wx)
    case first =>
      go_wp2_with fail
      all_goals
        go_meet
        exact ⟨_, rfl, by omega, by omega, rfl⟩
    case rest =>
      obtain ⟨y, rfl, y0, y1, rfl⟩ := hcut
      clear q0 q1 b0 b1
      have CN := Lib.hid (fun w => hnew_any x y ch (by omega) (by omega) (by omega) (by omega) (by omega) (by omega) w)
      have CD := Lib.hid (fun w => dnew_any x y ch (by omega) w)
      obtain ⟨N, hN⟩ : ∃ N : Nat, N = (max ch 1).toNat := ⟨_, rfl⟩
      have hN1 : 1 ≤ N := by omega
      have hbl0 : 0 ≤ max y 0 := by omega
      have hns1 : min (max x 0) 64 ≤ 64 := by omega
      rw [← hN] at CN CD
      clear hN
      generalize max y 0 = bl at *
      generalize min (max x 0) 64 = ns at *
      go_wp2_with fail
      refine (CN.out _).mono ?_; rintro e w1 ⟨hb, sb, rfl, hN⟩
      have hN : NewHat w w1 hb sb N ns bl := hN
      clear CN
      go_wp2_with fail
      refine (CD.out _).mono ?_; rintro e w2 ⟨s2, U0, rfl, hD, hb2⟩
      have hD : DH w2 (.slice none 0 0) [] s2 N (fun _ => []) U0 := hD
      obtain ⟨_, g0, cp0, rfl⟩ := hD.shape
      have P0 := PL.begin hN hb2 hD hbl0 hns1 hN1
      clear CD hN hb2 hD
      go_upto_block 0 with fail
      generalize World.alloc w2 _ = w3 at *
      generalize w2.heap.size = rb at *
      go_cut [] (fun wx => Below w.heap.size w wx)
      case first =>
        go_wp2_with fail
        go_loopw [11] (fun i wr => ∃ (wx : World) (j n : Nat) (L : Nat → List Hp.Bk) (v : Value) (l : List SPg) (t : Value) (LT : Nat → List Hs.Bk) (U : Nat → Value), wx = wr ∧ i = .int .i64 (j : Int) ∧ j ≤ len3 ∧ j ≤ 30 ∧ PL w wx hb sb ns bl n L (fun k => k = rb) v l t LT U rb) (fun i _ => len3 - (RowKit.intOf i).toNat)
        case atStart => exact ⟨_, 0, _, _, _, _, _, _, _, rfl, rfl, Nat.zero_le _, Nat.zero_le _, P0⟩
        case round =>
          clear P0
          obtain ⟨wx, j, n, L, v, l, t, LT, U, rfl, rfl, hj, hj2, P⟩ := hrel
          obtain ⟨⟨ao, cap, rfl⟩, g2, cap2, rfl⟩ := P.dh.shape
          by_cases hj1 : j < len3 ∧ j < 30
          · obtain ⟨ib, off, d, rfl, hlc, hcm, hdw, hdr⟩ := deed_at wk j hj1.1
            unfold maxLen at hcm
            have HP := Lib.hid P
            have h1' : (j : Int) < (len3 : Int) := by omega
            have h2' : (j : Int) < 30 := by omega
            have h3' : (0 : Int) ≤ (j : Int) := by omega
            clear P hj1
            go_upto_region 13 with fail
            go_cut [12, 13] (fun a b wx => ∃ nb n' L' v' l' t' LT' U', a = .pointer (some ⟨nb, 0, none⟩) ∧ b = .bool true ∧ PM w wx hb sb ns bl n' L' (fun k => k = rb) v' l' t' LT' U' rb nb (.int .i64 ns) (.slice ao l.length cap) (.int .i64 bl) (.slice (some ⟨g2, 0, none⟩) n cap2) ∧ ∀ x : SPg, x.sp ≠ d.sp → (x ∈ l' ↔ x ∈ l))
            case first =>
              have HP1 := Lib.hid (HP.out.low (Below.refl _ _).drew)
              have hS : _ ∧ _ := ⟨HP1.out.bx, range_low hdr HP1.out.ky.low⟩
              clear HP
              refine wp_region_held_drew (S := fun wS => wS.heap[rb]? = some (.cells #[.int .i64 ns, .slice ao l.length cap, .int .i64 bl, .slice (some ⟨g2, 0, none⟩) n cap2] 30 (0, 0)) ∧ wS.rangeAt ib (off + j * 24) [.int .i64 d.kind, .int .i64 d.sp, .int .i64 d.n, .int .u64 d.p.va, .int .i64 d.p.sz, .int .u64 d.p.pa, .bool d.p.att.write, .bool d.p.att.priv, .bool d.p.att.exec, .bool d.p.att.lock, .bool d.p.att.global, .bool d.p.att.quiet, .bool d.p.ref, .bool d.p.mod, .int .u64 d.va, .bool d.att.write, .bool d.att.priv, .bool d.att.exec, .bool d.att.lock, .bool d.att.global, .bool d.att.quiet, .bool d.mod, .bool d.raw, .bool d.near]) (by kernel_rfl) hS (fun hHeld => ?_)
              clear hS
              generalize World.drew wx = W1 at HP1 hHeld ⊢
              refine wpAnyH_take (i := 0) (v := ?vt1) rfl (by kernel_rfl) (by kernel_rfl) (by kernel_rfl) (fun _ _ _ h => h) (Or.inl ⟨by rfl, ?ht1⟩) (by assumption) ?rt1
              case ht1 => (intro wS hSw; (try dsimp only at hSw); (try clear hSw); go_simp <;> (with_reducible rfl))
              (try simp only [Act.put, List.setIfInBounds_toArray, List.set_cons_zero, List.set_cons_succ, List.getElem_toArray, List.getElem_cons_zero])
              refine wpAnyH_take (i := 1) (v := ?vt2) rfl (by kernel_rfl) (by kernel_rfl) (by kernel_rfl) (fun _ _ _ h => h) (Or.inl ⟨by rfl, ?ht2⟩) (by assumption) ?rt2
              case ht2 => (intro wS hSw; (try dsimp only at hSw); obtain ⟨x0, x1, x2, x3, _⟩ := four_H hSw.1; (try clear hSw); go_simp <;> (with_reducible rfl))
              (try simp only [Act.put, List.setIfInBounds_toArray, List.set_cons_zero, List.set_cons_succ, List.getElem_toArray, List.getElem_cons_zero, List.getElem_cons_succ])
              refine wpAnyH_take (i := 2) (v := ?vt3) rfl (by kernel_rfl) (by kernel_rfl) (by kernel_rfl) (fun _ _ _ h => h) (Or.inl ⟨by rfl, ?ht3⟩) (by assumption) ?rt3
              case ht3 => (intro wS hSw; (try dsimp only at hSw); (try clear hSw); go_simp <;> (with_reducible rfl))
              (try simp only [Act.put, List.setIfInBounds_toArray, List.set_cons_zero, List.set_cons_succ, List.getElem_toArray, List.getElem_cons_zero, List.getElem_cons_succ])
              refine wpAnyH_take (i := 3) (v := ?vt4) rfl (by kernel_rfl) (by kernel_rfl) (by kernel_rfl) (fun _ _ _ h => h) (Or.inl ⟨by rfl, ?ht4⟩) (by assumption) ?rt4
              case ht4 => (intro wS hSw; (try dsimp only at hSw); (try clear hSw); go_simp <;> (with_reducible rfl))
              (try simp only [Act.put, List.setIfInBounds_toArray, List.set_cons_zero, List.set_cons_succ, List.getElem_toArray, List.getElem_cons_zero, List.getElem_cons_succ])
              refine wpAnyH_take (i := 4) (v := ?vt5) rfl (by kernel_rfl) (by kernel_rfl) (by kernel_rfl) (fun _ _ _ h => h) (Or.inl ⟨by rfl, ?ht5⟩) (by assumption) ?rt5
              case ht5 => (intro wS hSw; (try dsimp only at hSw); (try clear hSw); go_simp <;> (with_reducible rfl))
              (try simp only [Act.put, List.setIfInBounds_toArray, List.set_cons_zero, List.set_cons_succ, List.getElem_toArray, List.getElem_cons_zero, List.getElem_cons_succ])
              refine wpAnyH_take (i := 5) (v := .agg #[.int .i64 d.kind, .int .i64 d.sp, .int .i64 d.n, .int .u64 d.p.va, .int .i64 d.p.sz, .int .u64 d.p.pa, .bool d.p.att.write, .bool d.p.att.priv, .bool d.p.att.exec, .bool d.p.att.lock, .bool d.p.att.global, .bool d.p.att.quiet, .bool d.p.ref, .bool d.p.mod, .int .u64 d.va, .bool d.att.write, .bool d.att.priv, .bool d.att.exec, .bool d.att.lock, .bool d.att.global, .bool d.att.quiet, .bool d.mod, .bool d.raw, .bool d.near]) rfl (by kernel_rfl) (by kernel_rfl) (by kernel_rfl) (fun _ _ _ h => h) (yieldsIf_load_mid (by rfl) 40 (.tmp 50) rfl ib (off + j * 24) rfl [.int .i64 d.kind, .int .i64 d.sp, .int .i64 d.n, .int .u64 d.p.va, .int .i64 d.p.sz, .int .u64 d.p.pa, .bool d.p.att.write, .bool d.p.att.priv, .bool d.p.att.exec, .bool d.p.att.lock, .bool d.p.att.global, .bool d.p.att.quiet, .bool d.p.ref, .bool d.p.mod, .int .u64 d.va, .bool d.att.write, .bool d.att.priv, .bool d.att.exec, .bool d.att.lock, .bool d.att.global, .bool d.att.quiet, .bool d.mod, .bool d.raw, .bool d.near] _ (fun w hS => hS.2) Tryz.underlying40 rfl (by kernel_rfl)) (by assumption) ?_
              (try simp only [Act.put, List.setIfInBounds_toArray, List.set_cons_zero, List.set_cons_succ, List.getElem_toArray, List.getElem_cons_zero, List.getElem_cons_succ])
              refine wpAnyH_ready (rs := [6, 10]) (by kernel_rfl) (by simp) ?_
              refine AllReadyH.cons rfl (fun K hK => ?_) ?_
              · go_simp
                refine (Hp.does_any d hdw HP1.out.ky HP1.out.dh HP1.out.ht).mono ?_; rintro r w2 ⟨n', L', v', l', t', LT', U', rfl, K2, D2, T2, kp2, hot⟩
                obtain ⟨⟨ao5, cp5, rfl⟩, g5, cp6, rfl⟩ := D2.shape
                have bx2 := (kp2.1 rb HP1.out.gb).trans HP1.out.bx
                have HH := Lib.hid (And.intro K2 (And.intro D2 (And.intro T2 hot)))
                clear K2 D2 T2 kp2 hot
                refine hK.out _ _ ⟨bx2, range_low hdr HH.out.1.low⟩ (fun hHeld => ?_)
                (try clear hK K)
                (try simp only [Act.put, List.setIfInBounds_toArray, List.set_cons_zero, List.set_cons_succ, List.getElem_toArray, List.getElem_cons_zero, List.getElem_cons_succ])
                refine wpAnyH_take (i := 7) (v := ?vt7) rfl (by kernel_rfl) (by kernel_rfl) (by kernel_rfl) (fun _ _ _ h => h) (Or.inl ⟨by rfl, ?ht7⟩) (by assumption) ?rt7
                case ht7 => (intro wS hSw; (try dsimp only at hSw); (try clear hSw); go_simp <;> (with_reducible rfl))
                (try simp only [Act.put, List.setIfInBounds_toArray, List.set_cons_zero, List.set_cons_succ, List.getElem_toArray, List.getElem_cons_zero, List.getElem_cons_succ])
                refine wpAnyH_take (i := 8) (v := ?vt8) rfl (by kernel_rfl) (by kernel_rfl) (by kernel_rfl) (fun _ _ _ h => h) (Or.inl ⟨by rfl, ?ht8⟩) (by assumption) ?rt8
                case ht8 => (intro wS hSw; (try dsimp only at hSw); (try clear hSw); go_simp <;> (with_reducible rfl))
                (try simp only [Act.put, List.setIfInBounds_toArray, List.set_cons_zero, List.set_cons_succ, List.getElem_toArray, List.getElem_cons_zero, List.getElem_cons_succ])
                refine wpAnyH_take (i := 9) (v := ?vt9) rfl (by kernel_rfl) (by kernel_rfl) (by kernel_rfl) (fun _ _ _ h => h) (Or.inl ⟨by rfl, ?ht9⟩) (by assumption) ?rt9
                case ht9 => (intro wS hSw; (try dsimp only at hSw); (try clear hSw); go_simp <;> (with_reducible rfl))
                (try simp only [Act.put, List.setIfInBounds_toArray, List.set_cons_zero, List.set_cons_succ, List.getElem_toArray, List.getElem_cons_zero, List.getElem_cons_succ])
                refine wpAnyH_ready (rs := [10]) (by kernel_rfl) (by simp) ?_
                refine AllReadyH.cons rfl (fun K hK => ?_) AllReadyH.nil
                go_simp
                have rA := heap_alloc_new w2 (.cells #[.int .i64 0, .slice none 0 0, .int .i64 0, .slice none 0 0] 30)
                have bA : Below w2.heap.size w2 (w2.alloc (.cells #[.int .i64 0, .slice none 0 0, .int .i64 0, .slice none 0 0] 30)) := (Below.refl _ _).alloc (Nat.le_refl _) _
                have hlA := (Array.getElem?_eq_some_iff.1 rA).1
                have KA := HH.out.1.add bA (G := fun k => (fun k => k = rb) k ∨ k = w2.heap.size) (fun k h => h.elim .inl (fun e => .inr ⟨by omega, by omega⟩))
                generalize w2.alloc (.cells #[.int .i64 0, .slice none 0 0, .int .i64 0, .slice none 0 0] 30) = WA at rA bA KA hlA ⊢
                have HKA := Lib.hid KA
                refine hK.out _ _ ⟨blk_low bx2 bA, range_low hdr HKA.out.low⟩ (fun hHeld => ?_)
                (try clear hK K)
                (try simp only [Act.put, List.setIfInBounds_toArray, List.set_cons_zero, List.set_cons_succ, List.getElem_toArray, List.getElem_cons_zero, List.getElem_cons_succ])
                refine wpAnyH_ready (rs := [11]) (by kernel_rfl) (by simp) ?_
                refine AllReadyH.cons rfl (fun K hK => ?_) AllReadyH.nil
                obtain ⟨n0, n1, n2, n3, nf⟩ := four_H rA
                have hlb := (Array.getElem?_eq_some_iff.1 bx2).1
                have hlo := HH.out.1.low.size
                have HM := Lib.hid (PM.of HKA.out (HH.out.2.1.low bA) HH.out.2.2.1 (blk_low bx2 bA) rA (.inr rfl) (fun k h => .inl h) HP1.out.gb HP1.out.lo hlo (by omega))
                clear hlb hlo
                go_simp
                refine hK.out _ _ ⟨HM.out.bx, range_low hdr HM.out.ky.low⟩ (fun hHeld => ?_)
                (try clear hK K)
                (try simp only [Act.put, List.setIfInBounds_toArray, List.set_cons_zero, List.set_cons_succ, List.getElem_toArray, List.getElem_cons_zero, List.getElem_cons_succ])
                refine wpAnyH_take (i := 12) (v := ?vt10) rfl (by kernel_rfl) (by kernel_rfl) (by kernel_rfl) (fun _ _ _ h => h) (Or.inl ⟨by rfl, ?ht10⟩) (by assumption) ?rt10
                case ht10 => (intro wS hSw; (try dsimp only at hSw); (try clear hSw); go_simp <;> (with_reducible rfl))
                (try simp only [Act.put, List.setIfInBounds_toArray, List.set_cons_zero, List.set_cons_succ, List.getElem_toArray, List.getElem_cons_zero, List.getElem_cons_succ])
                refine wpAnyH_done (by kernel_rfl) ?_ _
                go_wp2_with fail
                go_meet
                exact ⟨_, _, _, _, _, _, _, _, rfl, rfl, HM.out, HH.out.2.2.2⟩
              refine AllReadyH.cons rfl (fun K hK => ?_) ?_
              · go_simp
                have rA := heap_alloc_new W1 (.cells #[.int .i64 0, .slice none 0 0, .int .i64 0, .slice none 0 0] 30)
                have bA : Below W1.heap.size W1 (W1.alloc (.cells #[.int .i64 0, .slice none 0 0, .int .i64 0, .slice none 0 0] 30)) := (Below.refl _ _).alloc (Nat.le_refl _) _
                have PA := HP1.out.add bA (G' := fun k => (fun k => k = rb) k ∨ k = W1.heap.size) (.inl HP1.out.gb) (fun k h => h.elim .inl (fun e => .inr ⟨by omega, by rw [e]; exact (Array.getElem?_eq_some_iff.1 rA).1⟩))
                generalize W1.alloc (.cells #[.int .i64 0, .slice none 0 0, .int .i64 0, .slice none 0 0] 30) = WA at rA bA PA ⊢
                have HPA := Lib.hid PA
                refine hK.out _ _ ⟨HPA.out.bx, range_low hdr HPA.out.ky.low⟩ (fun hHeld => ?_)
                (try clear hK K)
                (try simp only [Act.put, List.setIfInBounds_toArray, List.set_cons_zero, List.set_cons_succ, List.getElem_toArray, List.getElem_cons_zero, List.getElem_cons_succ])
                refine wpAnyH_ready (rs := [6]) (by kernel_rfl) (by simp) ?_
                refine AllReadyH.cons rfl (fun K hK => ?_) AllReadyH.nil
                go_simp
                refine (Hp.does_any d hdw HPA.out.ky HPA.out.dh HPA.out.ht).mono ?_; rintro r w2 ⟨n', L', v', l', t', LT', U', rfl, K2, D2, T2, kp2, hot⟩
                obtain ⟨⟨ao5, cp5, rfl⟩, g5, cp6, rfl⟩ := D2.shape
                have bx2 := (kp2.1 rb HPA.out.gb).trans HPA.out.bx
                have zx2 := (kp2.1 W1.heap.size (.inr rfl)).trans rA
                have HH := Lib.hid (And.intro K2 (And.intro D2 (And.intro T2 hot)))
                clear K2 D2 T2 kp2 hot
                refine hK.out _ _ ⟨bx2, range_low hdr HH.out.1.low⟩ (fun hHeld => ?_)
                (try clear hK K)
                (try simp only [Act.put, List.setIfInBounds_toArray, List.set_cons_zero, List.set_cons_succ, List.getElem_toArray, List.getElem_cons_zero, List.getElem_cons_succ])
                refine wpAnyH_take (i := 7) (v := ?vt11) rfl (by kernel_rfl) (by kernel_rfl) (by kernel_rfl) (fun _ _ _ h => h) (Or.inl ⟨by rfl, ?ht11⟩) (by assumption) ?rt11
                case ht11 => (intro wS hSw; (try dsimp only at hSw); (try clear hSw); go_simp <;> (with_reducible rfl))
                (try simp only [Act.put, List.setIfInBounds_toArray, List.set_cons_zero, List.set_cons_succ, List.getElem_toArray, List.getElem_cons_zero, List.getElem_cons_succ])
                refine wpAnyH_take (i := 8) (v := ?vt12) rfl (by kernel_rfl) (by kernel_rfl) (by kernel_rfl) (fun _ _ _ h => h) (Or.inl ⟨by rfl, ?ht12⟩) (by assumption) ?rt12
                case ht12 => (intro wS hSw; (try dsimp only at hSw); (try clear hSw); go_simp <;> (with_reducible rfl))
                (try simp only [Act.put, List.setIfInBounds_toArray, List.set_cons_zero, List.set_cons_succ, List.getElem_toArray, List.getElem_cons_zero, List.getElem_cons_succ])
                refine wpAnyH_take (i := 9) (v := ?vt13) rfl (by kernel_rfl) (by kernel_rfl) (by kernel_rfl) (fun _ _ _ h => h) (Or.inl ⟨by rfl, ?ht13⟩) (by assumption) ?rt13
                case ht13 => (intro wS hSw; (try dsimp only at hSw); (try clear hSw); go_simp <;> (with_reducible rfl))
                (try simp only [Act.put, List.setIfInBounds_toArray, List.set_cons_zero, List.set_cons_succ, List.getElem_toArray, List.getElem_cons_zero, List.getElem_cons_succ])
                refine wpAnyH_ready (rs := [11]) (by kernel_rfl) (by simp) ?_
                refine AllReadyH.cons rfl (fun K hK => ?_) AllReadyH.nil
                obtain ⟨n0, n1, n2, n3, nf⟩ := four_H zx2
                have hlb := (Array.getElem?_eq_some_iff.1 HP1.out.bx).1
                have hlo := HP1.out.ky.low.size
                have HM := Lib.hid (PM.of HH.out.1 HH.out.2.1 HH.out.2.2.1 bx2 zx2 (.inr rfl) (fun k h => .inl h) HP1.out.gb HP1.out.lo hlo (by omega))
                clear hlb hlo
                go_simp
                refine hK.out _ _ ⟨HM.out.bx, range_low hdr HM.out.ky.low⟩ (fun hHeld => ?_)
                (try clear hK K)
                (try simp only [Act.put, List.setIfInBounds_toArray, List.set_cons_zero, List.set_cons_succ, List.getElem_toArray, List.getElem_cons_zero, List.getElem_cons_succ])
                refine wpAnyH_take (i := 12) (v := ?vt14) rfl (by kernel_rfl) (by kernel_rfl) (by kernel_rfl) (fun _ _ _ h => h) (Or.inl ⟨by rfl, ?ht14⟩) (by assumption) ?rt14
                case ht14 => (intro wS hSw; (try dsimp only at hSw); (try clear hSw); go_simp <;> (with_reducible rfl))
                (try simp only [Act.put, List.setIfInBounds_toArray, List.set_cons_zero, List.set_cons_succ, List.getElem_toArray, List.getElem_cons_zero, List.getElem_cons_succ])
                refine wpAnyH_done (by kernel_rfl) ?_ _
                go_wp2_with fail
                go_meet
                exact ⟨_, _, _, _, _, _, _, _, rfl, rfl, HM.out, HH.out.2.2.2⟩
              exact AllReadyH.nil
            case rest =>
              obtain ⟨nb, n', L', v', l', t', LT', U', rfl, rfl, M, hot⟩ := hcut
              obtain ⟨⟨ao5, cp5, rfl⟩, g5, cp6, rfl⟩ := M.dh.shape
              obtain ⟨m0, m1, m2, m3, _⟩ := four_H M.nx
              obtain ⟨r0, r1, r2, r3, rf⟩ := four_H M.bx
              have HC := Lib.hid M.copy
              have HOT := Lib.hid hot
              clear M hot
              have CK := Lib.hid (Hp.like_any HC.out.ky HC.out.dh HC.out.ht)
              go_wp2_with fail
              obtain ⟨u0, u1, u2, u3⟩ := HC.out.cs
              go_wp2_with fail
              refine CK.out.mono ?_; rintro e w5 ⟨rfl, hb5⟩
              have P5 := HC.out.low hb5
              clear CK HC HOT hb5 m0 m1 m2 m3 r0 r1 r2 r3 rf u0 u1 u2 u3
              go_wp2_with fail
              go_roundw
              case rel => exact ⟨_, j + 1, _, _, _, _, _, _, _, rfl, by go_num, by omega, by omega, P5⟩
              case measure => (simp [RowKit.intOf] <;> omega)
          · by_cases hj3 : j = len3
            · subst hj3
              have hlow := P.ky.low
              clear P
              go_wp2_with fail
              go_meet
              exact hlow
            · obtain rfl : j = 30 := by omega
              have hl : (30 : Int) < (len3 : Int) := by omega
              have hlow := P.ky.low
              clear P
              go_wp2_with fail
              go_meet
              exact hlow
      case rest =>
        go_wp2_with fail
        refine (CL.out _).mono ?_; rintro e w4 ⟨rfl, hb4⟩
        go_wp2_with fail
        go_ret
        exact ⟨rfl, lo_step hcut hb4⟩

/-! ### The row -/
set_option maxRecDepth 100000 in
theorem lifted (os : Os) (started : os.Started) (H : Type) (enc : TypeId × Value → H) :
    ReturnsInHanded {} Tryz.checked os 3 .any (Rows.hatPlaysSpec.pre6 enc Tryz.prog Tryz.f3 Rows.hatPlaysRow.domain false) (Rows.hatPlaysSpec.post enc Tryz.prog Tryz.f3 false true false false) := by
  refine returnsInHanded_of_change (C := Tryz.checked) own started (by kernel_rfl) Tryz.func3
    (ChangeSpec.witness6 (enc := enc) (C := Tryz.checked) false ⟨#[], #[.int .i64 0, .int .i64 0, .int .i64 0, .slice none 0 0], []⟩ 8 (by kernel_rfl) (by kernel_rfl) (by kernel_rfl) (by kernel_rfl)) ?_
  intro W base args ds gs before hval0 hW hcnd _
  have hval : ∀ (j : Nat) t v, Tryz.f3.params[j]? = some t → args[j]? = some v → Value.okWide Tryz.prog W .any base t v := hval0
  have hW' := hW
  obtain ⟨p, q, hA0, hV, rfl, hfz, hnd⟩ := hW
  have hA : DataW.TrodAll enc Tryz.prog W 0 (fun _ => true) true Tryz.f3.params.toList args.toList ds p := hA0
  rw [Tryz.params3] at hA hval
  obtain ⟨v0, vs0, d0, ds0, p0, q0, hargs, rfl, rfl, h0, r0⟩ := trodAll_cons hA
  obtain ⟨v1, vs1, d1, ds1, p1, q1, rfl, rfl, rfl, h1, r1⟩ := trodAll_cons r0
  obtain ⟨v2, vs2, d2, ds2, p2, q2, rfl, rfl, rfl, h2, r2⟩ := trodAll_cons r1
  obtain ⟨v3, vs3, d3, ds3, p3, q3, rfl, rfl, rfl, h3, r3⟩ := trodAll_cons r2
  obtain ⟨rfl, rfl, rfl⟩ := trodAll_nil r3
  obtain rfl : args = #[v0, v1, v2, v3] := by cases args; simp_all
  obtain ⟨rfl, rfl⟩ := trodVars_none hV
  obtain ⟨a0, rfl, rfl, rfl, w0⟩ := open_int Tryz.underlying3 (hval 0 3 v0 rfl rfl) h0
  obtain ⟨a1, rfl, rfl, rfl, w1⟩ := open_int Tryz.underlying3 (hval 1 3 v1 rfl rfl) h1
  obtain ⟨a2, rfl, rfl, rfl, w2⟩ := open_int Tryz.underlying3 (hval 2 3 v2 rfl rfl) h2
  obtain ⟨s3, len3, cap3, rfl⟩ := okWide_slice Tryz.underlying22 (hval 3 22 v3 rfl rfl)
  have k3 := h3
  have lt3 : ∀ x ∈ p3, x.block < W.heap.size := by obtain ⟨m, hm⟩ := k3; exact DataW.trod_lt m _ _ _ hm
  have w3 : Hp.IsDeeds W s3 len3 cap3 := by
    obtain ⟨fuel, hf⟩ := h3
    exact Hp.open_deeds hf
  clear hA0 hval0
  simp only [List.append_nil] at hW'
  refine (walk W a0 w0 a1 w1 a2 w2 s3 len3 cap3 w3).mono fun e W' ⟨he, hg⟩ => ?_
  subst he
  exact ⟨_, rfl, _, _, _, [], _, [], hW', trodAll_mk1 (shut_bool Tryz.underlying4 _), (trodAll_cons_mk (shut_int Tryz.underlying3 w0) (trodAll_cons_mk (shut_int Tryz.underlying3 w1) (trodAll_cons_mk (shut_int Tryz.underlying3 w2) (trodAll_cons_mk (Below.trod Hp.laidOut (by kernel_rfl) (of_decide_eq_true (by kernel_rfl)) k3 hg lt3) trodAll_mk0)))), rfl, hg.frame _, fun h => by cases h⟩

theorem over : Rows.hatPlaysRow.holds Tryz.pinned (OpenSpec.ofChange Rows.hatPlaysSpec) :=
  OpenClaim.holds_of_wide 3 Tryz.f3 rfl rfl rfl rfl rfl rfl rfl ⟨rfl, rfl, rfl, rfl, rfl⟩ rfl rfl rfl rfl rfl (by kernel_rfl) Tryz.func3 (by kernel_rfl)
    (of_decide_eq_true (by kernel_rfl)) (by unfold Func.isWrapper; first | (rw [if_pos (by decide +kernel)]; kernel_rfl) | (rw [if_neg (by decide +kernel)]; exact ⟨rfl, rfl⟩))
    (fun os started H enc _ => lifted os started H enc)

theorem proved : Rows.HatPlaysSaid :=
  over
#print axioms proved
end Go.Proofs.YtffpfceclhogoaaGreat.hatPlays
