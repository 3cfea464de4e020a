/-
  HatMeets: for any deeds the law returns true, and its arguments read as before. Conditions: none.
-/
import Derived.Test.YtffpfceclhogoaaGreatRows
import Derived.WalkKit
import Derived.ProofKit
import Derived.OpenShut
import Derived.Test.YtffpfceclhogoaaGreatGW
import Derived.Deep.CutBlock
import Derived.Deep.DeepCutAuto
import Derived.Deep.RegionHeld3
import Derived.Test.YtffpfceclhogoaaGreatGQ
namespace Go.Proofs.YtffpfceclhogoaaGreat.hatMeets
open Fld Hs Hp
open Go.ChangeShapes Go.WideShapes Go.ChangeAt Go.RowKit Go.Deep Go.Maps
set_option linter.unusedVariables false

theorem own : ownKnob Tryz.prog.godebug = none := by kernel_rfl

theorem pat_in {P : List Pg} {i : Nat} (h : i < P.length) : pat P i ∈ P := by simp [pat, h]
theorem dp_val {ns bl : Int} {n : Nat} {L : Nat → List Hp.Bk} {l : List SPg} {LT : Nat → List Hs.Bk} (T : HT ns bl n L l LT) {s : Int} {i : Nat} (hi : i < (dpgs l s).length) : Val (pat (dpgs l s) i) := by
  obtain ⟨x, hx, _, e⟩ := T.dpgs_mem.1 (pat_in hi)
  rw [← e]; exact T.val x hx
theorem dp_apart {ns bl : Int} {n : Nat} {L : Nat → List Hp.Bk} {l : List SPg} {LT : Nat → List Hs.Bk} (T : HT ns bl n L l LT) {s : Int} {i j : Nat} (hi : i < (dpgs l s).length) (hj : j < i) : Fld.meetB (pat (dpgs l s) i).va (pat (dpgs l s) i).sz (pat (dpgs l s) j).va (pat (dpgs l s) j).sz = false := by
  have hlt := pat_lt (T.dpgs_sorted s) hj hi
  obtain ⟨x, hx, hxs, ex⟩ := T.dpgs_mem.1 (pat_in hi)
  obtain ⟨y, hy, hys, ey⟩ := T.dpgs_mem.1 (pat_in (Nat.lt_trans hj hi))
  rw [← ex, ← ey] at hlt ⊢
  by_cases h : Fld.meetB x.p.va x.p.sz y.p.va y.p.sz = true
  · have := T.ap x hx y hy (hxs.trans hys.symm) h
    rw [this] at hlt; omega
  · simpa using h
/-! ### The walk -/
set_option maxHeartbeats 8000000 in
set_option maxRecDepth 100000 in
theorem walk (w : World) (s0 : Option Addr) (len0 cap0 : Nat) (w0 : Hp.IsDeeds w s0 len0 cap0) :
    Calls Tryz.prog 6 #[.slice s0 len0 cap0] w fun e w' => e = .returned (.bool true) ∧ Below w.heap.size w w' := by
  have wk := w0
  have CN := Lib.hid (fun w => hnew_any 3 20 5 (by decide) (by decide) (by decide) (by decide) (by decide) (by decide) w)
  have CD := Lib.hid (fun w => dnew_any 3 20 5 (by decide) w)
  rw [show min (max (3 : Int) 0) 64 = 3 from by decide, show max (20 : Int) 0 = 20 from by decide] at CD
  have CL := Lib.hid (fun w => klives_any w)
  go_enter Tryz.func6, Tryz.ntmps6
  go_wp2_with fail
  refine (CN.out _).mono ?_; rintro e w1 ⟨hb, sb, rfl, hN⟩
  have hN : NewHat w w1 hb sb 5 3 20 := hN
  clear CN
  go_wp2_with fail
  refine (CD.out _).mono ?_; rintro e w2 ⟨s2, U0, rfl, hD, hb2⟩
  have hD : DH w2 (.slice none 0 0) [] s2 5 (fun _ => []) U0 := hD
  obtain ⟨_, g0, cp0, rfl⟩ := hD.shape
  have P0 := PL.begin hN hb2 hD (by decide) (by decide) (by decide)
  clear CD hN hb2 hD
  go_upto_block 0 with fail
  generalize World.alloc w2 _ = w3 at *
  generalize w2.heap.size = rb at *
  go_cut [] (fun wx => Below w.heap.size w wx)
  case first =>
    go_wp2_with fail
    go_loopw [5] (fun i wr => ∃ (wx : World) (j n : Nat) (L : Nat → List Hp.Bk) (v : Value) (l : List SPg) (t : Value) (LT : Nat → List Hs.Bk) (U : Nat → Value), wx = wr ∧ i = .int .i64 (j : Int) ∧ j ≤ len0 ∧ j ≤ 25 ∧ PL w wx hb sb 3 20 n L (fun k => k = rb) v l t LT U rb) (fun i _ => len0 - (RowKit.intOf i).toNat)
    case atStart => exact ⟨_, 0, _, _, _, _, _, _, _, rfl, rfl, Nat.zero_le _, Nat.zero_le _, P0⟩
    case round =>
      clear P0
      obtain ⟨wx, j, n, L, v, l, t, LT, U, rfl, rfl, hj, hj2, P⟩ := hrel
      obtain ⟨⟨ao, cap, rfl⟩, g2, cap2, rfl⟩ := P.dh.shape
      by_cases hj1 : j < len0 ∧ j < 25
      · obtain ⟨ib, off, d, rfl, hlc, hcm, hdw, hdr⟩ := deed_at wk j hj1.1
        unfold maxLen at hcm
        have HP := Lib.hid P
        have h1' : (j : Int) < (len0 : Int) := by omega
        have h2' : (j : Int) < 25 := by omega
        have h3' : (0 : Int) ≤ (j : Int) := by omega
        clear P hj1
        go_upto_region 8 with fail
        go_cut [6, 7] (fun a b wx => ∃ nb n' L' v' l' t' LT' U', a = .pointer (some ⟨nb, 0, none⟩) ∧ b = .bool true ∧ PM w wx hb sb 3 20 n' L' (fun k => k = rb) v' l' t' LT' U' rb nb (.int .i64 3) (.slice ao l.length cap) (.int .i64 20) (.slice (some ⟨g2, 0, none⟩) n cap2) ∧ ∀ x : SPg, x.sp ≠ d.sp → (x ∈ l' ↔ x ∈ l))
        case first =>
          have HP1 := Lib.hid (HP.out.low (Below.refl _ _).drew)
          have hS : _ ∧ _ := ⟨HP1.out.bx, range_low hdr HP1.out.ky.low⟩
          clear HP
          refine wp_region_held_drew (S := fun wS => wS.heap[rb]? = some (.cells #[.int .i64 3, .slice ao l.length cap, .int .i64 20, .slice (some ⟨g2, 0, none⟩) n cap2] 30 (0, 0)) ∧ wS.rangeAt ib (off + j * 24) [.int .i64 d.kind, .int .i64 d.sp, .int .i64 d.n, .int .u64 d.p.va, .int .i64 d.p.sz, .int .u64 d.p.pa, .bool d.p.att.write, .bool d.p.att.priv, .bool d.p.att.exec, .bool d.p.att.lock, .bool d.p.att.global, .bool d.p.att.quiet, .bool d.p.ref, .bool d.p.mod, .int .u64 d.va, .bool d.att.write, .bool d.att.priv, .bool d.att.exec, .bool d.att.lock, .bool d.att.global, .bool d.att.quiet, .bool d.mod, .bool d.raw, .bool d.near]) (by kernel_rfl) hS (fun hHeld => ?_)
          clear hS
          generalize World.drew wx = W1 at HP1 hHeld ⊢
          refine wpAnyH_take (i := 0) (v := ?vt1) rfl (by kernel_rfl) (by kernel_rfl) (by kernel_rfl) (fun _ _ _ h => h) (Or.inl ⟨by rfl, ?ht1⟩) (by assumption) ?rt1
          case ht1 => (intro wS hSw; (try dsimp only at hSw); (try clear hSw); go_simp <;> (with_reducible rfl))
          (try simp only [Act.put, List.setIfInBounds_toArray, List.set_cons_zero, List.set_cons_succ, List.getElem_toArray, List.getElem_cons_zero])
          refine wpAnyH_take (i := 1) (v := ?vt2) rfl (by kernel_rfl) (by kernel_rfl) (by kernel_rfl) (fun _ _ _ h => h) (Or.inl ⟨by rfl, ?ht2⟩) (by assumption) ?rt2
          case ht2 => (intro wS hSw; (try dsimp only at hSw); obtain ⟨x0, x1, x2, x3, _⟩ := four_H hSw.1; (try clear hSw); go_simp <;> (with_reducible rfl))
          (try simp only [Act.put, List.setIfInBounds_toArray, List.set_cons_zero, List.set_cons_succ, List.getElem_toArray, List.getElem_cons_zero, List.getElem_cons_succ])
          refine wpAnyH_take (i := 2) (v := ?vt3) rfl (by kernel_rfl) (by kernel_rfl) (by kernel_rfl) (fun _ _ _ h => h) (Or.inl ⟨by rfl, ?ht3⟩) (by assumption) ?rt3
          case ht3 => (intro wS hSw; (try dsimp only at hSw); (try clear hSw); go_simp <;> (with_reducible rfl))
          (try simp only [Act.put, List.setIfInBounds_toArray, List.set_cons_zero, List.set_cons_succ, List.getElem_toArray, List.getElem_cons_zero, List.getElem_cons_succ])
          refine wpAnyH_take (i := 3) (v := ?vt4) rfl (by kernel_rfl) (by kernel_rfl) (by kernel_rfl) (fun _ _ _ h => h) (Or.inl ⟨by rfl, ?ht4⟩) (by assumption) ?rt4
          case ht4 => (intro wS hSw; (try dsimp only at hSw); (try clear hSw); go_simp <;> (with_reducible rfl))
          (try simp only [Act.put, List.setIfInBounds_toArray, List.set_cons_zero, List.set_cons_succ, List.getElem_toArray, List.getElem_cons_zero, List.getElem_cons_succ])
          refine wpAnyH_take (i := 4) (v := ?vt5) rfl (by kernel_rfl) (by kernel_rfl) (by kernel_rfl) (fun _ _ _ h => h) (Or.inl ⟨by rfl, ?ht5⟩) (by assumption) ?rt5
          case ht5 => (intro wS hSw; (try dsimp only at hSw); (try clear hSw); go_simp <;> (with_reducible rfl))
          (try simp only [Act.put, List.setIfInBounds_toArray, List.set_cons_zero, List.set_cons_succ, List.getElem_toArray, List.getElem_cons_zero, List.getElem_cons_succ])
          refine wpAnyH_take (i := 5) (v := .agg #[.int .i64 d.kind, .int .i64 d.sp, .int .i64 d.n, .int .u64 d.p.va, .int .i64 d.p.sz, .int .u64 d.p.pa, .bool d.p.att.write, .bool d.p.att.priv, .bool d.p.att.exec, .bool d.p.att.lock, .bool d.p.att.global, .bool d.p.att.quiet, .bool d.p.ref, .bool d.p.mod, .int .u64 d.va, .bool d.att.write, .bool d.att.priv, .bool d.att.exec, .bool d.att.lock, .bool d.att.global, .bool d.att.quiet, .bool d.mod, .bool d.raw, .bool d.near]) rfl (by kernel_rfl) (by kernel_rfl) (by kernel_rfl) (fun _ _ _ h => h) (yieldsIf_load_mid (by rfl) 40 (.tmp 32) rfl ib (off + j * 24) rfl [.int .i64 d.kind, .int .i64 d.sp, .int .i64 d.n, .int .u64 d.p.va, .int .i64 d.p.sz, .int .u64 d.p.pa, .bool d.p.att.write, .bool d.p.att.priv, .bool d.p.att.exec, .bool d.p.att.lock, .bool d.p.att.global, .bool d.p.att.quiet, .bool d.p.ref, .bool d.p.mod, .int .u64 d.va, .bool d.att.write, .bool d.att.priv, .bool d.att.exec, .bool d.att.lock, .bool d.att.global, .bool d.att.quiet, .bool d.mod, .bool d.raw, .bool d.near] _ (fun w hS => hS.2) Tryz.underlying40 rfl (by kernel_rfl)) (by assumption) ?_
          (try simp only [Act.put, List.setIfInBounds_toArray, List.set_cons_zero, List.set_cons_succ, List.getElem_toArray, List.getElem_cons_zero, List.getElem_cons_succ])
          refine wpAnyH_ready (rs := [6, 10]) (by kernel_rfl) (by simp) ?_
          refine AllReadyH.cons rfl (fun K hK => ?_) ?_
          · go_simp
            refine (Hp.does_any d hdw HP1.out.ky HP1.out.dh HP1.out.ht).mono ?_; rintro r w2 ⟨n', L', v', l', t', LT', U', rfl, K2, D2, T2, kp2, hot⟩
            obtain ⟨⟨ao5, cp5, rfl⟩, g5, cp6, rfl⟩ := D2.shape
            have bx2 := (kp2.1 rb HP1.out.gb).trans HP1.out.bx
            have HH := Lib.hid (And.intro K2 (And.intro D2 (And.intro T2 hot)))
            clear K2 D2 T2 kp2 hot
            refine hK.out _ _ ⟨bx2, range_low hdr HH.out.1.low⟩ (fun hHeld => ?_)
            (try clear hK K)
            (try simp only [Act.put, List.setIfInBounds_toArray, List.set_cons_zero, List.set_cons_succ, List.getElem_toArray, List.getElem_cons_zero, List.getElem_cons_succ])
            refine wpAnyH_take (i := 7) (v := ?vt7) rfl (by kernel_rfl) (by kernel_rfl) (by kernel_rfl) (fun _ _ _ h => h) (Or.inl ⟨by rfl, ?ht7⟩) (by assumption) ?rt7
            case ht7 => (intro wS hSw; (try dsimp only at hSw); (try clear hSw); go_simp <;> (with_reducible rfl))
            (try simp only [Act.put, List.setIfInBounds_toArray, List.set_cons_zero, List.set_cons_succ, List.getElem_toArray, List.getElem_cons_zero, List.getElem_cons_succ])
            refine wpAnyH_take (i := 8) (v := ?vt8) rfl (by kernel_rfl) (by kernel_rfl) (by kernel_rfl) (fun _ _ _ h => h) (Or.inl ⟨by rfl, ?ht8⟩) (by assumption) ?rt8
            case ht8 => (intro wS hSw; (try dsimp only at hSw); (try clear hSw); go_simp <;> (with_reducible rfl))
            (try simp only [Act.put, List.setIfInBounds_toArray, List.set_cons_zero, List.set_cons_succ, List.getElem_toArray, List.getElem_cons_zero, List.getElem_cons_succ])
            refine wpAnyH_take (i := 9) (v := ?vt9) rfl (by kernel_rfl) (by kernel_rfl) (by kernel_rfl) (fun _ _ _ h => h) (Or.inl ⟨by rfl, ?ht9⟩) (by assumption) ?rt9
            case ht9 => (intro wS hSw; (try dsimp only at hSw); (try clear hSw); go_simp <;> (with_reducible rfl))
            (try simp only [Act.put, List.setIfInBounds_toArray, List.set_cons_zero, List.set_cons_succ, List.getElem_toArray, List.getElem_cons_zero, List.getElem_cons_succ])
            refine wpAnyH_ready (rs := [10]) (by kernel_rfl) (by simp) ?_
            refine AllReadyH.cons rfl (fun K hK => ?_) AllReadyH.nil
            go_simp
            have rA := heap_alloc_new w2 (.cells #[.int .i64 0, .slice none 0 0, .int .i64 0, .slice none 0 0] 30)
            have bA : Below w2.heap.size w2 (w2.alloc (.cells #[.int .i64 0, .slice none 0 0, .int .i64 0, .slice none 0 0] 30)) := (Below.refl _ _).alloc (Nat.le_refl _) _
            have hlA := (Array.getElem?_eq_some_iff.1 rA).1
            have KA := HH.out.1.add bA (G := fun k => (fun k => k = rb) k ∨ k = w2.heap.size) (fun k h => h.elim .inl (fun e => .inr ⟨by omega, by omega⟩))
            generalize w2.alloc (.cells #[.int .i64 0, .slice none 0 0, .int .i64 0, .slice none 0 0] 30) = WA at rA bA KA hlA ⊢
            have HKA := Lib.hid KA
            refine hK.out _ _ ⟨blk_low bx2 bA, range_low hdr HKA.out.low⟩ (fun hHeld => ?_)
            (try clear hK K)
            (try simp only [Act.put, List.setIfInBounds_toArray, List.set_cons_zero, List.set_cons_succ, List.getElem_toArray, List.getElem_cons_zero, List.getElem_cons_succ])
            refine wpAnyH_ready (rs := [11]) (by kernel_rfl) (by simp) ?_
            refine AllReadyH.cons rfl (fun K hK => ?_) AllReadyH.nil
            obtain ⟨n0, n1, n2, n3, nf⟩ := four_H rA
            have hlb := (Array.getElem?_eq_some_iff.1 bx2).1
            have hlo := HH.out.1.low.size
            have HM := Lib.hid (PM.of HKA.out (HH.out.2.1.low bA) HH.out.2.2.1 (blk_low bx2 bA) rA (.inr rfl) (fun k h => .inl h) HP1.out.gb HP1.out.lo hlo (by omega))
            clear hlb hlo
            go_simp
            refine hK.out _ _ ⟨HM.out.bx, range_low hdr HM.out.ky.low⟩ (fun hHeld => ?_)
            (try clear hK K)
            (try simp only [Act.put, List.setIfInBounds_toArray, List.set_cons_zero, List.set_cons_succ, List.getElem_toArray, List.getElem_cons_zero, List.getElem_cons_succ])
            refine wpAnyH_take (i := 12) (v := ?vt10) rfl (by kernel_rfl) (by kernel_rfl) (by kernel_rfl) (fun _ _ _ h => h) (Or.inl ⟨by rfl, ?ht10⟩) (by assumption) ?rt10
            case ht10 => (intro wS hSw; (try dsimp only at hSw); (try clear hSw); go_simp <;> (with_reducible rfl))
            (try simp only [Act.put, List.setIfInBounds_toArray, List.set_cons_zero, List.set_cons_succ, List.getElem_toArray, List.getElem_cons_zero, List.getElem_cons_succ])
            refine wpAnyH_done (by kernel_rfl) ?_ _
            go_wp2_with fail
            go_meet
            exact ⟨_, _, _, _, _, _, _, _, rfl, rfl, HM.out, HH.out.2.2.2⟩
          refine AllReadyH.cons rfl (fun K hK => ?_) ?_
          · go_simp
            have rA := heap_alloc_new W1 (.cells #[.int .i64 0, .slice none 0 0, .int .i64 0, .slice none 0 0] 30)
            have bA : Below W1.heap.size W1 (W1.alloc (.cells #[.int .i64 0, .slice none 0 0, .int .i64 0, .slice none 0 0] 30)) := (Below.refl _ _).alloc (Nat.le_refl _) _
            have PA := HP1.out.add bA (G' := fun k => (fun k => k = rb) k ∨ k = W1.heap.size) (.inl HP1.out.gb) (fun k h => h.elim .inl (fun e => .inr ⟨by omega, by rw [e]; exact (Array.getElem?_eq_some_iff.1 rA).1⟩))
            generalize W1.alloc (.cells #[.int .i64 0, .slice none 0 0, .int .i64 0, .slice none 0 0] 30) = WA at rA bA PA ⊢
            have HPA := Lib.hid PA
            refine hK.out _ _ ⟨HPA.out.bx, range_low hdr HPA.out.ky.low⟩ (fun hHeld => ?_)
            (try clear hK K)
            (try simp only [Act.put, List.setIfInBounds_toArray, List.set_cons_zero, List.set_cons_succ, List.getElem_toArray, List.getElem_cons_zero, List.getElem_cons_succ])
            refine wpAnyH_ready (rs := [6]) (by kernel_rfl) (by simp) ?_
            refine AllReadyH.cons rfl (fun K hK => ?_) AllReadyH.nil
            go_simp
            refine (Hp.does_any d hdw HPA.out.ky HPA.out.dh HPA.out.ht).mono ?_; rintro r w2 ⟨n', L', v', l', t', LT', U', rfl, K2, D2, T2, kp2, hot⟩
            obtain ⟨⟨ao5, cp5, rfl⟩, g5, cp6, rfl⟩ := D2.shape
            have bx2 := (kp2.1 rb HPA.out.gb).trans HPA.out.bx
            have zx2 := (kp2.1 W1.heap.size (.inr rfl)).trans rA
            have HH := Lib.hid (And.intro K2 (And.intro D2 (And.intro T2 hot)))
            clear K2 D2 T2 kp2 hot
            refine hK.out _ _ ⟨bx2, range_low hdr HH.out.1.low⟩ (fun hHeld => ?_)
            (try clear hK K)
            (try simp only [Act.put, List.setIfInBounds_toArray, List.set_cons_zero, List.set_cons_succ, List.getElem_toArray, List.getElem_cons_zero, List.getElem_cons_succ])
            refine wpAnyH_take (i := 7) (v := ?vt11) rfl (by kernel_rfl) (by kernel_rfl) (by kernel_rfl) (fun _ _ _ h => h) (Or.inl ⟨by rfl, ?ht11⟩) (by assumption) ?rt11
            case ht11 => (intro wS hSw; (try dsimp only at hSw); (try clear hSw); go_simp <;> (with_reducible rfl))
            (try simp only [Act.put, List.setIfInBounds_toArray, List.set_cons_zero, List.set_cons_succ, List.getElem_toArray, List.getElem_cons_zero, List.getElem_cons_succ])
            refine wpAnyH_take (i := 8) (v := ?vt12) rfl (by kernel_rfl) (by kernel_rfl) (by kernel_rfl) (fun _ _ _ h => h) (Or.inl ⟨by rfl, ?ht12⟩) (by assumption) ?rt12
            case ht12 => (intro wS hSw; (try dsimp only at hSw); (try clear hSw); go_simp <;> (with_reducible rfl))
            (try simp only [Act.put, List.setIfInBounds_toArray, List.set_cons_zero, List.set_cons_succ, List.getElem_toArray, List.getElem_cons_zero, List.getElem_cons_succ])
            refine wpAnyH_take (i := 9) (v := ?vt13) rfl (by kernel_rfl) (by kernel_rfl) (by kernel_rfl) (fun _ _ _ h => h) (Or.inl ⟨by rfl, ?ht13⟩) (by assumption) ?rt13
            case ht13 => (intro wS hSw; (try dsimp only at hSw); (try clear hSw); go_simp <;> (with_reducible rfl))
            (try simp only [Act.put, List.setIfInBounds_toArray, List.set_cons_zero, List.set_cons_succ, List.getElem_toArray, List.getElem_cons_zero, List.getElem_cons_succ])
            refine wpAnyH_ready (rs := [11]) (by kernel_rfl) (by simp) ?_
            refine AllReadyH.cons rfl (fun K hK => ?_) AllReadyH.nil
            obtain ⟨n0, n1, n2, n3, nf⟩ := four_H zx2
            have hlb := (Array.getElem?_eq_some_iff.1 HP1.out.bx).1
            have hlo := HP1.out.ky.low.size
            have HM := Lib.hid (PM.of HH.out.1 HH.out.2.1 HH.out.2.2.1 bx2 zx2 (.inr rfl) (fun k h => .inl h) HP1.out.gb HP1.out.lo hlo (by omega))
            clear hlb hlo
            go_simp
            refine hK.out _ _ ⟨HM.out.bx, range_low hdr HM.out.ky.low⟩ (fun hHeld => ?_)
            (try clear hK K)
            (try simp only [Act.put, List.setIfInBounds_toArray, List.set_cons_zero, List.set_cons_succ, List.getElem_toArray, List.getElem_cons_zero, List.getElem_cons_succ])
            refine wpAnyH_take (i := 12) (v := ?vt14) rfl (by kernel_rfl) (by kernel_rfl) (by kernel_rfl) (fun _ _ _ h => h) (Or.inl ⟨by rfl, ?ht14⟩) (by assumption) ?rt14
            case ht14 => (intro wS hSw; (try dsimp only at hSw); (try clear hSw); go_simp <;> (with_reducible rfl))
            (try simp only [Act.put, List.setIfInBounds_toArray, List.set_cons_zero, List.set_cons_succ, List.getElem_toArray, List.getElem_cons_zero, List.getElem_cons_succ])
            refine wpAnyH_done (by kernel_rfl) ?_ _
            go_wp2_with fail
            go_meet
            exact ⟨_, _, _, _, _, _, _, _, rfl, rfl, HM.out, HH.out.2.2.2⟩
          exact AllReadyH.nil
        case rest =>
          obtain ⟨nb, n', L', v', l', t', LT', U', rfl, rfl, M, hot⟩ := hcut
          obtain ⟨⟨ao5, cp5, rfl⟩, g5, cp6, rfl⟩ := M.dh.shape
          obtain ⟨m0, m1, m2, m3, _⟩ := four_H M.nx
          obtain ⟨r0, r1, r2, r3, rf⟩ := four_H M.bx
          have HC := Lib.hid M.copy
          have HOT := Lib.hid hot
          clear M hot
          clear HOT HP
          go_wp2_with fail
          have P5 := HC.out
          clear HC m0 m1 m2 m3 r0 r1 r2 r3 rf
          generalize World.setCell (World.setCell (World.setCell (World.setCell _ _ _) _ _) _ _) _ _ = w5 at *
          go_loopw [8] (fun i wr => ∃ (wx : World) (s : Nat), wx = wr ∧ i = .int .i64 (s : Int) ∧ s ≤ 3 ∧ PL w wx hb sb 3 20 n' L' (fun k => k = rb) (.slice ao5 l'.length cp5) l' (.slice (some ⟨g5, 0, none⟩) n' cp6) LT' U' rb) (fun i _ => 3 - (RowKit.intOf i).toNat)
          case atStart => exact ⟨_, 0, rfl, rfl, by omega, P5⟩
          case round =>
            clear P5
            obtain ⟨wx, s, rfl, rfl, hs, P⟩ := hrel
            by_cases hs3 : s < 3
            · have hs3' : (s : Int) < 3 := by omega
              have CP := Lib.hid (P.ky.pages P.ht (s : Int))
              have HP := Lib.hid P
              clear P
              go_wp2_with fail
              refine CP.out.mono ?_; rintro e w6 ⟨o, rfl, ho, hb6⟩
              obtain ⟨oa, oc, rfl⟩ := own_shape3 ho
              have P6 := HP.out.low hb6
              have HT6 := Lib.hid HP.out.ht
              have hdl : (dpgs l' (s : Int)).length ≤ 1073741824 := by have h1 := dpgs_len l' (s : Int) l'.length (Nat.le_refl _); rw [List.take_length] at h1; have := P6.dh.few; omega
              obtain ⟨B6, hB6⟩ : ∃ B6, B6 = wx.heap.size := ⟨_, rfl⟩
              rw [← hB6] at ho
              clear HP CP hb6 hB6
              go_wp2_with fail
              go_loopw [10] (fun i wr => ∃ (wy : World) (a : Nat), wy = wr ∧ i = .int .i64 (a : Int) ∧ a ≤ (dpgs l' (s : Int)).length ∧ PL w wy hb sb 3 20 n' L' (fun k => k = rb) (.slice ao5 l'.length cp5) l' (.slice (some ⟨g5, 0, none⟩) n' cp6) LT' U' rb ∧ wy.ownsRow B6 38 11 (.slice oa (dpgs l' (s : Int)).length oc) (dpgs l' (s : Int)).length (pgL (dpgs l' (s : Int)))) (fun i _ => (dpgs l' (s : Int)).length - (RowKit.intOf i).toNat)
              case atStart => exact ⟨_, 0, rfl, rfl, Nat.zero_le _, P6, ho⟩
              case round =>
                clear P6 ho
                obtain ⟨wy, a, rfl, rfl, ha, P, ho⟩ := hrel
                by_cases hal : a < (dpgs l' (s : Int)).length
                · have hal' : (a : Int) < ((dpgs l' (s : Int)).length : Int) := by omega
                  go_wp2_with fail
                  go_loopw [11] (fun i wr => ∃ (wz : World) (b : Nat), wz = wr ∧ i = .int .i64 (b : Int) ∧ b ≤ a ∧ PL w wz hb sb 3 20 n' L' (fun k => k = rb) (.slice ao5 l'.length cp5) l' (.slice (some ⟨g5, 0, none⟩) n' cp6) LT' U' rb ∧ wz.ownsRow B6 38 11 (.slice oa (dpgs l' (s : Int)).length oc) (dpgs l' (s : Int)).length (pgL (dpgs l' (s : Int)))) (fun i _ => a - (RowKit.intOf i).toNat)
                  case atStart => exact ⟨_, 0, rfl, rfl, Nat.zero_le _, P, ho⟩
                  case round =>
                    clear P ho
                    obtain ⟨wz, b, rfl, rfl, hba, P, ho⟩ := hrel
                    by_cases hbl : b < a
                    · have hbl' : (b : Int) < (a : Int) := by omega
                      have hb0 : (0 : Int) ≤ (b : Int) := by omega
                      have ha0 : (0 : Int) ≤ (a : Int) := by omega
                      have hbd : (b : Int) < ((dpgs l' (s : Int)).length : Int) := by omega
                      have hap := dp_apart HT6.out hal hbl
                      have va := (dp_val HT6.out hal).w
                      have vb := (dp_val HT6.out (Nat.lt_trans hbl hal)).w
                      rcases own_form ho with ⟨_, h0⟩ | ⟨og, ocp, hv, hgb, hnc, hcm⟩
                      · omega
                      obtain ⟨x0, x1, _⟩ := own_page ho hgb hal
                      obtain ⟨y0, y1, _⟩ := own_page ho hgb (Nat.lt_trans hbl hal)
                      simp only [Value.slice.injEq, true_and] at hv
                      obtain ⟨rfl, rfl⟩ := hv
                      unfold maxLen at hcm
                      generalize pat (dpgs l' (s : Int)) a = qa at *
                      generalize pat (dpgs l' (s : Int)) b = qb at *
                      have CM := Lib.hid (fun w => rmeet_any qa.va qa.sz qb.va qb.sz va.v0 va.v1 vb.v0 vb.v1 w)
                      rw [hap] at CM
                      have HP := Lib.hid (And.intro P ho)
                      clear P ho hap va vb
                      go_wp2_with fail
                      go_region_held3 (fun w1 => (w1.cell? ⟨og, a * 11, none⟩ = some (.int .u64 qa.va) ∧ w1.cell? ⟨og, a * 11 + 1, none⟩ = some (.int .i64 qa.sz)) ∧ w1.cell? ⟨og, b * 11, none⟩ = some (.int .u64 qb.va) ∧ w1.cell? ⟨og, b * 11 + 1, none⟩ = some (.int .i64 qb.sz)) (exact ⟨⟨x0, x1⟩, y0, y1⟩) (first | (go_at_call 20; (with_reducible refine (CM.out _).mono ?_); rintro e w' ⟨rfl, m, rfl⟩))
                      have P9 := Lib.hid (HP.out.1.low (below_drewN (Below.refl _ wz) (1 + m)))
                      have O9 := Lib.hid (own_same HP.out.2 (w' := wz.drewN (1 + m)) (fun _ _ => rfl))
                      clear HP CM x0 x1 y0 y1
                      go_wp2_with fail
                      go_roundw
                      case rel => exact ⟨_, b + 1, rfl, by go_num, by omega, P9.out, O9.out⟩
                      case measure => (simp [RowKit.intOf] <;> omega)
                    · obtain rfl : a = b := by omega
                      clear hba
                      go_wp2_with fail
                      go_roundw
                      case rel => exact ⟨_, a + 1, rfl, by go_num, by omega, P, ho⟩
                      case measure => (simp [RowKit.intOf] <;> omega)
                · obtain rfl : (dpgs l' (s : Int)).length = a := by omega
                  clear ho
                  go_wp2_with fail
                  go_roundw
                  case rel => exact ⟨_, s + 1, rfl, by go_num, by omega, P⟩
                  case measure => (simp [RowKit.intOf] <;> omega)
            · obtain rfl : 3 = s := by omega
              go_wp2_with fail
              go_roundw
              case rel => exact ⟨_, j + 1, _, _, _, _, _, _, _, rfl, by go_num, by omega, by omega, P⟩
              case measure => (simp [RowKit.intOf] <;> omega)
      · by_cases hj3 : j = len0
        · subst hj3
          have hlow := P.ky.low
          clear P
          go_wp2_with fail
          go_meet
          exact hlow
        · obtain rfl : j = 25 := by omega
          have hl : (25 : Int) < (len0 : Int) := by omega
          have hlow := P.ky.low
          clear P
          go_wp2_with fail
          go_meet
          exact hlow
  case rest =>
    go_wp2_with fail
    refine (CL.out _).mono ?_; rintro e w4 ⟨rfl, hb4⟩
    go_wp2_with fail
    go_ret
    exact ⟨rfl, lo_step hcut hb4⟩

/-! ### The row -/
set_option maxRecDepth 100000 in
theorem lifted (os : Os) (started : os.Started) (H : Type) (enc : TypeId × Value → H) :
    ReturnsInHanded {} Tryz.checked os 6 .any (Rows.hatMeetsSpec.pre6 enc Tryz.prog Tryz.f6 Rows.hatMeetsRow.domain false) (Rows.hatMeetsSpec.post enc Tryz.prog Tryz.f6 false true false false) := by
  refine returnsInHanded_of_change (C := Tryz.checked) own started (by kernel_rfl) Tryz.func6
    (ChangeSpec.witness6 (enc := enc) (C := Tryz.checked) false ⟨#[], #[.slice none 0 0], []⟩ 8 (by kernel_rfl) (by kernel_rfl) (by kernel_rfl) (by kernel_rfl)) ?_
  intro W base args ds gs before hval0 hW hcnd _
  have hval : ∀ (j : Nat) t v, Tryz.f6.params[j]? = some t → args[j]? = some v → Value.okWide Tryz.prog W .any base t v := hval0
  have hW' := hW
  obtain ⟨p, q, hA0, hV, rfl, hfz, hnd⟩ := hW
  have hA : DataW.TrodAll enc Tryz.prog W 0 (fun _ => true) true Tryz.f6.params.toList args.toList ds p := hA0
  rw [Tryz.params6] at hA hval
  obtain ⟨v0, vs0, d0, ds0, p0, q0, hargs, rfl, rfl, h0, r0⟩ := trodAll_cons hA
  obtain ⟨rfl, rfl, rfl⟩ := trodAll_nil r0
  obtain rfl : args = #[v0] := by cases args; simp_all
  obtain ⟨rfl, rfl⟩ := trodVars_none hV
  obtain ⟨s0, len0, cap0, rfl⟩ := okWide_slice Tryz.underlying22 (hval 0 22 v0 rfl rfl)
  have k0 := h0
  have lt0 : ∀ x ∈ p0, x.block < W.heap.size := by obtain ⟨m, hm⟩ := k0; exact DataW.trod_lt m _ _ _ hm
  have w0 : Hp.IsDeeds W s0 len0 cap0 := by
    obtain ⟨fuel, hf⟩ := h0
    exact Hp.open_deeds hf
  clear hA0 hval0
  simp only [List.append_nil] at hW'
  refine (walk W s0 len0 cap0 w0).mono fun e W' ⟨he, hg⟩ => ?_
  subst he
  exact ⟨_, rfl, _, _, _, [], _, [], hW', trodAll_mk1 (shut_bool Tryz.underlying4 _), (trodAll_cons_mk (Below.trod Hp.laidOut (by kernel_rfl) (of_decide_eq_true (by kernel_rfl)) k0 hg lt0) trodAll_mk0), rfl, hg.frame _, fun h => by cases h⟩

theorem over : Rows.hatMeetsRow.holds Tryz.pinned (OpenSpec.ofChange Rows.hatMeetsSpec) :=
  OpenClaim.holds_of_wide 6 Tryz.f6 rfl rfl rfl rfl rfl rfl rfl ⟨rfl, rfl, rfl, rfl, rfl⟩ rfl rfl rfl rfl rfl (by kernel_rfl) Tryz.func6 (by kernel_rfl)
    (of_decide_eq_true (by kernel_rfl)) (by unfold Func.isWrapper; first | (rw [if_pos (by decide +kernel)]; kernel_rfl) | (rw [if_neg (by decide +kernel)]; exact ⟨rfl, rfl⟩))
    (fun os started H enc _ => lifted os started H enc)

theorem proved : Rows.HatMeetsSaid :=
  over
#print axioms proved
end Go.Proofs.YtffpfceclhogoaaGreat.hatMeets
