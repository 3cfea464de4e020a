/-
  HatApart: for any deeds in three spaces and any more in one of them the law returns true, and its arguments read as before. Conditions: none.
-/
import Derived.Test.YtffpfceclhogoaaGreatRows
import Derived.WalkKit
import Derived.ProofKit
import Derived.OpenShut
import Derived.Test.YtffpfceclhogoaaGreatGW
import Derived.Deep.CutBlock
import Derived.Deep.DeepCutAuto
import Derived.Deep.RegionHeld3
import Derived.Deep.MidRow
import Derived.Test.YtffpfceclhogoaaGreatGQ
namespace Go.Proofs.YtffpfceclhogoaaGreat.hatApart
open Fld Hs Hp
open Go.ChangeShapes Go.WideShapes Go.ChangeAt Go.RowKit Go.Deep Go.Maps
set_option linter.unusedVariables false

theorem own : ownKnob Tryz.prog.godebug = none := by kernel_rfl

theorem dp_same {ns bl : Int} {n n' : Nat} {L L' : Nat → List Hp.Bk} {l l' : List SPg} {LT LT' : Nat → List Hs.Bk} (T : HT ns bl n L l LT) (T' : HT ns bl n' L' l' LT') {sp s : Int} (h : ∀ x : SPg, x.sp ≠ sp → (x ∈ l' ↔ x ∈ l)) (hs : s ≠ sp) : dpgs l' s = dpgs l s :=
  sorted_one (T'.dpgs_sorted s) (T.dpgs_sorted s) (fun q => by
    rw [T'.dpgs_mem, T.dpgs_mem]
    constructor
    · rintro ⟨x, hx, h1, h2⟩
      exact ⟨x, (h x (by rw [h1]; exact hs)).1 hx, h1, h2⟩
    · rintro ⟨x, hx, h1, h2⟩
      exact ⟨x, (h x (by rw [h1]; exact hs)).2 hx, h1, h2⟩)
theorem own_rb {W W' : World} {rb : Nat} {cs : Array Value} {v : Value} {l : List Pg} (h : W.ownsRow 0 38 11 v l.length (pgL l)) (hx : W.heap[rb]? = some (.cells cs 30 (0, 0))) (hk : ∀ k, k ≠ rb → W'.heap[k]? = W.heap[k]?) : W'.ownsRow 0 38 11 v l.length (pgL l) :=
  own_same h (fun g hg => hk g (fun e => by obtain ⟨cs', hg'⟩ := own_ty h hg; rw [e] at hg'; exact ne_HP hx hg' rfl))
/-! ### The walk -/
set_option maxHeartbeats 8000000 in
set_option maxRecDepth 100000 in
theorem walk (w : World) (s0 : Option Addr) (len0 cap0 : Nat) (w0 : Hp.IsDeeds w s0 len0 cap0) (s1 : Option Addr) (len1 cap1 : Nat) (w1 : Hp.IsDeeds w s1 len1 cap1) (a2 : Int) (w2 : (Lit.int .i64 a2).wf = true) :
    Calls Tryz.prog 4 #[.slice s0 len0 cap0, .slice s1 len1 cap1, .int .i64 a2] w fun e w' => e = .returned (.bool true) ∧ Below w.heap.size w w' := by
  have wk := w0
  have wm := w1
  obtain ⟨a20, a21⟩ := bounds_i64 w2
  have CN := Lib.hid (fun w => hnew_any 3 20 4 (by decide) (by decide) (by decide) (by decide) (by decide) (by decide) w)
  have CD := Lib.hid (fun w => dnew_any 3 20 4 (by decide) w)
  rw [show min (max (3 : Int) 0) 64 = 3 from by decide, show max (20 : Int) 0 = 20 from by decide] at CD
  have CL := Lib.hid (fun w => klives_any w)
  clear w0 w1 w2
  go_enter Tryz.func4, Tryz.ntmps4
  go_wp2_with fail
  refine (CN.out _).mono ?_; rintro e w1 ⟨hb, sb, rfl, hN⟩
  have hN : NewHat w w1 hb sb 4 3 20 := hN
  clear CN
  go_wp2_with fail
  refine (CD.out _).mono ?_; rintro e w2 ⟨s2, U0, rfl, hD, hb2⟩
  have hD : DH w2 (.slice none 0 0) [] s2 4 (fun _ => []) U0 := hD
  obtain ⟨_, g0, cp0, rfl⟩ := hD.shape
  have P0 := PL.begin hN hb2 hD (by decide) (by decide) (by decide)
  clear CD hN hb2 hD
  go_upto_block 0 with fail
  generalize World.alloc w2 _ = w3 at *
  generalize w2.heap.size = rb at *
  go_cut [] (fun wx => ∃ (n : Nat) (L : Nat → List Hp.Bk) (v : Value) (l : List SPg) (t : Value) (LT : Nat → List Hs.Bk) (U : Nat → Value), PL w wx hb sb 3 20 n L (fun k => k = rb) v l t LT U rb)
  case first =>
    go_wp2_with fail
    go_loopw [9] (fun i wr => ∃ (wx : World) (j n : Nat) (L : Nat → List Hp.Bk) (v : Value) (l : List SPg) (t : Value) (LT : Nat → List Hs.Bk) (U : Nat → Value), wx = wr ∧ i = .int .i64 (j : Int) ∧ j ≤ len0 ∧ j ≤ 20 ∧ PL w wx hb sb 3 20 n L (fun k => k = rb) v l t LT U rb) (fun i _ => len0 - (RowKit.intOf i).toNat)
    case atStart => exact ⟨_, 0, _, _, _, _, _, _, _, rfl, rfl, Nat.zero_le _, Nat.zero_le _, P0⟩
    case round =>
      clear P0
      obtain ⟨wx, j, n, L, v, l, t, LT, U, rfl, rfl, hj, hj2, P⟩ := hrel
      obtain ⟨⟨ao, cap, rfl⟩, g2, cap2, rfl⟩ := P.dh.shape
      by_cases hj1 : j < len0 ∧ j < 20
      · obtain ⟨ib, off, d, rfl, hlc, hcm, hdw, hdr⟩ := deed_at wk j hj1.1
        unfold maxLen at hcm
        have HP := Lib.hid P
        have h1' : (j : Int) < (len0 : Int) := by omega
        have h2' : (j : Int) < 20 := by omega
        have h3' : (0 : Int) ≤ (j : Int) := by omega
        clear P hj1
        go_upto_region 8 with fail
        go_cut [10, 11] (fun a b wx => ∃ nb n' L' v' l' t' LT' U', a = .pointer (some ⟨nb, 0, none⟩) ∧ b = .bool true ∧ PM w wx hb sb 3 20 n' L' (fun k => k = rb) v' l' t' LT' U' rb nb (.int .i64 3) (.slice ao l.length cap) (.int .i64 20) (.slice (some ⟨g2, 0, none⟩) n cap2) ∧ ∀ x : SPg, x.sp ≠ d.sp → (x ∈ l' ↔ x ∈ l))
        case first =>
          have HP1 := Lib.hid (HP.out.low (Below.refl _ _).drew)
          have hS : _ ∧ _ := ⟨HP1.out.bx, range_low hdr HP1.out.ky.low⟩
          clear HP
          refine wp_region_held_drew (S := fun wS => wS.heap[rb]? = some (.cells #[.int .i64 3, .slice ao l.length cap, .int .i64 20, .slice (some ⟨g2, 0, none⟩) n cap2] 30 (0, 0)) ∧ wS.rangeAt ib (off + j * 24) [.int .i64 d.kind, .int .i64 d.sp, .int .i64 d.n, .int .u64 d.p.va, .int .i64 d.p.sz, .int .u64 d.p.pa, .bool d.p.att.write, .bool d.p.att.priv, .bool d.p.att.exec, .bool d.p.att.lock, .bool d.p.att.global, .bool d.p.att.quiet, .bool d.p.ref, .bool d.p.mod, .int .u64 d.va, .bool d.att.write, .bool d.att.priv, .bool d.att.exec, .bool d.att.lock, .bool d.att.global, .bool d.att.quiet, .bool d.mod, .bool d.raw, .bool d.near]) (by kernel_rfl) hS (fun hHeld => ?_)
          clear hS
          generalize World.drew wx = W1 at HP1 hHeld ⊢
          refine wpAnyH_take (i := 0) (v := ?vt1) rfl (by kernel_rfl) (by kernel_rfl) (by kernel_rfl) (fun _ _ _ h => h) (Or.inl ⟨by rfl, ?ht1⟩) (by assumption) ?rt1
          case ht1 => (intro wS hSw; (try dsimp only at hSw); (try clear hSw); go_simp <;> (with_reducible rfl))
          (try simp only [Act.put, List.setIfInBounds_toArray, List.set_cons_zero, List.set_cons_succ, List.getElem_toArray, List.getElem_cons_zero])
          refine wpAnyH_take (i := 1) (v := ?vt2) rfl (by kernel_rfl) (by kernel_rfl) (by kernel_rfl) (fun _ _ _ h => h) (Or.inl ⟨by rfl, ?ht2⟩) (by assumption) ?rt2
          case ht2 => (intro wS hSw; (try dsimp only at hSw); obtain ⟨x0, x1, x2, x3, _⟩ := four_H hSw.1; (try clear hSw); go_simp <;> (with_reducible rfl))
          (try simp only [Act.put, List.setIfInBounds_toArray, List.set_cons_zero, List.set_cons_succ, List.getElem_toArray, List.getElem_cons_zero, List.getElem_cons_succ])
          refine wpAnyH_take (i := 2) (v := ?vt3) rfl (by kernel_rfl) (by kernel_rfl) (by kernel_rfl) (fun _ _ _ h => h) (Or.inl ⟨by rfl, ?ht3⟩) (by assumption) ?rt3
          case ht3 => (intro wS hSw; (try dsimp only at hSw); (try clear hSw); go_simp <;> (with_reducible rfl))
          (try simp only [Act.put, List.setIfInBounds_toArray, List.set_cons_zero, List.set_cons_succ, List.getElem_toArray, List.getElem_cons_zero, List.getElem_cons_succ])
          refine wpAnyH_take (i := 3) (v := ?vt4) rfl (by kernel_rfl) (by kernel_rfl) (by kernel_rfl) (fun _ _ _ h => h) (Or.inl ⟨by rfl, ?ht4⟩) (by assumption) ?rt4
          case ht4 => (intro wS hSw; (try dsimp only at hSw); (try clear hSw); go_simp <;> (with_reducible rfl))
          (try simp only [Act.put, List.setIfInBounds_toArray, List.set_cons_zero, List.set_cons_succ, List.getElem_toArray, List.getElem_cons_zero, List.getElem_cons_succ])
          refine wpAnyH_take (i := 4) (v := ?vt5) rfl (by kernel_rfl) (by kernel_rfl) (by kernel_rfl) (fun _ _ _ h => h) (Or.inl ⟨by rfl, ?ht5⟩) (by assumption) ?rt5
          case ht5 => (intro wS hSw; (try dsimp only at hSw); (try clear hSw); go_simp <;> (with_reducible rfl))
          (try simp only [Act.put, List.setIfInBounds_toArray, List.set_cons_zero, List.set_cons_succ, List.getElem_toArray, List.getElem_cons_zero, List.getElem_cons_succ])
          refine wpAnyH_take (i := 5) (v := .agg #[.int .i64 d.kind, .int .i64 d.sp, .int .i64 d.n, .int .u64 d.p.va, .int .i64 d.p.sz, .int .u64 d.p.pa, .bool d.p.att.write, .bool d.p.att.priv, .bool d.p.att.exec, .bool d.p.att.lock, .bool d.p.att.global, .bool d.p.att.quiet, .bool d.p.ref, .bool d.p.mod, .int .u64 d.va, .bool d.att.write, .bool d.att.priv, .bool d.att.exec, .bool d.att.lock, .bool d.att.global, .bool d.att.quiet, .bool d.mod, .bool d.raw, .bool d.near]) rfl (by kernel_rfl) (by kernel_rfl) (by kernel_rfl) (fun _ _ _ h => h) (yieldsIf_load_mid (by rfl) 40 (.tmp 37) rfl ib (off + j * 24) rfl [.int .i64 d.kind, .int .i64 d.sp, .int .i64 d.n, .int .u64 d.p.va, .int .i64 d.p.sz, .int .u64 d.p.pa, .bool d.p.att.write, .bool d.p.att.priv, .bool d.p.att.exec, .bool d.p.att.lock, .bool d.p.att.global, .bool d.p.att.quiet, .bool d.p.ref, .bool d.p.mod, .int .u64 d.va, .bool d.att.write, .bool d.att.priv, .bool d.att.exec, .bool d.att.lock, .bool d.att.global, .bool d.att.quiet, .bool d.mod, .bool d.raw, .bool d.near] _ (fun w hS => hS.2) Tryz.underlying40 rfl (by kernel_rfl)) (by assumption) ?_
          (try simp only [Act.put, List.setIfInBounds_toArray, List.set_cons_zero, List.set_cons_succ, List.getElem_toArray, List.getElem_cons_zero, List.getElem_cons_succ])
          refine wpAnyH_ready (rs := [6, 10]) (by kernel_rfl) (by simp) ?_
          refine AllReadyH.cons rfl (fun K hK => ?_) ?_
          · go_simp
            refine (Hp.does_any d hdw HP1.out.ky HP1.out.dh HP1.out.ht).mono ?_; rintro r w2 ⟨n', L', v', l', t', LT', U', rfl, K2, D2, T2, kp2, hot⟩
            obtain ⟨⟨ao5, cp5, rfl⟩, g5, cp6, rfl⟩ := D2.shape
            have bx2 := (kp2.1 rb HP1.out.gb).trans HP1.out.bx
            have HH := Lib.hid (And.intro K2 (And.intro D2 (And.intro T2 hot)))
            clear K2 D2 T2 kp2 hot
            refine hK.out _ _ ⟨bx2, range_low hdr HH.out.1.low⟩ (fun hHeld => ?_)
            (try clear hK K)
            (try simp only [Act.put, List.setIfInBounds_toArray, List.set_cons_zero, List.set_cons_succ, List.getElem_toArray, List.getElem_cons_zero, List.getElem_cons_succ])
            refine wpAnyH_take (i := 7) (v := ?vt7) rfl (by kernel_rfl) (by kernel_rfl) (by kernel_rfl) (fun _ _ _ h => h) (Or.inl ⟨by rfl, ?ht7⟩) (by assumption) ?rt7
            case ht7 => (intro wS hSw; (try dsimp only at hSw); (try clear hSw); go_simp <;> (with_reducible rfl))
            (try simp only [Act.put, List.setIfInBounds_toArray, List.set_cons_zero, List.set_cons_succ, List.getElem_toArray, List.getElem_cons_zero, List.getElem_cons_succ])
            refine wpAnyH_take (i := 8) (v := ?vt8) rfl (by kernel_rfl) (by kernel_rfl) (by kernel_rfl) (fun _ _ _ h => h) (Or.inl ⟨by rfl, ?ht8⟩) (by assumption) ?rt8
            case ht8 => (intro wS hSw; (try dsimp only at hSw); (try clear hSw); go_simp <;> (with_reducible rfl))
            (try simp only [Act.put, List.setIfInBounds_toArray, List.set_cons_zero, List.set_cons_succ, List.getElem_toArray, List.getElem_cons_zero, List.getElem_cons_succ])
            refine wpAnyH_take (i := 9) (v := ?vt9) rfl (by kernel_rfl) (by kernel_rfl) (by kernel_rfl) (fun _ _ _ h => h) (Or.inl ⟨by rfl, ?ht9⟩) (by assumption) ?rt9
            case ht9 => (intro wS hSw; (try dsimp only at hSw); (try clear hSw); go_simp <;> (with_reducible rfl))
            (try simp only [Act.put, List.setIfInBounds_toArray, List.set_cons_zero, List.set_cons_succ, List.getElem_toArray, List.getElem_cons_zero, List.getElem_cons_succ])
            refine wpAnyH_ready (rs := [10]) (by kernel_rfl) (by simp) ?_
            refine AllReadyH.cons rfl (fun K hK => ?_) AllReadyH.nil
            go_simp
            have rA := heap_alloc_new w2 (.cells #[.int .i64 0, .slice none 0 0, .int .i64 0, .slice none 0 0] 30)
            have bA : Below w2.heap.size w2 (w2.alloc (.cells #[.int .i64 0, .slice none 0 0, .int .i64 0, .slice none 0 0] 30)) := (Below.refl _ _).alloc (Nat.le_refl _) _
            have hlA := (Array.getElem?_eq_some_iff.1 rA).1
            have KA := HH.out.1.add bA (G := fun k => (fun k => k = rb) k ∨ k = w2.heap.size) (fun k h => h.elim .inl (fun e => .inr ⟨by omega, by omega⟩))
            generalize w2.alloc (.cells #[.int .i64 0, .slice none 0 0, .int .i64 0, .slice none 0 0] 30) = WA at rA bA KA hlA ⊢
            have HKA := Lib.hid KA
            refine hK.out _ _ ⟨blk_low bx2 bA, range_low hdr HKA.out.low⟩ (fun hHeld => ?_)
            (try clear hK K)
            (try simp only [Act.put, List.setIfInBounds_toArray, List.set_cons_zero, List.set_cons_succ, List.getElem_toArray, List.getElem_cons_zero, List.getElem_cons_succ])
            refine wpAnyH_ready (rs := [11]) (by kernel_rfl) (by simp) ?_
            refine AllReadyH.cons rfl (fun K hK => ?_) AllReadyH.nil
            obtain ⟨n0, n1, n2, n3, nf⟩ := four_H rA
            have hlb := (Array.getElem?_eq_some_iff.1 bx2).1
            have hlo := HH.out.1.low.size
            have HM := Lib.hid (PM.of HKA.out (HH.out.2.1.low bA) HH.out.2.2.1 (blk_low bx2 bA) rA (.inr rfl) (fun k h => .inl h) HP1.out.gb HP1.out.lo hlo (by omega))
            clear hlb hlo
            go_simp
            refine hK.out _ _ ⟨HM.out.bx, range_low hdr HM.out.ky.low⟩ (fun hHeld => ?_)
            (try clear hK K)
            (try simp only [Act.put, List.setIfInBounds_toArray, List.set_cons_zero, List.set_cons_succ, List.getElem_toArray, List.getElem_cons_zero, List.getElem_cons_succ])
            refine wpAnyH_take (i := 12) (v := ?vt10) rfl (by kernel_rfl) (by kernel_rfl) (by kernel_rfl) (fun _ _ _ h => h) (Or.inl ⟨by rfl, ?ht10⟩) (by assumption) ?rt10
            case ht10 => (intro wS hSw; (try dsimp only at hSw); (try clear hSw); go_simp <;> (with_reducible rfl))
            (try simp only [Act.put, List.setIfInBounds_toArray, List.set_cons_zero, List.set_cons_succ, List.getElem_toArray, List.getElem_cons_zero, List.getElem_cons_succ])
            refine wpAnyH_done (by kernel_rfl) ?_ _
            go_wp2_with fail
            go_meet
            exact ⟨_, _, _, _, _, _, _, _, rfl, rfl, HM.out, HH.out.2.2.2⟩
          refine AllReadyH.cons rfl (fun K hK => ?_) ?_
          · go_simp
            have rA := heap_alloc_new W1 (.cells #[.int .i64 0, .slice none 0 0, .int .i64 0, .slice none 0 0] 30)
            have bA : Below W1.heap.size W1 (W1.alloc (.cells #[.int .i64 0, .slice none 0 0, .int .i64 0, .slice none 0 0] 30)) := (Below.refl _ _).alloc (Nat.le_refl _) _
            have PA := HP1.out.add bA (G' := fun k => (fun k => k = rb) k ∨ k = W1.heap.size) (.inl HP1.out.gb) (fun k h => h.elim .inl (fun e => .inr ⟨by omega, by rw [e]; exact (Array.getElem?_eq_some_iff.1 rA).1⟩))
            generalize W1.alloc (.cells #[.int .i64 0, .slice none 0 0, .int .i64 0, .slice none 0 0] 30) = WA at rA bA PA ⊢
            have HPA := Lib.hid PA
            refine hK.out _ _ ⟨HPA.out.bx, range_low hdr HPA.out.ky.low⟩ (fun hHeld => ?_)
            (try clear hK K)
            (try simp only [Act.put, List.setIfInBounds_toArray, List.set_cons_zero, List.set_cons_succ, List.getElem_toArray, List.getElem_cons_zero, List.getElem_cons_succ])
            refine wpAnyH_ready (rs := [6]) (by kernel_rfl) (by simp) ?_
            refine AllReadyH.cons rfl (fun K hK => ?_) AllReadyH.nil
            go_simp
            refine (Hp.does_any d hdw HPA.out.ky HPA.out.dh HPA.out.ht).mono ?_; rintro r w2 ⟨n', L', v', l', t', LT', U', rfl, K2, D2, T2, kp2, hot⟩
            obtain ⟨⟨ao5, cp5, rfl⟩, g5, cp6, rfl⟩ := D2.shape
            have bx2 := (kp2.1 rb HPA.out.gb).trans HPA.out.bx
            have zx2 := (kp2.1 W1.heap.size (.inr rfl)).trans rA
            have HH := Lib.hid (And.intro K2 (And.intro D2 (And.intro T2 hot)))
            clear K2 D2 T2 kp2 hot
            refine hK.out _ _ ⟨bx2, range_low hdr HH.out.1.low⟩ (fun hHeld => ?_)
            (try clear hK K)
            (try simp only [Act.put, List.setIfInBounds_toArray, List.set_cons_zero, List.set_cons_succ, List.getElem_toArray, List.getElem_cons_zero, List.getElem_cons_succ])
            refine wpAnyH_take (i := 7) (v := ?vt11) rfl (by kernel_rfl) (by kernel_rfl) (by kernel_rfl) (fun _ _ _ h => h) (Or.inl ⟨by rfl, ?ht11⟩) (by assumption) ?rt11
            case ht11 => (intro wS hSw; (try dsimp only at hSw); (try clear hSw); go_simp <;> (with_reducible rfl))
            (try simp only [Act.put, List.setIfInBounds_toArray, List.set_cons_zero, List.set_cons_succ, List.getElem_toArray, List.getElem_cons_zero, List.getElem_cons_succ])
            refine wpAnyH_take (i := 8) (v := ?vt12) rfl (by kernel_rfl) (by kernel_rfl) (by kernel_rfl) (fun _ _ _ h => h) (Or.inl ⟨by rfl, ?ht12⟩) (by assumption) ?rt12
            case ht12 => (intro wS hSw; (try dsimp only at hSw); (try clear hSw); go_simp <;> (with_reducible rfl))
            (try simp only [Act.put, List.setIfInBounds_toArray, List.set_cons_zero, List.set_cons_succ, List.getElem_toArray, List.getElem_cons_zero, List.getElem_cons_succ])
            refine wpAnyH_take (i := 9) (v := ?vt13) rfl (by kernel_rfl) (by kernel_rfl) (by kernel_rfl) (fun _ _ _ h => h) (Or.inl ⟨by rfl, ?ht13⟩) (by assumption) ?rt13
            case ht13 => (intro wS hSw; (try dsimp only at hSw); (try clear hSw); go_simp <;> (with_reducible rfl))
            (try simp only [Act.put, List.setIfInBounds_toArray, List.set_cons_zero, List.set_cons_succ, List.getElem_toArray, List.getElem_cons_zero, List.getElem_cons_succ])
            refine wpAnyH_ready (rs := [11]) (by kernel_rfl) (by simp) ?_
            refine AllReadyH.cons rfl (fun K hK => ?_) AllReadyH.nil
            obtain ⟨n0, n1, n2, n3, nf⟩ := four_H zx2
            have hlb := (Array.getElem?_eq_some_iff.1 HP1.out.bx).1
            have hlo := HP1.out.ky.low.size
            have HM := Lib.hid (PM.of HH.out.1 HH.out.2.1 HH.out.2.2.1 bx2 zx2 (.inr rfl) (fun k h => .inl h) HP1.out.gb HP1.out.lo hlo (by omega))
            clear hlb hlo
            go_simp
            refine hK.out _ _ ⟨HM.out.bx, range_low hdr HM.out.ky.low⟩ (fun hHeld => ?_)
            (try clear hK K)
            (try simp only [Act.put, List.setIfInBounds_toArray, List.set_cons_zero, List.set_cons_succ, List.getElem_toArray, List.getElem_cons_zero, List.getElem_cons_succ])
            refine wpAnyH_take (i := 12) (v := ?vt14) rfl (by kernel_rfl) (by kernel_rfl) (by kernel_rfl) (fun _ _ _ h => h) (Or.inl ⟨by rfl, ?ht14⟩) (by assumption) ?rt14
            case ht14 => (intro wS hSw; (try dsimp only at hSw); (try clear hSw); go_simp <;> (with_reducible rfl))
            (try simp only [Act.put, List.setIfInBounds_toArray, List.set_cons_zero, List.set_cons_succ, List.getElem_toArray, List.getElem_cons_zero, List.getElem_cons_succ])
            refine wpAnyH_done (by kernel_rfl) ?_ _
            go_wp2_with fail
            go_meet
            exact ⟨_, _, _, _, _, _, _, _, rfl, rfl, HM.out, HH.out.2.2.2⟩
          exact AllReadyH.nil
        case rest =>
          obtain ⟨nb, n', L', v', l', t', LT', U', rfl, rfl, M, hot⟩ := hcut
          obtain ⟨⟨ao5, cp5, rfl⟩, g5, cp6, rfl⟩ := M.dh.shape
          obtain ⟨m0, m1, m2, m3, _⟩ := four_H M.nx
          obtain ⟨r0, r1, r2, r3, rf⟩ := four_H M.bx
          have HC := Lib.hid M.copy
          have HOT := Lib.hid hot
          clear M hot
          have P5 := HC.out
          clear HC HOT HP
          go_wp2_with fail
          go_roundw
          case rel => exact ⟨_, j + 1, _, _, _, _, _, _, _, rfl, by go_num, by omega, by omega, P5⟩
          case measure => (simp [RowKit.intOf] <;> omega)
      · by_cases hj3 : j = len0
        · subst hj3
          go_wp2_with fail
          go_meet
          exact ⟨_, _, _, _, _, _, _, P⟩
        · obtain rfl : j = 20 := by omega
          have hl : (20 : Int) < (len0 : Int) := by omega
          go_wp2_with fail
          go_meet
          exact ⟨_, _, _, _, _, _, _, P⟩
  case rest =>
    obtain ⟨n, L, v, l, t, LT, U, P⟩ := hcut
    obtain ⟨⟨ao, cap, rfl⟩, g2, cap2, rfl⟩ := P.dh.shape
    have HP := Lib.hid P
    clear P wk
    go_upto_if 46 with (fail)
    go_cut [2] from 45 to 50 (fun a wx => ∃ x : Int, a = .int .i64 x ∧ 0 ≤ x ∧ x ≤ 9223372036854775807 ∧ wc = wx)
    case first =>
      go_wp2_with fail
      all_goals
        go_meet
        exact ⟨_, rfl, by omega, by omega, rfl⟩
    case rest =>
      obtain ⟨x, rfl, x0, x1, rfl⟩ := hcut
      have htm : x.tmod 3 = x % 3 := Int.tmod_eq_emod_of_nonneg x0
      have s0 : 0 ≤ x % 3 := by omega
      have s1 : x % 3 < 3 := by omega
      generalize x % 3 = sp at *
      clear a20 a21
      have hw1 : IntKind.i64.wrap (sp + 1) = sp + 1 := by rw [IntKind.wrap_i64]; omega
      have hw2 : IntKind.i64.wrap (sp + 2) = sp + 2 := by rw [IntKind.wrap_i64]; omega
      have ht1 : (sp + 1).tmod 3 = (sp + 1) % 3 := Int.tmod_eq_emod_of_nonneg (by omega)
      have ht2 : (sp + 2).tmod 3 = (sp + 2) % 3 := Int.tmod_eq_emod_of_nonneg (by omega)
      have hne1 : (sp + 1) % 3 ≠ sp := by omega
      have hne2 : (sp + 2) % 3 ≠ sp := by omega
      generalize (sp + 1) % 3 = s1' at *
      generalize (sp + 2) % 3 = s2' at *
      have CP := Lib.hid (HP.out.ky.pages HP.out.ht s1')
      go_wp2_with fail
      refine CP.out.mono ?_; rintro e w5 ⟨o, rfl, ho, hb5⟩
      obtain ⟨oa, oc, rfl⟩ := own_shape3 ho
      obtain ⟨A, hA⟩ : ∃ A, A = dpgs l s1' := ⟨_, rfl⟩
      rw [← hA] at ho ⊢
      have HHA := Lib.hid hA
      clear hA
      have P5 := HP.out.add hb5 (G' := fun k => k = rb ∨ (Value.slice oa A.length oc).ownBlock = some k) (.inl rfl) (fun k h => h.elim .inl (fun e => .inr ⟨own_ge ho e, (ho.lt k e).2⟩))
      have ra := own_lower ho (Nat.zero_le _)
      clear CP HP ho hb5
      have CP := Lib.hid (P5.ky.pages P5.ht s2')
      have HP := Lib.hid (And.intro P5 ra)
      clear P5 ra
      go_wp2_with fail
      refine CP.out.mono ?_; rintro e w6 ⟨o, rfl, ho, hb6⟩
      obtain ⟨pa, pc, rfl⟩ := own_shape3 ho
      obtain ⟨B, hB⟩ : ∃ B, B = dpgs l s2' := ⟨_, rfl⟩
      rw [← hB] at ho ⊢
      have HHB := Lib.hid hB
      clear hB
      have P6 := HP.out.1.add hb6 (G' := fun k => (k = rb ∨ (Value.slice oa A.length oc).ownBlock = some k) ∨ (Value.slice pa B.length pc).ownBlock = some k) (.inl (.inl rfl)) (fun k h => h.elim .inl (fun e => .inr ⟨own_ge ho e, (ho.lt k e).2⟩))
      have ra := row_low HP.out.2 hb6
      have rp := own_lower ho (Nat.zero_le _)
      have hAl : A.length ≤ 1073741824 := by have h1 := dpgs_len l s1' l.length (Nat.le_refl _); rw [List.take_length, ← HHA.out] at h1; have := P6.dh.few; omega
      have hBl : B.length ≤ 1073741824 := by have h1 := dpgs_len l s2' l.length (Nat.le_refl _); rw [List.take_length, ← HHB.out] at h1; have := P6.dh.few; omega
      clear CP HP ho hb6
      go_upto_block 2 with fail
      go_cut [] (fun wx => ∃ (n : Nat) (L : Nat → List Hp.Bk) (v : Value) (l : List SPg) (t : Value) (LT : Nat → List Hs.Bk) (U : Nat → Value), PL w wx hb sb 3 20 n L (fun k => (k = rb ∨ (Value.slice oa A.length oc).ownBlock = some k) ∨ (Value.slice pa B.length pc).ownBlock = some k) v l t LT U rb ∧ wx.ownsRow 0 38 11 (.slice oa A.length oc) A.length (pgL A) ∧ wx.ownsRow 0 38 11 (.slice pa B.length pc) B.length (pgL B) ∧ A = dpgs l s1' ∧ B = dpgs l s2')
      case first =>
        go_wp2_with fail
        go_loopw [14] (fun i wr => ∃ (wx : World) (j n : Nat) (L : Nat → List Hp.Bk) (v : Value) (l : List SPg) (t : Value) (LT : Nat → List Hs.Bk) (U : Nat → Value), wx = wr ∧ i = .int .i64 (j : Int) ∧ j ≤ len1 ∧ j ≤ 10 ∧ PL w wx hb sb 3 20 n L (fun k => (k = rb ∨ (Value.slice oa A.length oc).ownBlock = some k) ∨ (Value.slice pa B.length pc).ownBlock = some k) v l t LT U rb ∧ wx.ownsRow 0 38 11 (.slice oa A.length oc) A.length (pgL A) ∧ wx.ownsRow 0 38 11 (.slice pa B.length pc) B.length (pgL B) ∧ A = dpgs l s1' ∧ B = dpgs l s2') (fun i _ => len1 - (RowKit.intOf i).toNat)
        case atStart => exact ⟨_, 0, _, _, _, _, _, _, _, rfl, rfl, Nat.zero_le _, Nat.zero_le _, P6, ra, rp, HHA.out, HHB.out⟩
        case round =>
          clear P6 ra rp HHA HHB
          obtain ⟨wx, j, n, L, v, l, t, LT, U, rfl, rfl, hj, hj2, P, ra, rp, hA, hB⟩ := hrel
          obtain ⟨⟨ao, cap, rfl⟩, g2, cap2, rfl⟩ := P.dh.shape
          by_cases hj1 : j < len1 ∧ j < 10
          · obtain ⟨ib, off, d, rfl, hlc, hcm, hdw, hdr⟩ := deed_at wm j hj1.1
            unfold maxLen at hcm
            have h1' : (j : Int) < (len1 : Int) := by omega
            have h2' : (j : Int) < 10 := by omega
            have h3' : (0 : Int) ≤ (j : Int) := by omega
            have hdx := Lib.hid (range_low hdr P.ky.low)
            have hZ := Lib.hid (heap_alloc_new wx (.cells #[.int .i64 0, .int .i64 0, .int .i64 0, .int .u64 0, .int .i64 0, .int .u64 0, .bool false, .bool false, .bool false, .bool false, .bool false, .bool false, .bool false, .bool false, .int .u64 0, .bool false, .bool false, .bool false, .bool false, .bool false, .bool false, .bool false, .bool false, .bool false] 40))
            have hRow := setRow_heap (wx.alloc (.cells #[.int .i64 0, .int .i64 0, .int .i64 0, .int .u64 0, .int .i64 0, .int .u64 0, .bool false, .bool false, .bool false, .bool false, .bool false, .bool false, .bool false, .bool false, .int .u64 0, .bool false, .bool false, .bool false, .bool false, .bool false, .bool false, .bool false, .bool false, .bool false] 40)) wx.heap.size _ #[.int .i64 d.kind, .int .i64 d.sp, .int .i64 d.n, .int .u64 d.p.va, .int .i64 d.p.sz, .int .u64 d.p.pa, .bool d.p.att.write, .bool d.p.att.priv, .bool d.p.att.exec, .bool d.p.att.lock, .bool d.p.att.global, .bool d.p.att.quiet, .bool d.p.ref, .bool d.p.mod, .int .u64 d.va, .bool d.att.write, .bool d.att.priv, .bool d.att.exec, .bool d.att.lock, .bool d.att.global, .bool d.att.quiet, .bool d.mod, .bool d.raw, .bool d.near] 40 (0, 0) hZ.out
            have bS := below_setRow ((Below.refl wx.heap.size wx).alloc (Nat.le_refl _) (.cells #[.int .i64 0, .int .i64 0, .int .i64 0, .int .u64 0, .int .i64 0, .int .u64 0, .bool false, .bool false, .bool false, .bool false, .bool false, .bool false, .bool false, .bool false, .int .u64 0, .bool false, .bool false, .bool false, .bool false, .bool false, .bool false, .bool false, .bool false, .bool false] 40)) (Nat.le_refl _) #[.int .i64 d.kind, .int .i64 d.sp, .int .i64 d.n, .int .u64 d.p.va, .int .i64 d.p.sz, .int .u64 d.p.pa, .bool d.p.att.write, .bool d.p.att.priv, .bool d.p.att.exec, .bool d.p.att.lock, .bool d.p.att.global, .bool d.p.att.quiet, .bool d.p.ref, .bool d.p.mod, .int .u64 d.va, .bool d.att.write, .bool d.att.priv, .bool d.att.exec, .bool d.att.lock, .bool d.att.global, .bool d.att.quiet, .bool d.mod, .bool d.raw, .bool d.near]
            have HP := Lib.hid (And.intro P (And.intro ra rp))
            have HAB := Lib.hid (And.intro hA hB)
            clear P ra rp hA hB hj1 hdr
            go_upto_region 21 with (first | (refine wpList_load_mid rfl 40 (.tmp 74) rfl ib (off + j * 24) rfl [.int .i64 d.kind, .int .i64 d.sp, .int .i64 d.n, .int .u64 d.p.va, .int .i64 d.p.sz, .int .u64 d.p.pa, .bool d.p.att.write, .bool d.p.att.priv, .bool d.p.att.exec, .bool d.p.att.lock, .bool d.p.att.global, .bool d.p.att.quiet, .bool d.p.ref, .bool d.p.mod, .int .u64 d.va, .bool d.att.write, .bool d.att.priv, .bool d.att.exec, .bool d.att.lock, .bool d.att.global, .bool d.att.quiet, .bool d.mod, .bool d.raw, .bool d.near] _ hdx.out Tryz.underlying40 rfl (by kernel_rfl) ?_) | (refine wpList_store_row rfl 40 (.tmp 15) (.tmp 75) rfl wx.heap.size #[.int .i64 d.kind, .int .i64 d.sp, .int .i64 d.n, .int .u64 d.p.va, .int .i64 d.p.sz, .int .u64 d.p.pa, .bool d.p.att.write, .bool d.p.att.priv, .bool d.p.att.exec, .bool d.p.att.lock, .bool d.p.att.global, .bool d.p.att.quiet, .bool d.p.ref, .bool d.p.mod, .int .u64 d.va, .bool d.att.write, .bool d.att.priv, .bool d.att.exec, .bool d.att.lock, .bool d.att.global, .bool d.att.quiet, .bool d.mod, .bool d.raw, .bool d.near] rfl rfl 40 _ hZ.out (by kernel_rfl) rfl (by kernel_rfl) ?_))
            clear hZ hdx
            generalize World.setRow _ _ _ = WS at hRow bS ⊢
            obtain ⟨e, he⟩ : ∃ e : Hp.DeedV, e = { d with sp := sp } := ⟨_, rfl⟩
            have hew : e.wf := by rw [he]; exact ⟨hdw.k0, hdw.k1, by show _ ≤ sp; omega, by show sp ≤ _; omega, hdw.n0, hdw.n1, hdw.p, hdw.v0, hdw.v1⟩
            have hes := Lib.hid (show e.sp = sp by rw [he])
            have hR2 : (WS.setCell ⟨wx.heap.size, 1, none⟩ (.int .i64 sp)).heap[wx.heap.size]? = some (.cells #[.int .i64 e.kind, .int .i64 e.sp, .int .i64 e.n, .int .u64 e.p.va, .int .i64 e.p.sz, .int .u64 e.p.pa, .bool e.p.att.write, .bool e.p.att.priv, .bool e.p.att.exec, .bool e.p.att.lock, .bool e.p.att.global, .bool e.p.att.quiet, .bool e.p.ref, .bool e.p.mod, .int .u64 e.va, .bool e.att.write, .bool e.att.priv, .bool e.att.exec, .bool e.att.lock, .bool e.att.global, .bool e.att.quiet, .bool e.mod, .bool e.raw, .bool e.near] 40 (0, 0)) := by
              have r := set_row hRow 1 (.int .i64 sp)
              simp only [List.setIfInBounds_toArray, List.set_cons_succ, List.set_cons_zero] at r
              rw [he]; exact r
            have bT : Below wx.heap.size wx (WS.setCell ⟨wx.heap.size, 1, none⟩ (.int .i64 sp)) := bS.setCell (p := ⟨wx.heap.size, 1, none⟩) (Nat.le_refl _) _
            have dc1 : WS.cell? ⟨wx.heap.size, 1, none⟩ = some (.int .i64 d.sp) := by simp [World.cell?, hRow]
            have df : ∀ i, WS.frozen? ⟨wx.heap.size, i, none⟩ = false := fun i => by simp [World.frozen?, hRow]
            have HR2 := Lib.hid (And.intro hR2 bT)
            clear hRow bS hR2 bT he hdw
            go_upto_region 22 with fail
            generalize World.setCell WS _ _ = WT at HR2 ⊢
            clear dc1 df
            have PT := HP.out.1.low HR2.out.2
            have HRR := Lib.hid (And.intro (row_low HP.out.2.1 HR2.out.2) (row_low HP.out.2.2 HR2.out.2))
            obtain ⟨x0, x1, x2, x3⟩ := PT.cs
            have CDo := Lib.hid (Hp.does_any e hew PT.ky PT.dh PT.ht)
            have HPT := Lib.hid PT
            clear PT HP hew
            go_wp2_with (refine wpList_load_row rfl 40 (.tmp 15) rfl wx.heap.size rfl 40 #[.int .i64 e.kind, .int .i64 e.sp, .int .i64 e.n, .int .u64 e.p.va, .int .i64 e.p.sz, .int .u64 e.p.pa, .bool e.p.att.write, .bool e.p.att.priv, .bool e.p.att.exec, .bool e.p.att.lock, .bool e.p.att.global, .bool e.p.att.quiet, .bool e.p.ref, .bool e.p.mod, .int .u64 e.va, .bool e.att.write, .bool e.att.priv, .bool e.att.exec, .bool e.att.lock, .bool e.att.global, .bool e.att.quiet, .bool e.mod, .bool e.raw, .bool e.near] (0, 0) _ HR2.out.1 Tryz.underlying40 rfl (by kernel_rfl) ?_)
            refine CDo.out.mono ?_; rintro e' w2 ⟨n', L', v', l', t', LT', U', rfl, K2, D2, T2, kp2, hot⟩
            obtain ⟨⟨ao5, cp5, rfl⟩, g5, cp6, rfl⟩ := D2.shape
            have bx2 := (kp2.1 rb HPT.out.gb).trans HPT.out.bx
            have ra2 := own_same HRR.out.1 (w' := w2) (fun g hg => kp2.1 g (.inl (.inr hg)))
            have rp2 := own_same HRR.out.2 (w' := w2) (fun g hg => kp2.1 g (.inr hg))
            have bA : Below w2.heap.size w2 (w2.alloc (.cells #[.int .i64 3, .slice ao5 l'.length cp5, .int .i64 20, .slice (some ⟨g5, 0, none⟩) n' cp6] 30)) := (Below.refl _ _).alloc (Nat.le_refl _) _
            have rA := heap_alloc_new w2 (.cells #[.int .i64 3, .slice ao5 l'.length cp5, .int .i64 20, .slice (some ⟨g5, 0, none⟩) n' cp6] 30)
            have hd1 := (dp_same HPT.out.ht T2 hot (by rw [hes.out]; exact hne1)).symm
            have hd2 := (dp_same HPT.out.ht T2 hot (by rw [hes.out]; exact hne2)).symm
            have HM := Lib.hid (PM.mk (w := w) (rb := rb) (nb := w2.heap.size) (G := fun k => (k = rb ∨ (Value.slice oa A.length oc).ownBlock = some k) ∨ (Value.slice pa B.length pc).ownBlock = some k) (K2.below bA) (D2.low bA) T2 (blk_low bx2 bA) rA HPT.out.gb HPT.out.lo)
            have HRR := Lib.hid (And.intro (row_low ra2 bA) (row_low rp2 bA))
            have HAB := Lib.hid (show A = dpgs l' s1' ∧ B = dpgs l' s2' from ⟨HAB.out.1.trans hd1, HAB.out.2.trans hd2⟩)
            clear CDo K2 D2 T2 kp2 hot HPT bx2 ra2 rp2 bA rA hd1 hd2 HR2 x0 x1 x2 x3 hes
            go_upto_region 23 with fail
            generalize w2.alloc _ = w3 at HM HRR ⊢
            generalize w2.heap.size = nb at *
            obtain ⟨m0, m1, m2, m3, _⟩ := four_H HM.out.nx
            obtain ⟨r0, r1, r2, r3, rf⟩ := four_H HM.out.bx
            have HC := Lib.hid HM.out.copy
            have HR9 := Lib.hid (And.intro (own_rb HRR.out.1 HM.out.bx (fun k hk => after4 (rb := rb) (.int .i64 3) (.slice ao5 l'.length cp5) (.int .i64 20) (.slice (some ⟨g5, 0, none⟩) n' cp6) hk)) (own_rb HRR.out.2 HM.out.bx (fun k hk => after4 (rb := rb) (.int .i64 3) (.slice ao5 l'.length cp5) (.int .i64 20) (.slice (some ⟨g5, 0, none⟩) n' cp6) hk)))
            clear HM HRR
            go_wp2_with fail
            go_roundw
            case rel => exact ⟨_, j + 1, _, _, _, _, _, _, _, rfl, by go_num, by omega, by omega, HC.out, HR9.out.1, HR9.out.2, HAB.out.1, HAB.out.2⟩
            case measure => (simp [RowKit.intOf] <;> omega)
          · by_cases hj3 : j = len1
            · subst hj3
              go_wp2_with fail
              go_meet
              exact ⟨_, _, _, _, _, _, _, P, ra, rp, hA, hB⟩
            · obtain rfl : j = 10 := by omega
              have hl : (10 : Int) < (len1 : Int) := by omega
              go_wp2_with fail
              go_meet
              exact ⟨_, _, _, _, _, _, _, P, ra, rp, hA, hB⟩
      case rest =>
        clear P6 ra rp HHA HHB
        obtain ⟨n, L, v, l, t, LT, U, P, ra, rp, hA, hB⟩ := hcut
        have CP1 := P.ky.pages P.ht s1'
        rw [← hA] at CP1
        have CP1 := Lib.hid CP1
        have HP := Lib.hid (And.intro P (And.intro ra rp))
        have hwB := Lib.hid hB
        clear P ra rp hA hB
        go_wp2_with fail
        refine CP1.out.mono ?_; rintro e w7 ⟨o, rfl, ho, hb7⟩
        obtain ⟨xa, xc, rfl⟩ := own_shape3 ho
        have CS := Lib.hid (dsame_any w7 ho (row_low HP.out.2.1 hb7) hAl)
        rw [(same_iff A A).2 rfl] at CS
        have P7 := HP.out.1.low hb7
        have rp7 := row_low HP.out.2.2 hb7
        clear CP1 HP ho hb7
        have HP := Lib.hid (And.intro P7 rp7)
        clear P7 rp7
        go_wp2_with fail
        refine CS.out.mono ?_; rintro e w8 ⟨rfl, hb8⟩
        have P8 := HP.out.1.low hb8
        have rp8 := row_low HP.out.2 hb8
        clear CS HP hb8
        have CP2 := P8.ky.pages P8.ht s2'
        rw [← hwB.out] at CP2
        have CP2 := Lib.hid CP2
        have HP := Lib.hid (And.intro P8 rp8)
        clear P8 rp8
        go_wp2_with fail
        refine CP2.out.mono ?_; rintro e w9 ⟨o, rfl, ho, hb9⟩
        obtain ⟨ya, yc, rfl⟩ := own_shape3 ho
        have CS := Lib.hid (dsame_any w9 ho (row_low HP.out.2 hb9) hBl)
        rw [(same_iff B B).2 rfl] at CS
        have P9 := Lib.hid (HP.out.1.low hb9)
        clear CP2 HP ho hb9
        go_wp2_with fail
        refine CS.out.mono ?_; rintro e w10 ⟨rfl, hb10⟩
        have P10 := Lib.hid (P9.out.low hb10)
        clear CS P9 hb10
        go_wp2_with fail
        refine (CL.out _).mono ?_; rintro e w11 ⟨rfl, hbz⟩
        go_wp2_with fail
        go_ret
        exact ⟨rfl, lo_step P10.out.ky.low hbz⟩

/-! ### The row -/
set_option maxRecDepth 100000 in
theorem lifted (os : Os) (started : os.Started) (H : Type) (enc : TypeId × Value → H) :
    ReturnsInHanded {} Tryz.checked os 4 .any (Rows.hatApartSpec.pre6 enc Tryz.prog Tryz.f4 Rows.hatApartRow.domain false) (Rows.hatApartSpec.post enc Tryz.prog Tryz.f4 false true false false) := by
  refine returnsInHanded_of_change (C := Tryz.checked) own started (by kernel_rfl) Tryz.func4
    (ChangeSpec.witness6 (enc := enc) (C := Tryz.checked) false ⟨#[], #[.slice none 0 0, .slice none 0 0, .int .i64 0], []⟩ 8 (by kernel_rfl) (by kernel_rfl) (by kernel_rfl) (by kernel_rfl)) ?_
  intro W base args ds gs before hval0 hW hcnd _
  have hval : ∀ (j : Nat) t v, Tryz.f4.params[j]? = some t → args[j]? = some v → Value.okWide Tryz.prog W .any base t v := hval0
  have hW' := hW
  obtain ⟨p, q, hA0, hV, rfl, hfz, hnd⟩ := hW
  have hA : DataW.TrodAll enc Tryz.prog W 0 (fun _ => true) true Tryz.f4.params.toList args.toList ds p := hA0
  rw [Tryz.params4] at hA hval
  obtain ⟨v0, vs0, d0, ds0, p0, q0, hargs, rfl, rfl, h0, r0⟩ := trodAll_cons hA
  obtain ⟨v1, vs1, d1, ds1, p1, q1, rfl, rfl, rfl, h1, r1⟩ := trodAll_cons r0
  obtain ⟨v2, vs2, d2, ds2, p2, q2, rfl, rfl, rfl, h2, r2⟩ := trodAll_cons r1
  obtain ⟨rfl, rfl, rfl⟩ := trodAll_nil r2
  obtain rfl : args = #[v0, v1, v2] := by cases args; simp_all
  obtain ⟨rfl, rfl⟩ := trodVars_none hV
  obtain ⟨s0, len0, cap0, rfl⟩ := okWide_slice Tryz.underlying22 (hval 0 22 v0 rfl rfl)
  have k0 := h0
  have lt0 : ∀ x ∈ p0, x.block < W.heap.size := by obtain ⟨m, hm⟩ := k0; exact DataW.trod_lt m _ _ _ hm
  have w0 : Hp.IsDeeds W s0 len0 cap0 := by
    obtain ⟨fuel, hf⟩ := h0
    exact Hp.open_deeds hf
  obtain ⟨s1, len1, cap1, rfl⟩ := okWide_slice Tryz.underlying22 (hval 1 22 v1 rfl rfl)
  have k1 := h1
  have lt1 : ∀ x ∈ p1, x.block < W.heap.size := by obtain ⟨m, hm⟩ := k1; exact DataW.trod_lt m _ _ _ hm
  have w1 : Hp.IsDeeds W s1 len1 cap1 := by
    obtain ⟨fuel, hf⟩ := h1
    exact Hp.open_deeds hf
  obtain ⟨a2, rfl, rfl, rfl, w2⟩ := open_int Tryz.underlying3 (hval 2 3 v2 rfl rfl) h2
  clear hA0 hval0
  simp only [List.append_nil] at hW'
  refine (walk W s0 len0 cap0 w0 s1 len1 cap1 w1 a2 w2).mono fun e W' ⟨he, hg⟩ => ?_
  subst he
  exact ⟨_, rfl, _, _, _, [], _, [], hW', trodAll_mk1 (shut_bool Tryz.underlying4 _), (trodAll_cons_mk (Below.trod Hp.laidOut (by kernel_rfl) (of_decide_eq_true (by kernel_rfl)) k0 hg lt0) (trodAll_cons_mk (Below.trod Hp.laidOut (by kernel_rfl) (of_decide_eq_true (by kernel_rfl)) k1 hg lt1) (trodAll_cons_mk (shut_int Tryz.underlying3 w2) trodAll_mk0))), rfl, hg.frame _, fun h => by cases h⟩

theorem over : Rows.hatApartRow.holds Tryz.pinned (OpenSpec.ofChange Rows.hatApartSpec) :=
  OpenClaim.holds_of_wide 4 Tryz.f4 rfl rfl rfl rfl rfl rfl rfl ⟨rfl, rfl, rfl, rfl, rfl⟩ rfl rfl rfl rfl rfl (by kernel_rfl) Tryz.func4 (by kernel_rfl)
    (of_decide_eq_true (by kernel_rfl)) (by unfold Func.isWrapper; first | (rw [if_pos (by decide +kernel)]; kernel_rfl) | (rw [if_neg (by decide +kernel)]; exact ⟨rfl, rfl⟩))
    (fun os started H enc _ => lifted os started H enc)

theorem proved : Rows.HatApartSaid :=
  over
#print axioms proved
end Go.Proofs.YtffpfceclhogoaaGreat.hatApart
