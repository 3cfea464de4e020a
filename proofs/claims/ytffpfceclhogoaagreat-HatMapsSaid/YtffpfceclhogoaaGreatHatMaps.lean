/-
  HatMaps: for any deeds, any page and any space the law returns true, and its arguments read as before. Conditions: none.
-/
import Derived.Test.YtffpfceclhogoaaGreatRows
import Derived.WalkKit
import Derived.ProofKit
import Derived.OpenShut
import Derived.Test.YtffpfceclhogoaaGreatGW
import Derived.Deep.CutBlock
import Derived.Deep.DeepCutAuto
import Derived.Deep.RegionHeld3
import Derived.Test.YtffpfceclhogoaaGreatGQ
namespace Go.Proofs.YtffpfceclhogoaaGreat.hatMaps
open Fld Hs Hp
open Go.ChangeShapes Go.WideShapes Go.ChangeAt Go.RowKit Go.Deep Go.Maps
set_option linter.unusedVariables false

theorem own : ownKnob Tryz.prog.godebug = none := by kernel_rfl

theorem deeds_low {w w' : World} {a : Option Addr} {len cap : Nat} (h : Hp.IsDeeds w a len cap) (b : Below w.heap.size w w') : Hp.IsDeeds w' a len cap := by
  rcases h with h | ⟨x, h0, h1, h2, h3⟩
  · exact .inl h
  · refine .inr ⟨x, h0, h1, h2, fun i hi => ?_⟩
    obtain ⟨d, hd, hc⟩ := h3 i hi
    exact ⟨d, hd, fun k v hv => (World.cell?_of_block (b.block _ (World.block_lt_of_cell? w _ (hc k v hv)))).trans (hc k v hv)⟩
theorem base_in {q : Pg} (h : Val q) {r : Int} (r0 : 0 ≤ r) (r1 : r < bytesI q.sz) : baseI (q.va + r) q.sz = q.va := by
  have ha := h.a
  have hb := bytes_pos h.z
  unfold baseI
  rw [h.z, if_pos rfl]
  generalize bytesI q.sz = b at *
  have h1 := Int.mul_ediv_add_emod q.va b
  rw [ha, Int.add_zero] at h1
  rw [← h1, Int.add_comm, Int.add_mul_ediv_left _ _ (by omega), Int.ediv_eq_zero_of_lt r0 r1, Int.zero_add, Int.mul_comm]
theorem look_le {n : Nat} {LT : Nat → List Hs.Bk} (hn : 1 ≤ n) (s va : Int) : ∀ z : Nat, 0 ≤ dlookN n LT s va z ∧ dlookN n LT s va z ≤ (z : Int) * (Hs.lngL LT n : Int)
  | 0 => by simp [dlookN]
  | z + 1 => by
    have ih := look_le (LT := LT) hn s va z
    have h := hgetN_bd n LT hn (kz s va z)
    have e : ((z + 1 : Nat) : Int) * (Hs.lngL LT n : Int) = (z : Int) * (Hs.lngL LT n : Int) + (Hs.lngL LT n : Int) := by rw [Int.natCast_add, Int.add_mul]; simp
    rw [e]
    show 0 ≤ dlookN n LT s va z + _ ∧ dlookN n LT s va z + _ ≤ _
    omega
theorem look_four {n : Nat} {LT : Nat → List Hs.Bk} (hn : 1 ≤ n) (s va : Int) (z : Nat) (hz : z ≤ 4) : 0 ≤ dlookN n LT s va z ∧ dlookN n LT s va z ≤ 4 * (Hs.lngL LT n : Int) := by
  have h := look_le (LT := LT) hn s va z
  have : (z : Int) * (Hs.lngL LT n : Int) ≤ 4 * (Hs.lngL LT n : Int) := Int.mul_le_mul_of_nonneg_right (by omega) (by omega)
  omega
theorem find_len {ns bl : Int} {n : Nat} {L : Nat → List Hp.Bk} {l : List SPg} {LT : Nat → List Hs.Bk} (T : HT ns bl n L l LT) (s va : Int) : 0 ≤ Hp.findN ns n L s va ∧ Hp.findN ns n L s va ≤ 4 * (Hp.lngL L n : Int) := by
  rw [T.findN, ← T.lng]
  unfold dfN
  split
  · split
    · rename_i hp
      have hz := (T.val _ (sat_mem hp)).z
      refine look_four T.n1 s va _ ?_
      unfold sizeB at hz; simp at hz; omega
    · exact look_four T.n1 s va 4 (Nat.le_refl _)
  · constructor <;> omega
theorem find_at {ns bl : Int} {n : Nat} {L : Nat → List Hp.Bk} {l : List SPg} {LT : Nat → List Hs.Bk} (T : HT ns bl n L l LT) {s va : Int} {x : SPg} (hx : x ∈ l) (hi : isAt s va x = true) : Hp.findV ns n L s va = x.p ∧ Hp.findB ns n L s va = true := by
  have hs := (isAt_iff.1 hi).1
  have hb := T.sp x hx
  have hB : isB ns s = true := by unfold isB; rw [← hs]; simp; omega
  have hp := pos_iff.2 ⟨x, hx, hi⟩
  have hd : dfB ns l s va = true := by unfold dfB; rw [hB]; simp [hp]
  refine ⟨?_, by rw [T.findB, hd]⟩
  rw [T.findV]; unfold dfV; rw [hd, if_pos rfl, T.at hx hi]
theorem vaI_hole (x : Int) : Fld.holeB (vaI x) = false := by
  unfold Fld.holeB vaI; rw [decide_eq_false_iff_not]; split <;> omega
theorem good_hole (x z : Int) (hz : sizeB z = true) : Fld.holeB (baseI (vaI x) z) = false := by
  have h1 : ¬ (8796093022208 ≤ vaI x ∧ vaI x < 18446735277616529408) := by have := vaI_hole x; simpa only [Fld.holeB, decide_eq_false_iff_not] using this
  have h2 := vaI_bd x
  have hs : 0 ≤ z ∧ z ≤ 3 := by simpa [sizeB] using hz
  unfold Fld.holeB baseI
  rw [hz, if_pos rfl, decide_eq_false_iff_not]
  generalize vaI x = v at *
  unfold bytesI
  rcases (show z = 0 ∨ z = 1 ∨ z = 2 ∨ z = 3 by omega) with rfl | rfl | rfl | rfl <;> simp <;> omega
theorem may_good {l : List SPg} {s : Int} (hs : isB 3 s = true) (p : Pg) : dmayE 3 20 l s (goodP p) = 0 ∨ dmayE 3 20 l s (goodP p) = 9 ∨ dmayE 3 20 l s (goodP p) = 6 := by
  have hV := goodP_val p
  have hp : (goodP p).pa < 2199023255552 := by
    have := base_bd (p.pa % 2199023255552) (nrm p.sz 4) (by omega) (by omega)
    show baseI (p.pa % 2199023255552) (nrm p.sz 4) < _
    omega
  have hz : sizeB (nrm p.sz 4) = true := hV.z
  have hq : (goodP p).pa % bytesI (goodP p).sz = 0 := by
    show baseI (p.pa % 2199023255552) (nrm p.sz 4) % bytesI (nrm p.sz 4) = 0
    unfold baseI; rw [hz, if_pos rfl]; exact Int.mul_emod_left _ _
  have hh : Fld.holeB (goodP p).va = false := good_hole p.va (nrm p.sz 4) hz
  have e : dmayE 3 20 l s (goodP p) = if dmeetB l s (goodP p) = true then 9 else if (20 : Int) ≤ (l.length : Int) then 6 else 0 := by
    unfold dmayE
    rw [hs, hV.z, decide_eq_true hp, hq, hh, hV.a]
    rfl
  rw [e]
  split
  · exact .inr (.inl rfl)
  · split
    · exact .inr (.inr rfl)
    · exact .inl rfl
theorem may_again {l : List SPg} {s : Int} {p : Pg} (hw : p.wf) (h : dmayE 3 20 l s p = 0) : dmayE 3 20 (l ++ [⟨s, p⟩]) s p = 9 := by
  obtain ⟨a, V, _, _, b, c, d⟩ := may_zero hw h
  have hm : dmeetB (l ++ [⟨s, p⟩]) s p = true := meetS_iff.2 ⟨⟨s, p⟩, by simp, rfl, self_meet V⟩
  unfold dmayE
  rw [a, V.z, decide_eq_true b, c, d, V.a, hm]
  rfl
theorem dp_app (l : List SPg) (s : Int) (p : Pg) : (dpgs (l ++ [⟨s, p⟩]) s).length = (dpgs l s).length + 1 := by
  unfold dpgs
  rw [List.foldl_append]
  show (stpP s _ _).length = _
  unfold stpP
  rw [if_pos rfl]
  exact insP_len _ _
/-! ### The walk -/
set_option maxHeartbeats 8000000 in
set_option maxRecDepth 100000 in
theorem walk (w : World) (s0 : Option Addr) (len0 cap0 : Nat) (w0 : Hp.IsDeeds w s0 len0 cap0) (E1 : Pg) (l1 : E1.lits) (a2 : Int) (w2 : (Lit.int .i64 a2).wf = true) :
    Calls Tryz.prog 8 #[.slice s0 len0 cap0, .agg #[.int .u64 E1.va, .int .i64 E1.sz, .int .u64 E1.pa, .bool E1.att.write, .bool E1.att.priv, .bool E1.att.exec, .bool E1.att.lock, .bool E1.att.global, .bool E1.att.quiet, .bool E1.ref, .bool E1.mod], .int .i64 a2] w fun e w' => e = .returned (.bool true) ∧ Below w.heap.size w w' := by
  have wk0 := w0
  obtain ⟨a0, a1⟩ := bounds_i64 w2
  have hp := Pg.lits_wf l1
  have CN := Lib.hid (fun w => hnew_any 3 20 4 (by decide) (by decide) (by decide) (by decide) (by decide) (by decide) w)
  have CD := Lib.hid (fun w => dnew_any 3 20 4 (by decide) w)
  rw [show min (max (3 : Int) 0) 64 = 3 from by decide, show max (20 : Int) 0 = 20 from by decide] at CD
  have CL := Lib.hid (fun w => klives_any w)
  have CG := Lib.hid (fun w => dgood_any E1 hp w)
  have hgV := goodP_val E1
  have hmg := Lib.hid (fun (l : List SPg) (s : Int) (hs : isB 3 s = true) => may_good (l := l) hs E1)
  obtain ⟨g, hg⟩ : ∃ g, g = goodP E1 := ⟨_, rfl⟩
  rw [← hg] at CG hgV hmg
  have bWB : Below w.heap.size w (w.alloc (.cells #[.int .u64 E1.va, .int .i64 E1.sz, .int .u64 E1.pa, .bool E1.att.write, .bool E1.att.priv, .bool E1.att.exec, .bool E1.att.lock, .bool E1.att.global, .bool E1.att.quiet, .bool E1.ref, .bool E1.mod] 38)) := (Below.refl _ _).alloc (Nat.le_refl _) _
  have PE := RowP.new w E1
  have wk := deeds_low wk0 bWB
  clear w0 w2 l1 hp hg wk0
  go_enter Tryz.func8, Tryz.ntmps8
  go_wp2_with fail
  generalize w.alloc _ = WB at *
  generalize w.heap.size = eb at PE ⊢
  refine (CN.out _).mono ?_; rintro e w1 ⟨hb, sb, rfl, hN⟩
  have hN : NewHat WB w1 hb sb 4 3 20 := hN
  clear CN
  go_wp2_with fail
  refine (CD.out _).mono ?_; rintro e w2 ⟨s2, U0, rfl, hD, hb2⟩
  have hD : DH w2 (.slice none 0 0) [] s2 4 (fun _ => []) U0 := hD
  obtain ⟨_, g0, cp0, rfl⟩ := hD.shape
  have P0 := PL.begin hN hb2 hD (by decide) (by decide) (by decide)
  clear CD hN hb2 hD
  go_upto_block 0 with fail
  generalize World.alloc w2 _ = w3 at *
  generalize w2.heap.size = rb at *
  go_cut [] (fun wx => ∃ (n : Nat) (L : Nat → List Hp.Bk) (v : Value) (l : List SPg) (t : Value) (LT : Nat → List Hs.Bk) (U : Nat → Value), PL WB wx hb sb 3 20 n L (fun k => k = rb) v l t LT U rb)
  case first =>
    go_wp2_with fail
    go_loopw [9] (fun i wr => ∃ (wx : World) (j n : Nat) (L : Nat → List Hp.Bk) (v : Value) (l : List SPg) (t : Value) (LT : Nat → List Hs.Bk) (U : Nat → Value), wx = wr ∧ i = .int .i64 (j : Int) ∧ j ≤ len0 ∧ j ≤ 20 ∧ PL WB wx hb sb 3 20 n L (fun k => k = rb) v l t LT U rb) (fun i _ => len0 - (RowKit.intOf i).toNat)
    case atStart => exact ⟨_, 0, _, _, _, _, _, _, _, rfl, rfl, Nat.zero_le _, Nat.zero_le _, P0⟩
    case round =>
      clear P0
      obtain ⟨wx, j, n, L, v, l, t, LT, U, rfl, rfl, hj, hj2, P⟩ := hrel
      obtain ⟨⟨ao, cap, rfl⟩, g2, cap2, rfl⟩ := P.dh.shape
      by_cases hj1 : j < len0 ∧ j < 20
      · obtain ⟨ib, off, d, rfl, hlc, hcm, hdw, hdr⟩ := deed_at wk j hj1.1
        unfold maxLen at hcm
        have HP := Lib.hid P
        have h1' : (j : Int) < (len0 : Int) := by omega
        have h2' : (j : Int) < 20 := by omega
        have h3' : (0 : Int) ≤ (j : Int) := by omega
        clear P hj1
        go_upto_region 8 with fail
        go_cut [10, 11] (fun a b wx => ∃ nb n' L' v' l' t' LT' U', a = .pointer (some ⟨nb, 0, none⟩) ∧ b = .bool true ∧ PM WB wx hb sb 3 20 n' L' (fun k => k = rb) v' l' t' LT' U' rb nb (.int .i64 3) (.slice ao l.length cap) (.int .i64 20) (.slice (some ⟨g2, 0, none⟩) n cap2) ∧ ∀ x : SPg, x.sp ≠ d.sp → (x ∈ l' ↔ x ∈ l))
        case first =>
          have HP1 := Lib.hid (HP.out.low (Below.refl _ _).drew)
          have hS : _ ∧ _ := ⟨HP1.out.bx, range_low hdr HP1.out.ky.low⟩
          clear HP
          refine wp_region_held_drew (S := fun wS => wS.heap[rb]? = some (.cells #[.int .i64 3, .slice ao l.length cap, .int .i64 20, .slice (some ⟨g2, 0, none⟩) n cap2] 30 (0, 0)) ∧ wS.rangeAt ib (off + j * 24) [.int .i64 d.kind, .int .i64 d.sp, .int .i64 d.n, .int .u64 d.p.va, .int .i64 d.p.sz, .int .u64 d.p.pa, .bool d.p.att.write, .bool d.p.att.priv, .bool d.p.att.exec, .bool d.p.att.lock, .bool d.p.att.global, .bool d.p.att.quiet, .bool d.p.ref, .bool d.p.mod, .int .u64 d.va, .bool d.att.write, .bool d.att.priv, .bool d.att.exec, .bool d.att.lock, .bool d.att.global, .bool d.att.quiet, .bool d.mod, .bool d.raw, .bool d.near]) (by kernel_rfl) hS (fun hHeld => ?_)
          clear hS
          generalize World.drew wx = W1 at HP1 hHeld ⊢
          refine wpAnyH_take (i := 0) (v := ?vt1) rfl (by kernel_rfl) (by kernel_rfl) (by kernel_rfl) (fun _ _ _ h => h) (Or.inl ⟨by rfl, ?ht1⟩) (by assumption) ?rt1
          case ht1 => (intro wS hSw; (try dsimp only at hSw); (try clear hSw); go_simp <;> (with_reducible rfl))
          (try simp only [Act.put, List.setIfInBounds_toArray, List.set_cons_zero, List.set_cons_succ, List.getElem_toArray, List.getElem_cons_zero])
          refine wpAnyH_take (i := 1) (v := ?vt2) rfl (by kernel_rfl) (by kernel_rfl) (by kernel_rfl) (fun _ _ _ h => h) (Or.inl ⟨by rfl, ?ht2⟩) (by assumption) ?rt2
          case ht2 => (intro wS hSw; (try dsimp only at hSw); obtain ⟨x0, x1, x2, x3, _⟩ := four_H hSw.1; (try clear hSw); go_simp <;> (with_reducible rfl))
          (try simp only [Act.put, List.setIfInBounds_toArray, List.set_cons_zero, List.set_cons_succ, List.getElem_toArray, List.getElem_cons_zero, List.getElem_cons_succ])
          refine wpAnyH_take (i := 2) (v := ?vt3) rfl (by kernel_rfl) (by kernel_rfl) (by kernel_rfl) (fun _ _ _ h => h) (Or.inl ⟨by rfl, ?ht3⟩) (by assumption) ?rt3
          case ht3 => (intro wS hSw; (try dsimp only at hSw); (try clear hSw); go_simp <;> (with_reducible rfl))
          (try simp only [Act.put, List.setIfInBounds_toArray, List.set_cons_zero, List.set_cons_succ, List.getElem_toArray, List.getElem_cons_zero, List.getElem_cons_succ])
          refine wpAnyH_take (i := 3) (v := ?vt4) rfl (by kernel_rfl) (by kernel_rfl) (by kernel_rfl) (fun _ _ _ h => h) (Or.inl ⟨by rfl, ?ht4⟩) (by assumption) ?rt4
          case ht4 => (intro wS hSw; (try dsimp only at hSw); (try clear hSw); go_simp <;> (with_reducible rfl))
          (try simp only [Act.put, List.setIfInBounds_toArray, List.set_cons_zero, List.set_cons_succ, List.getElem_toArray, List.getElem_cons_zero, List.getElem_cons_succ])
          refine wpAnyH_take (i := 4) (v := ?vt5) rfl (by kernel_rfl) (by kernel_rfl) (by kernel_rfl) (fun _ _ _ h => h) (Or.inl ⟨by rfl, ?ht5⟩) (by assumption) ?rt5
          case ht5 => (intro wS hSw; (try dsimp only at hSw); (try clear hSw); go_simp <;> (with_reducible rfl))
          (try simp only [Act.put, List.setIfInBounds_toArray, List.set_cons_zero, List.set_cons_succ, List.getElem_toArray, List.getElem_cons_zero, List.getElem_cons_succ])
          refine wpAnyH_take (i := 5) (v := .agg #[.int .i64 d.kind, .int .i64 d.sp, .int .i64 d.n, .int .u64 d.p.va, .int .i64 d.p.sz, .int .u64 d.p.pa, .bool d.p.att.write, .bool d.p.att.priv, .bool d.p.att.exec, .bool d.p.att.lock, .bool d.p.att.global, .bool d.p.att.quiet, .bool d.p.ref, .bool d.p.mod, .int .u64 d.va, .bool d.att.write, .bool d.att.priv, .bool d.att.exec, .bool d.att.lock, .bool d.att.global, .bool d.att.quiet, .bool d.mod, .bool d.raw, .bool d.near]) rfl (by kernel_rfl) (by kernel_rfl) (by kernel_rfl) (fun _ _ _ h => h) (yieldsIf_load_mid (by rfl) 40 (.tmp 38) rfl ib (off + j * 24) rfl [.int .i64 d.kind, .int .i64 d.sp, .int .i64 d.n, .int .u64 d.p.va, .int .i64 d.p.sz, .int .u64 d.p.pa, .bool d.p.att.write, .bool d.p.att.priv, .bool d.p.att.exec, .bool d.p.att.lock, .bool d.p.att.global, .bool d.p.att.quiet, .bool d.p.ref, .bool d.p.mod, .int .u64 d.va, .bool d.att.write, .bool d.att.priv, .bool d.att.exec, .bool d.att.lock, .bool d.att.global, .bool d.att.quiet, .bool d.mod, .bool d.raw, .bool d.near] _ (fun w hS => hS.2) Tryz.underlying40 rfl (by kernel_rfl)) (by assumption) ?_
          (try simp only [Act.put, List.setIfInBounds_toArray, List.set_cons_zero, List.set_cons_succ, List.getElem_toArray, List.getElem_cons_zero, List.getElem_cons_succ])
          refine wpAnyH_ready (rs := [6, 10]) (by kernel_rfl) (by simp) ?_
          refine AllReadyH.cons rfl (fun K hK => ?_) ?_
          · go_simp
            refine (Hp.does_any d hdw HP1.out.ky HP1.out.dh HP1.out.ht).mono ?_; rintro r w2 ⟨n', L', v', l', t', LT', U', rfl, K2, D2, T2, kp2, hot⟩
            obtain ⟨⟨ao5, cp5, rfl⟩, g5, cp6, rfl⟩ := D2.shape
            have bx2 := (kp2.1 rb HP1.out.gb).trans HP1.out.bx
            have HH := Lib.hid (And.intro K2 (And.intro D2 (And.intro T2 hot)))
            clear K2 D2 T2 kp2 hot
            refine hK.out _ _ ⟨bx2, range_low hdr HH.out.1.low⟩ (fun hHeld => ?_)
            (try clear hK K)
            (try simp only [Act.put, List.setIfInBounds_toArray, List.set_cons_zero, List.set_cons_succ, List.getElem_toArray, List.getElem_cons_zero, List.getElem_cons_succ])
            refine wpAnyH_take (i := 7) (v := ?vt7) rfl (by kernel_rfl) (by kernel_rfl) (by kernel_rfl) (fun _ _ _ h => h) (Or.inl ⟨by rfl, ?ht7⟩) (by assumption) ?rt7
            case ht7 => (intro wS hSw; (try dsimp only at hSw); (try clear hSw); go_simp <;> (with_reducible rfl))
            (try simp only [Act.put, List.setIfInBounds_toArray, List.set_cons_zero, List.set_cons_succ, List.getElem_toArray, List.getElem_cons_zero, List.getElem_cons_succ])
            refine wpAnyH_take (i := 8) (v := ?vt8) rfl (by kernel_rfl) (by kernel_rfl) (by kernel_rfl) (fun _ _ _ h => h) (Or.inl ⟨by rfl, ?ht8⟩) (by assumption) ?rt8
            case ht8 => (intro wS hSw; (try dsimp only at hSw); (try clear hSw); go_simp <;> (with_reducible rfl))
            (try simp only [Act.put, List.setIfInBounds_toArray, List.set_cons_zero, List.set_cons_succ, List.getElem_toArray, List.getElem_cons_zero, List.getElem_cons_succ])
            refine wpAnyH_take (i := 9) (v := ?vt9) rfl (by kernel_rfl) (by kernel_rfl) (by kernel_rfl) (fun _ _ _ h => h) (Or.inl ⟨by rfl, ?ht9⟩) (by assumption) ?rt9
            case ht9 => (intro wS hSw; (try dsimp only at hSw); (try clear hSw); go_simp <;> (with_reducible rfl))
            (try simp only [Act.put, List.setIfInBounds_toArray, List.set_cons_zero, List.set_cons_succ, List.getElem_toArray, List.getElem_cons_zero, List.getElem_cons_succ])
            refine wpAnyH_ready (rs := [10]) (by kernel_rfl) (by simp) ?_
            refine AllReadyH.cons rfl (fun K hK => ?_) AllReadyH.nil
            go_simp
            have rA := heap_alloc_new w2 (.cells #[.int .i64 0, .slice none 0 0, .int .i64 0, .slice none 0 0] 30)
            have bA : Below w2.heap.size w2 (w2.alloc (.cells #[.int .i64 0, .slice none 0 0, .int .i64 0, .slice none 0 0] 30)) := (Below.refl _ _).alloc (Nat.le_refl _) _
            have hlA := (Array.getElem?_eq_some_iff.1 rA).1
            have KA := HH.out.1.add bA (G := fun k => (fun k => k = rb) k ∨ k = w2.heap.size) (fun k h => h.elim .inl (fun e => .inr ⟨by omega, by omega⟩))
            generalize w2.alloc (.cells #[.int .i64 0, .slice none 0 0, .int .i64 0, .slice none 0 0] 30) = WA at rA bA KA hlA ⊢
            have HKA := Lib.hid KA
            refine hK.out _ _ ⟨blk_low bx2 bA, range_low hdr HKA.out.low⟩ (fun hHeld => ?_)
            (try clear hK K)
            (try simp only [Act.put, List.setIfInBounds_toArray, List.set_cons_zero, List.set_cons_succ, List.getElem_toArray, List.getElem_cons_zero, List.getElem_cons_succ])
            refine wpAnyH_ready (rs := [11]) (by kernel_rfl) (by simp) ?_
            refine AllReadyH.cons rfl (fun K hK => ?_) AllReadyH.nil
            obtain ⟨n0, n1, n2, n3, nf⟩ := four_H rA
            have hlb := (Array.getElem?_eq_some_iff.1 bx2).1
            have hlo := HH.out.1.low.size
            have HM := Lib.hid (PM.of HKA.out (HH.out.2.1.low bA) HH.out.2.2.1 (blk_low bx2 bA) rA (.inr rfl) (fun k h => .inl h) HP1.out.gb HP1.out.lo hlo (by omega))
            clear hlb hlo
            go_simp
            refine hK.out _ _ ⟨HM.out.bx, range_low hdr HM.out.ky.low⟩ (fun hHeld => ?_)
            (try clear hK K)
            (try simp only [Act.put, List.setIfInBounds_toArray, List.set_cons_zero, List.set_cons_succ, List.getElem_toArray, List.getElem_cons_zero, List.getElem_cons_succ])
            refine wpAnyH_take (i := 12) (v := ?vt10) rfl (by kernel_rfl) (by kernel_rfl) (by kernel_rfl) (fun _ _ _ h => h) (Or.inl ⟨by rfl, ?ht10⟩) (by assumption) ?rt10
            case ht10 => (intro wS hSw; (try dsimp only at hSw); (try clear hSw); go_simp <;> (with_reducible rfl))
            (try simp only [Act.put, List.setIfInBounds_toArray, List.set_cons_zero, List.set_cons_succ, List.getElem_toArray, List.getElem_cons_zero, List.getElem_cons_succ])
            refine wpAnyH_done (by kernel_rfl) ?_ _
            go_wp2_with fail
            go_meet
            exact ⟨_, _, _, _, _, _, _, _, rfl, rfl, HM.out, HH.out.2.2.2⟩
          refine AllReadyH.cons rfl (fun K hK => ?_) ?_
          · go_simp
            have rA := heap_alloc_new W1 (.cells #[.int .i64 0, .slice none 0 0, .int .i64 0, .slice none 0 0] 30)
            have bA : Below W1.heap.size W1 (W1.alloc (.cells #[.int .i64 0, .slice none 0 0, .int .i64 0, .slice none 0 0] 30)) := (Below.refl _ _).alloc (Nat.le_refl _) _
            have PA := HP1.out.add bA (G' := fun k => (fun k => k = rb) k ∨ k = W1.heap.size) (.inl HP1.out.gb) (fun k h => h.elim .inl (fun e => .inr ⟨by omega, by rw [e]; exact (Array.getElem?_eq_some_iff.1 rA).1⟩))
            generalize W1.alloc (.cells #[.int .i64 0, .slice none 0 0, .int .i64 0, .slice none 0 0] 30) = WA at rA bA PA ⊢
            have HPA := Lib.hid PA
            refine hK.out _ _ ⟨HPA.out.bx, range_low hdr HPA.out.ky.low⟩ (fun hHeld => ?_)
            (try clear hK K)
            (try simp only [Act.put, List.setIfInBounds_toArray, List.set_cons_zero, List.set_cons_succ, List.getElem_toArray, List.getElem_cons_zero, List.getElem_cons_succ])
            refine wpAnyH_ready (rs := [6]) (by kernel_rfl) (by simp) ?_
            refine AllReadyH.cons rfl (fun K hK => ?_) AllReadyH.nil
            go_simp
            refine (Hp.does_any d hdw HPA.out.ky HPA.out.dh HPA.out.ht).mono ?_; rintro r w2 ⟨n', L', v', l', t', LT', U', rfl, K2, D2, T2, kp2, hot⟩
            obtain ⟨⟨ao5, cp5, rfl⟩, g5, cp6, rfl⟩ := D2.shape
            have bx2 := (kp2.1 rb HPA.out.gb).trans HPA.out.bx
            have zx2 := (kp2.1 W1.heap.size (.inr rfl)).trans rA
            have HH := Lib.hid (And.intro K2 (And.intro D2 (And.intro T2 hot)))
            clear K2 D2 T2 kp2 hot
            refine hK.out _ _ ⟨bx2, range_low hdr HH.out.1.low⟩ (fun hHeld => ?_)
            (try clear hK K)
            (try simp only [Act.put, List.setIfInBounds_toArray, List.set_cons_zero, List.set_cons_succ, List.getElem_toArray, List.getElem_cons_zero, List.getElem_cons_succ])
            refine wpAnyH_take (i := 7) (v := ?vt11) rfl (by kernel_rfl) (by kernel_rfl) (by kernel_rfl) (fun _ _ _ h => h) (Or.inl ⟨by rfl, ?ht11⟩) (by assumption) ?rt11
            case ht11 => (intro wS hSw; (try dsimp only at hSw); (try clear hSw); go_simp <;> (with_reducible rfl))
            (try simp only [Act.put, List.setIfInBounds_toArray, List.set_cons_zero, List.set_cons_succ, List.getElem_toArray, List.getElem_cons_zero, List.getElem_cons_succ])
            refine wpAnyH_take (i := 8) (v := ?vt12) rfl (by kernel_rfl) (by kernel_rfl) (by kernel_rfl) (fun _ _ _ h => h) (Or.inl ⟨by rfl, ?ht12⟩) (by assumption) ?rt12
            case ht12 => (intro wS hSw; (try dsimp only at hSw); (try clear hSw); go_simp <;> (with_reducible rfl))
            (try simp only [Act.put, List.setIfInBounds_toArray, List.set_cons_zero, List.set_cons_succ, List.getElem_toArray, List.getElem_cons_zero, List.getElem_cons_succ])
            refine wpAnyH_take (i := 9) (v := ?vt13) rfl (by kernel_rfl) (by kernel_rfl) (by kernel_rfl) (fun _ _ _ h => h) (Or.inl ⟨by rfl, ?ht13⟩) (by assumption) ?rt13
            case ht13 => (intro wS hSw; (try dsimp only at hSw); (try clear hSw); go_simp <;> (with_reducible rfl))
            (try simp only [Act.put, List.setIfInBounds_toArray, List.set_cons_zero, List.set_cons_succ, List.getElem_toArray, List.getElem_cons_zero, List.getElem_cons_succ])
            refine wpAnyH_ready (rs := [11]) (by kernel_rfl) (by simp) ?_
            refine AllReadyH.cons rfl (fun K hK => ?_) AllReadyH.nil
            obtain ⟨n0, n1, n2, n3, nf⟩ := four_H zx2
            have hlb := (Array.getElem?_eq_some_iff.1 HP1.out.bx).1
            have hlo := HP1.out.ky.low.size
            have HM := Lib.hid (PM.of HH.out.1 HH.out.2.1 HH.out.2.2.1 bx2 zx2 (.inr rfl) (fun k h => .inl h) HP1.out.gb HP1.out.lo hlo (by omega))
            clear hlb hlo
            go_simp
            refine hK.out _ _ ⟨HM.out.bx, range_low hdr HM.out.ky.low⟩ (fun hHeld => ?_)
            (try clear hK K)
            (try simp only [Act.put, List.setIfInBounds_toArray, List.set_cons_zero, List.set_cons_succ, List.getElem_toArray, List.getElem_cons_zero, List.getElem_cons_succ])
            refine wpAnyH_take (i := 12) (v := ?vt14) rfl (by kernel_rfl) (by kernel_rfl) (by kernel_rfl) (fun _ _ _ h => h) (Or.inl ⟨by rfl, ?ht14⟩) (by assumption) ?rt14
            case ht14 => (intro wS hSw; (try dsimp only at hSw); (try clear hSw); go_simp <;> (with_reducible rfl))
            (try simp only [Act.put, List.setIfInBounds_toArray, List.set_cons_zero, List.set_cons_succ, List.getElem_toArray, List.getElem_cons_zero, List.getElem_cons_succ])
            refine wpAnyH_done (by kernel_rfl) ?_ _
            go_wp2_with fail
            go_meet
            exact ⟨_, _, _, _, _, _, _, _, rfl, rfl, HM.out, HH.out.2.2.2⟩
          exact AllReadyH.nil
        case rest =>
          obtain ⟨nb, n', L', v', l', t', LT', U', rfl, rfl, M, hot⟩ := hcut
          obtain ⟨⟨ao5, cp5, rfl⟩, g5, cp6, rfl⟩ := M.dh.shape
          obtain ⟨m0, m1, m2, m3, _⟩ := four_H M.nx
          obtain ⟨r0, r1, r2, r3, rf⟩ := four_H M.bx
          have HC := Lib.hid M.copy
          have HOT := Lib.hid hot
          clear M hot
          have P5 := HC.out
          clear HC HOT HP
          go_wp2_with fail
          go_roundw
          case rel => exact ⟨_, j + 1, _, _, _, _, _, _, _, rfl, by go_num, by omega, by omega, P5⟩
          case measure => (simp [RowKit.intOf] <;> omega)
      · by_cases hj3 : j = len0
        · subst hj3
          go_wp2_with fail
          go_meet
          exact ⟨_, _, _, _, _, _, _, P⟩
        · obtain rfl : j = 20 := by omega
          have hl : (20 : Int) < (len0 : Int) := by omega
          go_wp2_with fail
          go_meet
          exact ⟨_, _, _, _, _, _, _, P⟩
  case rest =>
    obtain ⟨n, L, v, l, t, LT, U, P⟩ := hcut
    obtain ⟨⟨ao, cap, rfl⟩, g2, cap2, rfl⟩ := P.dh.shape
    have PE1 := PE.low P.ky.low
    have HP := Lib.hid P
    have HPE := Lib.hid PE1
    clear P PE PE1 wk
    go_upto_if 47 with (fail)
    go_cut [2] from 46 to 51 (fun a wx => ∃ x : Int, a = .int .i64 x ∧ 0 ≤ x ∧ x ≤ 9223372036854775807 ∧ wc = wx)
    case first =>
      go_wp2_with fail
      all_goals
        go_meet
        exact ⟨_, rfl, by omega, by omega, rfl⟩
    case rest =>
      obtain ⟨x, rfl, x0, x1, rfl⟩ := hcut
      have htm : x.tmod 3 = x % 3 := Int.tmod_eq_emod_of_nonneg x0
      have s0 : 0 ≤ x % 3 := by omega
      have s1 : x % 3 < 3 := by omega
      generalize x % 3 = sp at *
      have HB := Lib.hid (show isB 3 sp = true by unfold isB; simp; omega)
      obtain ⟨e0, e1, e2, e3, e4, e5, e6, e7, e8, e9, e10⟩ := HPE.out.cells
      clear a0 a1
      go_wp2_with fail
      refine (CG.out _).mono ?_; rintro e w5 ⟨rfl, hb5⟩
      have bA : Below w5.heap.size w5 (w5.alloc (.cells #[.int .u64 g.va, .int .i64 g.sz, .int .u64 g.pa, .bool g.att.write, .bool g.att.priv, .bool g.att.exec, .bool g.att.lock, .bool g.att.global, .bool g.att.quiet, .bool g.ref, .bool g.mod] 38)) := (Below.refl _ _).alloc (Nat.le_refl _) _
      have PG := RowP.new w5 g
      have hlg := (Array.getElem?_eq_some_iff.1 PG.row).1
      have P6 := (HP.out.low hb5).add bA (G' := fun k => k = rb ∨ k = w5.heap.size) (.inl rfl) (fun k h => h.elim .inl (fun e => .inr ⟨by omega, by omega⟩))
      clear HP HPE CG hb5 bA e0 e1 e2 e3 e4 e5 e6 e7 e8 e9 e10 hlg
      go_upto_region 16 with fail
      generalize w5.alloc _ = W6 at P6 PG ⊢
      generalize w5.heap.size = gb at *
      have CP := Lib.hid (P6.ky.pages P6.ht sp)
      go_wp2_with fail
      refine CP.out.mono ?_; rintro e w7 ⟨o, rfl, ho, hb7⟩
      obtain ⟨oa, oc, rfl⟩ := own_shape3 ho
      have P7 := P6.low hb7
      have PG7 := PG.low hb7
      clear P6 PG CP ho hb7
      have hnl : ((dpgs l sp).length : Int) ≤ 1073741824 := by have h1 := dpgs_len l sp l.length (Nat.le_refl _); rw [List.take_length] at h1; have := P7.dh.few; omega
      obtain ⟨c0, c1, c2, c3, c4, c5, c6, c7, c8, c9, c10⟩ := PG7.cells
      have CM := P7.ky.may sp g (by omega) (by omega) hgV.w
      rw [P7.ht.mayE sp g hgV.w] at CM
      have CM := Lib.hid CM
      have HP7 := Lib.hid (And.intro P7 PG7)
      clear P7 PG7
      go_wp2_with fail
      refine CM.out.mono ?_; rintro e w8 ⟨rfl, hb8⟩
      have P8 := HP7.out.1.low hb8
      have PG8 := HP7.out.2.low hb8
      clear CM HP7 hb8 c0 c1 c2 c3 c4 c5 c6 c7 c8 c9 c10
      obtain ⟨c0, c1, c2, c3, c4, c5, c6, c7, c8, c9, c10⟩ := PG8.cells
      have HTM := P8.ht.map sp hgV.w
      have CM := P8.ky.map sp g (by omega) (by omega) hgV.w
      rw [HTM.1] at CM
      have T9 := Lib.hid HTM.2
      have CM := Lib.hid CM
      have HP8 := Lib.hid (And.intro P8 PG8)
      clear P8 PG8 HTM
      go_wp2_with fail
      refine CM.out.mono ?_; rintro e w9 ⟨rfl, K9, kp9⟩
      have PG9 := HP8.out.2.kept (kp9.1 gb (.inr rfl))
      clear CM HP8 kp9 c0 c1 c2 c3 c4 c5 c6 c7 c8 c9 c10
      rcases hmg.out l sp HB.out with hM | hM | hM
      · have eL : dmapL 3 20 l sp g = l ++ [⟨sp, g⟩] := by unfold dmapL; rw [if_pos hM]
        have hag := may_again hgV.w hM
        have hap := dp_app l sp g
        rw [hM]
        rw [eL] at T9
        generalize dmapT 3 20 l n LT sp g = LT9 at *
        generalize mapT 3 20 n L sp g = L9 at *
        have hgm : (⟨sp, g⟩ : SPg) ∈ l ++ [⟨sp, g⟩] := by simp
        have hfa := find_at T9.out hgm (isAt_iff.2 ⟨rfl, hgV.base⟩)
        have CF := K9.find sp g.va (by omega) (by omega) hgV.w.v0 hgV.w.v1
        dsimp only at hfa
        rw [hfa.1, hfa.2] at CF
        generalize Hp.findN 3 n L9 sp g.va = FN at *
        have CF := Lib.hid CF
        have HK9 := Lib.hid (And.intro K9 PG9)
        obtain ⟨c0, c1, c2, c3, c4, c5, c6, c7, c8, c9, c10⟩ := PG9.cells
        clear K9 PG9 eL hM hgm hfa hmg
        go_wp2_with fail
        refine CF.out.mono ?_; rintro e w10 ⟨rfl, hb10⟩
        have bA : Below w10.heap.size w10 (w10.alloc (.cells #[.int .u64 g.va, .int .i64 g.sz, .int .u64 g.pa, .bool g.att.write, .bool g.att.priv, .bool g.att.exec, .bool g.att.lock, .bool g.att.global, .bool g.att.quiet, .bool g.ref, .bool g.mod] 38)) := (Below.refl _ _).alloc (Nat.le_refl _) _
        have Q11 := RowP.new w10 g
        have K11 := (HK9.out.1.below hb10).below bA
        have PG11 := (HK9.out.2.low hb10).low bA
        clear HK9 CF hb10 bA c0 c1 c2 c3 c4 c5 c6 c7 c8 c9 c10
        go_upto_region 22 with fail
        generalize w10.alloc _ = W11 at Q11 K11 PG11 ⊢
        generalize w10.heap.size = qb at *
        obtain ⟨c0, c1, c2, c3, c4, c5, c6, c7, c8, c9, c10⟩ := PG11.cells
        obtain ⟨q0, q1, q2, q3, q4, q5, q6, q7, q8, q9, q10⟩ := Q11.cells
        have CP := Lib.hid (K11.pages T9.out sp)
        have HK := Lib.hid (And.intro K11 PG11)
        have hwn : IntKind.i64.wrap (((dpgs l sp).length : Int) + 1) = ((dpgs l sp).length : Int) + 1 := by rw [IntKind.wrap_i64]; omega
        clear K11 PG11 Q11
        go_wp2_with fail
        refine CP.out.mono ?_; rintro e w12 ⟨o, rfl, ho, hb12⟩
        rw [hap] at ho
        obtain ⟨oa, oc, rfl⟩ := own_shape3 ho
        have K12 := HK.out.1.below hb12
        have PG12 := HK.out.2.low hb12
        clear CP HK ho hb12 c0 c1 c2 c3 c4 c5 c6 c7 c8 c9 c10 q0 q1 q2 q3 q4 q5 q6 q7 q8 q9 q10
        obtain ⟨c0, c1, c2, c3, c4, c5, c6, c7, c8, c9, c10⟩ := PG12.cells
        have CM := K12.may sp g (by omega) (by omega) hgV.w
        rw [T9.out.mayE sp g hgV.w, hag] at CM
        have CM := Lib.hid CM
        have HK := Lib.hid (And.intro K12 PG12)
        clear K12 PG12
        go_wp2_with fail
        refine CM.out.mono ?_; rintro e w13 ⟨rfl, hb13⟩
        have K13 := HK.out.1.below hb13
        have PG13 := HK.out.2.low hb13
        clear CM HK hb13 c0 c1 c2 c3 c4 c5 c6 c7 c8 c9 c10
        obtain ⟨c0, c1, c2, c3, c4, c5, c6, c7, c8, c9, c10⟩ := PG13.cells
        have CM := K13.map sp g (by omega) (by omega) hgV.w
        rw [(T9.out.map sp hgV.w).1, hag] at CM
        have CM := Lib.hid CM
        clear K13 PG13
        go_wp2_with fail
        refine CM.out.mono ?_; rintro e w14 ⟨rfl, K14, _⟩
        clear CM c0 c1 c2 c3 c4 c5 c6 c7 c8 c9 c10
        have HK := Lib.hid K14
        clear K14
        go_wp2_with fail
        refine (CL.out _).mono ?_; rintro e w15 ⟨rfl, hbz⟩
        go_wp2_with fail
        go_ret
        exact ⟨rfl, lo_step bWB (lo_step HK.out.low hbz)⟩
      · have hne : dmayE 3 20 l sp g ≠ 0 := by rw [hM]; decide
        have eL : dmapL 3 20 l sp g = l := by unfold dmapL; rw [if_neg hne]
        rw [hM]
        rw [eL] at T9
        clear hne eL hM hmg PG9
        generalize dmapT 3 20 l n LT sp g = LT9 at *
        generalize mapT 3 20 n L sp g = L9 at *
        have CP := Lib.hid (K9.pages T9.out sp)
        have HK9 := Lib.hid K9
        clear K9
        go_wp2_with fail
        refine CP.out.mono ?_; rintro e w10 ⟨o, rfl, ho, hb10⟩
        obtain ⟨oa, oc, rfl⟩ := own_shape3 ho
        have HK := Lib.hid (HK9.out.below hb10)
        clear HK9 CP ho hb10
        go_wp2_with fail
        refine (CL.out _).mono ?_; rintro e w15 ⟨rfl, hbz⟩
        go_wp2_with fail
        go_ret
        exact ⟨rfl, lo_step bWB (lo_step HK.out.low hbz)⟩
      · have hne : dmayE 3 20 l sp g ≠ 0 := by rw [hM]; decide
        have eL : dmapL 3 20 l sp g = l := by unfold dmapL; rw [if_neg hne]
        rw [hM]
        rw [eL] at T9
        clear hne eL hM hmg PG9
        generalize dmapT 3 20 l n LT sp g = LT9 at *
        generalize mapT 3 20 n L sp g = L9 at *
        have CP := Lib.hid (K9.pages T9.out sp)
        have HK9 := Lib.hid K9
        clear K9
        go_wp2_with fail
        refine CP.out.mono ?_; rintro e w10 ⟨o, rfl, ho, hb10⟩
        obtain ⟨oa, oc, rfl⟩ := own_shape3 ho
        have HK := Lib.hid (HK9.out.below hb10)
        clear HK9 CP ho hb10
        go_wp2_with fail
        refine (CL.out _).mono ?_; rintro e w15 ⟨rfl, hbz⟩
        go_wp2_with fail
        go_ret
        exact ⟨rfl, lo_step bWB (lo_step HK.out.low hbz)⟩

/-! ### The row -/
set_option maxRecDepth 100000 in
theorem lifted (os : Os) (started : os.Started) (H : Type) (enc : TypeId × Value → H) :
    ReturnsInHanded {} Tryz.checked os 8 .any (Rows.hatMapsSpec.pre6 enc Tryz.prog Tryz.f8 Rows.hatMapsRow.domain false) (Rows.hatMapsSpec.post enc Tryz.prog Tryz.f8 false true false false) := by
  refine returnsInHanded_of_change (C := Tryz.checked) own started (by kernel_rfl) Tryz.func8
    (ChangeSpec.witness6 (enc := enc) (C := Tryz.checked) false ⟨#[], #[.slice none 0 0, .agg #[.int .u64 0, .int .i64 0, .int .u64 0, .bool false, .bool false, .bool false, .bool false, .bool false, .bool false, .bool false, .bool false], .int .i64 0], []⟩ 8 (by kernel_rfl) (by kernel_rfl) (by kernel_rfl) (by kernel_rfl)) ?_
  intro W base args ds gs before hval0 hW hcnd _
  have hval : ∀ (j : Nat) t v, Tryz.f8.params[j]? = some t → args[j]? = some v → Value.okWide Tryz.prog W .any base t v := hval0
  have hW' := hW
  obtain ⟨p, q, hA0, hV, rfl, hfz, hnd⟩ := hW
  have hA : DataW.TrodAll enc Tryz.prog W 0 (fun _ => true) true Tryz.f8.params.toList args.toList ds p := hA0
  rw [Tryz.params8] at hA hval
  obtain ⟨v0, vs0, d0, ds0, p0, q0, hargs, rfl, rfl, h0, r0⟩ := trodAll_cons hA
  obtain ⟨v1, vs1, d1, ds1, p1, q1, rfl, rfl, rfl, h1, r1⟩ := trodAll_cons r0
  obtain ⟨v2, vs2, d2, ds2, p2, q2, rfl, rfl, rfl, h2, r2⟩ := trodAll_cons r1
  obtain ⟨rfl, rfl, rfl⟩ := trodAll_nil r2
  obtain rfl : args = #[v0, v1, v2] := by cases args; simp_all
  obtain ⟨rfl, rfl⟩ := trodVars_none hV
  obtain ⟨s0, len0, cap0, rfl⟩ := okWide_slice Tryz.underlying22 (hval 0 22 v0 rfl rfl)
  have k0 := h0
  have lt0 : ∀ x ∈ p0, x.block < W.heap.size := by obtain ⟨m, hm⟩ := k0; exact DataW.trod_lt m _ _ _ hm
  have w0 : Hp.IsDeeds W s0 len0 cap0 := by
    obtain ⟨fuel, hf⟩ := h0
    exact Hp.open_deeds hf
  obtain ⟨E1, rfl, rfl, rfl, l1⟩ := open_page (hval 1 38 v1 rfl rfl) h1
  obtain ⟨a2, rfl, rfl, rfl, w2⟩ := open_int Tryz.underlying3 (hval 2 3 v2 rfl rfl) h2
  clear hA0 hval0
  simp only [List.append_nil] at hW'
  refine (walk W s0 len0 cap0 w0 E1 l1 a2 w2).mono fun e W' ⟨he, hg⟩ => ?_
  subst he
  exact ⟨_, rfl, _, _, _, [], _, [], hW', trodAll_mk1 (shut_bool Tryz.underlying4 _), (trodAll_cons_mk (Below.trod Hp.laidOut (by kernel_rfl) (of_decide_eq_true (by kernel_rfl)) k0 hg lt0) (trodAll_cons_mk (shut_page l1) (trodAll_cons_mk (shut_int Tryz.underlying3 w2) trodAll_mk0))), rfl, hg.frame _, fun h => by cases h⟩

theorem over : Rows.hatMapsRow.holds Tryz.pinned (OpenSpec.ofChange Rows.hatMapsSpec) :=
  OpenClaim.holds_of_wide 8 Tryz.f8 rfl rfl rfl rfl rfl rfl rfl ⟨rfl, rfl, rfl, rfl, rfl⟩ rfl rfl rfl rfl rfl (by kernel_rfl) Tryz.func8 (by kernel_rfl)
    (of_decide_eq_true (by kernel_rfl)) (by unfold Func.isWrapper; first | (rw [if_pos (by decide +kernel)]; kernel_rfl) | (rw [if_neg (by decide +kernel)]; exact ⟨rfl, rfl⟩))
    (fun os started H enc _ => lifted os started H enc)

theorem proved : Rows.HatMapsSaid :=
  over
#print axioms proved
end Go.Proofs.YtffpfceclhogoaaGreat.hatMaps
