/-
  SwapFails: for every size and grade, all entries (made such as may be there), any other grade the law returns true, and its arguments read as before. Conditions: none.
-/
import Derived.Test.YtnbdoemnepfhdaaGreatRows
import Derived.WalkKit
import Derived.ProofKit
import Derived.OpenShut
import Derived.Test.YtnbdoemnepfhdaaGreatR41
import Derived.Test.YtnbdoemnepfhdaaGreatR26
import Derived.Test.YtnbdoemnepfhdaaGreatR27
namespace Go.Proofs.YtnbdoemnepfhdaaGreat.swapFails
open Fld Ts
open Tl (IsEnts ents_at open_ents laidOut ListAt DocAt)
open Go.ChangeShapes Go.WideShapes Go.ChangeAt Go.RowKit Go.Deep Go.Shelf
set_option linter.unusedVariables false

theorem own : ownKnob Tryz.prog.godebug = none := by kernel_rfl

open Sw
open Pt (arI ar_bd)
open Tl (nthE)
open Frm (setT manyE lst cnt)
/-! ### The walk -/
set_option maxHeartbeats 8000000 in
set_option maxRecDepth 100000 in
theorem walk (w : World) (a0 : Int) (w0 : (Lit.int .i64 a0).wf = true) (a1 : Int) (w1 : (Lit.int .i64 a1).wf = true) (s2 : Option Addr) (len2 cap2 : Nat) (w2 : IsEnts w s2 len2 cap2) (a3 : Int) (w3 : (Lit.int .i64 a3).wf = true) :
    Calls Tryz.prog 4 #[.int .i64 a0, .int .i64 a1, .slice s2 len2 cap2, .int .i64 a3] w fun e w' => e = .returned (.bool true) ∧ Below w.heap.size w w' := by
  obtain ⟨s0, s1⟩ := bounds_i64 w0
  obtain ⟨g0, g1⟩ := bounds_i64 w1
  obtain ⟨x0, x1⟩ := bounds_i64 w3
  have CS := Lib.hid (fun W => Pt.raround_any a0 4 s0 s1 (by decide) (by decide) W)
  have CG := Lib.hid (fun W => Pt.raround_any a1 4 g0 g1 (by decide) (by decide) W)
  have hs := ar_bd a0 4 (by decide)
  have hg := ar_bd a1 4 (by decide)
  generalize arI a0 4 = s at *
  generalize arI a1 4 = t at *
  have hEn := w2
  clear w0 w1 w3 w2
  have hk := fr_bd s t
  obtain ⟨k, hkk⟩ : ∃ k : Nat, frI s t = k := ⟨(frI s t).toNat, by omega⟩
  have CF := Lib.hid (fun W => frames_any s t W)
  have CB := Lib.hid (fun W => lbegin_any k (by omega) W)
  have CM := Lib.hid (fun (W w1 : World) (wb sb bm fb bb : Nat) (h : WX W w1 wb sb bm fb bb k (fun _ => 0) (fun _ => false) [] (lst (fun _ => false) k) [] (.slice none 0 0) (.slice none 0 0) (.slice none 0 0) (.slice none 0 0) (.slice none 0 0) (.slice none 0 0)) (hf : Fit k (fun _ => 0) (fun _ => false) []) => lone_make s t (by omega) hs hg (by omega) h hf)
  rw [hkk] at CF CM
  rw [Int.toNat_natCast] at CM
  have CI := Lib.hid (fun (W wr : World) (wb sb fb bb st : Nat) (h : One W wr wb sb fb bb k (setT (fun _ => false) 0 k true) st s t) (E : Ent) (hE : E.wf) => lone_ins h E hE)
  have CR := Lib.hid (fun W => rframes_any s a3 W)
  have CL := Lib.hid (fun W => lives_any W)
  have hE := Lib.hid (many_full (k := k) (frI s a3))
  have hC := Lib.hid (cnt_full k)
  have hfr := fr_bd s a3
  have hkb : k ≤ 1000 := by omega
  clear hkk hk
  generalize hFF : setT (fun _ => false) 0 k true = F at *
  clear hFF
  go_enter Tryz.func4, Tryz.ntmps4
  go_wp2_with fail
  refine (CS.out _).mono ?_; rintro e w' ⟨rfl, m1, rfl⟩
  go_wp2_with fail
  refine (CG.out _).mono ?_; rintro e w' ⟨rfl, m2, rfl⟩
  go_wp2_with (go_at_call 11; (with_reducible refine (CF.out _).mono ?_); rintro e w' ⟨rfl, rfl⟩)
  have B2 : Below w.heap.size w (w.drewN (m1 + m2)) := drewN_low w _
  generalize w.drewN (m1 + m2) = v2 at *
  refine (CB.out _).mono ?_; rintro e w3 ⟨wb, sb, bm, fb, bb, rfl, X3, F3⟩
  go_wp2_with fail
  refine (CM.out _ _ _ _ _ _ _ X3 F3).mono ?_; rintro e w4 ⟨rfl, st, O4⟩
  clear CS CG CF CB CM X3 F3
  have B4 : Below w.heap.size w w4 := B2.trans (O4.bel.mono B2.size)
  obtain ⟨x4, bm4, gg4, lv4, gv4, sv4, X4, _⟩ := id O4
  obtain ⟨lg4, lc4, sg4, sc4, hlv4, _⟩ := X4.mid (A := []) (B := []) (k := 0) rfl rfl
  subst hlv4
  obtain ⟨c0, c1, c2, c3, c4, c5, cf⟩ := X4.cells
  clear X4
  go_upto_region 9 with fail
  clear c0 c1 c2 c3 c4 c5 cf
  go_upto_block 0 with fail
  go_cut [] (fun wx => One v2 wx wb sb fb bb k F st s t)
  case first =>
    go_wp2_with fail
    go_loopw [11] (fun i wr => ∃ j : Nat, i = .int .i64 (j : Int) ∧ j ≤ len2 ∧ j ≤ 8 ∧ One v2 wr wb sb fb bb k F st s t) (fun i _ => 8 - (intOf i).toNat)
    case atStart => exact ⟨0, rfl, by omega, by omega, O4⟩
    case round =>
      clear O4
      obtain ⟨j, rfl, hj, hj8, O⟩ := hrel
      by_cases hj1 : j < len2
      · have h1' : (j : Int) < (len2 : Int) := by omega
        by_cases hj2 : j < 8
        · have h2' : (j : Int) < 8 := by omega
          have BR : Below w.heap.size w wr := B2.trans (O.bel.mono B2.size)
          obtain ⟨ib, o, off, x, rfl, ho, hlc, hcm, he, hc⟩ := ents_at hEn j hj1
          subst ho
          unfold maxLen at hcm
          have hcl : ∀ {b o : Nat} {v : Value}, w.cell? ⟨b, o, none⟩ = some v → wr.cell? ⟨b, o, none⟩ = some v := fun {b o v} hc => (BR.cell (p := ⟨b, o, none⟩) (Tl.lt_cell hc)).trans hc
          obtain ⟨c0, c1, c2, c3, c4, c5, c6, c7, c8, c9, c10⟩ := hc
          replace c0 := hcl c0; replace c1 := hcl c1; replace c2 := hcl c2; replace c3 := hcl c3; replace c4 := hcl c4; replace c5 := hcl c5; replace c6 := hcl c6; replace c7 := hcl c7; replace c8 := hcl c8; replace c9 := hcl c9; replace c10 := hcl c10
          have CI1 := Lib.hid (CI.out _ _ _ _ _ _ _ O x (Ent.lits_wf he))
          clear hcl BR O he
          go_wp2_with fail
          refine CI1.out.mono ?_; rintro e w5 ⟨rfl, O5⟩
          clear CI1 c0 c1 c2 c3 c4 c5 c6 c7 c8 c9 c10
          go_wp2_with fail
          go_roundw
          case rel => exact ⟨j + 1, by go_num, by omega, by omega, O5⟩
          case measure => simp [intOf]; omega
        · have h2' : ¬ (j : Int) < 8 := by omega
          go_wp2_with fail
          go_meet
          exact O
      · have h1' : ¬ (j : Int) < (len2 : Int) := by omega
        go_wp2_with fail
        go_meet
        exact O
  case rest =>
    clear O4
    obtain ⟨x, bm5, g5, lv5, gv5, sv5, X5, hf, hid⟩ := hcut
    simp only [Tb.id, Prod.mk.injEq] at hid
    obtain ⟨e1, e2, e3, e4⟩ := hid
    subst e1 e3 e4
    clear e2 CI
    obtain ⟨lg5, lc5, sg5, sc5, hlv5, _, _, _, _, _, _, _, _, _, l2, l3, _⟩ := X5.mid (A := []) (B := []) (k := 0) rfl rfl
    subst hlv5
    have hxi := hf.mem x (by simp)
    have bdx := hxi.bd
    have hle : (lstP (x.q k g5) x.T x.n).length ≤ 4096 := by have := lst_le (x.q k g5) x.T x.n; omega
    have CT := Lib.hid (fun (Wz : World) (bz : Nat) (hW : WX v2 Wz wb sb bz fb bb k g5 F [x] (lst F k) [x] (.slice (some ⟨lg5, 0, none⟩) 1 lc5) gv5 sv5 (.slice (some ⟨lg5, 0, none⟩) 1 lc5) gv5 sv5) => tlist_any Wz (hW.pa.tsb hf.le hxi (hW.rows x (by simp)) (hf.at (by simp))))
    rw [show (x.q k g5).n = x.n from rfl] at CT
    generalize lstP (x.q k g5) x.T x.n = es at *
    have HX := Lib.hid X5
    have p0 := X5.ptrc (A := []) (B := []) (k := 0) rfl
    obtain ⟨c0, c1, c2, c3, c4, c5, cf⟩ := X5.cells
    have B5 := B2.trans (X5.bel.mono B2.size)
    unfold maxLen at l3
    clear bdx X5
    go_wp2_with fail
    refine (CT.out _ _ HX.out).mono ?_; rintro e w6 ⟨v6, rfl, l6, b6⟩
    obtain ⟨vo6, vc6, rfl⟩ := own_shape l6
    have X6 := Lib.hid (HX.out.low b6).drew
    have L6 := Lib.hid (show ListAt w6.drew _ (.slice vo6 es.length vc6) es from Tl.doc_below l6 (drewN_low w6 1))
    clear HX l6 b6 p0 c0 c1 c2 c3 c4 c5 cf
    go_upto_region 14 with fail
    have CC := Lib.hid (fun (Wz : World) (hW : WX v2 Wz wb sb bm5 fb bb k g5 F [x] (lst F k) [x] (.slice (some ⟨lg5, 0, none⟩) 1 lc5) gv5 sv5 (.slice (some ⟨lg5, 0, none⟩) 1 lc5) gv5 sv5) => pchange_no x.st x.s a3 hW.pa (by rw [hE.out]; split <;> decide))
    have hS : w6.drew.cell? ⟨wb, 0, none⟩ = some (.pointer (some ⟨sb, 0, none⟩)) ∧ w6.drew.cell? ⟨wb, 1, none⟩ = some (.pointer (some ⟨fb, 0, none⟩)) ∧ w6.drew.cell? ⟨wb, 2, none⟩ = some (.slice (some ⟨lg5, 0, none⟩) 1 lc5) ∧ w6.drew.cell? ⟨lg5, 0, none⟩ = some (.pointer (some ⟨x.st, 0, none⟩)) := ⟨X6.out.cells.1, X6.out.cells.2.1, X6.out.cells.2.2.1, X6.out.ptrc (A := []) (B := []) (k := 0) rfl⟩
    refine wp_region_held_drew (S := fun wS => wS.cell? ⟨wb, 0, none⟩ = some (.pointer (some ⟨sb, 0, none⟩)) ∧ wS.cell? ⟨wb, 1, none⟩ = some (.pointer (some ⟨fb, 0, none⟩)) ∧ wS.cell? ⟨wb, 2, none⟩ = some (.slice (some ⟨lg5, 0, none⟩) 1 lc5) ∧ wS.cell? ⟨lg5, 0, none⟩ = some (.pointer (some ⟨x.st, 0, none⟩))) (by kernel_rfl) hS (fun hHeld => ?_)
    clear hS
    have CC1 := Lib.hid (CC.out _ X6.out)
    generalize w6.drew = V0 at X6 L6 CC1 hHeld ⊢
    refine wpAnyH_take (i := 0) (v := ?va1) rfl (by kernel_rfl) (by kernel_rfl) (by kernel_rfl) (fun _ _ _ h => h) (Or.inl ⟨by rfl, ?ha1⟩) (by assumption) ?ra1
    case ha1 => (intro wS hSw; (try dsimp only at hSw); (try clear hSw); go_simp <;> (with_reducible rfl))
    (try simp only [Act.put, List.setIfInBounds_toArray, List.set_cons_zero, List.set_cons_succ, List.getElem_toArray, List.getElem_cons_zero])
    refine wpAnyH_take (i := 1) (v := ?va2) rfl (by kernel_rfl) (by kernel_rfl) (by kernel_rfl) (fun _ _ _ h => h) (Or.inl ⟨by rfl, ?ha2⟩) (by assumption) ?ra2
    case ha2 => (intro wS hSw; (try dsimp only at hSw); (try clear hSw); go_simp <;> (with_reducible rfl))
    (try simp only [Act.put, List.setIfInBounds_toArray, List.set_cons_zero, List.set_cons_succ, List.getElem_toArray, List.getElem_cons_zero, List.getElem_cons_succ])
    refine wpAnyH_take (i := 2) (v := ?va3) rfl (by kernel_rfl) (by kernel_rfl) (by kernel_rfl) (fun _ _ _ h => h) (Or.inl ⟨by rfl, ?ha3⟩) (by assumption) ?ra3
    case ha3 => (intro wS hSw; (try dsimp only at hSw); (try clear hSw); go_simp <;> (with_reducible rfl))
    (try simp only [Act.put, List.setIfInBounds_toArray, List.set_cons_zero, List.set_cons_succ, List.getElem_toArray, List.getElem_cons_zero, List.getElem_cons_succ])
    refine wpAnyH_take (i := 3) (v := ?va4) rfl (by kernel_rfl) (by kernel_rfl) (by kernel_rfl) (fun _ _ _ h => h) (Or.inl ⟨by rfl, ?ha4⟩) (by assumption) ?ra4
    case ha4 => (intro wS hSw; (try dsimp only at hSw); obtain ⟨c0, c1, c2, c3⟩ := hSw; (try clear hSw); go_simp <;> (with_reducible rfl))
    (try simp only [Act.put, List.setIfInBounds_toArray, List.set_cons_zero, List.set_cons_succ, List.getElem_toArray, List.getElem_cons_zero, List.getElem_cons_succ])
    refine wpAnyH_take (i := 4) (v := ?va5) rfl (by kernel_rfl) (by kernel_rfl) (by kernel_rfl) (fun _ _ _ h => h) (Or.inl ⟨by rfl, ?ha5⟩) (by assumption) ?ra5
    case ha5 => (intro wS hSw; (try dsimp only at hSw); (try clear hSw); go_simp <;> (with_reducible rfl))
    (try simp only [Act.put, List.setIfInBounds_toArray, List.set_cons_zero, List.set_cons_succ, List.getElem_toArray, List.getElem_cons_zero, List.getElem_cons_succ])
    refine wpAnyH_take (i := 5) (v := ?va6) rfl (by kernel_rfl) (by kernel_rfl) (by kernel_rfl) (fun _ _ _ h => h) (Or.inl ⟨by rfl, ?ha6⟩) (by assumption) ?ra6
    case ha6 => (intro wS hSw; (try dsimp only at hSw); (try clear hSw); go_simp <;> (with_reducible rfl))
    (try simp only [Act.put, List.setIfInBounds_toArray, List.set_cons_zero, List.set_cons_succ, List.getElem_toArray, List.getElem_cons_zero, List.getElem_cons_succ])
    refine wpAnyH_take (i := 6) (v := ?va7) rfl (by kernel_rfl) (by kernel_rfl) (by kernel_rfl) (fun _ _ _ h => h) (Or.inl ⟨by rfl, ?ha7⟩) (by assumption) ?ra7
    case ha7 => (intro wS hSw; (try dsimp only at hSw); (try clear hSw); go_simp <;> (with_reducible rfl))
    (try simp only [Act.put, List.setIfInBounds_toArray, List.set_cons_zero, List.set_cons_succ, List.getElem_toArray, List.getElem_cons_zero, List.getElem_cons_succ])
    refine wpAnyH_take (i := 7) (v := ?va8) rfl (by kernel_rfl) (by kernel_rfl) (by kernel_rfl) (fun _ _ _ h => h) (Or.inl ⟨by rfl, ?ha8⟩) (by assumption) ?ra8
    case ha8 => (intro wS hSw; (try dsimp only at hSw); obtain ⟨c0, c1, c2, c3⟩ := hSw; (try clear hSw); go_simp <;> (with_reducible rfl))
    (try simp only [Act.put, List.setIfInBounds_toArray, List.set_cons_zero, List.set_cons_succ, List.getElem_toArray, List.getElem_cons_zero, List.getElem_cons_succ])
    refine wpAnyH_take (i := 8) (v := ?va9) rfl (by kernel_rfl) (by kernel_rfl) (by kernel_rfl) (fun _ _ _ h => h) (Or.inl ⟨by rfl, ?ha9⟩) (by assumption) ?ra9
    case ha9 => (intro wS hSw; (try dsimp only at hSw); (try clear hSw); go_simp <;> (with_reducible rfl))
    (try simp only [Act.put, List.setIfInBounds_toArray, List.set_cons_zero, List.set_cons_succ, List.getElem_toArray, List.getElem_cons_zero, List.getElem_cons_succ])
    refine wpAnyH_take (i := 9) (v := ?va10) rfl (by kernel_rfl) (by kernel_rfl) (by kernel_rfl) (fun _ _ _ h => h) (Or.inl ⟨by rfl, ?ha10⟩) (by assumption) ?ra10
    case ha10 => (intro wS hSw; (try dsimp only at hSw); (try clear hSw); go_simp <;> (with_reducible rfl))
    (try simp only [Act.put, List.setIfInBounds_toArray, List.set_cons_zero, List.set_cons_succ, List.getElem_toArray, List.getElem_cons_zero, List.getElem_cons_succ])
    refine wpAnyH_take (i := 10) (v := ?va11) rfl (by kernel_rfl) (by kernel_rfl) (by kernel_rfl) (fun _ _ _ h => h) (Or.inl ⟨by rfl, ?ha11⟩) (by assumption) ?ra11
    case ha11 => (intro wS hSw; (try dsimp only at hSw); (try clear hSw); go_simp <;> (with_reducible rfl))
    (try simp only [Act.put, List.setIfInBounds_toArray, List.set_cons_zero, List.set_cons_succ, List.getElem_toArray, List.getElem_cons_zero, List.getElem_cons_succ])
    refine wpAnyH_take (i := 11) (v := ?va12) rfl (by kernel_rfl) (by kernel_rfl) (by kernel_rfl) (fun _ _ _ h => h) (Or.inl ⟨by rfl, ?ha12⟩) (by assumption) ?ra12
    case ha12 => (intro wS hSw; (try dsimp only at hSw); obtain ⟨c0, c1, c2, c3⟩ := hSw; (try clear hSw); go_simp <;> (with_reducible rfl))
    (try simp only [Act.put, List.setIfInBounds_toArray, List.set_cons_zero, List.set_cons_succ, List.getElem_toArray, List.getElem_cons_zero, List.getElem_cons_succ])
    refine wpAnyH_take (i := 12) (v := ?va13) rfl (by kernel_rfl) (by kernel_rfl) (by kernel_rfl) (fun _ _ _ h => h) (Or.inl ⟨by rfl, ?ha13⟩) (by assumption) ?ra13
    case ha13 => (intro wS hSw; (try dsimp only at hSw); (try clear hSw); go_simp <;> (with_reducible rfl))
    (try simp only [Act.put, List.setIfInBounds_toArray, List.set_cons_zero, List.set_cons_succ, List.getElem_toArray, List.getElem_cons_zero, List.getElem_cons_succ])
    refine wpAnyH_take (i := 13) (v := ?va14) rfl (by kernel_rfl) (by kernel_rfl) (by kernel_rfl) (fun _ _ _ h => h) (Or.inl ⟨by rfl, ?ha14⟩) (by assumption) ?ra14
    case ha14 => (intro wS hSw; (try dsimp only at hSw); obtain ⟨c0, c1, c2, c3⟩ := hSw; (try clear hSw); go_simp <;> (with_reducible rfl))
    (try simp only [Act.put, List.setIfInBounds_toArray, List.set_cons_zero, List.set_cons_succ, List.getElem_toArray, List.getElem_cons_zero, List.getElem_cons_succ])
    refine wpAnyH_take (i := 14) (v := ?va15) rfl (by kernel_rfl) (by kernel_rfl) (by kernel_rfl) (fun _ _ _ h => h) (Or.inl ⟨by rfl, ?ha15⟩) (by assumption) ?ra15
    case ha15 => (intro wS hSw; (try dsimp only at hSw); (try clear hSw); go_simp <;> (with_reducible rfl))
    (try simp only [Act.put, List.setIfInBounds_toArray, List.set_cons_zero, List.set_cons_succ, List.getElem_toArray, List.getElem_cons_zero, List.getElem_cons_succ])
    refine wpAnyH_take (i := 15) (v := ?va16) rfl (by kernel_rfl) (by kernel_rfl) (by kernel_rfl) (fun _ _ _ h => h) (Or.inl ⟨by rfl, ?ha16⟩) (by assumption) ?ra16
    case ha16 => (intro wS hSw; (try dsimp only at hSw); (try clear hSw); go_simp <;> (with_reducible rfl))
    (try simp only [Act.put, List.setIfInBounds_toArray, List.set_cons_zero, List.set_cons_succ, List.getElem_toArray, List.getElem_cons_zero, List.getElem_cons_succ])
    refine wpAnyH_ready (rs := [16]) (by kernel_rfl) (by simp) ?_
    refine AllReadyH.cons rfl (fun K hK => ?_) AllReadyH.nil
    go_simp
    refine CC1.out.mono ?_; rintro r w7 ⟨rfl, bm7, P7, m7, t7⟩
    have X7 := Lib.hid (X6.out.prog P7 m7 t7)
    have L7 := Lib.hid (list_keepT L6.out fun b cur hc => t7.cells X6.out.pa hc okE.1)
    clear P7 m7 t7 CC1
    refine hK.out _ _ ⟨X7.out.cells.1, X7.out.cells.2.1, X7.out.cells.2.2.1, X7.out.ptrc (A := []) (B := []) (k := 0) rfl⟩ (fun hHeld => ?_)
    (try clear hK K)
    (try simp only [Act.put, List.setIfInBounds_toArray, List.set_cons_zero, List.set_cons_succ, List.getElem_toArray, List.getElem_cons_zero, List.getElem_cons_succ])
    refine wpAnyH_take (i := 17) (v := ?va17) rfl (by kernel_rfl) (by kernel_rfl) (by kernel_rfl) (fun _ _ _ h => h) (Or.inl ⟨by rfl, ?ha17⟩) (by assumption) ?ra17
    case ha17 => (intro wS hSw; (try dsimp only at hSw); (try clear hSw); go_simp <;> (with_reducible rfl))
    (try simp only [Act.put, List.setIfInBounds_toArray, List.set_cons_zero, List.set_cons_succ, List.getElem_toArray, List.getElem_cons_zero, List.getElem_cons_succ])
    refine wpAnyH_take (i := 18) (v := ?va18) rfl (by kernel_rfl) (by kernel_rfl) (by kernel_rfl) (fun _ _ _ h => h) (Or.inl ⟨by rfl, ?ha18⟩) (by assumption) ?ra18
    case ha18 => (intro wS hSw; (try dsimp only at hSw); (try clear hSw); go_simp <;> (with_reducible rfl))
    (try simp only [Act.put, List.setIfInBounds_toArray, List.set_cons_zero, List.set_cons_succ, List.getElem_toArray, List.getElem_cons_zero, List.getElem_cons_succ])
    refine wpAnyH_take (i := 19) (v := ?va19) rfl (by kernel_rfl) (by kernel_rfl) (by kernel_rfl) (fun _ _ _ h => h) (Or.inl ⟨by rfl, ?ha19⟩) (by assumption) ?ra19
    case ha19 => (intro wS hSw; (try dsimp only at hSw); (try clear hSw); go_simp <;> (with_reducible rfl))
    (try simp only [Act.put, List.setIfInBounds_toArray, List.set_cons_zero, List.set_cons_succ, List.getElem_toArray, List.getElem_cons_zero, List.getElem_cons_succ])
    refine wpAnyH_take (i := 20) (v := ?va20) rfl (by kernel_rfl) (by kernel_rfl) (by kernel_rfl) (fun _ _ _ h => h) (Or.inl ⟨by rfl, ?ha20⟩) (by assumption) ?ra20
    case ha20 => (intro wS hSw; (try dsimp only at hSw); (try clear hSw); go_simp <;> (with_reducible rfl))
    (try simp only [Act.put, List.setIfInBounds_toArray, List.set_cons_zero, List.set_cons_succ, List.getElem_toArray, List.getElem_cons_zero, List.getElem_cons_succ])
    refine wpAnyH_take (i := 21) (v := ?va21) rfl (by kernel_rfl) (by kernel_rfl) (by kernel_rfl) (fun _ _ _ h => h) (Or.inl ⟨by rfl, ?ha21⟩) (by assumption) ?ra21
    case ha21 => (intro wS hSw; (try dsimp only at hSw); (try clear hSw); go_simp <;> (with_reducible rfl))
    (try simp only [Act.put, List.setIfInBounds_toArray, List.set_cons_zero, List.set_cons_succ, List.getElem_toArray, List.getElem_cons_zero, List.getElem_cons_succ])
    refine wpAnyH_take (i := 22) (v := ?va22) rfl (by kernel_rfl) (by kernel_rfl) (by kernel_rfl) (fun _ _ _ h => h) (Or.inl ⟨by rfl, ?ha22⟩) (by assumption) ?ra22
    case ha22 => (intro wS hSw; (try dsimp only at hSw); (try clear hSw); go_simp <;> (with_reducible rfl))
    (try simp only [Act.put, List.setIfInBounds_toArray, List.set_cons_zero, List.set_cons_succ, List.getElem_toArray, List.getElem_cons_zero, List.getElem_cons_succ])
    refine wpAnyH_take (i := 23) (v := ?va23) rfl (by kernel_rfl) (by kernel_rfl) (by kernel_rfl) (fun _ _ _ h => h) (Or.inl ⟨by rfl, ?ha23⟩) (by assumption) ?ra23
    case ha23 => (intro wS hSw; (try dsimp only at hSw); (try clear hSw); go_simp <;> (with_reducible rfl))
    (try simp only [Act.put, List.setIfInBounds_toArray, List.set_cons_zero, List.set_cons_succ, List.getElem_toArray, List.getElem_cons_zero, List.getElem_cons_succ])
    refine wpAnyH_done (by kernel_rfl) ?_ _
    clear hHeld CC X6 L6
    have p0 := X7.out.ptrc (A := []) (B := []) (k := 0) rfl
    obtain ⟨c0, c1, c2, c3, c4, c5, cf⟩ := X7.out.cells
    rw [hE.out]
    by_cases hz : frI x.s a3 < 1
    · have hz0 : (frI x.s a3 == 0) = true := by simp; omega
      rw [if_pos hz]
      go_wp2_with fail
      refine (CR.out _).mono ?_; rintro e w8 ⟨rfl, b8⟩
      have X8 := Lib.hid (X7.out.low b8)
      have L8 := Lib.hid (Tl.doc_below L7.out b8)
      clear X7 L7 b8 c0 c1 c2 c3 c4 c5 cf p0
      have p0 := X8.out.ptrc (A := []) (B := []) (k := 0) rfl
      obtain ⟨c0, c1, c2, c3, c4, c5, cf⟩ := X8.out.cells
      have CT8 := Lib.hid (CT.out _ _ X8.out)
      go_wp2_with fail
      refine CT8.out.mono ?_; rintro e w9 ⟨v9, rfl, l9, b9⟩
      have X9 := Lib.hid (X8.out.low b9)
      have L9 := Lib.hid (Tl.doc_below L8.out b9)
      have CQ := Lib.hid (Tl.rsame_any es v9 (.slice vo6 es.length vc6) _ _ w9 (by omega) l9 L9.out)
      clear X8 L8 b9 CT8 c0 c1 c2 c3 c4 c5 cf p0
      go_wp2_with fail
      refine CQ.out.mono ?_; rintro e w10 ⟨rfl, b10⟩
      have X10 := Lib.hid (X9.out.low b10)
      clear X9 L9 b10 CQ
      obtain ⟨c0, c1, c2, c3, c4, c5, cf⟩ := X10.out.cells
      have CFr := Lib.hid (Frm.free_any w10 X10.out.pa.fr)
      rw [hC.out] at CFr
      go_wp2_with (first | (go_at_call 17; (with_reducible refine CFr.out.mono ?_); rintro e w' ⟨rfl, rfl⟩) | (go_at_call 9; (with_reducible refine (CL.out _).mono ?_); rintro e w11 ⟨rfl, b11⟩))
      go_ret
      have BZ := B2.trans (X10.out.bel.mono B2.size)
      exact ⟨rfl, BZ.trans (b11.mono BZ.size)⟩
    · have hz0 : (frI x.s a3 == 0) = false := by simp; omega
      rw [if_neg hz]
      go_wp2_with fail
      refine (CR.out _).mono ?_; rintro e w8 ⟨rfl, b8⟩
      have X8 := Lib.hid (X7.out.low b8)
      have L8 := Lib.hid (Tl.doc_below L7.out b8)
      clear X7 L7 b8 c0 c1 c2 c3 c4 c5 cf p0
      have p0 := X8.out.ptrc (A := []) (B := []) (k := 0) rfl
      obtain ⟨c0, c1, c2, c3, c4, c5, cf⟩ := X8.out.cells
      have CT8 := Lib.hid (CT.out _ _ X8.out)
      go_wp2_with fail
      refine CT8.out.mono ?_; rintro e w9 ⟨v9, rfl, l9, b9⟩
      have X9 := Lib.hid (X8.out.low b9)
      have L9 := Lib.hid (Tl.doc_below L8.out b9)
      have CQ := Lib.hid (Tl.rsame_any es v9 (.slice vo6 es.length vc6) _ _ w9 (by omega) l9 L9.out)
      clear X8 L8 b9 CT8 c0 c1 c2 c3 c4 c5 cf p0
      go_wp2_with fail
      refine CQ.out.mono ?_; rintro e w10 ⟨rfl, b10⟩
      have X10 := Lib.hid (X9.out.low b10)
      clear X9 L9 b10 CQ
      obtain ⟨c0, c1, c2, c3, c4, c5, cf⟩ := X10.out.cells
      have CFr := Lib.hid (Frm.free_any w10 X10.out.pa.fr)
      rw [hC.out] at CFr
      go_wp2_with (first | (go_at_call 17; (with_reducible refine CFr.out.mono ?_); rintro e w' ⟨rfl, rfl⟩) | (go_at_call 9; (with_reducible refine (CL.out _).mono ?_); rintro e w11 ⟨rfl, b11⟩))
      go_ret
      have BZ := B2.trans (X10.out.bel.mono B2.size)
      exact ⟨rfl, BZ.trans (b11.mono BZ.size)⟩

/-! ### The row -/
set_option maxRecDepth 100000 in
theorem lifted (os : Os) (started : os.Started) (H : Type) (enc : TypeId × Value → H) :
    ReturnsInHanded {} Tryz.checked os 4 .any (Rows.swapFailsSpec.pre6 enc Tryz.prog Tryz.f4 Rows.swapFailsRow.domain false) (Rows.swapFailsSpec.post enc Tryz.prog Tryz.f4 false true false false) := by
  refine returnsInHanded_of_change (C := Tryz.checked) own started (by kernel_rfl) Tryz.func4
    (ChangeSpec.witness6 (enc := enc) (C := Tryz.checked) false ⟨#[], #[.int .i64 0, .int .i64 0, .slice none 0 0, .int .i64 0], []⟩ 8 (by kernel_rfl) (by kernel_rfl) (by kernel_rfl) (by kernel_rfl)) ?_
  intro W base args ds gs before hval0 hW hcnd _
  have hval : ∀ (j : Nat) t v, Tryz.f4.params[j]? = some t → args[j]? = some v → Value.okWide Tryz.prog W .any base t v := hval0
  have hW' := hW
  obtain ⟨p, q, hA0, hV, rfl, hfz, hnd⟩ := hW
  have hA : DataW.TrodAll enc Tryz.prog W 0 (fun _ => true) true Tryz.f4.params.toList args.toList ds p := hA0
  rw [Tryz.params4] at hA hval
  obtain ⟨v0, vs0, d0, ds0, p0, q0, hargs, rfl, rfl, h0, r0⟩ := trodAll_cons hA
  obtain ⟨v1, vs1, d1, ds1, p1, q1, rfl, rfl, rfl, h1, r1⟩ := trodAll_cons r0
  obtain ⟨v2, vs2, d2, ds2, p2, q2, rfl, rfl, rfl, h2, r2⟩ := trodAll_cons r1
  obtain ⟨v3, vs3, d3, ds3, p3, q3, rfl, rfl, rfl, h3, r3⟩ := trodAll_cons r2
  obtain ⟨rfl, rfl, rfl⟩ := trodAll_nil r3
  obtain rfl : args = #[v0, v1, v2, v3] := by cases args; simp_all
  obtain ⟨rfl, rfl⟩ := trodVars_none hV
  obtain ⟨a0, rfl, rfl, rfl, w0⟩ := open_int Tryz.underlying3 (hval 0 3 v0 rfl rfl) h0
  obtain ⟨a1, rfl, rfl, rfl, w1⟩ := open_int Tryz.underlying3 (hval 1 3 v1 rfl rfl) h1
  obtain ⟨s2, len2, cap2, rfl⟩ := okWide_slice Tryz.underlying35 (hval 2 35 v2 rfl rfl)
  have k2 := h2
  have lt2 : ∀ x ∈ p2, x.block < W.heap.size := by obtain ⟨m, hm⟩ := k2; exact DataW.trod_lt m _ _ _ hm
  have w2 : IsEnts W s2 len2 cap2 := by
    obtain ⟨fuel, hf⟩ := h2
    exact open_ents hf
  obtain ⟨a3, rfl, rfl, rfl, w3⟩ := open_int Tryz.underlying3 (hval 3 3 v3 rfl rfl) h3
  clear hA0 hval0
  simp only [List.append_nil] at hW'
  refine (walk W a0 w0 a1 w1 s2 len2 cap2 w2 a3 w3).mono fun e W' ⟨he, hg⟩ => ?_
  subst he
  exact ⟨_, rfl, _, _, _, [], _, [], hW', trodAll_mk1 (shut_bool Tryz.underlying4 _), (trodAll_cons_mk (shut_int Tryz.underlying3 w0) (trodAll_cons_mk (shut_int Tryz.underlying3 w1) (trodAll_cons_mk (Below.trod laidOut (by kernel_rfl) (of_decide_eq_true (by kernel_rfl)) k2 hg lt2) (trodAll_cons_mk (shut_int Tryz.underlying3 w3) trodAll_mk0)))), rfl, hg.frame _, fun h => by cases h⟩

theorem over : Rows.swapFailsRow.holds Tryz.pinned (OpenSpec.ofChange Rows.swapFailsSpec) :=
  OpenClaim.holds_of_wide 4 Tryz.f4 rfl rfl rfl rfl rfl rfl rfl ⟨rfl, rfl, rfl, rfl, rfl⟩ rfl rfl rfl rfl rfl (by kernel_rfl) Tryz.func4 (by kernel_rfl)
    (of_decide_eq_true (by kernel_rfl)) (by unfold Func.isWrapper; first | (rw [if_pos (by decide +kernel)]; kernel_rfl) | (rw [if_neg (by decide +kernel)]; exact ⟨rfl, rfl⟩))
    (fun os started H enc _ => lifted os started H enc)

theorem proved : Rows.SwapFailsSaid :=
  over
#print axioms proved
end Go.Proofs.YtnbdoemnepfhdaaGreat.swapFails
