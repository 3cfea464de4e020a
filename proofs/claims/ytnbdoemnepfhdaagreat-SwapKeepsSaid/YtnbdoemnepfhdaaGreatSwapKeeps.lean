/-
  SwapKeeps: for every size, all pairs of grades, all entries (made such as may be there) the law returns true, and its arguments read as before. Conditions: none.
-/
import Derived.Test.YtnbdoemnepfhdaaGreatRows
import Derived.WalkKit
import Derived.ProofKit
import Derived.OpenShut
import Derived.Test.YtnbdoemnepfhdaaGreatR42
import Derived.Test.YtnbdoemnepfhdaaGreatR26
import Derived.Lib.MinMax
import Derived.Test.YtnbdoemnepfhdaaGreatR27
namespace Go.Proofs.YtnbdoemnepfhdaaGreat.swapKeeps
open Fld Ts
open Tl (IsEnts ents_at open_ents laidOut ListAt DocAt)
open Go.ChangeShapes Go.WideShapes Go.ChangeAt Go.RowKit Go.Deep Go.Shelf
set_option linter.unusedVariables false

theorem own : ownKnob Tryz.prog.godebug = none := by kernel_rfl

open Sw
open Pt (arI ar_bd)
open Tl (nthE doc_at)
open Frm (setT lst cnt cnt_new)
/-! ### The walk -/
set_option maxHeartbeats 8000000 in
set_option maxRecDepth 100000 in
theorem walk (w : World) (a0 : Int) (w0 : (Lit.int .i64 a0).wf = true) (a1 : Int) (w1 : (Lit.int .i64 a1).wf = true) (a2 : Int) (w2 : (Lit.int .i64 a2).wf = true) (s3 : Option Addr) (len3 cap3 : Nat) (w3 : IsEnts w s3 len3 cap3) :
    Calls Tryz.prog 5 #[.int .i64 a0, .int .i64 a1, .int .i64 a2, .slice s3 len3 cap3] w fun e w' => e = .returned (.bool true) ∧ Below w.heap.size w w' := by
  obtain ⟨s0, s1⟩ := bounds_i64 w0
  obtain ⟨g0, g1⟩ := bounds_i64 w1
  obtain ⟨u0, u1⟩ := bounds_i64 w2
  have CS := Lib.hid (fun W => Pt.raround_any a0 4 s0 s1 (by decide) (by decide) W)
  have CG := Lib.hid (fun W => Pt.raround_any a1 4 g0 g1 (by decide) (by decide) W)
  have CU := Lib.hid (fun W => Pt.raround_any a2 4 u0 u1 (by decide) (by decide) W)
  have hs := ar_bd a0 4 (by decide)
  have hg := ar_bd a1 4 (by decide)
  have hu := ar_bd a2 4 (by decide)
  generalize arI a0 4 = s at *
  generalize arI a1 4 = t at *
  generalize arI a2 4 = u at *
  have hEn := w3
  clear w0 w1 w2 w3
  have hm : 0 ≤ min t u ∧ min t u < 4 := by omega
  have hM := Lib.hid (show min t u ≤ max t u ∧ max t u ≤ 3 by omega)
  have hfr := fr_bd s (min t u)
  have CB := Lib.hid (fun W => lbegin_any 20 (by decide) W)
  have CM := Lib.hid (fun (W w1 : World) (wb sb bm fb bb : Nat) (h : WX W w1 wb sb bm fb bb 20 (fun _ => 0) (fun _ => false) [] (lst (fun _ => false) 20) [] (.slice none 0 0) (.slice none 0 0) (.slice none 0 0) (.slice none 0 0) (.slice none 0 0) (.slice none 0 0)) (hf : Fit 20 (fun _ => 0) (fun _ => false) []) => lone_make s (min t u) (by omega) hs hm (by omega) h hf)
  have CI := Lib.hid (fun (W wr : World) (wb sb fb bb st : Nat) (F : Nat → Bool) (m : Int) (h : One W wr wb sb fb bb 20 F st s m) (E : Ent) (hE : E.wf) => lone_ins h E hE)
  have CL := Lib.hid (fun W => lives_any W)
  clear hfr
  obtain ⟨F, hF⟩ : ∃ F, setT (fun _ => false) 0 (frI s (min t u)).toNat true = F := ⟨_, rfl⟩
  rw [hF] at CM
  have hFF := Lib.hid hF
  clear hF
  obtain ⟨m, hmm⟩ : ∃ m, min t u = m := ⟨_, rfl⟩
  rw [hmm] at CM hM hFF hm
  go_enter Tryz.func5, Tryz.ntmps5
  go_wp2_with fail
  refine (CS.out _).mono ?_; rintro e w' ⟨rfl, m1, rfl⟩
  go_wp2_with fail
  refine (CG.out _).mono ?_; rintro e w' ⟨rfl, m2, rfl⟩
  go_wp2_with fail
  refine (CU.out _).mono ?_; rintro e w' ⟨rfl, m3, rfl⟩
  go_wp2_with fail
  have B2 : Below w.heap.size w (w.drewN (m1 + m2 + m3)) := drewN_low w _
  generalize w.drewN (m1 + m2 + m3) = v2 at *
  refine (CB.out _).mono ?_; rintro e w3 ⟨wb, sb, bm, fb, bb, rfl, X3, F3⟩
  go_wp2_with fail
  refine (CM.out _ _ _ _ _ _ _ X3 F3).mono ?_; rintro e w4 ⟨rfl, st, O4⟩
  clear CS CG CU CB CM X3 F3
  clear hmm
  have B4 : Below w.heap.size w w4 := B2.trans (O4.bel.mono B2.size)
  obtain ⟨x4, bm4, gg4, lv4, gv4, sv4, X4, _⟩ := id O4
  obtain ⟨lg4, lc4, sg4, sc4, hlv4, _⟩ := X4.mid (A := []) (B := []) (k := 0) rfl rfl
  subst hlv4
  obtain ⟨c0, c1, c2, c3, c4, c5, cf⟩ := X4.cells
  clear X4
  go_upto_region 10 with fail
  clear c0 c1 c2 c3 c4 c5 cf
  go_upto_block 0 with fail
  go_cut [] (fun wx => One v2 wx wb sb fb bb 20 F st s m)
  case first =>
    go_wp2_with fail
    go_loopw [11] (fun i wr => ∃ j : Nat, i = .int .i64 (j : Int) ∧ j ≤ len3 ∧ j ≤ 8 ∧ One v2 wr wb sb fb bb 20 F st s m) (fun i _ => 8 - (intOf i).toNat)
    case atStart => exact ⟨0, rfl, by omega, by omega, O4⟩
    case round =>
      clear O4
      obtain ⟨j, rfl, hj, hj8, O⟩ := hrel
      by_cases hj1 : j < len3
      · have h1' : (j : Int) < (len3 : Int) := by omega
        by_cases hj2 : j < 8
        · have h2' : (j : Int) < 8 := by omega
          have BR : Below w.heap.size w wr := B2.trans (O.bel.mono B2.size)
          obtain ⟨ib, o, off, x, rfl, ho, hlc, hcm, he, hc⟩ := ents_at hEn j hj1
          subst ho
          unfold maxLen at hcm
          have hcl : ∀ {b o : Nat} {v : Value}, w.cell? ⟨b, o, none⟩ = some v → wr.cell? ⟨b, o, none⟩ = some v := fun {b o v} hc => (BR.cell (p := ⟨b, o, none⟩) (Tl.lt_cell hc)).trans hc
          obtain ⟨c0, c1, c2, c3, c4, c5, c6, c7, c8, c9, c10⟩ := hc
          replace c0 := hcl c0; replace c1 := hcl c1; replace c2 := hcl c2; replace c3 := hcl c3; replace c4 := hcl c4; replace c5 := hcl c5; replace c6 := hcl c6; replace c7 := hcl c7; replace c8 := hcl c8; replace c9 := hcl c9; replace c10 := hcl c10
          have CI1 := Lib.hid (CI.out _ _ _ _ _ _ _ _ _ O x (Ent.lits_wf he))
          clear hcl BR O he
          go_wp2_with fail
          refine CI1.out.mono ?_; rintro e w5 ⟨rfl, O5⟩
          clear CI1 c0 c1 c2 c3 c4 c5 c6 c7 c8 c9 c10
          go_wp2_with fail
          go_roundw
          case rel => exact ⟨j + 1, by go_num, by omega, by omega, O5⟩
          case measure => simp [intOf]; omega
        · have h2' : ¬ (j : Int) < 8 := by omega
          go_wp2_with fail
          go_meet
          exact O
      · have h1' : ¬ (j : Int) < (len3 : Int) := by omega
        go_wp2_with fail
        go_meet
        exact O
  case rest =>
    clear O4
    obtain ⟨x, bm5, g5, lv5, gv5, sv5, X5, hf, hid⟩ := hcut
    simp only [Tb.id, Prod.mk.injEq] at hid
    obtain ⟨e1, e2, e3, e4⟩ := hid
    subst e1 e3 e4
    clear CI
    obtain ⟨lg5, lc5, sg5, sc5, hlv5, _, _, _, _, _, _, _, _, _, l2, l3, _⟩ := X5.mid (A := []) (B := []) (k := 0) rfl rfl
    subst hlv5
    have hxi := hf.mem x (by simp)
    have bdx := hxi.bd
    have hle : (lstP (x.q 20 g5) x.T x.n).length ≤ 4096 := by have := lst_le (x.q 20 g5) x.T x.n; omega
    have CT := Lib.hid (fun (Wz : World) (bz : Nat) (hW : WX v2 Wz wb sb bz fb bb 20 g5 F [x] (lst F 20) [x] (.slice (some ⟨lg5, 0, none⟩) 1 lc5) gv5 sv5 (.slice (some ⟨lg5, 0, none⟩) 1 lc5) gv5 sv5) => tlist_any Wz (hW.pa.tsb hf.le hxi (hW.rows x (by simp)) (hf.at (by simp))))
    rw [show (x.q 20 g5).n = x.n from rfl] at CT
    have CC := Lib.hid (fun (Wz : World) (bz : Nat) (hW : WX v2 Wz wb sb bz fb bb 20 g5 F [x] (lst F 20) [x] (.slice (some ⟨lg5, 0, none⟩) 1 lc5) gv5 sv5 (.slice (some ⟨lg5, 0, none⟩) 1 lc5) gv5 sv5) => lone_change (by decide) (by decide) e2 (max t u) hM.out.1 hM.out.2 hFF.out hf hW)
    clear hFF hf e2 hxi
    generalize lstP (x.q 20 g5) x.T x.n = es at *
    have HX := Lib.hid X5
    have p0 := X5.ptrc (A := []) (B := []) (k := 0) rfl
    obtain ⟨c0, c1, c2, c3, c4, c5, cf⟩ := X5.cells
    have B5 := B2.trans (X5.bel.mono B2.size)
    unfold maxLen at l3
    clear bdx X5 hM
    go_wp2_with fail
    refine (CT.out _ _ HX.out).mono ?_; rintro e w6 ⟨v6, rfl, l6, b6⟩
    obtain ⟨vo6, vc6, rfl⟩ := own_shape l6
    have X6 := Lib.hid (HX.out.low b6).drew
    have L6 := Lib.hid (show ListAt w6.drew _ (.slice vo6 es.length vc6) es from Tl.doc_below l6 (drewN_low w6 1))
    clear HX l6 b6 p0 c0 c1 c2 c3 c4 c5 cf CT
    go_upto_region 15 with fail
    have hS : w6.drew.cell? ⟨wb, 0, none⟩ = some (.pointer (some ⟨sb, 0, none⟩)) ∧ w6.drew.cell? ⟨wb, 1, none⟩ = some (.pointer (some ⟨fb, 0, none⟩)) ∧ w6.drew.cell? ⟨wb, 2, none⟩ = some (.slice (some ⟨lg5, 0, none⟩) 1 lc5) ∧ w6.drew.cell? ⟨lg5, 0, none⟩ = some (.pointer (some ⟨x.st, 0, none⟩)) := ⟨X6.out.cells.1, X6.out.cells.2.1, X6.out.cells.2.2.1, X6.out.ptrc (A := []) (B := []) (k := 0) rfl⟩
    refine wp_region_held_drew (S := fun wS => wS.cell? ⟨wb, 0, none⟩ = some (.pointer (some ⟨sb, 0, none⟩)) ∧ wS.cell? ⟨wb, 1, none⟩ = some (.pointer (some ⟨fb, 0, none⟩)) ∧ wS.cell? ⟨wb, 2, none⟩ = some (.slice (some ⟨lg5, 0, none⟩) 1 lc5) ∧ wS.cell? ⟨lg5, 0, none⟩ = some (.pointer (some ⟨x.st, 0, none⟩))) (by kernel_rfl) hS (fun hHeld => ?_)
    clear hS
    have CC1 := Lib.hid (CC.out _ _ X6.out)
    generalize w6.drew = V0 at X6 L6 CC1 hHeld ⊢
    refine wpAnyH_take (i := 0) (v := ?va1) rfl (by kernel_rfl) (by kernel_rfl) (by kernel_rfl) (fun _ _ _ h => h) (Or.inl ⟨by rfl, ?ha1⟩) (by assumption) ?ra1
    case ha1 => (intro wS hSw; (try dsimp only at hSw); (try clear hSw); go_simp <;> (with_reducible rfl))
    (try simp only [Act.put, List.setIfInBounds_toArray, List.set_cons_zero, List.set_cons_succ, List.getElem_toArray, List.getElem_cons_zero])
    refine wpAnyH_take (i := 1) (v := ?va2) rfl (by kernel_rfl) (by kernel_rfl) (by kernel_rfl) (fun _ _ _ h => h) (Or.inl ⟨by rfl, ?ha2⟩) (by assumption) ?ra2
    case ha2 => (intro wS hSw; (try dsimp only at hSw); (try clear hSw); go_simp <;> (with_reducible rfl))
    (try simp only [Act.put, List.setIfInBounds_toArray, List.set_cons_zero, List.set_cons_succ, List.getElem_toArray, List.getElem_cons_zero, List.getElem_cons_succ])
    refine wpAnyH_take (i := 2) (v := ?va3) rfl (by kernel_rfl) (by kernel_rfl) (by kernel_rfl) (fun _ _ _ h => h) (Or.inl ⟨by rfl, ?ha3⟩) (by assumption) ?ra3
    case ha3 => (intro wS hSw; (try dsimp only at hSw); (try clear hSw); go_simp <;> (with_reducible rfl))
    (try simp only [Act.put, List.setIfInBounds_toArray, List.set_cons_zero, List.set_cons_succ, List.getElem_toArray, List.getElem_cons_zero, List.getElem_cons_succ])
    refine wpAnyH_take (i := 3) (v := ?va4) rfl (by kernel_rfl) (by kernel_rfl) (by kernel_rfl) (fun _ _ _ h => h) (Or.inl ⟨by rfl, ?ha4⟩) (by assumption) ?ra4
    case ha4 => (intro wS hSw; (try dsimp only at hSw); obtain ⟨c0, c1, c2, c3⟩ := hSw; (try clear hSw); go_simp <;> (with_reducible rfl))
    (try simp only [Act.put, List.setIfInBounds_toArray, List.set_cons_zero, List.set_cons_succ, List.getElem_toArray, List.getElem_cons_zero, List.getElem_cons_succ])
    refine wpAnyH_take (i := 4) (v := ?va5) rfl (by kernel_rfl) (by kernel_rfl) (by kernel_rfl) (fun _ _ _ h => h) (Or.inl ⟨by rfl, ?ha5⟩) (by assumption) ?ra5
    case ha5 => (intro wS hSw; (try dsimp only at hSw); (try clear hSw); go_simp <;> (with_reducible rfl))
    (try simp only [Act.put, List.setIfInBounds_toArray, List.set_cons_zero, List.set_cons_succ, List.getElem_toArray, List.getElem_cons_zero, List.getElem_cons_succ])
    refine wpAnyH_take (i := 5) (v := ?va6) rfl (by kernel_rfl) (by kernel_rfl) (by kernel_rfl) (fun _ _ _ h => h) (Or.inl ⟨by rfl, ?ha6⟩) (by assumption) ?ra6
    case ha6 => (intro wS hSw; (try dsimp only at hSw); (try clear hSw); go_simp <;> (with_reducible rfl))
    (try simp only [Act.put, List.setIfInBounds_toArray, List.set_cons_zero, List.set_cons_succ, List.getElem_toArray, List.getElem_cons_zero, List.getElem_cons_succ])
    refine wpAnyH_take (i := 6) (v := ?va7) rfl (by kernel_rfl) (by kernel_rfl) (by kernel_rfl) (fun _ _ _ h => h) (Or.inl ⟨by rfl, ?ha7⟩) (by assumption) ?ra7
    case ha7 => (intro wS hSw; (try dsimp only at hSw); (try clear hSw); go_simp <;> (with_reducible rfl))
    (try simp only [Act.put, List.setIfInBounds_toArray, List.set_cons_zero, List.set_cons_succ, List.getElem_toArray, List.getElem_cons_zero, List.getElem_cons_succ])
    refine wpAnyH_take (i := 7) (v := ?va8) rfl (by kernel_rfl) (by kernel_rfl) (by kernel_rfl) (fun _ _ _ h => h) (Or.inl ⟨by rfl, ?ha8⟩) (by assumption) ?ra8
    case ha8 => (intro wS hSw; (try dsimp only at hSw); obtain ⟨c0, c1, c2, c3⟩ := hSw; (try clear hSw); go_simp <;> (with_reducible rfl))
    (try simp only [Act.put, List.setIfInBounds_toArray, List.set_cons_zero, List.set_cons_succ, List.getElem_toArray, List.getElem_cons_zero, List.getElem_cons_succ])
    refine wpAnyH_take (i := 8) (v := ?va9) rfl (by kernel_rfl) (by kernel_rfl) (by kernel_rfl) (fun _ _ _ h => h) (Or.inl ⟨by rfl, ?ha9⟩) (by assumption) ?ra9
    case ha9 => (intro wS hSw; (try dsimp only at hSw); (try clear hSw); go_simp <;> (with_reducible rfl))
    (try simp only [Act.put, List.setIfInBounds_toArray, List.set_cons_zero, List.set_cons_succ, List.getElem_toArray, List.getElem_cons_zero, List.getElem_cons_succ])
    refine wpAnyH_take (i := 9) (v := ?va10) rfl (by kernel_rfl) (by kernel_rfl) (by kernel_rfl) (fun _ _ _ h => h) (Or.inl ⟨by rfl, ?ha10⟩) (by assumption) ?ra10
    case ha10 => (intro wS hSw; (try dsimp only at hSw); (try clear hSw); go_simp <;> (with_reducible rfl))
    (try simp only [Act.put, List.setIfInBounds_toArray, List.set_cons_zero, List.set_cons_succ, List.getElem_toArray, List.getElem_cons_zero, List.getElem_cons_succ])
    refine wpAnyH_take (i := 10) (v := ?va11) rfl (by kernel_rfl) (by kernel_rfl) (by kernel_rfl) (fun _ _ _ h => h) (Or.inl ⟨by rfl, ?ha11⟩) (by assumption) ?ra11
    case ha11 => (intro wS hSw; (try dsimp only at hSw); (try clear hSw); go_simp <;> (with_reducible rfl))
    (try simp only [Act.put, List.setIfInBounds_toArray, List.set_cons_zero, List.set_cons_succ, List.getElem_toArray, List.getElem_cons_zero, List.getElem_cons_succ])
    refine wpAnyH_take (i := 11) (v := ?va12) rfl (by kernel_rfl) (by kernel_rfl) (by kernel_rfl) (fun _ _ _ h => h) (Or.inl ⟨by rfl, ?ha12⟩) (by assumption) ?ra12
    case ha12 => (intro wS hSw; (try dsimp only at hSw); obtain ⟨c0, c1, c2, c3⟩ := hSw; (try clear hSw); go_simp <;> (with_reducible rfl))
    (try simp only [Act.put, List.setIfInBounds_toArray, List.set_cons_zero, List.set_cons_succ, List.getElem_toArray, List.getElem_cons_zero, List.getElem_cons_succ])
    refine wpAnyH_take (i := 12) (v := ?va13) rfl (by kernel_rfl) (by kernel_rfl) (by kernel_rfl) (fun _ _ _ h => h) (Or.inl ⟨by rfl, ?ha13⟩) (by assumption) ?ra13
    case ha13 => (intro wS hSw; (try dsimp only at hSw); (try clear hSw); go_simp <;> (with_reducible rfl))
    (try simp only [Act.put, List.setIfInBounds_toArray, List.set_cons_zero, List.set_cons_succ, List.getElem_toArray, List.getElem_cons_zero, List.getElem_cons_succ])
    refine wpAnyH_take (i := 13) (v := ?va14) rfl (by kernel_rfl) (by kernel_rfl) (by kernel_rfl) (fun _ _ _ h => h) (Or.inl ⟨by rfl, ?ha14⟩) (by assumption) ?ra14
    case ha14 => (intro wS hSw; (try dsimp only at hSw); obtain ⟨c0, c1, c2, c3⟩ := hSw; (try clear hSw); go_simp <;> (with_reducible rfl))
    (try simp only [Act.put, List.setIfInBounds_toArray, List.set_cons_zero, List.set_cons_succ, List.getElem_toArray, List.getElem_cons_zero, List.getElem_cons_succ])
    refine wpAnyH_take (i := 14) (v := ?va15) rfl (by kernel_rfl) (by kernel_rfl) (by kernel_rfl) (fun _ _ _ h => h) (Or.inl ⟨by rfl, ?ha15⟩) (by assumption) ?ra15
    case ha15 => (intro wS hSw; (try dsimp only at hSw); (try clear hSw); go_simp <;> (with_reducible rfl))
    (try simp only [Act.put, List.setIfInBounds_toArray, List.set_cons_zero, List.set_cons_succ, List.getElem_toArray, List.getElem_cons_zero, List.getElem_cons_succ])
    refine wpAnyH_take (i := 15) (v := ?va16) rfl (by kernel_rfl) (by kernel_rfl) (by kernel_rfl) (fun _ _ _ h => h) (Or.inl ⟨by rfl, ?ha16⟩) (by assumption) ?ra16
    case ha16 => (intro wS hSw; (try dsimp only at hSw); (try clear hSw); go_simp <;> (with_reducible rfl))
    (try simp only [Act.put, List.setIfInBounds_toArray, List.set_cons_zero, List.set_cons_succ, List.getElem_toArray, List.getElem_cons_zero, List.getElem_cons_succ])
    refine wpAnyH_take (i := 16) (v := ?va17) rfl (by kernel_rfl) (by kernel_rfl) (by kernel_rfl) (fun _ _ _ h => h) (Or.inl ⟨by rfl, ?ha17⟩) (by assumption) ?ra17
    case ha17 => (intro wS hSw; (try dsimp only at hSw); (try clear hSw); go_simp <;> (with_reducible rfl))
    (try simp only [Act.put, List.setIfInBounds_toArray, List.set_cons_zero, List.set_cons_succ, List.getElem_toArray, List.getElem_cons_zero, List.getElem_cons_succ])
    refine wpAnyH_take (i := 17) (v := ?va18) rfl (by kernel_rfl) (by kernel_rfl) (by kernel_rfl) (fun _ _ _ h => h) (Or.inl ⟨by rfl, ?ha18⟩) (by assumption) ?ra18
    case ha18 => (intro wS hSw; (try dsimp only at hSw); obtain ⟨c0, c1, c2, c3⟩ := hSw; (try clear hSw); go_simp <;> (with_reducible rfl))
    (try simp only [Act.put, List.setIfInBounds_toArray, List.set_cons_zero, List.set_cons_succ, List.getElem_toArray, List.getElem_cons_zero, List.getElem_cons_succ])
    refine wpAnyH_ready (rs := [18]) (by kernel_rfl) (by simp) ?_
    refine AllReadyH.cons rfl (fun K hK => ?_) AllReadyH.nil
    go_simp
    refine CC1.out.mono ?_; rintro r w7 ⟨y, g7, bm7, rfl, M7, ys, yf, t7, K7⟩
    have L7 := Lib.hid (list_keepT L6.out fun b cur hc => t7.cells X6.out.pa hc okE.1)
    have HM7 := Lib.hid M7
    have HK7 := Lib.hid K7
    have Hyf := Lib.hid yf
    have Hys := Lib.hid ys
    clear M7 K7 t7 CC1 yf ys
    refine hK.out _ _ ⟨HM7.out.X.cells.1, HM7.out.X.cells.2.1, HM7.out.X.cells.2.2.1, HM7.out.X.ptrc (A := []) (B := []) (k := 0) rfl⟩ (fun hHeld => ?_)
    (try clear hK K)
    (try simp only [Act.put, List.setIfInBounds_toArray, List.set_cons_zero, List.set_cons_succ, List.getElem_toArray, List.getElem_cons_zero, List.getElem_cons_succ])
    refine wpAnyH_take (i := 19) (v := ?va19) rfl (by kernel_rfl) (by kernel_rfl) (by kernel_rfl) (fun _ _ _ h => h) (Or.inl ⟨by rfl, ?ha19⟩) (by assumption) ?ra19
    case ha19 => (intro wS hSw; (try dsimp only at hSw); (try clear hSw); go_simp <;> (with_reducible rfl))
    (try simp only [Act.put, List.setIfInBounds_toArray, List.set_cons_zero, List.set_cons_succ, List.getElem_toArray, List.getElem_cons_zero, List.getElem_cons_succ])
    refine wpAnyH_take (i := 20) (v := ?va20) rfl (by kernel_rfl) (by kernel_rfl) (by kernel_rfl) (fun _ _ _ h => h) (Or.inl ⟨by rfl, ?ha20⟩) (by assumption) ?ra20
    case ha20 => (intro wS hSw; (try dsimp only at hSw); (try clear hSw); go_simp <;> (with_reducible rfl))
    (try simp only [Act.put, List.setIfInBounds_toArray, List.set_cons_zero, List.set_cons_succ, List.getElem_toArray, List.getElem_cons_zero, List.getElem_cons_succ])
    refine wpAnyH_take (i := 21) (v := ?va21) rfl (by kernel_rfl) (by kernel_rfl) (by kernel_rfl) (fun _ _ _ h => h) (Or.inl ⟨by rfl, ?ha21⟩) (by assumption) ?ra21
    case ha21 => (intro wS hSw; (try dsimp only at hSw); (try clear hSw); go_simp <;> (with_reducible rfl))
    (try simp only [Act.put, List.setIfInBounds_toArray, List.set_cons_zero, List.set_cons_succ, List.getElem_toArray, List.getElem_cons_zero, List.getElem_cons_succ])
    refine wpAnyH_take (i := 22) (v := ?va22) rfl (by kernel_rfl) (by kernel_rfl) (by kernel_rfl) (fun _ _ _ h => h) (Or.inl ⟨by rfl, ?ha22⟩) (by assumption) ?ra22
    case ha22 => (intro wS hSw; (try dsimp only at hSw); (try clear hSw); go_simp <;> (with_reducible rfl))
    (try simp only [Act.put, List.setIfInBounds_toArray, List.set_cons_zero, List.set_cons_succ, List.getElem_toArray, List.getElem_cons_zero, List.getElem_cons_succ])
    refine wpAnyH_take (i := 23) (v := ?va23) rfl (by kernel_rfl) (by kernel_rfl) (by kernel_rfl) (fun _ _ _ h => h) (Or.inl ⟨by rfl, ?ha23⟩) (by assumption) ?ra23
    case ha23 => (intro wS hSw; (try dsimp only at hSw); (try clear hSw); go_simp <;> (with_reducible rfl))
    (try simp only [Act.put, List.setIfInBounds_toArray, List.set_cons_zero, List.set_cons_succ, List.getElem_toArray, List.getElem_cons_zero, List.getElem_cons_succ])
    refine wpAnyH_take (i := 24) (v := ?va24) rfl (by kernel_rfl) (by kernel_rfl) (by kernel_rfl) (fun _ _ _ h => h) (Or.inl ⟨by rfl, ?ha24⟩) (by assumption) ?ra24
    case ha24 => (intro wS hSw; (try dsimp only at hSw); (try clear hSw); go_simp <;> (with_reducible rfl))
    (try simp only [Act.put, List.setIfInBounds_toArray, List.set_cons_zero, List.set_cons_succ, List.getElem_toArray, List.getElem_cons_zero, List.getElem_cons_succ])
    refine wpAnyH_take (i := 25) (v := ?va25) rfl (by kernel_rfl) (by kernel_rfl) (by kernel_rfl) (fun _ _ _ h => h) (Or.inl ⟨by rfl, ?ha25⟩) (by assumption) ?ra25
    case ha25 => (intro wS hSw; (try dsimp only at hSw); (try clear hSw); go_simp <;> (with_reducible rfl))
    (try simp only [Act.put, List.setIfInBounds_toArray, List.set_cons_zero, List.set_cons_succ, List.getElem_toArray, List.getElem_cons_zero, List.getElem_cons_succ])
    refine wpAnyH_done (by kernel_rfl) ?_ _
    clear hHeld CC X6 L6
    have CL8 := Lib.hid (HM7.out.list HK7.out)
    go_wp2_with fail
    refine CL8.out.mono ?_; rintro e w8 ⟨⟨vo8, vc8, rfl⟩, b8⟩
    have M8 := Lib.hid (HM7.out.low b8)
    have L8 := Lib.hid (Tl.doc_below L7.out b8)
    clear CL8 HM7 L7 b8
    go_wp2_with fail
    go_loopw [16] (fun i wr => ∃ j : Nat, i = .int .i64 (j : Int) ∧ j ≤ es.length ∧ Moved v2 wr wb sb bm7 fb bb 20 g7 (setT (setT (setT (fun _ => false) 0 x.k true) x.k y.k true) 0 x.k false) x (lst F 20) (.slice (some ⟨lg5, 0, none⟩) 1 lc5) gv5 sv5 y ∧ ∃ C, ListAt wr C (.slice vo6 es.length vc6) es) (fun i _ => es.length - (intOf i).toNat)
    case atStart => exact ⟨0, rfl, Nat.zero_le _, M8.out, _, L8.out⟩
    case round =>
      clear M8 L8
      obtain ⟨j, rfl, hj, MM, C, LL⟩ := hrel
      by_cases hj1 : j < es.length
      · have h1' : (j : Int) < (es.length : Int) := by omega
        obtain ⟨g, cap, hv, hc1, hc2, _, hgl, hcc, _⟩ := doc_at LL (by omega)
        simp only [Value.slice.injEq, true_and] at hv
        obtain ⟨rfl, rfl⟩ := hv
        unfold maxLen at hc2
        obtain ⟨ok, hok⟩ : ∃ ok, j * 11 = ok := ⟨_, rfl⟩
        have hAK : (⟨g, 0, none⟩ : Addr).add ok = ⟨g, ok, none⟩ := add_at g ok
        have CF := Lib.hid (fun (Wz : World) (hb : Below wr.heap.size wr Wz) => (MM.low hb).find HK7.out hj1)
        have QC := Lib.hid (fun (Wz : World) (hb : Below wr.heap.size wr Wz) => (show Wz.cell? ⟨g, ok, none⟩ = some (.int .i64 (nthE es j).size) ∧ Wz.cell? ⟨g, ok + 1, none⟩ = some (.int .i64 (nthE es j).ctx) ∧ Wz.cell? ⟨g, ok + 2, none⟩ = some (.int .u64 (nthE es j).va) ∧ Wz.cell? ⟨g, ok + 3, none⟩ = some (.int .u64 (nthE es j).pa) ∧ Wz.cell? ⟨g, ok + 4, none⟩ = some (.bool (nthE es j).att.write) ∧ Wz.cell? ⟨g, ok + 5, none⟩ = some (.bool (nthE es j).att.priv) ∧ Wz.cell? ⟨g, ok + 6, none⟩ = some (.bool (nthE es j).att.exec) ∧ Wz.cell? ⟨g, ok + 7, none⟩ = some (.bool (nthE es j).att.lock) ∧ Wz.cell? ⟨g, ok + 8, none⟩ = some (.bool (nthE es j).att.global) ∧ Wz.cell? ⟨g, ok + 9, none⟩ = some (.bool (nthE es j).att.quiet) ∧ Wz.cell? ⟨g, ok + 10, none⟩ = some (.bool (nthE es j).valid) from by
          obtain ⟨g', cap', hv', _, _, _, _, hcc', _⟩ := doc_at (Tl.doc_below LL hb) (by omega)
          simp only [Value.slice.injEq, Option.some.injEq, Addr.mk.injEq, and_true, true_and] at hv'
          obtain ⟨rfl, _⟩ := hv'
          exact hcc' j ok hj1 hok))
        have HMM := Lib.hid MM
        have HLL := Lib.hid LL
        clear hcc MM LL
        obtain ⟨d0, d1, d2, d3, d4, d5, d6, d7, d8, d9, d10⟩ := QC.out _ (Below.refl _ _)
        have hds : ∀ W : World, W.drew.heap.size = W.heap.size := fun _ => rfl
        go_wp2_with fail
        go_cut [17, 18] (fun a b wx => ∃ c, a = .pointer (some ⟨c, 0, none⟩) ∧ b = .bool true ∧ Below wr.heap.size wr wx ∧ RowE wx c (nthE es j))
        case first =>
          go_region_held3 (fun w1 => w1.cell? ⟨g, ok, none⟩ = some (.int .i64 (nthE es j).size) ∧ w1.cell? ⟨g, ok + 1, none⟩ = some (.int .i64 (nthE es j).ctx) ∧ w1.cell? ⟨g, ok + 2, none⟩ = some (.int .u64 (nthE es j).va) ∧ w1.cell? ⟨g, ok + 3, none⟩ = some (.int .u64 (nthE es j).pa) ∧ w1.cell? ⟨g, ok + 4, none⟩ = some (.bool (nthE es j).att.write) ∧ w1.cell? ⟨g, ok + 5, none⟩ = some (.bool (nthE es j).att.priv) ∧ w1.cell? ⟨g, ok + 6, none⟩ = some (.bool (nthE es j).att.exec) ∧ w1.cell? ⟨g, ok + 7, none⟩ = some (.bool (nthE es j).att.lock) ∧ w1.cell? ⟨g, ok + 8, none⟩ = some (.bool (nthE es j).att.global) ∧ w1.cell? ⟨g, ok + 9, none⟩ = some (.bool (nthE es j).att.quiet) ∧ w1.cell? ⟨g, ok + 10, none⟩ = some (.bool (nthE es j).valid)) ((refine QC.out _ ?_; (repeat (first | (with_reducible assumption) | (with_reducible exact Below.refl _ _) | (with_reducible refine lo_step ?_ (by assumption)) | (with_reducible refine lo_drew ?_) | (with_reducible refine lo_drewN ?_ _) | (with_reducible refine lo_alloc ?_ _) | (with_reducible refine lo_set ?_ ?_ _) | (exact Nat.le_refl _) | (exact hs2 _ (Nat.le_refl _)) | (exact hb'.size))) ))
            ((go_at_call 18; (refine (CF.out _ (by (repeat (first | (with_reducible assumption) | (with_reducible exact Below.refl _ _) | (with_reducible refine lo_step ?_ (by assumption)) | (with_reducible refine lo_drew ?_) | (with_reducible refine lo_drewN ?_ _) | (with_reducible refine lo_alloc ?_ _) | (with_reducible refine lo_set ?_ ?_ _) | (exact Nat.le_refl _) | (exact hs2 _ (Nat.le_refl _)) | (exact hb'.size))) )).mono ?_); rintro r w' ⟨rfl, hb⟩; obtain ⟨hcc, hf, hs1, hs2⟩ := bfacts hb; (try have hv : wr.heap.size < w'.heap.size := by (have hsz := hb.size; (try simp only [hds] at hsz); (try simp only [World.size_alloc] at hsz); omega))))
          all_goals
            go_wp2_with fail
            go_meet
            refine ⟨_, rfl, rfl, ?_, ?_⟩
            · (repeat (first | (with_reducible assumption) | (with_reducible exact Below.refl _ _) | (with_reducible refine lo_step ?_ (by assumption)) | (with_reducible refine lo_drew ?_) | (with_reducible refine lo_drewN ?_ _) | (with_reducible refine lo_alloc ?_ _) | (with_reducible refine lo_set ?_ ?_ _) | (exact Nat.le_refl _) | (exact hs2 _ (Nat.le_refl _)) | (exact hb'.size))) 
            · (first | (with_reducible exact RowE.new _ _) | (refine RowE.setAll (z := Ent.zero) ?_; (repeat (first | (with_reducible refine RowE.call ?_ (by assumption)) | (with_reducible refine RowE.drew ?_) | exact RowE.new _ Ent.zero))))
        case rest =>
          obtain ⟨c, rfl, rfl, P3, R3⟩ := hcut
          clear CF d0 d1 d2 d3 d4 d5 d6 d7 d8 d9 d10 hds
          obtain ⟨d0, d1, d2, d3, d4, d5, d6, d7, d8, d9, d10⟩ := QC.out _ P3
          obtain ⟨c0, c1, c2, c3, c4, c5, c6, c7, c8, c9, c10⟩ := R3.cells
          go_wp2_with fail
          go_quiet (fail)
          have PQ := Lib.hid (lo_drewN P3 nq)
          clear QC P3 R3 c0 c1 c2 c3 c4 c5 c6 c7 c8 c9 c10 d0 d1 d2 d3 d4 d5 d6 d7 d8 d9 d10
          go_wp2_with fail
          go_roundw
          case rel => exact ⟨j + 1, by go_num, by omega, HMM.out.low PQ.out, _, Tl.doc_below HLL.out PQ.out⟩
          case measure => simp [intOf]; omega
      · have h1' : ¬ (j : Int) < (es.length : Int) := by omega
        have HMM := Lib.hid MM
        clear MM LL
        have CD := Lib.hid (fun (Wz : World) (hb : Below wr.heap.size wr Wz) => moved_drop (HMM.out.low hb) Hyf.out)
        rw [Hys.out] at CD
        go_wp2_with fail
        go_upto_region 24 with fail
        have hS : wr.drew.cell? ⟨wb, 0, none⟩ = some (.pointer (some ⟨sb, 0, none⟩)) ∧ wr.drew.cell? ⟨wb, 1, none⟩ = some (.pointer (some ⟨fb, 0, none⟩)) := ⟨HMM.out.X.cells.1, HMM.out.X.cells.2.1⟩
        refine wp_region_held_drew (S := fun wS => wS.cell? ⟨wb, 0, none⟩ = some (.pointer (some ⟨sb, 0, none⟩)) ∧ wS.cell? ⟨wb, 1, none⟩ = some (.pointer (some ⟨fb, 0, none⟩))) (by kernel_rfl) hS (fun hHeld => ?_)
        clear hS
        have CD1 := Lib.hid (show Calls Tryz.prog 19 _ wr.drew _ from CD.out _ (drewN_low wr 1))
        clear CD
        refine wpAnyH_take (i := 0) (v := ?vb1) rfl (by kernel_rfl) (by kernel_rfl) (by kernel_rfl) (fun _ _ _ h => h) (Or.inl ⟨by rfl, ?hb1⟩) (by assumption) ?rb1
        case hb1 => (intro wS hSw; (try dsimp only at hSw); (try clear hSw); go_simp <;> (with_reducible rfl))
        (try simp only [Act.put, List.setIfInBounds_toArray, List.set_cons_zero, List.set_cons_succ, List.getElem_toArray, List.getElem_cons_zero])
        refine wpAnyH_take (i := 1) (v := ?vb2) rfl (by kernel_rfl) (by kernel_rfl) (by kernel_rfl) (fun _ _ _ h => h) (Or.inl ⟨by rfl, ?hb2⟩) (by assumption) ?rb2
        case hb2 => (intro wS hSw; (try dsimp only at hSw); (try clear hSw); go_simp <;> (with_reducible rfl))
        (try simp only [Act.put, List.setIfInBounds_toArray, List.set_cons_zero, List.set_cons_succ, List.getElem_toArray, List.getElem_cons_zero, List.getElem_cons_succ])
        refine wpAnyH_take (i := 2) (v := ?vb3) rfl (by kernel_rfl) (by kernel_rfl) (by kernel_rfl) (fun _ _ _ h => h) (Or.inl ⟨by rfl, ?hb3⟩) (by assumption) ?rb3
        case hb3 => (intro wS hSw; (try dsimp only at hSw); (try clear hSw); go_simp <;> (with_reducible rfl))
        (try simp only [Act.put, List.setIfInBounds_toArray, List.set_cons_zero, List.set_cons_succ, List.getElem_toArray, List.getElem_cons_zero, List.getElem_cons_succ])
        refine wpAnyH_take (i := 3) (v := ?vb4) rfl (by kernel_rfl) (by kernel_rfl) (by kernel_rfl) (fun _ _ _ h => h) (Or.inl ⟨by rfl, ?hb4⟩) (by assumption) ?rb4
        case hb4 => (intro wS hSw; (try dsimp only at hSw); obtain ⟨c0, c1⟩ := hSw; (try clear hSw); go_simp <;> (with_reducible rfl))
        (try simp only [Act.put, List.setIfInBounds_toArray, List.set_cons_zero, List.set_cons_succ, List.getElem_toArray, List.getElem_cons_zero, List.getElem_cons_succ])
        refine wpAnyH_take (i := 4) (v := ?vb5) rfl (by kernel_rfl) (by kernel_rfl) (by kernel_rfl) (fun _ _ _ h => h) (Or.inl ⟨by rfl, ?hb5⟩) (by assumption) ?rb5
        case hb5 => (intro wS hSw; (try dsimp only at hSw); (try clear hSw); go_simp <;> (with_reducible rfl))
        (try simp only [Act.put, List.setIfInBounds_toArray, List.set_cons_zero, List.set_cons_succ, List.getElem_toArray, List.getElem_cons_zero, List.getElem_cons_succ])
        refine wpAnyH_take (i := 5) (v := ?vb6) rfl (by kernel_rfl) (by kernel_rfl) (by kernel_rfl) (fun _ _ _ h => h) (Or.inl ⟨by rfl, ?hb6⟩) (by assumption) ?rb6
        case hb6 => (intro wS hSw; (try dsimp only at hSw); (try clear hSw); go_simp <;> (with_reducible rfl))
        (try simp only [Act.put, List.setIfInBounds_toArray, List.set_cons_zero, List.set_cons_succ, List.getElem_toArray, List.getElem_cons_zero, List.getElem_cons_succ])
        refine wpAnyH_take (i := 6) (v := ?vb7) rfl (by kernel_rfl) (by kernel_rfl) (by kernel_rfl) (fun _ _ _ h => h) (Or.inl ⟨by rfl, ?hb7⟩) (by assumption) ?rb7
        case hb7 => (intro wS hSw; (try dsimp only at hSw); (try clear hSw); go_simp <;> (with_reducible rfl))
        (try simp only [Act.put, List.setIfInBounds_toArray, List.set_cons_zero, List.set_cons_succ, List.getElem_toArray, List.getElem_cons_zero, List.getElem_cons_succ])
        refine wpAnyH_take (i := 7) (v := ?vb8) rfl (by kernel_rfl) (by kernel_rfl) (by kernel_rfl) (fun _ _ _ h => h) (Or.inl ⟨by rfl, ?hb8⟩) (by assumption) ?rb8
        case hb8 => (intro wS hSw; (try dsimp only at hSw); obtain ⟨c0, c1⟩ := hSw; (try clear hSw); go_simp <;> (with_reducible rfl))
        (try simp only [Act.put, List.setIfInBounds_toArray, List.set_cons_zero, List.set_cons_succ, List.getElem_toArray, List.getElem_cons_zero, List.getElem_cons_succ])
        refine wpAnyH_take (i := 8) (v := ?vb9) rfl (by kernel_rfl) (by kernel_rfl) (by kernel_rfl) (fun _ _ _ h => h) (Or.inl ⟨by rfl, ?hb9⟩) (by assumption) ?rb9
        case hb9 => (intro wS hSw; (try dsimp only at hSw); (try clear hSw); go_simp <;> (with_reducible rfl))
        (try simp only [Act.put, List.setIfInBounds_toArray, List.set_cons_zero, List.set_cons_succ, List.getElem_toArray, List.getElem_cons_zero, List.getElem_cons_succ])
        refine wpAnyH_take (i := 9) (v := ?vb10) rfl (by kernel_rfl) (by kernel_rfl) (by kernel_rfl) (fun _ _ _ h => h) (Or.inl ⟨by rfl, ?hb10⟩) (by assumption) ?rb10
        case hb10 => (intro wS hSw; (try dsimp only at hSw); (try clear hSw); go_simp <;> (with_reducible rfl))
        (try simp only [Act.put, List.setIfInBounds_toArray, List.set_cons_zero, List.set_cons_succ, List.getElem_toArray, List.getElem_cons_zero, List.getElem_cons_succ])
        refine wpAnyH_ready (rs := [10]) (by kernel_rfl) (by simp) ?_
        refine AllReadyH.cons rfl (fun K hK => ?_) AllReadyH.nil
        go_simp
        refine CD1.out.mono ?_; rintro r w9 ⟨rfl, bm9, X9⟩
        have X9 := Lib.hid X9
        clear CD1
        refine hK.out _ _ ⟨X9.out.cells.1, X9.out.cells.2.1⟩ (fun hHeld => ?_)
        (try clear hK K)
        (try simp only [Act.put, List.setIfInBounds_toArray, List.set_cons_zero, List.set_cons_succ, List.getElem_toArray, List.getElem_cons_zero, List.getElem_cons_succ])
        refine wpAnyH_take (i := 11) (v := ?vb11) rfl (by kernel_rfl) (by kernel_rfl) (by kernel_rfl) (fun _ _ _ h => h) (Or.inl ⟨by rfl, ?hb11⟩) (by assumption) ?rb11
        case hb11 => (intro wS hSw; (try dsimp only at hSw); (try clear hSw); go_simp <;> (with_reducible rfl))
        (try simp only [Act.put, List.setIfInBounds_toArray, List.set_cons_zero, List.set_cons_succ, List.getElem_toArray, List.getElem_cons_zero, List.getElem_cons_succ])
        refine wpAnyH_done (by kernel_rfl) ?_ _
        clear hHeld HMM
        obtain ⟨c0, c1, c2, c3, c4, c5, cf⟩ := X9.out.cells
        have CFr := Lib.hid (Frm.free_any w9 X9.out.pa.fr)
        rw [show cnt (fun _ => false) 20 = 20 from cnt_new 20] at CFr
        have CUs := Lib.hid (used_none X9.out.pa.mem)
        go_wp2_with (first | (go_at_call 17; (with_reducible refine CFr.out.mono ?_); rintro e w' ⟨rfl, rfl⟩) | (go_at_call 20; (with_reducible refine CUs.out.mono ?_); rintro e w' ⟨rfl, rfl⟩) | (go_at_call 9; (with_reducible refine (CL.out _).mono ?_); rintro e w11 ⟨rfl, b11⟩))
        go_ret
        have BZ := B2.trans (X9.out.bel.mono B2.size)
        exact ⟨rfl, BZ.trans (b11.mono BZ.size)⟩

/-! ### The row -/
set_option maxRecDepth 100000 in
theorem lifted (os : Os) (started : os.Started) (H : Type) (enc : TypeId × Value → H) :
    ReturnsInHanded {} Tryz.checked os 5 .any (Rows.swapKeepsSpec.pre6 enc Tryz.prog Tryz.f5 Rows.swapKeepsRow.domain false) (Rows.swapKeepsSpec.post enc Tryz.prog Tryz.f5 false true false false) := by
  refine returnsInHanded_of_change (C := Tryz.checked) own started (by kernel_rfl) Tryz.func5
    (ChangeSpec.witness6 (enc := enc) (C := Tryz.checked) false ⟨#[], #[.int .i64 0, .int .i64 0, .int .i64 0, .slice none 0 0], []⟩ 8 (by kernel_rfl) (by kernel_rfl) (by kernel_rfl) (by kernel_rfl)) ?_
  intro W base args ds gs before hval0 hW hcnd _
  have hval : ∀ (j : Nat) t v, Tryz.f5.params[j]? = some t → args[j]? = some v → Value.okWide Tryz.prog W .any base t v := hval0
  have hW' := hW
  obtain ⟨p, q, hA0, hV, rfl, hfz, hnd⟩ := hW
  have hA : DataW.TrodAll enc Tryz.prog W 0 (fun _ => true) true Tryz.f5.params.toList args.toList ds p := hA0
  rw [Tryz.params5] at hA hval
  obtain ⟨v0, vs0, d0, ds0, p0, q0, hargs, rfl, rfl, h0, r0⟩ := trodAll_cons hA
  obtain ⟨v1, vs1, d1, ds1, p1, q1, rfl, rfl, rfl, h1, r1⟩ := trodAll_cons r0
  obtain ⟨v2, vs2, d2, ds2, p2, q2, rfl, rfl, rfl, h2, r2⟩ := trodAll_cons r1
  obtain ⟨v3, vs3, d3, ds3, p3, q3, rfl, rfl, rfl, h3, r3⟩ := trodAll_cons r2
  obtain ⟨rfl, rfl, rfl⟩ := trodAll_nil r3
  obtain rfl : args = #[v0, v1, v2, v3] := by cases args; simp_all
  obtain ⟨rfl, rfl⟩ := trodVars_none hV
  obtain ⟨a0, rfl, rfl, rfl, w0⟩ := open_int Tryz.underlying3 (hval 0 3 v0 rfl rfl) h0
  obtain ⟨a1, rfl, rfl, rfl, w1⟩ := open_int Tryz.underlying3 (hval 1 3 v1 rfl rfl) h1
  obtain ⟨a2, rfl, rfl, rfl, w2⟩ := open_int Tryz.underlying3 (hval 2 3 v2 rfl rfl) h2
  obtain ⟨s3, len3, cap3, rfl⟩ := okWide_slice Tryz.underlying35 (hval 3 35 v3 rfl rfl)
  have k3 := h3
  have lt3 : ∀ x ∈ p3, x.block < W.heap.size := by obtain ⟨m, hm⟩ := k3; exact DataW.trod_lt m _ _ _ hm
  have w3 : IsEnts W s3 len3 cap3 := by
    obtain ⟨fuel, hf⟩ := h3
    exact open_ents hf
  clear hA0 hval0
  simp only [List.append_nil] at hW'
  refine (walk W a0 w0 a1 w1 a2 w2 s3 len3 cap3 w3).mono fun e W' ⟨he, hg⟩ => ?_
  subst he
  exact ⟨_, rfl, _, _, _, [], _, [], hW', trodAll_mk1 (shut_bool Tryz.underlying4 _), (trodAll_cons_mk (shut_int Tryz.underlying3 w0) (trodAll_cons_mk (shut_int Tryz.underlying3 w1) (trodAll_cons_mk (shut_int Tryz.underlying3 w2) (trodAll_cons_mk (Below.trod laidOut (by kernel_rfl) (of_decide_eq_true (by kernel_rfl)) k3 hg lt3) trodAll_mk0)))), rfl, hg.frame _, fun h => by cases h⟩

theorem over : Rows.swapKeepsRow.holds Tryz.pinned (OpenSpec.ofChange Rows.swapKeepsSpec) :=
  OpenClaim.holds_of_wide 5 Tryz.f5 rfl rfl rfl rfl rfl rfl rfl ⟨rfl, rfl, rfl, rfl, rfl⟩ rfl rfl rfl rfl rfl (by kernel_rfl) Tryz.func5 (by kernel_rfl)
    (of_decide_eq_true (by kernel_rfl)) (by unfold Func.isWrapper; first | (rw [if_pos (by decide +kernel)]; kernel_rfl) | (rw [if_neg (by decide +kernel)]; exact ⟨rfl, rfl⟩))
    (fun os started H enc _ => lifted os started H enc)

theorem proved : Rows.SwapKeepsSaid :=
  over
#print axioms proved
end Go.Proofs.YtnbdoemnepfhdaaGreat.swapKeeps
