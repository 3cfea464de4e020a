/-
  TsbPlays: for every size and grade, all deeds the law returns true, and its arguments read as before. Conditions: none.
-/
import Derived.Test.YtgdagfhdimoklaaGreatRows
import Derived.WalkKit
import Derived.ProofKit
import Derived.OpenShut
import Derived.Test.YtgdagfhdimoklaaGreatGI
import Derived.Deep.CutBlock
import Derived.Deep.DeepCutAuto
import Derived.Deep.RegionHeld3
import Derived.Test.YtgdagfhdimoklaaGreatGD
namespace Go.Proofs.YtgdagfhdimoklaaGreat.tsbPlays
open Fld Ts
open Tl (IsEnts ents_at open_ents laidOut ListAt DocAt)
open Go.ChangeShapes Go.WideShapes Go.ChangeAt Go.RowKit Go.Deep Go.Shelf
set_option linter.unusedVariables false

theorem own : ownKnob Tryz.prog.godebug = none := by kernel_rfl

open Pt (idxI arI ar_bd)
/-! ### The walk -/
set_option maxHeartbeats 8000000 in
set_option maxRecDepth 100000 in
theorem walk (w : World) (a0 : Int) (w0 : (Lit.int .i64 a0).wf = true) (a1 : Int) (w1 : (Lit.int .i64 a1).wf = true) (s2 : Option Addr) (len2 cap2 : Nat) (w2 : IsDeeds w s2 len2 cap2) :
    Calls Tryz.prog 3 #[.int .i64 a0, .int .i64 a1, .slice s2 len2 cap2] w fun e w' => e = .returned (.bool true) ∧ Below w.heap.size w w' := by
  obtain ⟨s0, s1⟩ := bounds_i64 w0
  obtain ⟨g0, g1⟩ := bounds_i64 w1
  have CB := Lib.hid (fun W => cbegin a0 a1 s0 s1 g0 g1 W)
  have HL := Lib.hid (fun W => blives_any W)
  have hs := ar_bd a0 4 (by decide)
  have hps := Lib.hid (show (parB (arI a0 4) (arI a1 4)).s = arI a0 4 from rfl)
  have hpn := Lib.hid (show ((parB (arI a0 4) (arI a1 4)).n : Int) = placesI (arI a0 4) (arI a1 4) from by
    have hz : sizeB (arI a0 4) = true := sizeB_mk (by omega)
    have hg := ar_bd a1 4 (by decide)
    have := places_bd hz hg.1 (by omega)
    show ((placesI (arI a0 4) (arI a1 4)).toNat : Int) = _
    omega)
  generalize parB (arI a0 4) (arI a1 4) = P at *
  generalize placesI (arI a0 4) (arI a1 4) = n at *
  generalize arI a0 4 = s at *
  clear w0 w1
  go_enter Tryz.func3, Tryz.ntmps3
  go_wp2_with fail
  refine (CB.out _).mono ?_; rintro e w1 ⟨st, rfl, H1⟩
  have H2 := H1.push #[.int .i64 s, .int .i64 n, .slice none 0 0] 26 ⟨by decide, by decide⟩
  clear CB H1
  go_upto_block 0 with fail
  generalize World.alloc w1 _ = wb at *
  generalize w1.heap.size = tb at *
  obtain ⟨sb0, bm0, P0⟩ := PL.start H2
  clear H2
  have w2' := w2
  go_cut [9] (fun _ wx => ∃ (T : Nat → Pl) (sb bm : Nat) (rv : Value) (ws : List Wd), PL w wx st sb bm P T [(tb, #[.int .i64 s, .int .i64 n, rv], 26)] w.heap.size (.slice none 0 0) [] ∧ WsAt wx w.heap.size rv ws ∧ Tie P ws T)
  case first =>
    go_wp2_with fail
    go_loopw [9] (fun i wr => ∃ (j : Nat) (T : Nat → Pl) (sb bm : Nat) (rv : Value) (ws : List Wd), i = .int .i64 (j : Int) ∧ j ≤ len2 ∧ j ≤ 20 ∧ PL w wr st sb bm P T [(tb, #[.int .i64 s, .int .i64 n, rv], 26)] w.heap.size (.slice none 0 0) [] ∧ WsAt wr w.heap.size rv ws ∧ Tie P ws T) (fun i _ => 20 - (intOf i).toNat)
    case atStart => exact ⟨0, _, sb0, bm0, _, [], rfl, Nat.zero_le _, Nat.zero_le _, P0, ws_nil _ _, tie_nil P⟩
    case round =>
      clear P0
      obtain ⟨j, T, sb, bm, rv, ws, rfl, hj, hj2, PP, WW, hT⟩ := hrel
      by_cases hj1 : j < len2
      · by_cases hj12 : j < 20
        · obtain ⟨ib, o, off, d, rfl, ho, hlc, hcm, hd, hcc⟩ := deeds_at w2' j hj1
          unfold maxLen at hcm
          have hAE : (⟨ib, off, none⟩ : Addr).add (j * 15) = ⟨ib, o, none⟩ := by rw [← ho]; unfold Addr.add; split <;> simp_all
          have hib : ib < w.heap.size := Tl.lt_cell hcc.1
          have h1' : (j : Int) < (len2 : Int) := by omega
          have h2' : (j : Int) < 20 := by omega
          obtain ⟨ao, cap, rfl⟩ := own_shape WW
          generalize hm : ws.length = m at *
          clear hm
          have PD := PP.drew
          have WD := ws_low WW (drewN_low wr 1)
          have PN := PD.push #[.int .i64 0, .int .i64 0, .slice none 0 0] 26 ⟨by decide, by decide⟩
          have WN := ws_low WD ((Below.refl _ _).alloc (Nat.le_refl _) (.cells #[.int .i64 0, .int .i64 0, .slice none 0 0] 26))
          have hNe := Lib.hid (show tb ≠ wr.heap.size by have := (Array.getElem?_eq_some_iff.1 (PP.rows _ (List.mem_cons_self ..)).1).1; have h3 : tb < wr.heap.size := this; omega)
          go_wp2_with fail
          go_cut [10, 11] (fun a b wx => ∃ (nb bm' : Nat) (T' : Nat → Pl) (v' : Value) (us : List Wd), a = .pointer (some ⟨nb, 0, none⟩) ∧ b = .bool true ∧ PL w wx st sb bm' P T' [(nb, #[.int .i64 s, .int .i64 n, v'], 26), (tb, #[.int .i64 s, .int .i64 n, (.slice ao m cap)], 26)] w.heap.size (.slice none 0 0) [] ∧ WsAt wx w.heap.size v' us ∧ Tie P us T')
          case first =>
            refine wp_region_held_drew (S := fun w1 => w1.cell? ⟨tb, 0, none⟩ = some (.int .i64 s) ∧ w1.cell? ⟨tb, 1, none⟩ = some (.int .i64 n) ∧ w1.cell? ⟨tb, 2, none⟩ = some (.slice ao m cap) ∧ w1.cell? ⟨ib, o, none⟩ = some (.int .i64 d.kind) ∧ w1.cell? ⟨ib, o + 1, none⟩ = some (.int .i64 d.ctx) ∧ w1.cell? ⟨ib, o + 2, none⟩ = some (.int .u64 d.va) ∧ w1.cell? ⟨ib, o + 3, none⟩ = some (.int .i64 d.e.size) ∧ w1.cell? ⟨ib, o + 4, none⟩ = some (.int .i64 d.e.ctx) ∧ w1.cell? ⟨ib, o + 5, none⟩ = some (.int .u64 d.e.va) ∧ w1.cell? ⟨ib, o + 6, none⟩ = some (.int .u64 d.e.pa) ∧ w1.cell? ⟨ib, o + 7, none⟩ = some (.bool d.e.att.write) ∧ w1.cell? ⟨ib, o + 8, none⟩ = some (.bool d.e.att.priv) ∧ w1.cell? ⟨ib, o + 9, none⟩ = some (.bool d.e.att.exec) ∧ w1.cell? ⟨ib, o + 10, none⟩ = some (.bool d.e.att.lock) ∧ w1.cell? ⟨ib, o + 11, none⟩ = some (.bool d.e.att.global) ∧ w1.cell? ⟨ib, o + 12, none⟩ = some (.bool d.e.att.quiet) ∧ w1.cell? ⟨ib, o + 13, none⟩ = some (.bool d.e.valid) ∧ w1.cell? ⟨ib, o + 14, none⟩ = some (.bool d.raw)) (by kernel_rfl) (plays_S PD.bel (PD.rows (tb, #[.int .i64 s, .int .i64 n, .slice ao m cap], 26) (by simp)).1 hib hcc) (fun hHeld => ?_)
            refine wpAnyH_take (i := 0) (v := ?va0) rfl (by kernel_rfl) (by kernel_rfl) (by kernel_rfl) (fun _ _ _ h => h) (Or.inl ⟨by rfl, ?ha0⟩) (by assumption) ?ra0
            case ha0 => (intro w hSw; (try dsimp only at hSw); go_simp <;> (with_reducible rfl))
            (try simp only [Act.put, List.setIfInBounds_toArray, List.set_cons_zero, List.set_cons_succ, List.getElem_toArray, List.getElem_cons_zero])
            refine wpAnyH_take (i := 1) (v := ?va1) rfl (by kernel_rfl) (by kernel_rfl) (by kernel_rfl) (fun _ _ _ h => h) (Or.inl ⟨by rfl, ?ha1⟩) (by assumption) ?ra1
            case ha1 => (intro w hSw; (try dsimp only at hSw); go_simp <;> (with_reducible rfl))
            (try simp only [Act.put, List.setIfInBounds_toArray, List.set_cons_zero, List.set_cons_succ, List.getElem_toArray, List.getElem_cons_zero, List.getElem_cons_succ])
            refine wpAnyH_take (i := 2) (v := ?va2) rfl (by kernel_rfl) (by kernel_rfl) (by kernel_rfl) (fun _ _ _ h => h) (Or.inl ⟨by rfl, ?ha2⟩) (by assumption) ?ra2
            case ha2 => (intro w hSw; (try dsimp only at hSw); go_simp <;> (with_reducible rfl))
            (try simp only [Act.put, List.setIfInBounds_toArray, List.set_cons_zero, List.set_cons_succ, List.getElem_toArray, List.getElem_cons_zero, List.getElem_cons_succ])
            refine wpAnyH_take (i := 3) (v := ?va3) rfl (by kernel_rfl) (by kernel_rfl) (by kernel_rfl) (fun _ _ _ h => h) (Or.inl ⟨by rfl, ?ha3⟩) (by assumption) ?ra3
            case ha3 => (intro w hSw; (try dsimp only at hSw); go_simp <;> (with_reducible rfl))
            (try simp only [Act.put, List.setIfInBounds_toArray, List.set_cons_zero, List.set_cons_succ, List.getElem_toArray, List.getElem_cons_zero, List.getElem_cons_succ])
            refine wpAnyH_take (i := 4) (v := ?va4) rfl (by kernel_rfl) (by kernel_rfl) (by kernel_rfl) (fun _ _ _ h => h) (Or.inl ⟨by rfl, ?ha4⟩) (by assumption) ?ra4
            case ha4 => (intro w hSw; (try dsimp only at hSw); go_simp <;> (with_reducible rfl))
            (try simp only [Act.put, List.setIfInBounds_toArray, List.set_cons_zero, List.set_cons_succ, List.getElem_toArray, List.getElem_cons_zero, List.getElem_cons_succ])
            refine wpAnyH_take (i := 5) (v := ?va5) rfl (by kernel_rfl) (by kernel_rfl) (by kernel_rfl) (fun _ _ _ h => h) (Or.inl ⟨by rfl, ?ha5⟩) (by assumption) ?ra5
            case ha5 => (intro w hSw; (try dsimp only at hSw); go_simp <;> (with_reducible rfl))
            (try simp only [Act.put, List.setIfInBounds_toArray, List.set_cons_zero, List.set_cons_succ, List.getElem_toArray, List.getElem_cons_zero, List.getElem_cons_succ])
            refine wpAnyH_ready (rs := [6, 10]) (by kernel_rfl) (by simp) ?_
            refine AllReadyH.cons rfl (fun K hK => ?_) (AllReadyH.cons rfl (fun K hK => ?_) AllReadyH.nil)
            · go_simp
              refine (does_sn (W := w) (C := w.heap.size) (D := w.heap.size) (L := [(tb, #[.int .i64 s, .int .i64 n, .slice ao m cap], 26)]) PD WD PD.bel.size hT d hd hps.out hpn.out).mono ?_
              rintro r w5 ⟨b5, T5, v5, us5, rfl, P5, W5, hT5⟩
              obtain ⟨ao5, cap5, rfl⟩ := own_shape W5
              generalize hm5 : us5.length = m5 at *
              clear hm5
              (try go_simp)
              refine hK.out _ _ (plays_S P5.bel (P5.rows (tb, #[.int .i64 s, .int .i64 n, .slice ao m cap], 26) (by simp)).1 hib hcc) (fun hHeld => ?_)
              clear hK K
              (try simp only [Act.put, List.setIfInBounds_toArray, List.set_cons_zero, List.set_cons_succ, List.getElem_toArray, List.getElem_cons_zero, List.getElem_cons_succ])
              refine wpAnyH_take (i := 7) (v := ?vb7) rfl (by kernel_rfl) (by kernel_rfl) (by kernel_rfl) (fun _ _ _ h => h) (Or.inl ⟨by rfl, ?hb7⟩) (by assumption) ?rb7
              case hb7 => (intro w hSw; (try dsimp only at hSw); go_simp <;> (with_reducible rfl))
              (try simp only [Act.put, List.setIfInBounds_toArray, List.set_cons_zero, List.set_cons_succ, List.getElem_toArray, List.getElem_cons_zero, List.getElem_cons_succ])
              refine wpAnyH_take (i := 8) (v := ?vb8) rfl (by kernel_rfl) (by kernel_rfl) (by kernel_rfl) (fun _ _ _ h => h) (Or.inl ⟨by rfl, ?hb8⟩) (by assumption) ?rb8
              case hb8 => (intro w hSw; (try dsimp only at hSw); go_simp <;> (with_reducible rfl))
              (try simp only [Act.put, List.setIfInBounds_toArray, List.set_cons_zero, List.set_cons_succ, List.getElem_toArray, List.getElem_cons_zero, List.getElem_cons_succ])
              refine wpAnyH_take (i := 9) (v := ?vb9) rfl (by kernel_rfl) (by kernel_rfl) (by kernel_rfl) (fun _ _ _ h => h) (Or.inl ⟨by rfl, ?hb9⟩) (by assumption) ?rb9
              case hb9 => (intro w hSw; (try dsimp only at hSw); go_simp <;> (with_reducible rfl))
              (try simp only [Act.put, List.setIfInBounds_toArray, List.set_cons_zero, List.set_cons_succ, List.getElem_toArray, List.getElem_cons_zero, List.getElem_cons_succ])
              have P5z := P5.push #[.int .i64 0, .int .i64 0, .slice none 0 0] 26 ⟨by decide, by decide⟩
              refine wpAnyH_ready (rs := [10]) (by kernel_rfl) (by simp) ?_
              refine AllReadyH.cons rfl (fun K hK => ?_) AllReadyH.nil
              go_simp
              (try go_simp)
              refine hK.out _ _ (plays_S P5z.bel (P5z.rows (tb, #[.int .i64 s, .int .i64 n, .slice ao m cap], 26) (by simp)).1 hib hcc) (fun hHeld => ?_)
              clear hK K
              (try simp only [Act.put, List.setIfInBounds_toArray, List.set_cons_zero, List.set_cons_succ, List.getElem_toArray, List.getElem_cons_zero, List.getElem_cons_succ])
              have P6 := P5.push #[.int .i64 s, .int .i64 n, .slice ao5 m5 cap5] 26 ⟨by decide, by decide⟩
              have W6 := ws_low W5 ((Below.refl _ _).alloc (Nat.le_refl _) (.cells #[.int .i64 s, .int .i64 n, .slice ao5 m5 cap5] 26))
              refine wpAnyH_ready (rs := [11]) (by kernel_rfl) (by simp) ?_
              refine AllReadyH.cons rfl (fun K hK => ?_) AllReadyH.nil
              go_simp
              (try go_simp)
              refine hK.out _ _ (plays_S P6.bel (P6.rows (tb, #[.int .i64 s, .int .i64 n, .slice ao m cap], 26) (by simp)).1 hib hcc) (fun hHeld => ?_)
              clear hK K
              (try simp only [Act.put, List.setIfInBounds_toArray, List.set_cons_zero, List.set_cons_succ, List.getElem_toArray, List.getElem_cons_zero, List.getElem_cons_succ])
              refine wpAnyH_take (i := 12) (v := ?vb12) rfl (by kernel_rfl) (by kernel_rfl) (by kernel_rfl) (fun _ _ _ h => h) (Or.inl ⟨by rfl, ?hb12⟩) (by assumption) ?rb12
              case hb12 => (intro w hSw; (try dsimp only at hSw); go_simp <;> (with_reducible rfl))
              (try simp only [Act.put, List.setIfInBounds_toArray, List.set_cons_zero, List.set_cons_succ, List.getElem_toArray, List.getElem_cons_zero, List.getElem_cons_succ])
              refine wpAnyH_done (by kernel_rfl) ?_ _
              go_wp2_with fail
              go_meet
              exact ⟨w5.heap.size, b5, T5, _, us5, rfl, rfl, P6, W6, hT5⟩
            · go_simp
              refine hK.out _ _ (plays_S PN.bel (PN.rows (tb, #[.int .i64 s, .int .i64 n, .slice ao m cap], 26) (by simp)).1 hib hcc) (fun hHeld => ?_)
              clear hK K
              (try simp only [Act.put, List.setIfInBounds_toArray, List.set_cons_zero, List.set_cons_succ, List.getElem_toArray, List.getElem_cons_zero, List.getElem_cons_succ])
              refine wpAnyH_ready (rs := [6]) (by kernel_rfl) (by simp) ?_
              refine AllReadyH.cons rfl (fun K hK => ?_) AllReadyH.nil
              go_simp
              refine (does_sn (W := w) (C := w.heap.size) (D := w.heap.size) (L := [(wr.heap.size, #[.int .i64 0, .int .i64 0, .slice none 0 0], 26), (tb, #[.int .i64 s, .int .i64 n, .slice ao m cap], 26)]) PN WN PN.bel.size hT d hd hps.out hpn.out).mono ?_
              rintro r w5 ⟨b5, T5, v5, us5, rfl, P5, W5, hT5⟩
              obtain ⟨ao5, cap5, rfl⟩ := own_shape W5
              generalize hm5 : us5.length = m5 at *
              clear hm5
              (try go_simp)
              refine hK.out _ _ (plays_S P5.bel (P5.rows (tb, #[.int .i64 s, .int .i64 n, .slice ao m cap], 26) (by simp)).1 hib hcc) (fun hHeld => ?_)
              clear hK K
              (try simp only [Act.put, List.setIfInBounds_toArray, List.set_cons_zero, List.set_cons_succ, List.getElem_toArray, List.getElem_cons_zero, List.getElem_cons_succ])
              refine wpAnyH_take (i := 7) (v := ?vc7) rfl (by kernel_rfl) (by kernel_rfl) (by kernel_rfl) (fun _ _ _ h => h) (Or.inl ⟨by rfl, ?hc7⟩) (by assumption) ?rc7
              case hc7 => (intro w hSw; (try dsimp only at hSw); go_simp <;> (with_reducible rfl))
              (try simp only [Act.put, List.setIfInBounds_toArray, List.set_cons_zero, List.set_cons_succ, List.getElem_toArray, List.getElem_cons_zero, List.getElem_cons_succ])
              refine wpAnyH_take (i := 8) (v := ?vc8) rfl (by kernel_rfl) (by kernel_rfl) (by kernel_rfl) (fun _ _ _ h => h) (Or.inl ⟨by rfl, ?hc8⟩) (by assumption) ?rc8
              case hc8 => (intro w hSw; (try dsimp only at hSw); go_simp <;> (with_reducible rfl))
              (try simp only [Act.put, List.setIfInBounds_toArray, List.set_cons_zero, List.set_cons_succ, List.getElem_toArray, List.getElem_cons_zero, List.getElem_cons_succ])
              refine wpAnyH_take (i := 9) (v := ?vc9) rfl (by kernel_rfl) (by kernel_rfl) (by kernel_rfl) (fun _ _ _ h => h) (Or.inl ⟨by rfl, ?hc9⟩) (by assumption) ?rc9
              case hc9 => (intro w hSw; (try dsimp only at hSw); go_simp <;> (with_reducible rfl))
              (try simp only [Act.put, List.setIfInBounds_toArray, List.set_cons_zero, List.set_cons_succ, List.getElem_toArray, List.getElem_cons_zero, List.getElem_cons_succ])
              have hn := (P5.rows (wr.heap.size, #[.int .i64 0, .int .i64 0, .slice none 0 0], 26) (by simp)).1
              have z0 := cell_row 0 hn rfl
              have z1 := cell_row 1 hn rfl
              have z2 := cell_row 2 hn rfl
              have fz : ∀ i, World.frozen? w5 ⟨wr.heap.size, i, none⟩ = false := fun i => by simp only [World.frozen?, hn]; rfl
              have P6 := PL.put3 (x' := .int .i64 s) (y' := .int .i64 n) (u' := .slice ao5 m5 cap5) P5 (fun q hq => by rw [List.mem_singleton.1 hq]; exact hNe.out)
              have W6 := ws_put3 (x' := .int .i64 s) (y' := .int .i64 n) (u' := .slice ao5 m5 cap5) P5 W5
              refine wpAnyH_ready (rs := [11]) (by kernel_rfl) (by simp) ?_
              refine AllReadyH.cons rfl (fun K hK => ?_) AllReadyH.nil
              go_simp
              (try go_simp)
              refine hK.out _ _ (plays_S P6.bel (P6.rows (tb, #[.int .i64 s, .int .i64 n, .slice ao m cap], 26) (by simp)).1 hib hcc) (fun hHeld => ?_)
              clear hK K
              (try simp only [Act.put, List.setIfInBounds_toArray, List.set_cons_zero, List.set_cons_succ, List.getElem_toArray, List.getElem_cons_zero, List.getElem_cons_succ])
              refine wpAnyH_take (i := 12) (v := ?vc12) rfl (by kernel_rfl) (by kernel_rfl) (by kernel_rfl) (fun _ _ _ h => h) (Or.inl ⟨by rfl, ?hc12⟩) (by assumption) ?rc12
              case hc12 => (intro w hSw; (try dsimp only at hSw); go_simp <;> (with_reducible rfl))
              (try simp only [Act.put, List.setIfInBounds_toArray, List.set_cons_zero, List.set_cons_succ, List.getElem_toArray, List.getElem_cons_zero, List.getElem_cons_succ])
              refine wpAnyH_done (by kernel_rfl) ?_ _
              go_wp2_with fail
              go_meet
              exact ⟨wr.heap.size, b5, T5, _, us5, rfl, rfl, P6, W6, hT5⟩
          case rest =>
            obtain ⟨nb, b5, T5, v5, us5, rfl, rfl, P6, W6, hT5⟩ := hcut
            obtain ⟨ao5, cap5, rfl⟩ := own_shape W6
            have hlt := (Array.getElem?_eq_some_iff.1 (P6.rows _ (List.mem_cons_self ..)).1).1
            clear PP WW PD WD PN WN hT
            have qn := (P6.rows _ (List.mem_cons_self ..)).1
            have n0 := cell_row 0 qn rfl
            have n1 := cell_row 1 qn rfl
            have n2 := cell_row 2 qn rfl
            have P7 := P6.sub (M := [(tb, #[.int .i64 s, .int .i64 n, .slice ao m cap], 26)]) (fun q hq => by rw [List.mem_singleton.1 hq]; simp)
            have q5 := (P7.rows _ (List.mem_cons_self ..)).1
            have r0 := cell_row 0 q5 rfl
            have r1 := cell_row 1 q5 rfl
            have r2 := cell_row 2 q5 rfl
            have f5 : ∀ i, World.frozen? wc ⟨tb, i, none⟩ = false := fun i => by simp [World.frozen?, q5]
            go_wp2_with fail
            go_roundw
            case rel => exact ⟨j + 1, T5, sb, b5, _, us5, by go_num, by omega, by omega, PL.put3 P7 (fun _ hq => absurd hq (by simp)), ws_put3 P7 W6, hT5⟩
            case measure => simp [intOf]; omega
        · have h1' : (j : Int) < (len2 : Int) := by omega
          have h2' : ¬ (j : Int) < 20 := by omega
          go_wp2_with fail
          go_meet
          exact ⟨T, sb, bm, rv, ws, PP, WW, hT⟩
      · have h1' : ¬ (j : Int) < (len2 : Int) := by omega
        go_wp2_with fail
        go_meet
        exact ⟨T, sb, bm, rv, ws, PP, WW, hT⟩
  case rest =>
    clear P0 w2'
    obtain ⟨T, sb, bm, rv, ws, PP, WW, hT⟩ := hcut
    have hPok := PP.tsb.ok
    have hle := lst_le P T P.n
    have hnP := hPok.n_bd
    have HM : M1 w wc st P T tb s n rv ws := ⟨⟨sb, bm, PP⟩, WW⟩
    obtain ⟨ao, cap, rfl⟩ := own_shape WW
    generalize hm : ws.length = m at *
    clear hm
    have CN := Lib.hid (fun W (h : M1 w W st P T tb s n (.slice ao m cap) ws) => n_len h hpn.out)
    have CK := Lib.hid (fun W (h : M1 w W st P T tb s n (.slice ao m cap) ws) => n_lock h)
    have CDK := Lib.hid (fun W (h : M1 w W st P T tb s n (.slice ao m cap) ws) => n_dlock h hT hps.out hpn.out)
    have CL := Lib.hid (fun W (h : M1 w W st P T tb s n (.slice ao m cap) ws) => n_list h)
    have CDL := Lib.hid (fun W (h : M1 w W st P T tb s n (.slice ao m cap) ws) => n_dlist h hT hps.out hpn.out)
    have CS := Lib.hid (fun W u v (h1 : LE W u (lstP P T P.n)) (h2 : LE W v (lstP P T P.n)) => le_same h1 h2 (by omega))
    generalize lckN T P.n = K at *
    generalize lstP P T P.n = LP at *
    obtain ⟨t0, t1, t2⟩ := HM.sc
    clear PP WW hPok hle hnP
    go_wp2_with fail
    go_region_held3 (fun w1 => w1.cell? ⟨tb, 0, none⟩ = some (.int .i64 s) ∧ w1.cell? ⟨tb, 1, none⟩ = some (.int .i64 n) ∧ w1.cell? ⟨tb, 2, none⟩ = some (.slice ao m cap)) ((refine M1.sc (w := w) (st := st) (p := P) (T := T) (ws := ws) ?_; (repeat (first | (with_reducible assumption) | (with_reducible refine M1.drew ?_) | (with_reducible refine M1.drewN ?_ _) | (with_reducible refine M1.alloc ?_ _) | (with_reducible refine M1.low ?_ (by assumption)))) ))
      (first | (go_at_call 7; (with_reducible refine (CN.out _ ?_).mono ?_); (focus (((repeat (first | (with_reducible assumption) | (with_reducible refine M1.drew ?_) | (with_reducible refine M1.drewN ?_ _) | (with_reducible refine M1.alloc ?_ _) | (with_reducible refine M1.low ?_ (by assumption)))) ); done)); rintro r w' ⟨rfl, hb⟩) | (go_at_call 8; (with_reducible refine (CK.out _ ?_).mono ?_); (focus (((repeat (first | (with_reducible assumption) | (with_reducible refine M1.drew ?_) | (with_reducible refine M1.drewN ?_ _) | (with_reducible refine M1.alloc ?_ _) | (with_reducible refine M1.low ?_ (by assumption)))) ); done)); rintro r w' ⟨rfl, hb⟩) | (go_at_call 9; (with_reducible refine (CDK.out _ ?_).mono ?_); (focus (((repeat (first | (with_reducible assumption) | (with_reducible refine M1.drew ?_) | (with_reducible refine M1.drewN ?_ _) | (with_reducible refine M1.alloc ?_ _) | (with_reducible refine M1.low ?_ (by assumption)))) ); done)); rintro r w' ⟨rfl, hb⟩) | (go_at_call 11; (with_reducible refine (CL.out _ ?_).mono ?_); (focus (((repeat (first | (with_reducible assumption) | (with_reducible refine M1.drew ?_) | (with_reducible refine M1.drewN ?_ _) | (with_reducible refine M1.alloc ?_ _) | (with_reducible refine M1.low ?_ (by assumption)))) ); done)); rintro r w' ⟨vo, rfl, hl, hb⟩; obtain ⟨aol, capl, rfl⟩ := LE.shape hl) | (go_at_call 12; (with_reducible refine (CDL.out _ ?_).mono ?_); (focus (((repeat (first | (with_reducible assumption) | (with_reducible refine M1.drew ?_) | (with_reducible refine M1.drewN ?_ _) | (with_reducible refine M1.alloc ?_ _) | (with_reducible refine M1.low ?_ (by assumption)))) ); done)); rintro r w' ⟨vo, rfl, hl, hb⟩; obtain ⟨aol, capl, rfl⟩ := LE.shape hl) | (go_at_call 10; (with_reducible refine (CS.out _ _ _ ?_ ?_).mono ?_); (focus (((repeat (first | (with_reducible assumption) | (with_reducible refine LE.drew ?_) | (with_reducible refine LE.low ?_ (by assumption)))) ); done)); (focus (((repeat (first | (with_reducible assumption) | (with_reducible refine LE.drew ?_) | (with_reducible refine LE.low ?_ (by assumption)))) ); done)); rintro r w' ⟨rfl, hb⟩) | (go_at_call 13; (with_reducible refine (HL.out _).mono ?_); rintro r w' ⟨rfl, hb⟩))
    all_goals
      go_wp2_with fail
      go_ret
      exact ⟨rfl, M1.bel (st := st) (p := P) (T := T) (tb := tb) (s := s) (n := n) (rv := .slice ao m cap) (ws := ws) (by (repeat (first | (with_reducible assumption) | (with_reducible refine M1.drew ?_) | (with_reducible refine M1.drewN ?_ _) | (with_reducible refine M1.alloc ?_ _) | (with_reducible refine M1.low ?_ (by assumption)))) )⟩

/-! ### The row -/
set_option maxRecDepth 100000 in
theorem lifted (os : Os) (started : os.Started) (H : Type) (enc : TypeId × Value → H) :
    ReturnsInHanded {} Tryz.checked os 3 .any (Rows.tsbPlaysSpec.pre6 enc Tryz.prog Tryz.f3 Rows.tsbPlaysRow.domain false) (Rows.tsbPlaysSpec.post enc Tryz.prog Tryz.f3 false true false false) := by
  refine returnsInHanded_of_change (C := Tryz.checked) own started (by kernel_rfl) Tryz.func3
    (ChangeSpec.witness6 (enc := enc) (C := Tryz.checked) false ⟨#[], #[.int .i64 0, .int .i64 0, .slice none 0 0], []⟩ 8 (by kernel_rfl) (by kernel_rfl) (by kernel_rfl) (by kernel_rfl)) ?_
  intro W base args ds gs before hval0 hW hcnd _
  have hval : ∀ (j : Nat) t v, Tryz.f3.params[j]? = some t → args[j]? = some v → Value.okWide Tryz.prog W .any base t v := hval0
  have hW' := hW
  obtain ⟨p, q, hA0, hV, rfl, hfz, hnd⟩ := hW
  have hA : DataW.TrodAll enc Tryz.prog W 0 (fun _ => true) true Tryz.f3.params.toList args.toList ds p := hA0
  rw [Tryz.params3] at hA hval
  obtain ⟨v0, vs0, d0, ds0, p0, q0, hargs, rfl, rfl, h0, r0⟩ := trodAll_cons hA
  obtain ⟨v1, vs1, d1, ds1, p1, q1, rfl, rfl, rfl, h1, r1⟩ := trodAll_cons r0
  obtain ⟨v2, vs2, d2, ds2, p2, q2, rfl, rfl, rfl, h2, r2⟩ := trodAll_cons r1
  obtain ⟨rfl, rfl, rfl⟩ := trodAll_nil r2
  obtain rfl : args = #[v0, v1, v2] := by cases args; simp_all
  obtain ⟨rfl, rfl⟩ := trodVars_none hV
  obtain ⟨a0, rfl, rfl, rfl, w0⟩ := open_int Tryz.underlying3 (hval 0 3 v0 rfl rfl) h0
  obtain ⟨a1, rfl, rfl, rfl, w1⟩ := open_int Tryz.underlying3 (hval 1 3 v1 rfl rfl) h1
  obtain ⟨s2, len2, cap2, rfl⟩ := okWide_slice Tryz.underlying22 (hval 2 22 v2 rfl rfl)
  have k2 := h2
  have lt2 : ∀ x ∈ p2, x.block < W.heap.size := by obtain ⟨m, hm⟩ := k2; exact DataW.trod_lt m _ _ _ hm
  have w2 : IsDeeds W s2 len2 cap2 := by
    obtain ⟨fuel, hf⟩ := h2
    exact open_deeds hf
  clear hA0 hval0
  simp only [List.append_nil] at hW'
  refine (walk W a0 w0 a1 w1 s2 len2 cap2 w2).mono fun e W' ⟨he, hg⟩ => ?_
  subst he
  exact ⟨_, rfl, _, _, _, [], _, [], hW', trodAll_mk1 (shut_bool Tryz.underlying4 _), (trodAll_cons_mk (shut_int Tryz.underlying3 w0) (trodAll_cons_mk (shut_int Tryz.underlying3 w1) (trodAll_cons_mk (Below.trod laidOut (by kernel_rfl) (of_decide_eq_true (by kernel_rfl)) k2 hg lt2) trodAll_mk0))), rfl, hg.frame _, fun h => by cases h⟩

theorem over : Rows.tsbPlaysRow.holds Tryz.pinned (OpenSpec.ofChange Rows.tsbPlaysSpec) :=
  OpenClaim.holds_of_wide 3 Tryz.f3 rfl rfl rfl rfl rfl rfl rfl ⟨rfl, rfl, rfl, rfl, rfl⟩ rfl rfl rfl rfl rfl (by kernel_rfl) Tryz.func3 (by kernel_rfl)
    (of_decide_eq_true (by kernel_rfl)) (by unfold Func.isWrapper; first | (rw [if_pos (by decide +kernel)]; kernel_rfl) | (rw [if_neg (by decide +kernel)]; exact ⟨rfl, rfl⟩))
    (fun os started H enc _ => lifted os started H enc)

theorem proved : Rows.TsbPlaysSaid :=
  over
#print axioms proved
end Go.Proofs.YtgdagfhdimoklaaGreat.tsbPlays
