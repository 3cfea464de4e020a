/-
  TsbMoves: for every size and two grades, all entries (made such as may be there) the law returns true, and its arguments read as before. Conditions: none.
-/
import Derived.Test.YtgdagfhdimoklaaGreatRows
import Derived.WalkKit
import Derived.ProofKit
import Derived.OpenShut
import Derived.Test.YtgdagfhdimoklaaGreatGH
import Derived.Deep.CutBlock
import Derived.Deep.DeepCutAuto
import Derived.Deep.RegionHeld3
import Derived.Test.YtgdagfhdimoklaaGreatGD
namespace Go.Proofs.YtgdagfhdimoklaaGreat.tsbMoves
open Fld Ts
open Tl (IsEnts ents_at open_ents laidOut ListAt DocAt)
open Go.ChangeShapes Go.WideShapes Go.ChangeAt Go.RowKit Go.Deep Go.Shelf
set_option linter.unusedVariables false

theorem own : ownKnob Tryz.prog.godebug = none := by kernel_rfl

open Pt (idxI arI ar_bd)
open Tl (nthE rowL_list eleven eleven_one cell_eleven_new rowL infoE)
/-! ### The walk -/
set_option maxHeartbeats 8000000 in
set_option maxRecDepth 100000 in
theorem walk (w : World) (a0 : Int) (w0 : (Lit.int .i64 a0).wf = true) (a1 : Int) (w1 : (Lit.int .i64 a1).wf = true) (a2 : Int) (w2 : (Lit.int .i64 a2).wf = true) (s3 : Option Addr) (len3 cap3 : Nat) (w3 : IsEnts w s3 len3 cap3) :
    Calls Tryz.prog 4 #[.int .i64 a0, .int .i64 a1, .int .i64 a2, .slice s3 len3 cap3] w fun e w' => e = .returned (.bool true) ∧ Below w.heap.size w w' := by
  obtain ⟨s0, s1⟩ := bounds_i64 w0
  obtain ⟨g0, g1⟩ := bounds_i64 w1
  obtain ⟨f0, f1⟩ := bounds_i64 w2
  have CB := Lib.hid (fun W => cbegin a0 a1 s0 s1 g0 g1 W)
  have CB2 := Lib.hid (fun W => cbegin a0 a2 s0 s1 f0 f1 W)
  have HL := Lib.hid (fun W => blives_any W)
  have hs := ar_bd a0 4 (by decide)
  have hN : ∀ g : Int, ((parB (arI a0 4) (arI g 4)).n : Int) = placesI (arI a0 4) (arI g 4) := fun g => by
    have hz : sizeB (arI a0 4) = true := sizeB_mk (by omega)
    have hg := ar_bd g 4 (by decide)
    have := places_bd hz hg.1 (by omega)
    show ((placesI (arI a0 4) (arI g 4)).toNat : Int) = _
    omega
  have hps := Lib.hid (show (parB (arI a0 4) (arI a1 4)).s = arI a0 4 from rfl)
  have hqs := Lib.hid (show (parB (arI a0 4) (arI a2 4)).s = arI a0 4 from rfl)
  have hpn := Lib.hid (hN a1)
  have hqn := Lib.hid (hN a2)
  generalize parB (arI a0 4) (arI a1 4) = P at *
  generalize parB (arI a0 4) (arI a2 4) = Q at *
  generalize placesI (arI a0 4) (arI a1 4) = n at *
  generalize placesI (arI a0 4) (arI a2 4) = n2 at *
  generalize arI a0 4 = s at *
  clear w0 w1 w2 hN
  go_enter Tryz.func4, Tryz.ntmps4
  go_wp2_with fail
  refine (CB.out _).mono ?_; rintro e w1 ⟨st, rfl, H1⟩
  have H2 := H1.push #[.int .i64 s, .int .i64 n, .slice none 0 0] 26 ⟨by decide, by decide⟩
  clear CB H1
  go_wp2_with fail
  generalize World.alloc w1 _ = wb at *
  generalize w1.heap.size = tb at *
  refine (CB2.out _).mono ?_; rintro e w2 ⟨st2, rfl, H3⟩
  obtain ⟨sb0, bm0, P0⟩ := PL.start H2
  obtain ⟨⟨sb2, bm2, e1, e2, e3, e4, e5⟩, -⟩ := H3
  have hz0 := P0.bel.size
  obtain ⟨l1, l2, l3, -⟩ := P0.tsb.lt
  have O1 : OT w w2 sb0 bm0 st2 sb2 bm2 Q (fun _ => Pl.none) := ⟨by omega, by omega, e5, by omega, by omega⟩
  have P1 := P0.low e4
  have hz1 := P1.bel.size
  have hto := (Array.getElem?_eq_some_iff.1 (P1.rows _ (List.mem_cons_self ..)).1).1
  have P2 : PL w (w2.alloc (.cells #[.int .i64 s, .int .i64 n2, .slice none 0 0] 26)) st sb0 bm0 P (fun _ => Pl.none) [(tb, #[.int .i64 s, .int .i64 n, .slice none 0 0], 26), (w2.heap.size, #[.int .i64 s, .int .i64 n2, .slice none 0 0], 26)] w.heap.size (.slice none 0 0) [] := by
    have Pa := P1.alloc (.cells #[.int .i64 s, .int .i64 n2, .slice none 0 0] 26)
    refine ⟨Pa.f1, Pa.f2, Pa.f3, Pa.bel, Pa.tsb, fun q hq => ?_, Pa.own, Pa.base⟩
    simp only [List.mem_cons, List.not_mem_nil, or_false] at hq
    rcases hq with rfl | rfl
    · exact Pa.rows _ (List.mem_cons_self ..)
    · exact ⟨World.alloc_heap_new _ _, show okT 26 from ⟨by decide, by decide⟩, hz1⟩
  have O2 := O1.alloc (.cells #[.int .i64 s, .int .i64 n2, .slice none 0 0] 26)
  clear CB2 H2 P0 P1 O1 e1 e2 e3 e4 e5 l1 l2 l3 hz0 hz1
  go_upto_block 0 with fail
  generalize World.alloc w2 _ = wd at *
  generalize w2.heap.size = ob at *
  have hne : tb ≠ ob := by omega
  clear hto
  have w3' := w3
  go_cut [13] (fun _ wx => ∃ (l : List Ent) (sb bm : Nat) (rv : Value) (ws : List Wd), Fine P l ∧ PL w wx st sb bm P (insAll P l) [(tb, #[.int .i64 s, .int .i64 n, rv], 26), (ob, #[.int .i64 s, .int .i64 n2, .slice none 0 0], 26)] w.heap.size (.slice none 0 0) [] ∧ WsAt wx w.heap.size rv ws ∧ Tie P ws (insAll P l) ∧ OT w wx sb bm st2 sb2 bm2 Q (fun _ => Pl.none))
  case first =>
    go_wp2_with fail
    go_loopw [13] (fun i wr => ∃ (j : Nat) (l : List Ent) (sb bm : Nat) (rv : Value) (ws : List Wd), i = .int .i64 (j : Int) ∧ j ≤ len3 ∧ j ≤ 12 ∧ Fine P l ∧ PL w wr st sb bm P (insAll P l) [(tb, #[.int .i64 s, .int .i64 n, rv], 26), (ob, #[.int .i64 s, .int .i64 n2, .slice none 0 0], 26)] w.heap.size (.slice none 0 0) [] ∧ WsAt wr w.heap.size rv ws ∧ Tie P ws (insAll P l) ∧ OT w wr sb bm st2 sb2 bm2 Q (fun _ => Pl.none)) (fun i _ => 12 - (intOf i).toNat)
    case atStart => exact ⟨0, [], sb0, bm0, _, [], rfl, Nat.zero_le _, Nat.zero_le _, Fine.nil P, P2, ws_nil _ _, tie_nil P, O2⟩
    case round =>
      clear P2 O2
      obtain ⟨j, l, sb, bm, rv, ws, rfl, hj, hj2, hfine, PP, WW, hT, OO⟩ := hrel
      by_cases hj1 : j < len3
      · by_cases hj12 : j < 12
        · have h1 := hj1
          have h2 := hj12
          obtain ⟨ib, o, off, x, rfl, ho, hlc, hcm, he, hc⟩ := ents_at w3' j h1
          subst ho
          unfold maxLen at hcm
          have hcl : ∀ {b o : Nat} {v : Value}, w.cell? ⟨b, o, none⟩ = some v → wr.cell? ⟨b, o, none⟩ = some v := fun {b o v} hc => (PP.bel.cell (p := ⟨b, o, none⟩) (Tl.lt_cell hc)).trans hc
          have hib : ib < w.heap.size := Tl.lt_cell hc.1
          obtain ⟨c0, c1, c2, c3, c4, c5, c6, c7, c8, c9, c10⟩ := hc
          replace c0 := hcl c0; replace c1 := hcl c1; replace c2 := hcl c2; replace c3 := hcl c3; replace c4 := hcl c4; replace c5 := hcl c5; replace c6 := hcl c6; replace c7 := hcl c7; replace c8 := hcl c8; replace c9 := hcl c9; replace c10 := hcl c10
          have PI1 : DO w w wr st sb bm P (insAll P l) [(tb, #[.int .i64 s, .int .i64 n, rv], 26), (ob, #[.int .i64 s, .int .i64 n2, .slice none 0 0], 26)] w.heap.size (.slice none 0 0) [] ib (off + j * 11) x w.heap.size rv ws st2 sb2 bm2 Q (fun _ => Pl.none) := ⟨⟨⟨PP, ⟨c0, c1, c2, c3, c4, c5, c6, c7, c8, c9, c10⟩, hib⟩, WW⟩, OO⟩
          have t0 := cell_row 0 (PP.rows _ (List.mem_cons_self ..)).1 rfl
          have CX := Lib.hid (fun W => dmade_any x (Ent.lits_wf he) s hs W)
          have okx := made_ok s x
          have szx := Lib.hid (show (made s x).size = s from made_size x hs)
          generalize made s x = y at *
          have h1' : (j : Int) < (len3 : Int) := by omega
          have h2' : (j : Int) < 12 := by omega
          have hds : ∀ W : World, W.drew.heap.size = W.heap.size := fun _ => rfl
          have hszr := PP.bel.size
          have hPok := PP.tsb.ok
          clear PP hcl WW OO
          go_wp2_with fail
          go_cut [14] (fun a wx => ∃ c, a = .pointer (some ⟨c, 0, none⟩) ∧ PL w wx st sb bm P (insAll P l) [(tb, #[.int .i64 s, .int .i64 n, rv], 26), (ob, #[.int .i64 s, .int .i64 n2, .slice none 0 0], 26)] w.heap.size (.slice none 0 0) [] ∧ WsAt wx w.heap.size rv ws ∧ OT w wx sb bm st2 sb2 bm2 Q (fun _ => Pl.none) ∧ RowE wx c y)
          case first =>
            go_region_held3 (fun w1 => (w1.cell? ⟨ib, off + j * 11, none⟩ = some (.int .i64 x.size) ∧ w1.cell? ⟨ib, off + j * 11 + 1, none⟩ = some (.int .i64 x.ctx) ∧ w1.cell? ⟨ib, off + j * 11 + 2, none⟩ = some (.int .u64 x.va) ∧ w1.cell? ⟨ib, off + j * 11 + 3, none⟩ = some (.int .u64 x.pa) ∧ w1.cell? ⟨ib, off + j * 11 + 4, none⟩ = some (.bool x.att.write) ∧ w1.cell? ⟨ib, off + j * 11 + 5, none⟩ = some (.bool x.att.priv) ∧ w1.cell? ⟨ib, off + j * 11 + 6, none⟩ = some (.bool x.att.exec) ∧ w1.cell? ⟨ib, off + j * 11 + 7, none⟩ = some (.bool x.att.lock) ∧ w1.cell? ⟨ib, off + j * 11 + 8, none⟩ = some (.bool x.att.global) ∧ w1.cell? ⟨ib, off + j * 11 + 9, none⟩ = some (.bool x.att.quiet) ∧ w1.cell? ⟨ib, off + j * 11 + 10, none⟩ = some (.bool x.valid)) ∧ w1.cell? ⟨tb, 0, none⟩ = some (.int .i64 s)) ((refine DO.sc (w := w) (W := w) (C := w.heap.size) (st := st) (sb := sb) (bm := bm) (p := P) (T := insAll P l) (M := [(ob, #[.int .i64 s, .int .i64 n2, .slice none 0 0], 26)]) (v := .slice none 0 0) (u := rv) (n := .int .i64 n) (l := []) (D := w.heap.size) (rv := rv) (ws := ws) (st2 := st2) (sb2 := sb2) (bm2 := bm2) (q := Q) (U := fun _ => Pl.none) ?_; (repeat (first | (with_reducible assumption) | (with_reducible refine DO.drew ?_) | (with_reducible refine DO.drewN ?_ _) | (with_reducible refine DO.alloc ?_ _) | (with_reducible refine DO.setNew ?_ ?_) | (with_reducible refine DO.low ?_ (by assumption)))) ))
              ((go_at_call 14; (with_reducible refine (CX.out _).mono ?_); rintro r w' ⟨rfl, hb⟩; obtain ⟨hcc, hf, hs1, hs2⟩ := bfacts hb; (try have hv : wr.heap.size < w'.heap.size := by (have hsz := hb.size; (try simp only [hds] at hsz); (try simp only [World.size_alloc] at hsz); omega))))
            all_goals
              go_wp2_with fail
              go_meet
              refine ⟨_, rfl, ?_, ?_, ?_, ?_⟩
              · refine PI.pl (w := w) (ib := ib) (o := off + j * 11) (x := x) (DI.pi (D := w.heap.size) (rv := rv) (ws := ws) (DO.di (st2 := st2) (sb2 := sb2) (bm2 := bm2) (q := Q) (U := fun _ => Pl.none) ?_)); (repeat (first | (with_reducible assumption) | (with_reducible refine DO.drew ?_) | (with_reducible refine DO.drewN ?_ _) | (with_reducible refine DO.alloc ?_ _) | (with_reducible refine DO.setNew ?_ ?_) | (with_reducible refine DO.low ?_ (by assumption)))) 
              · refine DI.ws (w := w) (W := w) (st := st) (sb := sb) (bm := bm) (p := P) (T := insAll P l) (L := [(tb, #[.int .i64 s, .int .i64 n, rv], 26), (ob, #[.int .i64 s, .int .i64 n2, .slice none 0 0], 26)]) (C := w.heap.size) (v := .slice none 0 0) (l := []) (ib := ib) (o := off + j * 11) (x := x) (DO.di (st2 := st2) (sb2 := sb2) (bm2 := bm2) (q := Q) (U := fun _ => Pl.none) ?_); (repeat (first | (with_reducible assumption) | (with_reducible refine DO.drew ?_) | (with_reducible refine DO.drewN ?_ _) | (with_reducible refine DO.alloc ?_ _) | (with_reducible refine DO.setNew ?_ ?_) | (with_reducible refine DO.low ?_ (by assumption)))) 
              · refine DO.ot (w := w) (W := w) (st := st) (p := P) (T := insAll P l) (L := [(tb, #[.int .i64 s, .int .i64 n, rv], 26), (ob, #[.int .i64 s, .int .i64 n2, .slice none 0 0], 26)]) (C := w.heap.size) (v := .slice none 0 0) (l := []) (ib := ib) (o := off + j * 11) (x := x) (D := w.heap.size) (rv := rv) (ws := ws) ?_; (repeat (first | (with_reducible assumption) | (with_reducible refine DO.drew ?_) | (with_reducible refine DO.drewN ?_ _) | (with_reducible refine DO.alloc ?_ _) | (with_reducible refine DO.setNew ?_ ?_) | (with_reducible refine DO.low ?_ (by assumption)))) 
              · (first | (with_reducible exact RowE.new _ _) | (refine RowE.setAll (z := Ent.zero) ?_; (repeat (first | (with_reducible refine RowE.call ?_ (by assumption)) | (with_reducible refine RowE.drew ?_) | exact RowE.new _ Ent.zero))))
          case rest =>
            obtain ⟨c, rfl, P3, W3, O3, R3⟩ := hcut
            have ysz : y.size = P.s := szx.out.trans hps.out.symm
            have uY := wf_u (ok_wf okx)
            have hmay := fine_may okx ysz
            have hE0 : errP P y = 0 := by unfold errP; rw [hmay]; rfl
            have hlen := tie_len hT
            have hnb := hPok.n_bd
            have hti := tie_ins hPok hT hmay
            rw [← insAll_snoc] at hti
            have CI := Lib.hid (tinsert P3 W3 O3 y uY)
            rw [hE0, ← insAll_snoc] at CI
            have hfine2 := Lib.hid (hfine.snoc okx ysz)
            obtain ⟨d0, d1, d2, d3, d4, d5, d6, d7, d8, d9, d10⟩ := R3.cells
            clear PI1 CX c0 c1 c2 c3 c4 c5 c6 c7 c8 c9 c10 t0 hE0 ysz hds P3 W3 O3 hfine hmay
            go_wp2_with fail
            refine CI.out.mono ?_; rintro e w4 ⟨rfl, ⟨b4, P4, O4⟩, W4, hR⟩
            have R4 := hR _ _ R3
            clear CI hR R3 d0 d1 d2 d3 d4 d5 d6 d7 d8 d9 d10
            obtain ⟨d0, d1, d2, d3, d4, d5, d6, d7, d8, d9, d10⟩ := R4.cells
            have CD := Lib.hid (tdocins P4 W4 O4 (Nat.le_refl _) y okx.fit uY (by omega) hps.out hpn.out)
            have q4 := (P4.rows _ (List.mem_cons_self ..)).1
            have t0 := cell_row 0 q4 rfl
            have t1 := cell_row 1 q4 rfl
            have t2 := cell_row 2 q4 rfl
            clear W4 P4 q4 O4
            generalize insW P ws y = ws2 at *
            go_wp2_with (first | (go_at_call 16; (with_reducible refine CD.out.mono ?_); rintro r w5 ⟨v5, rfl, W5, P5, O5⟩; have q5 := (P5.rows _ (List.mem_cons_self ..)).1; have r0 := cell_row 0 q5 rfl; have r1 := cell_row 1 q5 rfl; have r2 := cell_row 2 q5 rfl; have f5 : ∀ i, World.frozen? w5 ⟨tb, i, none⟩ = false := (fun i => by simp [World.frozen?, q5]); obtain ⟨ao5, cap5, rfl⟩ := own_shape W5) | fail)
            go_roundw
            case rel => exact ⟨j + 1, l ++ [y], sb, b4, _, ws2, by go_num, by omega, by omega, hfine2.out, PL.put3 P5 (fun q hq => by rw [List.mem_singleton.1 hq]; exact Ne.symm hne), ws_put3 P5 W5, hti, OT.put3 O5 q5⟩
            case measure => simp [intOf]; omega
        · have h1' : (j : Int) < (len3 : Int) := by omega
          have h2' : ¬ (j : Int) < 12 := by omega
          go_wp2_with fail
          go_meet
          exact ⟨l, sb, bm, rv, ws, hfine, PP, WW, hT, OO⟩
      · have h1' : ¬ (j : Int) < (len3 : Int) := by omega
        go_wp2_with fail
        go_meet
        exact ⟨l, sb, bm, rv, ws, hfine, PP, WW, hT, OO⟩
  case rest =>
    clear P2 O2 w3'
    obtain ⟨l, sb, bm, rv, ws, hfine, PP, WW, hT, OO⟩ := hcut
    have hPok := PP.tsb.ok
    have hQok := OO.tsb.ok
    have hG := gd_all l hfine
    generalize insAll P l = T at *
    clear hfine
    have hss : P.s = Q.s := hps.out.trans hqs.out.symm
    have hfQ : Fine Q (lstP P T P.n) := fun e he => by
      obtain ⟨x, y⟩ := lst_fine hPok hG e he
      exact ⟨x, y.trans hss⟩
    have hG2 := gd_all _ hfQ
    have hML := Lib.hid (fun h => moves_len hPok hQok hss h hG)
    have hle := lst_le P T P.n
    have hle2 := lst_le Q (insAll Q (lstP P T P.n)) Q.n
    have hnP := hPok.n_bd
    have hnQ := hQok.n_bd
    have CI := Lib.hid (ointo_any hPok hQok hss hT hG (tie_nil Q) wc WW (ws_nil wc w.heap.size) PP.bel.size)
    have CInto := Lib.hid (fun W tb ob v us (h : M9 w W st st2 P Q T (fun _ => Pl.none) tb ob s n n2 rv v ws us) => m_into h hG hss)
    have CDT := Lib.hid (fun W tb ob v us U (h : M9 w W st st2 P Q T U tb ob s n n2 rv v ws us) => m_dlist2 h hPok hT (fun i _ => gd_U hG i) hps.out hpn.out)
    have CTL := Lib.hid (fun W tb ob v us U (h : M9 w W st st2 P Q T U tb ob s n n2 rv v ws us) => m_tlist h)
    have CS2 := Lib.hid (fun W u v (h1 : LE W u (lstP P T P.n)) (h2 : LE W v (lstP P T P.n)) => le_same h1 h2 (by omega))
    have CS1 := Lib.hid (fun W u v (h1 : LE W u (lstP Q (insAll Q (lstP P T P.n)) Q.n)) (h2 : LE W v (lstP Q (insAll Q (lstP P T P.n)) Q.n)) => le_same h1 h2 (by omega))
    have CDO := Lib.hid (fun W tb ob v us (ht : Tie Q us (insAll Q (lstP P T P.n))) (h : M9 w W st st2 P Q T (insAll Q (lstP P T P.n)) tb ob s n n2 rv v ws us) => m_dlist h hQok ht (fun i _ => gd_U hG2 i) hqs.out hqn.out)
    have COL := Lib.hid (fun W tb ob v us (h : M9 w W st st2 P Q T (insAll Q (lstP P T P.n)) tb ob s n n2 rv v ws us) => m_olist h)
    rw [hps.out, hpn.out, hqs.out, hqn.out] at CI
    generalize insAll Q (lstP P T P.n) = U at *
    generalize lstP P T P.n = LP at *
    generalize lstP Q U Q.n = LQ at *
    obtain ⟨kP, hkP⟩ : ∃ k, LP.length = k := ⟨_, rfl⟩
    obtain ⟨kQ, hkQ⟩ : ∃ k, LQ.length = k := ⟨_, rfl⟩
    rw [hkP, hkQ] at hML
    rw [hkP] at CI CInto
    have HKP := Lib.hid hkP
    have HKQ := Lib.hid hkQ
    clear hkP hkQ
    have hn12 : n ≤ n2 → P.n ≤ Q.n := fun h => by have := hpn.out; have := hqn.out; omega
    obtain ⟨t0, t1, t2⟩ : wc.cell? ⟨tb, 0, none⟩ = some (.int .i64 s) ∧ wc.cell? ⟨tb, 1, none⟩ = some (.int .i64 n) ∧ wc.cell? ⟨tb, 2, none⟩ = some rv := by
      have := (PP.rows _ (List.mem_cons_self ..)).1
      exact ⟨cell_row 0 this rfl, cell_row 1 this rfl, cell_row 2 this rfl⟩
    obtain ⟨u0, u1, u2⟩ : wc.cell? ⟨ob, 0, none⟩ = some (.int .i64 s) ∧ wc.cell? ⟨ob, 1, none⟩ = some (.int .i64 n2) ∧ wc.cell? ⟨ob, 2, none⟩ = some (.slice none 0 0) := by
      have := (PP.rows _ (List.mem_cons_of_mem _ (List.mem_cons_self ..))).1
      exact ⟨cell_row 0 this rfl, cell_row 1 this rfl, cell_row 2 this rfl⟩
    clear hss hfQ hle hle2 hnP hnQ hG hG2 hPok hQok
    go_wp2_with fail
    refine CI.out.mono ?_; rintro e w7 ⟨v7, ws7, rfl, W7, hT7, hb7⟩
    obtain ⟨ao7, cap7, rfl⟩ := own_shape W7
    have P7 := (PP.low hb7).sub (M := [(ob, #[.int .i64 s, .int .i64 n2, .slice none 0 0], 26), (tb, #[.int .i64 s, .int .i64 n, rv], 26)]) (fun q hq => by
      simp only [List.mem_cons, List.not_mem_nil, or_false] at hq ⊢; exact hq.symm)
    have O7 := OO.low hb7
    have V7 := ws_low WW hb7
    clear PP OO WW CI hb7 t0 t1 t2 u0 u1 u2
    generalize hlen7 : ws7.length = n7 at *
    have HL7 := Lib.hid hlen7
    clear hlen7
    have P8 := P7.alloc (.cells #[.int .i64 s, .int .i64 n2, .slice ao7 n7 cap7] 26)
    have O8 := O7.alloc (.cells #[.int .i64 s, .int .i64 n2, .slice ao7 n7 cap7] 26)
    have W8 := ws_low W7 ((Below.refl _ _).alloc (Nat.le_refl _) (.cells #[.int .i64 s, .int .i64 n2, .slice ao7 n7 cap7] 26))
    have V8 := ws_low V7 ((Below.refl _ _).alloc (Nat.le_refl _) (.cells #[.int .i64 s, .int .i64 n2, .slice ao7 n7 cap7] 26))
    have q7 := (P7.rows _ (List.mem_cons_self ..)).1
    have q8 := (P8.rows _ (List.mem_cons_self ..)).1
    have q15 := World.alloc_heap_new w7 (.cells #[.int .i64 s, .int .i64 n2, .slice ao7 n7 cap7] 26)
    clear P7 O7 V7 W7 q7
    go_upto_region 12 with fail
    generalize World.alloc w7 _ = w8 at *
    generalize w7.heap.size = nb at *
    have x0 := cell_row 0 q15 rfl
    have x1 := cell_row 1 q15 rfl
    have x2 := cell_row 2 q15 rfl
    have u0 := cell_row 0 q8 rfl
    have u1 := cell_row 1 q8 rfl
    have u2 := cell_row 2 q8 rfl
    have fz : ∀ i, World.frozen? w8 ⟨ob, i, none⟩ = false := fun i => by simp [World.frozen?, q8]
    have HM : M9 w _ st st2 P Q T (fun _ => Pl.none) tb ob s n n2 rv (.slice ao7 n7 cap7) ws ws7 := ⟨⟨sb, bm, sb2, bm2, PL.put3 (x' := .int .i64 s) (y' := .int .i64 n2) (u' := .slice ao7 n7 cap7) P8 (fun q hq => by rw [List.mem_singleton.1 hq]; exact hne), OT.put3 O8 q8⟩, ws_put3 P8 V8, ws_put3 P8 W8⟩
    clear P8 O8 W8 V8 q8 q15
    go_wp2_with fail
    generalize World.setCell (World.setCell (World.setCell _ _ _) _ _) _ _ = w9 at *
    have HB9 := MB.of HM
    obtain ⟨t0, t1, t2, v0, v1, v2⟩ := HB9.sc
    clear u0 u1 u2 x0 x1 x2 fz
    have hds : ∀ W : World, W.drew.heap.size = W.heap.size := fun _ => rfl
    by_cases hq : n2 < n
    · have hqd : decide (n2 < n) = true := decide_eq_true hq
      clear hML hn12
      have M0 := HM.drew
      refine wp_region_held_drew (S := (fun w1 => w1.cell? ⟨tb, 0, none⟩ = some (.int .i64 s) ∧ w1.cell? ⟨tb, 1, none⟩ = some (.int .i64 n) ∧ w1.cell? ⟨tb, 2, none⟩ = some rv ∧ w1.cell? ⟨ob, 0, none⟩ = some (.int .i64 s) ∧ w1.cell? ⟨ob, 1, none⟩ = some (.int .i64 n2) ∧ w1.cell? ⟨ob, 2, none⟩ = some (.slice ao7 n7 cap7))) (by kernel_rfl) ((MB.of M0).sc) (fun hHeld => ?_)
      refine wpAnyH_take (i := 0) (v := ?vm0) rfl (by kernel_rfl) (by kernel_rfl) (by kernel_rfl) (fun _ _ _ h => h) (Or.inl ⟨by rfl, ?hm0⟩) (by assumption) ?rm0
      case hm0 => (intro w hSw; (try dsimp only at hSw); go_simp <;> (with_reducible rfl))
      (try simp only [Act.put, List.setIfInBounds_toArray, List.set_cons_zero, List.set_cons_succ, List.getElem_toArray, List.getElem_cons_zero])
      refine wpAnyH_take (i := 1) (v := ?vm1) rfl (by kernel_rfl) (by kernel_rfl) (by kernel_rfl) (fun _ _ _ h => h) (Or.inl ⟨by rfl, ?hm1⟩) (by assumption) ?rm1
      case hm1 => (intro w hSw; (try dsimp only at hSw); go_simp <;> (with_reducible rfl))
      (try simp only [Act.put, List.setIfInBounds_toArray, List.set_cons_zero, List.set_cons_succ, List.getElem_toArray, List.getElem_cons_zero, List.getElem_cons_succ])
      refine wpAnyH_take (i := 3) (v := ?vm3) rfl (by kernel_rfl) (by kernel_rfl) (by kernel_rfl) (fun _ _ _ h => h) (Or.inl ⟨by rfl, ?hm3⟩) (by assumption) ?rm3
      case hm3 => (intro w hSw; (try dsimp only at hSw); go_simp <;> (with_reducible rfl))
      (try simp only [Act.put, List.setIfInBounds_toArray, List.set_cons_zero, List.set_cons_succ, List.getElem_toArray, List.getElem_cons_zero, List.getElem_cons_succ])
      refine wpAnyH_ready (rs := [2]) (by kernel_rfl) (by simp) ?_
      refine AllReadyH.cons rfl (fun K hK => ?_) AllReadyH.nil
      go_simp
      refine (CInto.out _ tb ob (.slice ao7 n7 cap7) ws7 M0).mono ?_
      rintro r x1 ⟨rfl, M1⟩
      (try go_simp)
      refine hK.out _ _ ((MB.of M1).sc) (fun hHeld => ?_)
      clear hK K
      (try simp only [Act.put, List.setIfInBounds_toArray, List.set_cons_zero, List.set_cons_succ, List.getElem_toArray, List.getElem_cons_zero, List.getElem_cons_succ])
      refine wpAnyH_take (i := 4) (v := ?vm4) rfl (by kernel_rfl) (by kernel_rfl) (by kernel_rfl) (fun _ _ _ h => h) (Or.inl ⟨by rfl, ?hm4⟩) (by assumption) ?rm4
      case hm4 => (intro w hSw; (try dsimp only at hSw); go_simp <;> (with_reducible rfl))
      (try simp only [Act.put, List.setIfInBounds_toArray, List.set_cons_zero, List.set_cons_succ, List.getElem_toArray, List.getElem_cons_zero, List.getElem_cons_succ])
      refine wpAnyH_take (i := 5) (v := ?vm5) rfl (by kernel_rfl) (by kernel_rfl) (by kernel_rfl) (fun _ _ _ h => h) (Or.inl ⟨by rfl, ?hm5⟩) (by assumption) ?rm5
      case hm5 => (intro w hSw; (try dsimp only at hSw); go_simp <;> (with_reducible rfl))
      (try simp only [Act.put, List.setIfInBounds_toArray, List.set_cons_zero, List.set_cons_succ, List.getElem_toArray, List.getElem_cons_zero, List.getElem_cons_succ])
      refine wpAnyH_take (i := 6) (v := ?vm6) rfl (by kernel_rfl) (by kernel_rfl) (by kernel_rfl) (fun _ _ _ h => h) (Or.inl ⟨by rfl, ?hm6⟩) (by assumption) ?rm6
      case hm6 => (intro w hSw; (try dsimp only at hSw); go_simp <;> (with_reducible rfl))
      (try simp only [Act.put, List.setIfInBounds_toArray, List.set_cons_zero, List.set_cons_succ, List.getElem_toArray, List.getElem_cons_zero, List.getElem_cons_succ])
      refine wpAnyH_take (i := 8) (v := ?vm8) rfl (by kernel_rfl) (by kernel_rfl) (by kernel_rfl) (fun _ _ _ h => h) (Or.inl ⟨by rfl, ?hm8⟩) (by assumption) ?rm8
      case hm8 => (intro w hSw; (try dsimp only at hSw); go_simp <;> (with_reducible rfl))
      (try simp only [Act.put, List.setIfInBounds_toArray, List.set_cons_zero, List.set_cons_succ, List.getElem_toArray, List.getElem_cons_zero, List.getElem_cons_succ])
      refine wpAnyH_ready (rs := [7]) (by kernel_rfl) (by simp) ?_
      refine AllReadyH.cons rfl (fun K hK => ?_) AllReadyH.nil
      go_simp
      refine (COL.out _ tb ob (.slice ao7 n7 cap7) ws7 M1).mono ?_
      rintro r x2 ⟨vo, rfl, hl2, hb2⟩
      have M2 := M1.low hb2
      obtain ⟨ao2, cap2, rfl⟩ := LE.shape hl2
      rw [HKQ.out] at hl2 ⊢
      (try go_simp)
      refine hK.out _ _ ((MB.of M2).sc) (fun hHeld => ?_)
      clear hK K
      (try simp only [Act.put, List.setIfInBounds_toArray, List.set_cons_zero, List.set_cons_succ, List.getElem_toArray, List.getElem_cons_zero, List.getElem_cons_succ])
      refine wpAnyH_ready (rs := [9]) (by kernel_rfl) (by simp) ?_
      refine AllReadyH.cons rfl (fun K hK => ?_) AllReadyH.nil
      go_simp
      refine (CDO.out _ tb ob (.slice ao7 n7 cap7) ws7 hT7 M2).mono ?_
      rintro r x3 ⟨vo, rfl, hl3, hb3⟩
      have M3 := M2.low hb3
      obtain ⟨ao3, cap3, rfl⟩ := LE.shape hl3
      rw [HKQ.out] at hl3 ⊢
      (try go_simp)
      refine hK.out _ _ ((MB.of M3).sc) (fun hHeld => ?_)
      clear hK K
      (try simp only [Act.put, List.setIfInBounds_toArray, List.set_cons_zero, List.set_cons_succ, List.getElem_toArray, List.getElem_cons_zero, List.getElem_cons_succ])
      refine wpAnyH_ready (rs := [10]) (by kernel_rfl) (by simp) ?_
      refine AllReadyH.cons rfl (fun K hK => ?_) AllReadyH.nil
      go_simp
      refine (CS1.out _ _ _ (hl2.low hb3) hl3).mono ?_
      rintro r x4 ⟨rfl, hb4⟩
      have M4 := M3.low hb4
      (try go_simp)
      refine hK.out _ _ ((MB.of M4).sc) (fun hHeld => ?_)
      clear hK K
      (try simp only [Act.put, List.setIfInBounds_toArray, List.set_cons_zero, List.set_cons_succ, List.getElem_toArray, List.getElem_cons_zero, List.getElem_cons_succ])
      refine wpAnyH_take (i := 11) (v := ?vm11) rfl (by kernel_rfl) (by kernel_rfl) (by kernel_rfl) (fun _ _ _ h => h) (Or.inl ⟨by rfl, ?hm11⟩) (by assumption) ?rm11
      case hm11 => (intro w hSw; (try dsimp only at hSw); go_simp <;> (with_reducible rfl))
      (try simp only [Act.put, List.setIfInBounds_toArray, List.set_cons_zero, List.set_cons_succ, List.getElem_toArray, List.getElem_cons_zero, List.getElem_cons_succ])
      refine wpAnyH_take (i := 12) (v := ?vm12) rfl (by kernel_rfl) (by kernel_rfl) (by kernel_rfl) (fun _ _ _ h => h) (Or.inl ⟨by rfl, ?hm12⟩) (by assumption) ?rm12
      case hm12 => (intro w hSw; (try dsimp only at hSw); go_simp <;> (with_reducible rfl))
      (try simp only [Act.put, List.setIfInBounds_toArray, List.set_cons_zero, List.set_cons_succ, List.getElem_toArray, List.getElem_cons_zero, List.getElem_cons_succ])
      refine wpAnyH_take (i := 13) (v := ?vm13) rfl (by kernel_rfl) (by kernel_rfl) (by kernel_rfl) (fun _ _ _ h => h) (Or.inl ⟨by rfl, ?hm13⟩) (by assumption) ?rm13
      case hm13 => (intro w hSw; (try dsimp only at hSw); go_simp <;> (with_reducible rfl))
      (try simp only [Act.put, List.setIfInBounds_toArray, List.set_cons_zero, List.set_cons_succ, List.getElem_toArray, List.getElem_cons_zero, List.getElem_cons_succ])
      refine wpAnyH_take (i := 15) (v := ?vm15) rfl (by kernel_rfl) (by kernel_rfl) (by kernel_rfl) (fun _ _ _ h => h) (Or.inl ⟨by rfl, ?hm15⟩) (by assumption) ?rm15
      case hm15 => (intro w hSw; (try dsimp only at hSw); go_simp <;> (with_reducible rfl))
      (try simp only [Act.put, List.setIfInBounds_toArray, List.set_cons_zero, List.set_cons_succ, List.getElem_toArray, List.getElem_cons_zero, List.getElem_cons_succ])
      refine wpAnyH_ready (rs := [14]) (by kernel_rfl) (by simp) ?_
      refine AllReadyH.cons rfl (fun K hK => ?_) AllReadyH.nil
      go_simp
      refine (CTL.out _ tb ob (.slice ao7 n7 cap7) ws7 U M4).mono ?_
      rintro r x5 ⟨vo, rfl, hl5, hb5⟩
      have M5 := M4.low hb5
      obtain ⟨ao5, cap5, rfl⟩ := LE.shape hl5
      rw [HKP.out] at hl5 ⊢
      (try go_simp)
      refine hK.out _ _ ((MB.of M5).sc) (fun hHeld => ?_)
      clear hK K
      (try simp only [Act.put, List.setIfInBounds_toArray, List.set_cons_zero, List.set_cons_succ, List.getElem_toArray, List.getElem_cons_zero, List.getElem_cons_succ])
      refine wpAnyH_ready (rs := [16]) (by kernel_rfl) (by simp) ?_
      refine AllReadyH.cons rfl (fun K hK => ?_) AllReadyH.nil
      go_simp
      refine (CDT.out _ tb ob (.slice ao7 n7 cap7) ws7 U M5).mono ?_
      rintro r x6 ⟨vo, rfl, hl6, hb6⟩
      have M6 := M5.low hb6
      obtain ⟨ao6, cap6, rfl⟩ := LE.shape hl6
      rw [HKP.out] at hl6 ⊢
      (try go_simp)
      refine hK.out _ _ ((MB.of M6).sc) (fun hHeld => ?_)
      clear hK K
      (try simp only [Act.put, List.setIfInBounds_toArray, List.set_cons_zero, List.set_cons_succ, List.getElem_toArray, List.getElem_cons_zero, List.getElem_cons_succ])
      refine wpAnyH_ready (rs := [17]) (by kernel_rfl) (by simp) ?_
      refine AllReadyH.cons rfl (fun K hK => ?_) AllReadyH.nil
      go_simp
      refine (CS2.out _ _ _ (hl5.low hb6) hl6).mono ?_
      rintro r x7 ⟨rfl, hb7⟩
      have M7 := M6.low hb7
      (try go_simp)
      refine hK.out _ _ ((MB.of M7).sc) (fun hHeld => ?_)
      clear hK K
      (try simp only [Act.put, List.setIfInBounds_toArray, List.set_cons_zero, List.set_cons_succ, List.getElem_toArray, List.getElem_cons_zero, List.getElem_cons_succ])
      refine wpAnyH_take (i := 18) (v := ?vm18) rfl (by kernel_rfl) (by kernel_rfl) (by kernel_rfl) (fun _ _ _ h => h) (Or.inl ⟨by rfl, ?hm18⟩) (by assumption) ?rm18
      case hm18 => (intro w hSw; (try dsimp only at hSw); go_simp <;> (with_reducible rfl))
      (try simp only [Act.put, List.setIfInBounds_toArray, List.set_cons_zero, List.set_cons_succ, List.getElem_toArray, List.getElem_cons_zero, List.getElem_cons_succ])
      refine wpAnyH_take (i := 19) (v := ?vm19) rfl (by kernel_rfl) (by kernel_rfl) (by kernel_rfl) (fun _ _ _ h => h) (Or.inl ⟨by rfl, ?hm19⟩) (by assumption) ?rm19
      case hm19 => (intro w hSw; (try dsimp only at hSw); go_simp <;> (with_reducible rfl))
      (try simp only [Act.put, List.setIfInBounds_toArray, List.set_cons_zero, List.set_cons_succ, List.getElem_toArray, List.getElem_cons_zero, List.getElem_cons_succ])
      refine wpAnyH_take (i := 20) (v := ?vm20) rfl (by kernel_rfl) (by kernel_rfl) (by kernel_rfl) (fun _ _ _ h => h) (Or.inl ⟨by rfl, ?hm20⟩) (by assumption) ?rm20
      case hm20 => (intro w hSw; (try dsimp only at hSw); go_simp <;> (with_reducible rfl))
      (try simp only [Act.put, List.setIfInBounds_toArray, List.set_cons_zero, List.set_cons_succ, List.getElem_toArray, List.getElem_cons_zero, List.getElem_cons_succ])
      refine wpAnyH_take (i := 22) (v := ?vm22) rfl (by kernel_rfl) (by kernel_rfl) (by kernel_rfl) (fun _ _ _ h => h) (Or.inl ⟨by rfl, ?hm22⟩) (by assumption) ?rm22
      case hm22 => (intro w hSw; (try dsimp only at hSw); go_simp <;> (with_reducible rfl))
      (try simp only [Act.put, List.setIfInBounds_toArray, List.set_cons_zero, List.set_cons_succ, List.getElem_toArray, List.getElem_cons_zero, List.getElem_cons_succ])
      refine wpAnyH_ready (rs := [21]) (by kernel_rfl) (by simp) ?_
      refine AllReadyH.cons rfl (fun K hK => ?_) AllReadyH.nil
      go_simp
      refine (m_olen M7 hqn.out).mono ?_
      rintro r x8 ⟨rfl, hb8⟩
      have M8 := M7.low hb8
      (try go_simp)
      refine hK.out _ _ ((MB.of M8).sc) (fun hHeld => ?_)
      clear hK K
      (try simp only [Act.put, List.setIfInBounds_toArray, List.set_cons_zero, List.set_cons_succ, List.getElem_toArray, List.getElem_cons_zero, List.getElem_cons_succ])
      refine wpAnyH_ready (rs := [23]) (by kernel_rfl) (by simp) ?_
      refine AllReadyH.cons rfl (fun K hK => ?_) AllReadyH.nil
      go_simp
      refine (m_tlen M8 hpn.out).mono ?_
      rintro r x9 ⟨rfl, hb9⟩
      have M9_ := M8.low hb9
      (try go_simp)
      refine hK.out _ _ ((MB.of M9_).sc) (fun hHeld => ?_)
      clear hK K
      (try simp only [Act.put, List.setIfInBounds_toArray, List.set_cons_zero, List.set_cons_succ, List.getElem_toArray, List.getElem_cons_zero, List.getElem_cons_succ])
      refine wpAnyH_take (i := 24) (v := ?vm24) rfl (by kernel_rfl) (by kernel_rfl) (by kernel_rfl) (fun _ _ _ h => h) (Or.inl ⟨by rfl, ?hm24⟩) (by assumption) ?rm24
      case hm24 => (intro w hSw; (try dsimp only at hSw); go_simp <;> (with_reducible rfl))
      (try simp only [Act.put, List.setIfInBounds_toArray, List.set_cons_zero, List.set_cons_succ, List.getElem_toArray, List.getElem_cons_zero, List.getElem_cons_succ])
      refine wpAnyH_take (i := 25) (v := ?vm25) rfl (by kernel_rfl) (by kernel_rfl) (by kernel_rfl) (fun _ _ _ h => h) (Or.inl ⟨by rfl, ?hm25⟩) (by assumption) ?rm25
      case hm25 => (intro w hSw; (try dsimp only at hSw); go_simp <;> (with_reducible rfl))
      (try simp only [Act.put, List.setIfInBounds_toArray, List.set_cons_zero, List.set_cons_succ, List.getElem_toArray, List.getElem_cons_zero, List.getElem_cons_succ])
      refine wpAnyH_take (i := 26) (v := undef) rfl (by kernel_rfl) (by kernel_rfl) (by kernel_rfl) (fun _ _ _ h => h) (Or.inr ⟨by rfl, rfl⟩) (by assumption) ?_
      (try simp only [Act.put, List.setIfInBounds_toArray, List.set_cons_zero, List.set_cons_succ, List.getElem_toArray, List.getElem_cons_zero, List.getElem_cons_succ])
      refine wpAnyH_take (i := 27) (v := undef) rfl (by kernel_rfl) (by kernel_rfl) (by kernel_rfl) (fun _ _ _ h => h) (Or.inr ⟨by rfl, rfl⟩) (by assumption) ?_
      (try simp only [Act.put, List.setIfInBounds_toArray, List.set_cons_zero, List.set_cons_succ, List.getElem_toArray, List.getElem_cons_zero, List.getElem_cons_succ])
      refine wpAnyH_take (i := 28) (v := undef) rfl (by kernel_rfl) (by kernel_rfl) (by kernel_rfl) (fun _ _ _ h => h) (Or.inr ⟨by rfl, rfl⟩) (by assumption) ?_
      (try simp only [Act.put, List.setIfInBounds_toArray, List.set_cons_zero, List.set_cons_succ, List.getElem_toArray, List.getElem_cons_zero, List.getElem_cons_succ])
      refine wpAnyH_take (i := 29) (v := undef) rfl (by kernel_rfl) (by kernel_rfl) (by kernel_rfl) (fun _ _ _ h => h) (Or.inr ⟨by rfl, rfl⟩) (by assumption) ?_
      (try simp only [Act.put, List.setIfInBounds_toArray, List.set_cons_zero, List.set_cons_succ, List.getElem_toArray, List.getElem_cons_zero, List.getElem_cons_succ])
      refine wpAnyH_take (i := 30) (v := undef) rfl (by kernel_rfl) (by kernel_rfl) (by kernel_rfl) (fun _ _ _ h => h) (Or.inr ⟨by rfl, rfl⟩) (by assumption) ?_
      (try simp only [Act.put, List.setIfInBounds_toArray, List.set_cons_zero, List.set_cons_succ, List.getElem_toArray, List.getElem_cons_zero, List.getElem_cons_succ])
      refine wpAnyH_take (i := 31) (v := undef) rfl (by kernel_rfl) (by kernel_rfl) (by kernel_rfl) (fun _ _ _ h => h) (Or.inr ⟨by rfl, rfl⟩) (by assumption) ?_
      (try simp only [Act.put, List.setIfInBounds_toArray, List.set_cons_zero, List.set_cons_succ, List.getElem_toArray, List.getElem_cons_zero, List.getElem_cons_succ])
      refine wpAnyH_take (i := 32) (v := undef) rfl (by kernel_rfl) (by kernel_rfl) (by kernel_rfl) (fun _ _ _ h => h) (Or.inr ⟨by rfl, rfl⟩) (by assumption) ?_
      (try simp only [Act.put, List.setIfInBounds_toArray, List.set_cons_zero, List.set_cons_succ, List.getElem_toArray, List.getElem_cons_zero, List.getElem_cons_succ])
      refine wpAnyH_take (i := 33) (v := ?vm33) rfl (by kernel_rfl) (by kernel_rfl) (by kernel_rfl) (fun _ _ _ h => h) (Or.inl ⟨by rfl, ?hm33⟩) (by assumption) ?rm33
      case hm33 => (intro w hSw; (try dsimp only at hSw); go_simp <;> (with_reducible rfl))
      (try simp only [Act.put, List.setIfInBounds_toArray, List.set_cons_zero, List.set_cons_succ, List.getElem_toArray, List.getElem_cons_zero, List.getElem_cons_succ])
      refine wpAnyH_take (i := 34) (v := ?vm34) rfl (by kernel_rfl) (by kernel_rfl) (by kernel_rfl) (fun _ _ _ h => h) (Or.inl ⟨by rfl, ?hm34⟩) (by assumption) ?rm34
      case hm34 => (intro w hSw; (try dsimp only at hSw); go_simp <;> (with_reducible rfl))
      (try simp only [Act.put, List.setIfInBounds_toArray, List.set_cons_zero, List.set_cons_succ, List.getElem_toArray, List.getElem_cons_zero, List.getElem_cons_succ])
      refine wpAnyH_take (i := 35) (v := ?vm35) rfl (by kernel_rfl) (by kernel_rfl) (by kernel_rfl) (fun _ _ _ h => h) (Or.inl ⟨by rfl, ?hm35⟩) (by assumption) ?rm35
      case hm35 => (intro w hSw; (try dsimp only at hSw); go_simp <;> (with_reducible rfl))
      (try simp only [Act.put, List.setIfInBounds_toArray, List.set_cons_zero, List.set_cons_succ, List.getElem_toArray, List.getElem_cons_zero, List.getElem_cons_succ])
      refine wpAnyH_ready (rs := [36]) (by kernel_rfl) (by simp) ?_
      refine AllReadyH.cons rfl (fun K hK => ?_) AllReadyH.nil
      go_simp
      refine (HL.out _).mono ?_
      rintro r x10 ⟨rfl, hb10⟩
      have M10 := M9_.low hb10
      (try go_simp)
      refine hK.out _ _ ((MB.of M10).sc) (fun hHeld => ?_)
      clear hK K
      (try simp only [Act.put, List.setIfInBounds_toArray, List.set_cons_zero, List.set_cons_succ, List.getElem_toArray, List.getElem_cons_zero, List.getElem_cons_succ])
      refine wpAnyH_take (i := 37) (v := ?vm37) rfl (by kernel_rfl) (by kernel_rfl) (by kernel_rfl) (fun _ _ _ h => h) (Or.inl ⟨by rfl, ?hm37⟩) (by assumption) ?rm37
      case hm37 => (intro w hSw; (try dsimp only at hSw); go_simp <;> (with_reducible rfl))
      (try simp only [Act.put, List.setIfInBounds_toArray, List.set_cons_zero, List.set_cons_succ, List.getElem_toArray, List.getElem_cons_zero, List.getElem_cons_succ])
      refine wpAnyH_take (i := 38) (v := ?vm38) rfl (by kernel_rfl) (by kernel_rfl) (by kernel_rfl) (fun _ _ _ h => h) (Or.inl ⟨by rfl, ?hm38⟩) (by assumption) ?rm38
      case hm38 => (intro w hSw; (try dsimp only at hSw); go_simp <;> (with_reducible rfl))
      (try simp only [Act.put, List.setIfInBounds_toArray, List.set_cons_zero, List.set_cons_succ, List.getElem_toArray, List.getElem_cons_zero, List.getElem_cons_succ])
      refine wpAnyH_done (by kernel_rfl) ?_ _
      go_wp2_with fail
      go_ret
      exact ⟨rfl, (MB.of M10).bel⟩
    · have hLL := hML.out (hn12 (by omega))
      subst hLL
      have hqd : decide (n2 < n) = false := decide_eq_false (by omega)
      clear hML hn12
      go_region_held3 (fun w1 => w1.cell? ⟨tb, 0, none⟩ = some (.int .i64 s) ∧ w1.cell? ⟨tb, 1, none⟩ = some (.int .i64 n) ∧ w1.cell? ⟨tb, 2, none⟩ = some rv ∧ w1.cell? ⟨ob, 0, none⟩ = some (.int .i64 s) ∧ w1.cell? ⟨ob, 1, none⟩ = some (.int .i64 n2) ∧ w1.cell? ⟨ob, 2, none⟩ = some (.slice ao7 n7 cap7)) ((refine MB.sc (w := w) ?_; (repeat (first | (with_reducible assumption) | (with_reducible refine MB.drew ?_) | (exact MB.of (by with_reducible assumption)) | (with_reducible refine MB.low ?_ (by assumption)))) ))
        (first | (go_at_call 18; (with_reducible refine (CInto.out _ tb ob (.slice ao7 n7 cap7) ws7 (by (repeat (first | (with_reducible assumption) | (with_reducible refine M9.drew ?_) | (with_reducible refine M9.drewN ?_ _) | (with_reducible refine M9.alloc ?_ _) | (with_reducible refine M9.low ?_ (by assumption)))) )).mono ?_); rintro r w' ⟨rfl, hM⟩) | (go_at_call 11; (with_reducible refine (COL.out _ tb ob (.slice ao7 n7 cap7) ws7 (by (repeat (first | (with_reducible assumption) | (with_reducible refine M9.drew ?_) | (with_reducible refine M9.drewN ?_ _) | (with_reducible refine M9.alloc ?_ _) | (with_reducible refine M9.low ?_ (by assumption)))) )).mono ?_); rintro r w' ⟨vo, rfl, hl, hb⟩; obtain ⟨aol, capl, rfl⟩ := LE.shape hl; rw [HKQ.out] at hl ⊢) | (go_at_call 11; (with_reducible refine (CTL.out _ tb ob (.slice ao7 n7 cap7) ws7 U (by (repeat (first | (with_reducible assumption) | (with_reducible refine M9.drew ?_) | (with_reducible refine M9.drewN ?_ _) | (with_reducible refine M9.alloc ?_ _) | (with_reducible refine M9.low ?_ (by assumption)))) )).mono ?_); rintro r w' ⟨vo, rfl, hl, hb⟩; obtain ⟨aol, capl, rfl⟩ := LE.shape hl; rw [HKP.out] at hl ⊢) | (go_at_call 12; (with_reducible refine (CDO.out _ tb ob (.slice ao7 n7 cap7) ws7 hT7 (by (repeat (first | (with_reducible assumption) | (with_reducible refine M9.drew ?_) | (with_reducible refine M9.drewN ?_ _) | (with_reducible refine M9.alloc ?_ _) | (with_reducible refine M9.low ?_ (by assumption)))) )).mono ?_); rintro r w' ⟨vo, rfl, hl, hb⟩; obtain ⟨aol, capl, rfl⟩ := LE.shape hl; rw [HKQ.out] at hl ⊢) | (go_at_call 12; (with_reducible refine (CDT.out _ tb ob (.slice ao7 n7 cap7) ws7 U (by (repeat (first | (with_reducible assumption) | (with_reducible refine M9.drew ?_) | (with_reducible refine M9.drewN ?_ _) | (with_reducible refine M9.alloc ?_ _) | (with_reducible refine M9.low ?_ (by assumption)))) )).mono ?_); rintro r w' ⟨vo, rfl, hl, hb⟩; obtain ⟨aol, capl, rfl⟩ := LE.shape hl; rw [HKP.out] at hl ⊢) | (go_at_call 10; (with_reducible refine (CS1.out _ _ _ ?_ ?_).mono ?_); (focus (((repeat (first | (with_reducible assumption) | (with_reducible refine LE.drew ?_) | (with_reducible refine LE.low ?_ (by assumption)))) ); done)); (focus (((repeat (first | (with_reducible assumption) | (with_reducible refine LE.drew ?_) | (with_reducible refine LE.low ?_ (by assumption)))) ); done)); rintro r w' ⟨rfl, hb⟩) | (go_at_call 10; (with_reducible refine (CS2.out _ _ _ ?_ ?_).mono ?_); (focus (((repeat (first | (with_reducible assumption) | (with_reducible refine LE.drew ?_) | (with_reducible refine LE.low ?_ (by assumption)))) ); done)); (focus (((repeat (first | (with_reducible assumption) | (with_reducible refine LE.drew ?_) | (with_reducible refine LE.low ?_ (by assumption)))) ); done)); rintro r w' ⟨rfl, hb⟩) | (go_at_call 7; (with_reducible refine (m_olen (w := w) (st2 := st2) (q := Q) (st := st) (p := P) (T := T) (s := s) (n := n) (rv := rv) (ws := ws) (tb := tb) (ob := ob) (v := .slice ao7 n7 cap7) (us := ws7) (U := U) (by (repeat (first | (with_reducible assumption) | (with_reducible refine M9.drew ?_) | (with_reducible refine M9.drewN ?_ _) | (with_reducible refine M9.alloc ?_ _) | (with_reducible refine M9.low ?_ (by assumption)))) ) hqn.out).mono ?_); rintro r w' ⟨rfl, hb⟩) | (go_at_call 7; (with_reducible refine (m_tlen (w := w) (p := P) (st := st) (st2 := st2) (q := Q) (T := T) (s := s) (m := n2) (rv := rv) (ws := ws) (tb := tb) (ob := ob) (v := .slice ao7 n7 cap7) (us := ws7) (U := U) (by (repeat (first | (with_reducible assumption) | (with_reducible refine M9.drew ?_) | (with_reducible refine M9.drewN ?_ _) | (with_reducible refine M9.alloc ?_ _) | (with_reducible refine M9.low ?_ (by assumption)))) ) hpn.out).mono ?_); rintro r w' ⟨rfl, hb⟩) | (go_at_call 13; (with_reducible refine (HL.out _).mono ?_); rintro r w' ⟨rfl, hb⟩))
      all_goals
        go_wp2_with fail
        go_ret
        exact ⟨rfl, MB.bel (tb := tb) (ob := ob) (s := s) (n := n) (m := n2) (rv := rv) (v := .slice ao7 n7 cap7) (by (repeat (first | (with_reducible assumption) | (with_reducible refine MB.drew ?_) | (exact MB.of (by with_reducible assumption)) | (with_reducible refine MB.low ?_ (by assumption)))) )⟩

/-! ### The row -/
set_option maxRecDepth 100000 in
theorem lifted (os : Os) (started : os.Started) (H : Type) (enc : TypeId × Value → H) :
    ReturnsInHanded {} Tryz.checked os 4 .any (Rows.tsbMovesSpec.pre6 enc Tryz.prog Tryz.f4 Rows.tsbMovesRow.domain false) (Rows.tsbMovesSpec.post enc Tryz.prog Tryz.f4 false true false false) := by
  refine returnsInHanded_of_change (C := Tryz.checked) own started (by kernel_rfl) Tryz.func4
    (ChangeSpec.witness6 (enc := enc) (C := Tryz.checked) false ⟨#[], #[.int .i64 0, .int .i64 0, .int .i64 0, .slice none 0 0], []⟩ 8 (by kernel_rfl) (by kernel_rfl) (by kernel_rfl) (by kernel_rfl)) ?_
  intro W base args ds gs before hval0 hW hcnd _
  have hval : ∀ (j : Nat) t v, Tryz.f4.params[j]? = some t → args[j]? = some v → Value.okWide Tryz.prog W .any base t v := hval0
  have hW' := hW
  obtain ⟨p, q, hA0, hV, rfl, hfz, hnd⟩ := hW
  have hA : DataW.TrodAll enc Tryz.prog W 0 (fun _ => true) true Tryz.f4.params.toList args.toList ds p := hA0
  rw [Tryz.params4] at hA hval
  obtain ⟨v0, vs0, d0, ds0, p0, q0, hargs, rfl, rfl, h0, r0⟩ := trodAll_cons hA
  obtain ⟨v1, vs1, d1, ds1, p1, q1, rfl, rfl, rfl, h1, r1⟩ := trodAll_cons r0
  obtain ⟨v2, vs2, d2, ds2, p2, q2, rfl, rfl, rfl, h2, r2⟩ := trodAll_cons r1
  obtain ⟨v3, vs3, d3, ds3, p3, q3, rfl, rfl, rfl, h3, r3⟩ := trodAll_cons r2
  obtain ⟨rfl, rfl, rfl⟩ := trodAll_nil r3
  obtain rfl : args = #[v0, v1, v2, v3] := by cases args; simp_all
  obtain ⟨rfl, rfl⟩ := trodVars_none hV
  obtain ⟨a0, rfl, rfl, rfl, w0⟩ := open_int Tryz.underlying3 (hval 0 3 v0 rfl rfl) h0
  obtain ⟨a1, rfl, rfl, rfl, w1⟩ := open_int Tryz.underlying3 (hval 1 3 v1 rfl rfl) h1
  obtain ⟨a2, rfl, rfl, rfl, w2⟩ := open_int Tryz.underlying3 (hval 2 3 v2 rfl rfl) h2
  obtain ⟨s3, len3, cap3, rfl⟩ := okWide_slice Tryz.underlying41 (hval 3 41 v3 rfl rfl)
  have k3 := h3
  have lt3 : ∀ x ∈ p3, x.block < W.heap.size := by obtain ⟨m, hm⟩ := k3; exact DataW.trod_lt m _ _ _ hm
  have w3 : IsEnts W s3 len3 cap3 := by
    obtain ⟨fuel, hf⟩ := h3
    exact open_ents hf
  clear hA0 hval0
  simp only [List.append_nil] at hW'
  refine (walk W a0 w0 a1 w1 a2 w2 s3 len3 cap3 w3).mono fun e W' ⟨he, hg⟩ => ?_
  subst he
  exact ⟨_, rfl, _, _, _, [], _, [], hW', trodAll_mk1 (shut_bool Tryz.underlying4 _), (trodAll_cons_mk (shut_int Tryz.underlying3 w0) (trodAll_cons_mk (shut_int Tryz.underlying3 w1) (trodAll_cons_mk (shut_int Tryz.underlying3 w2) (trodAll_cons_mk (Below.trod laidOut (by kernel_rfl) (of_decide_eq_true (by kernel_rfl)) k3 hg lt3) trodAll_mk0)))), rfl, hg.frame _, fun h => by cases h⟩

theorem over : Rows.tsbMovesRow.holds Tryz.pinned (OpenSpec.ofChange Rows.tsbMovesSpec) :=
  OpenClaim.holds_of_wide 4 Tryz.f4 rfl rfl rfl rfl rfl rfl rfl ⟨rfl, rfl, rfl, rfl, rfl⟩ rfl rfl rfl rfl rfl (by kernel_rfl) Tryz.func4 (by kernel_rfl)
    (of_decide_eq_true (by kernel_rfl)) (by unfold Func.isWrapper; first | (rw [if_pos (by decide +kernel)]; kernel_rfl) | (rw [if_neg (by decide +kernel)]; exact ⟨rfl, rfl⟩))
    (fun os started H enc _ => lifted os started H enc)

theorem proved : Rows.TsbMovesSaid :=
  over
#print axioms proved
end Go.Proofs.YtgdagfhdimoklaaGreat.tsbMoves
