/-
  TsbDrops: for every size and grade, all entries (made such as may be there), every address and context the law returns true, and its arguments read as before. Conditions: none.
-/
import Derived.Test.YtgdagfhdimoklaaRows
import Derived.WalkKit
import Derived.ProofKit
import Derived.OpenShut
import Derived.Test.YtgdagfhdimoklaaGG
import Derived.Deep.CutBlock
import Derived.Deep.DeepCutAuto
import Derived.Deep.RegionHeld3
import Derived.Test.YtgdagfhdimoklaaGD
namespace Go.Proofs.Ytgdagfhdimoklaa.tsbDrops
open Fld Ts
open Tl (IsEnts ents_at open_ents laidOut ListAt DocAt)
open Go.ChangeShapes Go.WideShapes Go.ChangeAt Go.RowKit Go.Deep Go.Shelf
set_option linter.unusedVariables false

theorem own : ownKnob Try.prog.godebug = none := by kernel_rfl

open Pt (idxI arI ar_bd)
open Tl (nthE rowL_list eleven eleven_one cell_eleven_new rowL infoE)
/-! ### The walk -/
set_option maxHeartbeats 8000000 in
set_option maxRecDepth 100000 in
theorem walk (w : World) (a0 : Int) (w0 : (Lit.int .i64 a0).wf = true) (a1 : Int) (w1 : (Lit.int .i64 a1).wf = true) (s2 : Option Addr) (len2 cap2 : Nat) (w2 : IsEnts w s2 len2 cap2) (a3 : Int) (w3 : (Lit.int .u64 a3).wf = true) (a4 : Int) (w4 : (Lit.int .i64 a4).wf = true) :
    Calls Try.prog 6 #[.int .i64 a0, .int .i64 a1, .slice s2 len2 cap2, .int .u64 a3, .int .i64 a4] w fun e w' => e = .returned (.bool true) ∧ Below w.heap.size w w' := by
  obtain ⟨s0, s1⟩ := bounds_i64 w0
  obtain ⟨g0, g1⟩ := bounds_i64 w1
  obtain ⟨x0, x1⟩ := bounds_u64 w3
  have CB := Lib.hid (fun W => cbegin a0 a1 s0 s1 g0 g1 W)
  have HL := Lib.hid (fun W => blives_any W)
  have hs := ar_bd a0 4 (by decide)
  have hps := Lib.hid (show (parB (arI a0 4) (arI a1 4)).s = arI a0 4 from rfl)
  have hpn := Lib.hid (show ((parB (arI a0 4) (arI a1 4)).n : Int) = placesI (arI a0 4) (arI a1 4) from by
    have hz : sizeB (arI a0 4) = true := sizeB_mk (by omega)
    have hg := ar_bd a1 4 (by decide)
    have := places_bd hz hg.1 (by omega)
    show ((placesI (arI a0 4) (arI a1 4)).toNat : Int) = _
    omega)
  generalize parB (arI a0 4) (arI a1 4) = P at *
  generalize placesI (arI a0 4) (arI a1 4) = n at *
  generalize arI a0 4 = s at *
  clear w0 w1 w3
  go_enter Try.func6, Try.ntmps6
  go_wp2_with fail
  refine (CB.out _).mono ?_; rintro e w1 ⟨st, rfl, H1⟩
  have H2 := H1.push #[.int .i64 s, .int .i64 n, .slice none 0 0] 39 ⟨by decide, by decide⟩
  clear CB H1
  go_upto_block 0 with fail
  generalize World.alloc w1 _ = wb at *
  generalize w1.heap.size = tb at *
  obtain ⟨sb0, bm0, P0⟩ := PL.start H2
  have H2 := H2.new.below
  have w2' := w2
  go_cut [13] (fun _ wx => ∃ (l : List Ent) (sb bm : Nat) (rv : Value), Fine P l ∧ PL w wx st sb bm P (insAll P l) [(tb, #[.int .i64 s, .int .i64 n, rv], 39)] w.heap.size (.slice none 0 0) [])
  case first =>
    go_wp2_with fail
    go_loopw [13] (fun i wr => ∃ (j : Nat) (l : List Ent) (sb bm : Nat) (rv : Value) (ws : List Wd), i = .int .i64 (j : Int) ∧ j ≤ len2 ∧ j ≤ 10 ∧ Fine P l ∧ PL w wr st sb bm P (insAll P l) [(tb, #[.int .i64 s, .int .i64 n, rv], 39)] w.heap.size (.slice none 0 0) [] ∧ WsAt wr w.heap.size rv ws ∧ ws.length ≤ 3 * j) (fun i _ => 10 - (intOf i).toNat)
    case atStart => exact ⟨0, [], sb0, bm0, _, [], rfl, Nat.zero_le _, Nat.zero_le _, Fine.nil P, P0, ws_nil _ _, Nat.zero_le _⟩
    case round =>
      clear P0 H2
      obtain ⟨j, l, sb, bm, rv, ws, rfl, hj, hj2, hfine, PP, WW, hwl⟩ := hrel
      by_cases hj1 : j < len2
      · by_cases hj12 : j < 10
        · have h1 := hj1
          have h2 := hj12
          obtain ⟨ib, o, off, x, rfl, ho, hlc, hcm, he, hc⟩ := ents_at w2' j h1
          subst ho
          unfold maxLen at hcm
          have hcl : ∀ {b o : Nat} {v : Value}, w.cell? ⟨b, o, none⟩ = some v → wr.cell? ⟨b, o, none⟩ = some v := fun {b o v} hc => (PP.bel.cell (p := ⟨b, o, none⟩) (Tl.lt_cell hc)).trans hc
          have hib : ib < w.heap.size := Tl.lt_cell hc.1
          obtain ⟨c0, c1, c2, c3, c4, c5, c6, c7, c8, c9, c10⟩ := hc
          replace c0 := hcl c0; replace c1 := hcl c1; replace c2 := hcl c2; replace c3 := hcl c3; replace c4 := hcl c4; replace c5 := hcl c5; replace c6 := hcl c6; replace c7 := hcl c7; replace c8 := hcl c8; replace c9 := hcl c9; replace c10 := hcl c10
          have PI1 : DI w w wr st sb bm P (insAll P l) [(tb, #[.int .i64 s, .int .i64 n, rv], 39)] w.heap.size (.slice none 0 0) [] ib (off + j * 11) x w.heap.size rv ws := ⟨⟨PP, ⟨c0, c1, c2, c3, c4, c5, c6, c7, c8, c9, c10⟩, hib⟩, WW⟩
          have t0 := cell_row 0 (PP.rows _ (List.mem_cons_self ..)).1 rfl
          have CX := Lib.hid (fun W => dmade_any x (Ent.lits_wf he) s hs W)
          have okx := made_ok s x
          have szx := Lib.hid (show (made s x).size = s from made_size x hs)
          generalize made s x = y at *
          have h1' : (j : Int) < (len2 : Int) := by omega
          have h2' : (j : Int) < 10 := by omega
          have hds : ∀ W : World, W.drew.heap.size = W.heap.size := fun _ => rfl
          have hszr := PP.bel.size
          clear PP hcl WW
          go_wp2_with fail
          go_cut [14] (fun a wx => ∃ c, a = .pointer (some ⟨c, 0, none⟩) ∧ PL w wx st sb bm P (insAll P l) [(tb, #[.int .i64 s, .int .i64 n, rv], 39)] w.heap.size (.slice none 0 0) [] ∧ WsAt wx w.heap.size rv ws ∧ RowE wx c y)
          case first =>
            go_region_held3 (fun w1 => (w1.cell? ⟨ib, off + j * 11, none⟩ = some (.int .i64 x.size) ∧ w1.cell? ⟨ib, off + j * 11 + 1, none⟩ = some (.int .i64 x.ctx) ∧ w1.cell? ⟨ib, off + j * 11 + 2, none⟩ = some (.int .u64 x.va) ∧ w1.cell? ⟨ib, off + j * 11 + 3, none⟩ = some (.int .u64 x.pa) ∧ w1.cell? ⟨ib, off + j * 11 + 4, none⟩ = some (.bool x.att.write) ∧ w1.cell? ⟨ib, off + j * 11 + 5, none⟩ = some (.bool x.att.priv) ∧ w1.cell? ⟨ib, off + j * 11 + 6, none⟩ = some (.bool x.att.exec) ∧ w1.cell? ⟨ib, off + j * 11 + 7, none⟩ = some (.bool x.att.lock) ∧ w1.cell? ⟨ib, off + j * 11 + 8, none⟩ = some (.bool x.att.global) ∧ w1.cell? ⟨ib, off + j * 11 + 9, none⟩ = some (.bool x.att.quiet) ∧ w1.cell? ⟨ib, off + j * 11 + 10, none⟩ = some (.bool x.valid)) ∧ w1.cell? ⟨tb, 0, none⟩ = some (.int .i64 s)) ((refine DI.sc (w := w) (W := w) (C := w.heap.size) (st := st) (sb := sb) (bm := bm) (p := P) (T := insAll P l) (v := .slice none 0 0) (u := rv) (n := .int .i64 n) (l := []) (D := w.heap.size) (rv := rv) (ws := ws) ?_; (repeat (first | (with_reducible assumption) | (with_reducible refine DI.drew ?_) | (with_reducible refine DI.drewN ?_ _) | (with_reducible refine DI.alloc ?_ _) | (with_reducible refine DI.setNew ?_ ?_) | (with_reducible refine DI.low ?_ (by assumption)))) ))
              ((go_at_call 20; (with_reducible refine (CX.out _).mono ?_); rintro r w' ⟨rfl, hb⟩; obtain ⟨hcc, hf, hs1, hs2⟩ := bfacts hb; (try have hv : wr.heap.size < w'.heap.size := by (have hsz := hb.size; (try simp only [hds] at hsz); (try simp only [World.size_alloc] at hsz); omega))))
            all_goals
              go_wp2_with fail
              go_meet
              refine ⟨_, rfl, ?_, ?_, ?_⟩
              · refine PI.pl (w := w) (ib := ib) (o := off + j * 11) (x := x) (DI.pi (D := w.heap.size) (rv := rv) (ws := ws) ?_); (repeat (first | (with_reducible assumption) | (with_reducible refine DI.drew ?_) | (with_reducible refine DI.drewN ?_ _) | (with_reducible refine DI.alloc ?_ _) | (with_reducible refine DI.setNew ?_ ?_) | (with_reducible refine DI.low ?_ (by assumption)))) 
              · refine DI.ws (w := w) (W := w) (st := st) (sb := sb) (bm := bm) (p := P) (T := insAll P l) (L := [(tb, #[.int .i64 s, .int .i64 n, rv], 39)]) (C := w.heap.size) (v := .slice none 0 0) (l := []) (ib := ib) (o := off + j * 11) (x := x) ?_; (repeat (first | (with_reducible assumption) | (with_reducible refine DI.drew ?_) | (with_reducible refine DI.drewN ?_ _) | (with_reducible refine DI.alloc ?_ _) | (with_reducible refine DI.setNew ?_ ?_) | (with_reducible refine DI.low ?_ (by assumption)))) 
              · (first | (with_reducible exact RowE.new _ _) | (refine RowE.setAll (z := Ent.zero) ?_; (repeat (first | (with_reducible refine RowE.call ?_ (by assumption)) | (with_reducible refine RowE.drew ?_) | exact RowE.new _ Ent.zero))))
          case rest =>
            obtain ⟨c, rfl, P3, W3, R3⟩ := hcut
            have ysz : y.size = P.s := szx.out.trans hps.out.symm
            have uY := wf_u (ok_wf okx)
            have hE0 : errP P y = 0 := by unfold errP; rw [fine_may okx ysz]; rfl
            have CI := Lib.hid (dinsert P3 W3 y uY)
            rw [hE0, ← insAll_snoc] at CI
            have hfine2 := Lib.hid (hfine.snoc okx ysz)
            obtain ⟨d0, d1, d2, d3, d4, d5, d6, d7, d8, d9, d10⟩ := R3.cells
            clear PI1 CX c0 c1 c2 c3 c4 c5 c6 c7 c8 c9 c10 t0 hE0 ysz hds P3 W3 hfine
            go_wp2_with fail
            refine CI.out.mono ?_; rintro e w4 ⟨rfl, ⟨b4, P4⟩, W4, hR⟩
            have R4 := hR _ _ R3
            clear CI hR R3 d0 d1 d2 d3 d4 d5 d6 d7 d8 d9 d10
            obtain ⟨d0, d1, d2, d3, d4, d5, d6, d7, d8, d9, d10⟩ := R4.cells
            have CD := Lib.hid (docins P4 W4 (Nat.le_refl _) y okx.fit uY (by omega) hps.out hpn.out)
            have q4 := (P4.rows _ (List.mem_cons_self ..)).1
            have t0 := cell_row 0 q4 rfl
            have t1 := cell_row 1 q4 rfl
            have t2 := cell_row 2 q4 rfl
            have hwl2 := Lib.hid (insW_le P ws y)
            clear W4 P4 q4
            generalize insW P ws y = ws2 at *
            go_wp2_with (first | (go_at_call 28; (with_reducible refine CD.out.mono ?_); rintro r w5 ⟨v5, rfl, W5, P5⟩; have q5 := (P5.rows _ (List.mem_cons_self ..)).1; have r0 := cell_row 0 q5 rfl; have r1 := cell_row 1 q5 rfl; have r2 := cell_row 2 q5 rfl; have f5 : ∀ i, World.frozen? w5 ⟨tb, i, none⟩ = false := (fun i => by simp [World.frozen?, q5]); obtain ⟨ao5, cap5, rfl⟩ := own_shape W5) | fail)
            go_roundw
            case rel => exact ⟨j + 1, l ++ [y], sb, b4, _, ws2, by go_num, by omega, by omega, hfine2.out, PL.put3 P5 (fun _ hq => absurd hq (by simp)), ws_put3 P5 W5, by have := hwl2.out; omega⟩
            case measure => simp [intOf]; omega
        · have h1' : (j : Int) < (len2 : Int) := by omega
          have h2' : ¬ (j : Int) < 10 := by omega
          go_wp2_with fail
          go_meet
          exact ⟨l, sb, bm, rv, hfine, PP⟩
      · have h1' : ¬ (j : Int) < (len2 : Int) := by omega
        go_wp2_with fail
        go_meet
        exact ⟨l, sb, bm, rv, hfine, PP⟩
  case rest =>
    clear P0 H2 w2'
    obtain ⟨l, sb, bm, rv, hfine, PP⟩ := hcut
    have hPok := PP.tsb.ok
    have hG := gd_all l hfine
    generalize insAll P l = T at *
    clear hfine
    have hnb := hPok.n_bd
    have hLen := Lib.hid (drop_len hPok hG a3 a4)
    have hLck := Lib.hid (drop_lck hPok hG a3 a4)
    have hAg := Lib.hid (drop_again (p := P) (T := T) a3 a4)
    have hGood := Lib.hid (lst_good hPok hG P.n)
    have hle := lst_le P T P.n
    have CL := Lib.hid (plist PP)
    clear PP hG
    go_wp2_with fail
    refine CL.out.mono ?_; rintro e w6 ⟨v6, rfl, -, P6⟩
    obtain ⟨ao, cap, rfl⟩ := own_shape P6.own
    generalize hl1 : lstP P T P.n = l1 at *
    obtain ⟨m, hm⟩ : ∃ m, l1.length = m := ⟨_, rfl⟩
    have hmH := Lib.hid hm
    rw [hm] at hle
    rw [hm] at hLen
    have CDr := Lib.hid (pdrop P6 a3 a4 x0 x1)
    rw [hm] at CDr
    rw [hm]
    clear CL P6 hm hl1
    go_wp2_with fail
    refine CDr.out.mono ?_; rintro e w7 ⟨rfl, b7, P7⟩
    clear CDr
    have CF := Lib.hid (pfind P7 a3 a4 x0 x1)
    rw [hAg.out] at CF
    obtain ⟨k, hk⟩ : ∃ k, (lstP P (dropT P T a3 a4) P.n).length = k := ⟨_, rfl⟩
    rw [hk] at hLen hLck
    have hkH := Lib.hid hk
    clear hk
    have hEach := Lib.hid (fun (e : Ent) (he : e ∈ l1) => drop_has hPok (hGood.out e he).1 (hGood.out e he).2.1 (hGood.out e he).2.2 (ctx := a4) x0 x1)
    generalize fndE P (dropT P T a3 a4) a3 a4 = FZ at *
    generalize hF : fndB P T a3 a4 = F at *
    have hq0 : F = false → k = m := fun h => by have := hLen.out; rw [h] at this; simpa using this
    have hq1 : F = true → (m : Int) - 1 = (k : Int) := fun h => by have := hLen.out; rw [h] at this; simp at this; omega
    clear hLen hF
    cases F
    · obtain rfl := hq0 rfl
      clear hq0 hq1
      have hkn : k ≤ P.n := by omega
      go_wp2_with fail
      refine CF.out.mono ?_; rintro e w8 ⟨rfl, hb8⟩
      have P8 := (P7.low hb8).alloc (.cells #[.int .i64 FZ.size, .int .i64 FZ.ctx, .int .u64 FZ.va, .int .u64 FZ.pa, .bool FZ.att.write, .bool FZ.att.priv, .bool FZ.att.exec, .bool FZ.att.lock, .bool FZ.att.global, .bool FZ.att.quiet, .bool FZ.valid] 45)
      have CL2 := Lib.hid (plist P8)
      clear P7 P8 CF hb8
      go_wp2_with fail
      refine CL2.out.mono ?_; rintro e w9 ⟨v9, rfl, P9, Q9⟩
      obtain ⟨ao9, cap9, rfl⟩ := own_shape Q9.own
      rw [hkH.out]
      clear CL2 Q9
      go_wp2_with fail
      go_loopw [21] (fun i wr => ∃ j : Nat, i = .int .i64 (j : Int) ∧ j ≤ k ∧ PL w wr st sb b7 P (dropT P T a3 a4) [(tb, #[.int .i64 s, .int .i64 n, rv], 39)] wc.heap.size (.slice ao k cap) l1) (fun i _ => k - (intOf i).toNat)
      case atStart => exact ⟨0, rfl, Nat.zero_le _, P9⟩
      case round =>
        clear P9
        obtain ⟨j, rfl, hj, PP⟩ := hrel
        by_cases hjm : j < k
        · have hjl : j < l1.length := by rw [hmH.out]; exact hjm
          obtain ⟨g, cap', hv, hcc1, hcc2, _⟩ := PP.cells hjl rfl
          rw [hmH.out] at hv hcc1
          simp only [Value.slice.injEq, true_and] at hv
          obtain ⟨rfl, rfl⟩ := hv
          unfold maxLen at hcc2
          have hjm' : (j : Int) < (k : Int) := by omega
          have hmem := nth_mem hjl
          obtain ⟨eok, esz, eT⟩ := hGood.out _ hmem
          obtain ⟨eF, eE⟩ := hEach.out _ hmem
          have k0 := eok.v0
          have k1 := eok.v1
          obtain ⟨ok, hok⟩ : ∃ ok, j * 11 = ok := ⟨_, rfl⟩
          have hAK : (⟨g, 0, none⟩ : Addr).add ok = ⟨g, ok, none⟩ := add_at g ok
          have CF := Lib.hid (fun W (h : PL w W st sb b7 P (dropT P T a3 a4) [(tb, #[.int .i64 s, .int .i64 n, rv], 39)] wc.heap.size (.slice (some ⟨g, 0, none⟩) k cap) l1) => pfind h (nthE l1 j).va (nthE l1 j).ctx k0 k1)
          have CH := Lib.hid (fun W => rhits_any (nthE l1 j) a3 a4 k0 k1 x0 x1 W)
          rw [eF] at CF
          have heE := Lib.hid eE
          clear eE eF eT esz eok hmem
          generalize fndE P (dropT P T a3 a4) (nthE l1 j).va (nthE l1 j).ctx = FE at *
          generalize (nthE l1 j).hitsB a3 a4 = HB at *
          have hds : ∀ W : World, W.drew.heap.size = W.heap.size := fun _ => rfl
          obtain ⟨d0, d1, d2, d3, d4, d5, d6, d7, d8, d9, d10⟩ := PP.oc hjl hok
          go_wp2_with fail
          go_cut [22, 23] (fun a b wx => ∃ c, a = .pointer (some ⟨c, 0, none⟩) ∧ b = .bool (!HB) ∧ PL w wx st sb b7 P (dropT P T a3 a4) [(tb, #[.int .i64 s, .int .i64 n, rv], 39)] wc.heap.size (.slice (some ⟨g, 0, none⟩) k cap) l1 ∧ RowE wx c FE)
          case first =>
            go_region_held3 (fun w1 => w1.cell? ⟨g, ok, none⟩ = some (.int .i64 (nthE l1 j).size) ∧ w1.cell? ⟨g, ok + 1, none⟩ = some (.int .i64 (nthE l1 j).ctx) ∧ w1.cell? ⟨g, ok + 2, none⟩ = some (.int .u64 (nthE l1 j).va) ∧ w1.cell? ⟨g, ok + 3, none⟩ = some (.int .u64 (nthE l1 j).pa) ∧ w1.cell? ⟨g, ok + 4, none⟩ = some (.bool (nthE l1 j).att.write) ∧ w1.cell? ⟨g, ok + 5, none⟩ = some (.bool (nthE l1 j).att.priv) ∧ w1.cell? ⟨g, ok + 6, none⟩ = some (.bool (nthE l1 j).att.exec) ∧ w1.cell? ⟨g, ok + 7, none⟩ = some (.bool (nthE l1 j).att.lock) ∧ w1.cell? ⟨g, ok + 8, none⟩ = some (.bool (nthE l1 j).att.global) ∧ w1.cell? ⟨g, ok + 9, none⟩ = some (.bool (nthE l1 j).att.quiet) ∧ w1.cell? ⟨g, ok + 10, none⟩ = some (.bool (nthE l1 j).valid)) ((refine PL.oc (W := w) (st := st) (sb := sb) (bm := b7) (C := wc.heap.size) (p := P) (T := dropT P T a3 a4) (L := [(tb, #[.int .i64 s, .int .i64 n, rv], 39)]) (n := k) (cap := cap) ?_ hjl hok; (repeat (first | (with_reducible assumption) | (with_reducible refine PL.drew ?_) | (with_reducible refine PL.drewN ?_ _) | (with_reducible refine PL.alloc ?_ _) | (with_reducible refine PL.setNew ?_ ?_) | (with_reducible refine PL.low ?_ (by assumption)))) ))
              ((go_at_call 23; (refine (CF.out _ (by (repeat (first | (with_reducible assumption) | (with_reducible refine PL.drew ?_) | (with_reducible refine PL.drewN ?_ _) | (with_reducible refine PL.alloc ?_ _) | (with_reducible refine PL.setNew ?_ ?_) | (with_reducible refine PL.low ?_ (by assumption)))) )).mono ?_); rintro r w' ⟨rfl, hb⟩; obtain ⟨hcc, hf, hs1, hs2⟩ := bfacts hb; (try have hv : wr.heap.size < w'.heap.size := by (have hsz := hb.size; (try simp only [hds] at hsz); (try simp only [World.size_alloc] at hsz); omega))))
            all_goals
              go_wp2_with fail
              go_meet
              refine ⟨_, rfl, rfl, ?_, ?_⟩
              · (repeat (first | (with_reducible assumption) | (with_reducible refine PL.drew ?_) | (with_reducible refine PL.drewN ?_ _) | (with_reducible refine PL.alloc ?_ _) | (with_reducible refine PL.setNew ?_ ?_) | (with_reducible refine PL.low ?_ (by assumption)))) 
              · (first | (with_reducible exact RowE.new _ _) | (refine RowE.setAll (z := Ent.zero) ?_; (repeat (first | (with_reducible refine RowE.call ?_ (by assumption)) | (with_reducible refine RowE.drew ?_) | exact RowE.new _ Ent.zero))))
          case rest =>
            obtain ⟨c, rfl, rfl, P3, R3⟩ := hcut
            clear PP CF d0 d1 d2 d3 d4 d5 d6 d7 d8 d9 d10 hds
            obtain ⟨d0, d1, d2, d3, d4, d5, d6, d7, d8, d9, d10⟩ := P3.oc hjl hok
            go_wp2_with fail
            refine (CH.out _).mono ?_; rintro e wh ⟨rfl, hb8⟩
            have P8 := P3.low hb8
            have R8 := R3.below hb8 R3.lt
            clear CH P3 R3 hb8 d0 d1 d2 d3 d4 d5 d6 d7 d8 d9 d10
            cases HB
            · have hFE := heE.out rfl
              subst hFE
              (try simp only [Bool.not_false])
              obtain ⟨d0, d1, d2, d3, d4, d5, d6, d7, d8, d9, d10⟩ := P8.oc hjl hok
              obtain ⟨c0, c1, c2, c3, c4, c5, c6, c7, c8, c9, c10⟩ := R8.cells
              clear heE
              go_wp2_with fail
              go_quiet (fail)
              have PQ := P8.drewN nq
              clear P8 R8 c0 c1 c2 c3 c4 c5 c6 c7 c8 c9 c10 d0 d1 d2 d3 d4 d5 d6 d7 d8 d9 d10
              go_wp2_with fail
              go_roundw
              case rel => exact ⟨j + 1, by go_num, by omega, PQ⟩
              case measure => simp [intOf]; omega
            · (try simp only [Bool.not_true])
              clear heE
              go_wp2_with fail
              go_quiet (fail)
              have PQ := P8.drewN nq
              clear P8 R8
              go_wp2_with fail
              go_roundw
              case rel => exact ⟨j + 1, by go_num, by omega, PQ⟩
              case measure => simp [intOf]; omega
        · obtain rfl : k = j := by omega
          have CK := Lib.hid (plocked PP)
          rw [hLck.out] at CK
          go_wp2_with fail
          refine CK.out.mono ?_; rintro e wk ⟨rfl, Pk⟩
          have CN := Lib.hid (plen Pk)
          clear CK PP Pk
          have hz1 : (k : Int) ≤ (P.n : Int) := by omega
          have hz2 : (P.n : Int) ≤ 4096 := by omega
          have hz3 : (0 : Int) ≤ (k : Int) := by omega
          go_wp2_with fail
          refine CN.out.mono ?_; rintro e wn ⟨rfl, Pn⟩
          clear CN
          go_wp2_with fail
          refine (HL.out _).mono ?_; rintro e wq ⟨rfl, hb9⟩
          go_wp2_with fail
          go_ret
          exact ⟨rfl, Pn.bel.trans (hb9.mono Pn.bel.size)⟩
    · have hq := hq1 rfl
      clear hq0 hq1
      have hkn : k ≤ P.n := by omega
      go_wp2_with fail
      refine CF.out.mono ?_; rintro e w8 ⟨rfl, hb8⟩
      have P8 := (P7.low hb8).alloc (.cells #[.int .i64 FZ.size, .int .i64 FZ.ctx, .int .u64 FZ.va, .int .u64 FZ.pa, .bool FZ.att.write, .bool FZ.att.priv, .bool FZ.att.exec, .bool FZ.att.lock, .bool FZ.att.global, .bool FZ.att.quiet, .bool FZ.valid] 45)
      have CL2 := Lib.hid (plist P8)
      clear P7 P8 CF hb8
      go_wp2_with fail
      refine CL2.out.mono ?_; rintro e w9 ⟨v9, rfl, P9, Q9⟩
      obtain ⟨ao9, cap9, rfl⟩ := own_shape Q9.own
      rw [hkH.out]
      clear CL2 Q9
      go_wp2_with fail
      go_loopw [21] (fun i wr => ∃ j : Nat, i = .int .i64 (j : Int) ∧ j ≤ m ∧ PL w wr st sb b7 P (dropT P T a3 a4) [(tb, #[.int .i64 s, .int .i64 n, rv], 39)] wc.heap.size (.slice ao m cap) l1) (fun i _ => m - (intOf i).toNat)
      case atStart => exact ⟨0, rfl, Nat.zero_le _, P9⟩
      case round =>
        clear P9
        obtain ⟨j, rfl, hj, PP⟩ := hrel
        by_cases hjm : j < m
        · have hjl : j < l1.length := by rw [hmH.out]; exact hjm
          obtain ⟨g, cap', hv, hcc1, hcc2, _⟩ := PP.cells hjl rfl
          rw [hmH.out] at hv hcc1
          simp only [Value.slice.injEq, true_and] at hv
          obtain ⟨rfl, rfl⟩ := hv
          unfold maxLen at hcc2
          have hjm' : (j : Int) < (m : Int) := by omega
          have hmem := nth_mem hjl
          obtain ⟨eok, esz, eT⟩ := hGood.out _ hmem
          obtain ⟨eF, eE⟩ := hEach.out _ hmem
          have k0 := eok.v0
          have k1 := eok.v1
          obtain ⟨ok, hok⟩ : ∃ ok, j * 11 = ok := ⟨_, rfl⟩
          have hAK : (⟨g, 0, none⟩ : Addr).add ok = ⟨g, ok, none⟩ := add_at g ok
          have CF := Lib.hid (fun W (h : PL w W st sb b7 P (dropT P T a3 a4) [(tb, #[.int .i64 s, .int .i64 n, rv], 39)] wc.heap.size (.slice (some ⟨g, 0, none⟩) m cap) l1) => pfind h (nthE l1 j).va (nthE l1 j).ctx k0 k1)
          have CH := Lib.hid (fun W => rhits_any (nthE l1 j) a3 a4 k0 k1 x0 x1 W)
          rw [eF] at CF
          have heE := Lib.hid eE
          clear eE eF eT esz eok hmem
          generalize fndE P (dropT P T a3 a4) (nthE l1 j).va (nthE l1 j).ctx = FE at *
          generalize (nthE l1 j).hitsB a3 a4 = HB at *
          have hds : ∀ W : World, W.drew.heap.size = W.heap.size := fun _ => rfl
          obtain ⟨d0, d1, d2, d3, d4, d5, d6, d7, d8, d9, d10⟩ := PP.oc hjl hok
          go_wp2_with fail
          go_cut [22, 23] (fun a b wx => ∃ c, a = .pointer (some ⟨c, 0, none⟩) ∧ b = .bool (!HB) ∧ PL w wx st sb b7 P (dropT P T a3 a4) [(tb, #[.int .i64 s, .int .i64 n, rv], 39)] wc.heap.size (.slice (some ⟨g, 0, none⟩) m cap) l1 ∧ RowE wx c FE)
          case first =>
            go_region_held3 (fun w1 => w1.cell? ⟨g, ok, none⟩ = some (.int .i64 (nthE l1 j).size) ∧ w1.cell? ⟨g, ok + 1, none⟩ = some (.int .i64 (nthE l1 j).ctx) ∧ w1.cell? ⟨g, ok + 2, none⟩ = some (.int .u64 (nthE l1 j).va) ∧ w1.cell? ⟨g, ok + 3, none⟩ = some (.int .u64 (nthE l1 j).pa) ∧ w1.cell? ⟨g, ok + 4, none⟩ = some (.bool (nthE l1 j).att.write) ∧ w1.cell? ⟨g, ok + 5, none⟩ = some (.bool (nthE l1 j).att.priv) ∧ w1.cell? ⟨g, ok + 6, none⟩ = some (.bool (nthE l1 j).att.exec) ∧ w1.cell? ⟨g, ok + 7, none⟩ = some (.bool (nthE l1 j).att.lock) ∧ w1.cell? ⟨g, ok + 8, none⟩ = some (.bool (nthE l1 j).att.global) ∧ w1.cell? ⟨g, ok + 9, none⟩ = some (.bool (nthE l1 j).att.quiet) ∧ w1.cell? ⟨g, ok + 10, none⟩ = some (.bool (nthE l1 j).valid)) ((refine PL.oc (W := w) (st := st) (sb := sb) (bm := b7) (C := wc.heap.size) (p := P) (T := dropT P T a3 a4) (L := [(tb, #[.int .i64 s, .int .i64 n, rv], 39)]) (n := m) (cap := cap) ?_ hjl hok; (repeat (first | (with_reducible assumption) | (with_reducible refine PL.drew ?_) | (with_reducible refine PL.drewN ?_ _) | (with_reducible refine PL.alloc ?_ _) | (with_reducible refine PL.setNew ?_ ?_) | (with_reducible refine PL.low ?_ (by assumption)))) ))
              ((go_at_call 23; (refine (CF.out _ (by (repeat (first | (with_reducible assumption) | (with_reducible refine PL.drew ?_) | (with_reducible refine PL.drewN ?_ _) | (with_reducible refine PL.alloc ?_ _) | (with_reducible refine PL.setNew ?_ ?_) | (with_reducible refine PL.low ?_ (by assumption)))) )).mono ?_); rintro r w' ⟨rfl, hb⟩; obtain ⟨hcc, hf, hs1, hs2⟩ := bfacts hb; (try have hv : wr.heap.size < w'.heap.size := by (have hsz := hb.size; (try simp only [hds] at hsz); (try simp only [World.size_alloc] at hsz); omega))))
            all_goals
              go_wp2_with fail
              go_meet
              refine ⟨_, rfl, rfl, ?_, ?_⟩
              · (repeat (first | (with_reducible assumption) | (with_reducible refine PL.drew ?_) | (with_reducible refine PL.drewN ?_ _) | (with_reducible refine PL.alloc ?_ _) | (with_reducible refine PL.setNew ?_ ?_) | (with_reducible refine PL.low ?_ (by assumption)))) 
              · (first | (with_reducible exact RowE.new _ _) | (refine RowE.setAll (z := Ent.zero) ?_; (repeat (first | (with_reducible refine RowE.call ?_ (by assumption)) | (with_reducible refine RowE.drew ?_) | exact RowE.new _ Ent.zero))))
          case rest =>
            obtain ⟨c, rfl, rfl, P3, R3⟩ := hcut
            clear PP CF d0 d1 d2 d3 d4 d5 d6 d7 d8 d9 d10 hds
            obtain ⟨d0, d1, d2, d3, d4, d5, d6, d7, d8, d9, d10⟩ := P3.oc hjl hok
            go_wp2_with fail
            refine (CH.out _).mono ?_; rintro e wh ⟨rfl, hb8⟩
            have P8 := P3.low hb8
            have R8 := R3.below hb8 R3.lt
            clear CH P3 R3 hb8 d0 d1 d2 d3 d4 d5 d6 d7 d8 d9 d10
            cases HB
            · have hFE := heE.out rfl
              subst hFE
              (try simp only [Bool.not_false])
              obtain ⟨d0, d1, d2, d3, d4, d5, d6, d7, d8, d9, d10⟩ := P8.oc hjl hok
              obtain ⟨c0, c1, c2, c3, c4, c5, c6, c7, c8, c9, c10⟩ := R8.cells
              clear heE
              go_wp2_with fail
              go_quiet (fail)
              have PQ := P8.drewN nq
              clear P8 R8 c0 c1 c2 c3 c4 c5 c6 c7 c8 c9 c10 d0 d1 d2 d3 d4 d5 d6 d7 d8 d9 d10
              go_wp2_with fail
              go_roundw
              case rel => exact ⟨j + 1, by go_num, by omega, PQ⟩
              case measure => simp [intOf]; omega
            · (try simp only [Bool.not_true])
              clear heE
              go_wp2_with fail
              go_quiet (fail)
              have PQ := P8.drewN nq
              clear P8 R8
              go_wp2_with fail
              go_roundw
              case rel => exact ⟨j + 1, by go_num, by omega, PQ⟩
              case measure => simp [intOf]; omega
        · obtain rfl : m = j := by omega
          have CK := Lib.hid (plocked PP)
          rw [hLck.out] at CK
          go_wp2_with fail
          refine CK.out.mono ?_; rintro e wk ⟨rfl, Pk⟩
          have CN := Lib.hid (plen Pk)
          clear CK PP Pk
          have hz1 : (k : Int) ≤ (P.n : Int) := by omega
          have hz2 : (P.n : Int) ≤ 4096 := by omega
          have hz3 : (0 : Int) ≤ (k : Int) := by omega
          go_wp2_with fail
          refine CN.out.mono ?_; rintro e wn ⟨rfl, Pn⟩
          clear CN
          go_wp2_with fail
          refine (HL.out _).mono ?_; rintro e wq ⟨rfl, hb9⟩
          go_wp2_with fail
          go_ret
          exact ⟨rfl, Pn.bel.trans (hb9.mono Pn.bel.size)⟩

/-! ### The row -/
set_option maxRecDepth 100000 in
theorem lifted (os : Os) (started : os.Started) (H : Type) (enc : TypeId × Value → H) :
    ReturnsInHanded {} Try.checked os 6 .any (Rows.tsbDropsSpec.pre6 enc Try.prog Try.f6 Rows.tsbDropsRow.domain false) (Rows.tsbDropsSpec.post enc Try.prog Try.f6 false true false false) := by
  refine returnsInHanded_of_change (C := Try.checked) own started (by kernel_rfl) Try.func6
    (ChangeSpec.witness6 (enc := enc) (C := Try.checked) false ⟨#[], #[.int .i64 0, .int .i64 0, .slice none 0 0, .int .u64 0, .int .i64 0], []⟩ 8 (by kernel_rfl) (by kernel_rfl) (by kernel_rfl) (by kernel_rfl)) ?_
  intro W base args ds gs before hval0 hW hcnd _
  have hval : ∀ (j : Nat) t v, Try.f6.params[j]? = some t → args[j]? = some v → Value.okWide Try.prog W .any base t v := hval0
  have hW' := hW
  obtain ⟨p, q, hA0, hV, rfl, hfz, hnd⟩ := hW
  have hA : DataW.TrodAll enc Try.prog W 0 (fun _ => true) true Try.f6.params.toList args.toList ds p := hA0
  rw [Try.params6] at hA hval
  obtain ⟨v0, vs0, d0, ds0, p0, q0, hargs, rfl, rfl, h0, r0⟩ := trodAll_cons hA
  obtain ⟨v1, vs1, d1, ds1, p1, q1, rfl, rfl, rfl, h1, r1⟩ := trodAll_cons r0
  obtain ⟨v2, vs2, d2, ds2, p2, q2, rfl, rfl, rfl, h2, r2⟩ := trodAll_cons r1
  obtain ⟨v3, vs3, d3, ds3, p3, q3, rfl, rfl, rfl, h3, r3⟩ := trodAll_cons r2
  obtain ⟨v4, vs4, d4, ds4, p4, q4, rfl, rfl, rfl, h4, r4⟩ := trodAll_cons r3
  obtain ⟨rfl, rfl, rfl⟩ := trodAll_nil r4
  obtain rfl : args = #[v0, v1, v2, v3, v4] := by cases args; simp_all
  obtain ⟨rfl, rfl⟩ := trodVars_none hV
  obtain ⟨a0, rfl, rfl, rfl, w0⟩ := open_int Try.underlying3 (hval 0 3 v0 rfl rfl) h0
  obtain ⟨a1, rfl, rfl, rfl, w1⟩ := open_int Try.underlying3 (hval 1 3 v1 rfl rfl) h1
  obtain ⟨s2, len2, cap2, rfl⟩ := okWide_slice Try.underlying34 (hval 2 34 v2 rfl rfl)
  have k2 := h2
  have lt2 : ∀ x ∈ p2, x.block < W.heap.size := by obtain ⟨m, hm⟩ := k2; exact DataW.trod_lt m _ _ _ hm
  have w2 : IsEnts W s2 len2 cap2 := by
    obtain ⟨fuel, hf⟩ := h2
    exact open_ents hf
  obtain ⟨a3, rfl, rfl, rfl, w3⟩ := open_int Try.underlying22 (hval 3 22 v3 rfl rfl) h3
  obtain ⟨a4, rfl, rfl, rfl, w4⟩ := open_int Try.underlying3 (hval 4 3 v4 rfl rfl) h4
  clear hA0 hval0
  simp only [List.append_nil] at hW'
  refine (walk W a0 w0 a1 w1 s2 len2 cap2 w2 a3 w3 a4 w4).mono fun e W' ⟨he, hg⟩ => ?_
  subst he
  exact ⟨_, rfl, _, _, _, [], _, [], hW', trodAll_mk1 (shut_bool Try.underlying4 _), (trodAll_cons_mk (shut_int Try.underlying3 w0) (trodAll_cons_mk (shut_int Try.underlying3 w1) (trodAll_cons_mk (Below.trod laidOut (by kernel_rfl) (of_decide_eq_true (by kernel_rfl)) k2 hg lt2) (trodAll_cons_mk (shut_int Try.underlying22 w3) (trodAll_cons_mk (shut_int Try.underlying3 w4) trodAll_mk0))))), rfl, hg.frame _, fun h => by cases h⟩

theorem over : Rows.tsbDropsRow.holds Try.pinned (OpenSpec.ofChange Rows.tsbDropsSpec) :=
  OpenClaim.holds_of_wide 6 Try.f6 rfl rfl rfl rfl rfl rfl rfl ⟨rfl, rfl, rfl, rfl, rfl⟩ rfl rfl rfl rfl rfl (by kernel_rfl) Try.func6 (by kernel_rfl)
    (of_decide_eq_true (by kernel_rfl)) (by unfold Func.isWrapper; first | (rw [if_pos (by decide +kernel)]; kernel_rfl) | (rw [if_neg (by decide +kernel)]; exact ⟨rfl, rfl⟩))
    (fun os started H enc _ => lifted os started H enc)

theorem proved : Rows.TsbDropsSaid :=
  over
#print axioms proved
end Go.Proofs.Ytgdagfhdimoklaa.tsbDrops
