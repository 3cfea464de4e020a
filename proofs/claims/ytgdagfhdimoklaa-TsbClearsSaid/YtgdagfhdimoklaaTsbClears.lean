/-
  TsbClears: for every size and grade, all entries (made such as may be there), every context the law returns true, and its arguments read as before. Conditions: none.
-/
import Derived.Test.YtgdagfhdimoklaaRows
import Derived.WalkKit
import Derived.ProofKit
import Derived.OpenShut
import Derived.Test.YtgdagfhdimoklaaGG
import Derived.Deep.CutBlock
import Derived.Deep.DeepCutAuto
import Derived.Deep.RegionHeld3
import Derived.Test.YtgdagfhdimoklaaGD
namespace Go.Proofs.Ytgdagfhdimoklaa.tsbClears
open Fld Ts
open Tl (IsEnts ents_at open_ents laidOut ListAt DocAt)
open Go.ChangeShapes Go.WideShapes Go.ChangeAt Go.RowKit Go.Deep Go.Shelf
set_option linter.unusedVariables false

theorem own : ownKnob Try.prog.godebug = none := by kernel_rfl

open Pt (idxI arI ar_bd)
open Tl (nthE rowL_list eleven eleven_one cell_eleven_new rowL infoE)
def cN (l : List Ent) (c : Int) (j : Nat) : Nat := (l.take j).countP (ctxB c)
theorem cN_step {l : List Ent} {c : Int} {j : Nat} (h : j < l.length) : cN l c (j + 1) = cN l c j + (if ctxB c (nthE l j) then 1 else 0) := by
  unfold cN
  rw [List.take_succ_eq_append_getElem h, List.countP_append]
  have : nthE l j = l[j] := by simp [nthE, h]
  rw [this]
  cases hc : ctxB c l[j] <;> simp [hc]
theorem cN_le (l : List Ent) (c : Int) (j : Nat) : cN l c j ≤ j := Nat.le_trans List.countP_le_length (by simp; omega)
theorem cN_all (l : List Ent) (c : Int) : cN l c l.length = l.countP (ctxB c) := by unfold cN; rw [List.take_length]
/-! ### The walk -/
set_option maxHeartbeats 8000000 in
set_option maxRecDepth 100000 in
theorem walk (w : World) (a0 : Int) (w0 : (Lit.int .i64 a0).wf = true) (a1 : Int) (w1 : (Lit.int .i64 a1).wf = true) (s2 : Option Addr) (len2 cap2 : Nat) (w2 : IsEnts w s2 len2 cap2) (a3 : Int) (w3 : (Lit.int .i64 a3).wf = true) :
    Calls Try.prog 7 #[.int .i64 a0, .int .i64 a1, .slice s2 len2 cap2, .int .i64 a3] w fun e w' => e = .returned (.bool true) ∧ Below w.heap.size w w' := by
  obtain ⟨s0, s1⟩ := bounds_i64 w0
  obtain ⟨g0, g1⟩ := bounds_i64 w1
  have CB := Lib.hid (fun W => cbegin a0 a1 s0 s1 g0 g1 W)
  have HL := Lib.hid (fun W => blives_any W)
  have hs := ar_bd a0 4 (by decide)
  have hps := Lib.hid (show (parB (arI a0 4) (arI a1 4)).s = arI a0 4 from rfl)
  have hpn := Lib.hid (show ((parB (arI a0 4) (arI a1 4)).n : Int) = placesI (arI a0 4) (arI a1 4) from by
    have hz : sizeB (arI a0 4) = true := sizeB_mk (by omega)
    have hg := ar_bd a1 4 (by decide)
    have := places_bd hz hg.1 (by omega)
    show ((placesI (arI a0 4) (arI a1 4)).toNat : Int) = _
    omega)
  generalize parB (arI a0 4) (arI a1 4) = P at *
  generalize placesI (arI a0 4) (arI a1 4) = n at *
  generalize arI a0 4 = s at *
  clear w0 w1 w3
  go_enter Try.func7, Try.ntmps7
  go_wp2_with fail
  refine (CB.out _).mono ?_; rintro e w1 ⟨st, rfl, H1⟩
  have H2 := H1.push #[.int .i64 s, .int .i64 n, .slice none 0 0] 39 ⟨by decide, by decide⟩
  clear CB H1
  go_upto_block 0 with fail
  generalize World.alloc w1 _ = wb at *
  generalize w1.heap.size = tb at *
  obtain ⟨sb0, bm0, P0⟩ := PL.start H2
  have H2 := H2.new.below
  have w2' := w2
  go_cut [11] (fun _ wx => ∃ (l : List Ent) (sb bm : Nat) (rv : Value), Fine P l ∧ PL w wx st sb bm P (insAll P l) [(tb, #[.int .i64 s, .int .i64 n, rv], 39)] w.heap.size (.slice none 0 0) [])
  case first =>
    go_wp2_with fail
    go_loopw [11] (fun i wr => ∃ (j : Nat) (l : List Ent) (sb bm : Nat) (rv : Value) (ws : List Wd), i = .int .i64 (j : Int) ∧ j ≤ len2 ∧ j ≤ 10 ∧ Fine P l ∧ PL w wr st sb bm P (insAll P l) [(tb, #[.int .i64 s, .int .i64 n, rv], 39)] w.heap.size (.slice none 0 0) [] ∧ WsAt wr w.heap.size rv ws ∧ ws.length ≤ 3 * j) (fun i _ => 10 - (intOf i).toNat)
    case atStart => exact ⟨0, [], sb0, bm0, _, [], rfl, Nat.zero_le _, Nat.zero_le _, Fine.nil P, P0, ws_nil _ _, Nat.zero_le _⟩
    case round =>
      clear P0 H2
      obtain ⟨j, l, sb, bm, rv, ws, rfl, hj, hj2, hfine, PP, WW, hwl⟩ := hrel
      by_cases hj1 : j < len2
      · by_cases hj12 : j < 10
        · have h1 := hj1
          have h2 := hj12
          obtain ⟨ib, o, off, x, rfl, ho, hlc, hcm, he, hc⟩ := ents_at w2' j h1
          subst ho
          unfold maxLen at hcm
          have hcl : ∀ {b o : Nat} {v : Value}, w.cell? ⟨b, o, none⟩ = some v → wr.cell? ⟨b, o, none⟩ = some v := fun {b o v} hc => (PP.bel.cell (p := ⟨b, o, none⟩) (Tl.lt_cell hc)).trans hc
          have hib : ib < w.heap.size := Tl.lt_cell hc.1
          obtain ⟨c0, c1, c2, c3, c4, c5, c6, c7, c8, c9, c10⟩ := hc
          replace c0 := hcl c0; replace c1 := hcl c1; replace c2 := hcl c2; replace c3 := hcl c3; replace c4 := hcl c4; replace c5 := hcl c5; replace c6 := hcl c6; replace c7 := hcl c7; replace c8 := hcl c8; replace c9 := hcl c9; replace c10 := hcl c10
          have PI1 : DI w w wr st sb bm P (insAll P l) [(tb, #[.int .i64 s, .int .i64 n, rv], 39)] w.heap.size (.slice none 0 0) [] ib (off + j * 11) x w.heap.size rv ws := ⟨⟨PP, ⟨c0, c1, c2, c3, c4, c5, c6, c7, c8, c9, c10⟩, hib⟩, WW⟩
          have t0 := cell_row 0 (PP.rows _ (List.mem_cons_self ..)).1 rfl
          have CX := Lib.hid (fun W => dmade_any x (Ent.lits_wf he) s hs W)
          have okx := made_ok s x
          have szx := Lib.hid (show (made s x).size = s from made_size x hs)
          generalize made s x = y at *
          have h1' : (j : Int) < (len2 : Int) := by omega
          have h2' : (j : Int) < 10 := by omega
          have hds : ∀ W : World, W.drew.heap.size = W.heap.size := fun _ => rfl
          have hszr := PP.bel.size
          clear PP hcl WW
          go_wp2_with fail
          go_cut [12] (fun a wx => ∃ c, a = .pointer (some ⟨c, 0, none⟩) ∧ PL w wx st sb bm P (insAll P l) [(tb, #[.int .i64 s, .int .i64 n, rv], 39)] w.heap.size (.slice none 0 0) [] ∧ WsAt wx w.heap.size rv ws ∧ RowE wx c y)
          case first =>
            go_region_held3 (fun w1 => (w1.cell? ⟨ib, off + j * 11, none⟩ = some (.int .i64 x.size) ∧ w1.cell? ⟨ib, off + j * 11 + 1, none⟩ = some (.int .i64 x.ctx) ∧ w1.cell? ⟨ib, off + j * 11 + 2, none⟩ = some (.int .u64 x.va) ∧ w1.cell? ⟨ib, off + j * 11 + 3, none⟩ = some (.int .u64 x.pa) ∧ w1.cell? ⟨ib, off + j * 11 + 4, none⟩ = some (.bool x.att.write) ∧ w1.cell? ⟨ib, off + j * 11 + 5, none⟩ = some (.bool x.att.priv) ∧ w1.cell? ⟨ib, off + j * 11 + 6, none⟩ = some (.bool x.att.exec) ∧ w1.cell? ⟨ib, off + j * 11 + 7, none⟩ = some (.bool x.att.lock) ∧ w1.cell? ⟨ib, off + j * 11 + 8, none⟩ = some (.bool x.att.global) ∧ w1.cell? ⟨ib, off + j * 11 + 9, none⟩ = some (.bool x.att.quiet) ∧ w1.cell? ⟨ib, off + j * 11 + 10, none⟩ = some (.bool x.valid)) ∧ w1.cell? ⟨tb, 0, none⟩ = some (.int .i64 s)) ((refine DI.sc (w := w) (W := w) (C := w.heap.size) (st := st) (sb := sb) (bm := bm) (p := P) (T := insAll P l) (v := .slice none 0 0) (u := rv) (n := .int .i64 n) (l := []) (D := w.heap.size) (rv := rv) (ws := ws) ?_; (repeat (first | (with_reducible assumption) | (with_reducible refine DI.drew ?_) | (with_reducible refine DI.drewN ?_ _) | (with_reducible refine DI.alloc ?_ _) | (with_reducible refine DI.setNew ?_ ?_) | (with_reducible refine DI.low ?_ (by assumption)))) ))
              ((go_at_call 20; (with_reducible refine (CX.out _).mono ?_); rintro r w' ⟨rfl, hb⟩; obtain ⟨hcc, hf, hs1, hs2⟩ := bfacts hb; (try have hv : wr.heap.size < w'.heap.size := by (have hsz := hb.size; (try simp only [hds] at hsz); (try simp only [World.size_alloc] at hsz); omega))))
            all_goals
              go_wp2_with fail
              go_meet
              refine ⟨_, rfl, ?_, ?_, ?_⟩
              · refine PI.pl (w := w) (ib := ib) (o := off + j * 11) (x := x) (DI.pi (D := w.heap.size) (rv := rv) (ws := ws) ?_); (repeat (first | (with_reducible assumption) | (with_reducible refine DI.drew ?_) | (with_reducible refine DI.drewN ?_ _) | (with_reducible refine DI.alloc ?_ _) | (with_reducible refine DI.setNew ?_ ?_) | (with_reducible refine DI.low ?_ (by assumption)))) 
              · refine DI.ws (w := w) (W := w) (st := st) (sb := sb) (bm := bm) (p := P) (T := insAll P l) (L := [(tb, #[.int .i64 s, .int .i64 n, rv], 39)]) (C := w.heap.size) (v := .slice none 0 0) (l := []) (ib := ib) (o := off + j * 11) (x := x) ?_; (repeat (first | (with_reducible assumption) | (with_reducible refine DI.drew ?_) | (with_reducible refine DI.drewN ?_ _) | (with_reducible refine DI.alloc ?_ _) | (with_reducible refine DI.setNew ?_ ?_) | (with_reducible refine DI.low ?_ (by assumption)))) 
              · (first | (with_reducible exact RowE.new _ _) | (refine RowE.setAll (z := Ent.zero) ?_; (repeat (first | (with_reducible refine RowE.call ?_ (by assumption)) | (with_reducible refine RowE.drew ?_) | exact RowE.new _ Ent.zero))))
          case rest =>
            obtain ⟨c, rfl, P3, W3, R3⟩ := hcut
            have ysz : y.size = P.s := szx.out.trans hps.out.symm
            have uY := wf_u (ok_wf okx)
            have hE0 : errP P y = 0 := by unfold errP; rw [fine_may okx ysz]; rfl
            have CI := Lib.hid (dinsert P3 W3 y uY)
            rw [hE0, ← insAll_snoc] at CI
            have hfine2 := Lib.hid (hfine.snoc okx ysz)
            obtain ⟨d0, d1, d2, d3, d4, d5, d6, d7, d8, d9, d10⟩ := R3.cells
            clear PI1 CX c0 c1 c2 c3 c4 c5 c6 c7 c8 c9 c10 t0 hE0 ysz hds P3 W3 hfine
            go_wp2_with fail
            refine CI.out.mono ?_; rintro e w4 ⟨rfl, ⟨b4, P4⟩, W4, hR⟩
            have R4 := hR _ _ R3
            clear CI hR R3 d0 d1 d2 d3 d4 d5 d6 d7 d8 d9 d10
            obtain ⟨d0, d1, d2, d3, d4, d5, d6, d7, d8, d9, d10⟩ := R4.cells
            have CD := Lib.hid (docins P4 W4 (Nat.le_refl _) y okx.fit uY (by omega) hps.out hpn.out)
            have q4 := (P4.rows _ (List.mem_cons_self ..)).1
            have t0 := cell_row 0 q4 rfl
            have t1 := cell_row 1 q4 rfl
            have t2 := cell_row 2 q4 rfl
            have hwl2 := Lib.hid (insW_le P ws y)
            clear W4 P4 q4
            generalize insW P ws y = ws2 at *
            go_wp2_with (first | (go_at_call 28; (with_reducible refine CD.out.mono ?_); rintro r w5 ⟨v5, rfl, W5, P5⟩; have q5 := (P5.rows _ (List.mem_cons_self ..)).1; have r0 := cell_row 0 q5 rfl; have r1 := cell_row 1 q5 rfl; have r2 := cell_row 2 q5 rfl; have f5 : ∀ i, World.frozen? w5 ⟨tb, i, none⟩ = false := (fun i => by simp [World.frozen?, q5]); obtain ⟨ao5, cap5, rfl⟩ := own_shape W5) | fail)
            go_roundw
            case rel => exact ⟨j + 1, l ++ [y], sb, b4, _, ws2, by go_num, by omega, by omega, hfine2.out, PL.put3 P5 (fun _ hq => absurd hq (by simp)), ws_put3 P5 W5, by have := hwl2.out; omega⟩
            case measure => simp [intOf]; omega
        · have h1' : (j : Int) < (len2 : Int) := by omega
          have h2' : ¬ (j : Int) < 10 := by omega
          go_wp2_with fail
          go_meet
          exact ⟨l, sb, bm, rv, hfine, PP⟩
      · have h1' : ¬ (j : Int) < (len2 : Int) := by omega
        go_wp2_with fail
        go_meet
        exact ⟨l, sb, bm, rv, hfine, PP⟩
  case rest =>
    clear P0 H2 w2'
    obtain ⟨l, sb, bm, rv, hfine, PP⟩ := hcut
    have hPok := PP.tsb.ok
    have hG := gd_all l hfine
    generalize insAll P l = T at *
    clear hfine
    have hnb := hPok.n_bd
    have hLen := Lib.hid (ctx_len (p := P) (T := T) a3)
    have hCnt := Lib.hid (ctx_count (p := P) (T := T) a3 P.n)
    have hNo := Lib.hid (ctx_none (p := P) (T := T) a3)
    have hle := lst_le P T P.n
    have CL := Lib.hid (plist PP)
    clear PP hG
    go_wp2_with fail
    refine CL.out.mono ?_; rintro e w6 ⟨v6, rfl, -, P6⟩
    obtain ⟨ao, cap, rfl⟩ := own_shape P6.own
    have CDr := Lib.hid (pdropContext P6 a3)
    generalize hl1 : lstP P T P.n = l1 at *
    generalize drpN P T a3 P.n = dn at *
    generalize drpT P T a3 P.n = U at *
    obtain ⟨m, hm⟩ : ∃ m, l1.length = m := ⟨_, rfl⟩
    have hmH := Lib.hid hm
    rw [hm] at hle hLen CDr
    rw [hm]
    clear CL P6 hm hl1
    go_wp2_with fail
    refine CDr.out.mono ?_; rintro e w7 ⟨rfl, b7, P7⟩
    clear CDr
    have CL2 := Lib.hid (plist P7)
    clear P7
    go_wp2_with fail
    refine CL2.out.mono ?_; rintro e w9 ⟨v9, rfl, P9, Q9⟩
    obtain ⟨ao9, cap9, rfl⟩ := own_shape Q9.own
    generalize lstP P U P.n = l2 at *
    obtain ⟨k, hk⟩ : ∃ k, l2.length = k := ⟨_, rfl⟩
    rw [hk] at hLen Q9
    rw [hk]
    have hkH := Lib.hid hk
    clear hk CL2
    have hq : (m : Int) - (dn : Int) = (k : Int) := by have := hLen.out; omega
    have hdn : dn ≤ m := by have := hLen.out; omega
    have hkm : k ≤ m := by have := hLen.out; omega
    clear hLen
    go_wp2_with fail
    go_loopw [16, 17] (fun a i wr => ∃ j : Nat, a = .int .i64 (cN l1 a3 j : Int) ∧ i = .int .i64 (j : Int) ∧ j ≤ m ∧ PL w wr st sb b7 P U [(tb, #[.int .i64 s, .int .i64 n, rv], 39)] wc.heap.size (.slice ao m cap) l1 ∧ PL w wr st sb b7 P U [(tb, #[.int .i64 s, .int .i64 n, rv], 39)] w7.heap.size (.slice ao9 k cap9) l2) (fun _ i _ => m - (intOf i).toNat)
    case atStart => exact ⟨0, rfl, rfl, Nat.zero_le _, P9, Q9⟩
    case round =>
      clear P9 Q9
      obtain ⟨j, rfl, rfl, hj, PP, QP⟩ := hrel
      by_cases hjm : j < m
      · have hjl : j < l1.length := by rw [hmH.out]; exact hjm
        have hjm' : (j : Int) < (m : Int) := by omega
        have hstep : cN l1 a3 (j + 1) = cN l1 a3 j + (if (nthE l1 j).ctx == a3 && !(nthE l1 j).att.global then 1 else 0) := cN_step hjl
        have hcle := cN_le l1 a3 j
        generalize cN l1 a3 j = cc at *
        obtain ⟨g, cap', hv, hcc1, hcc2, _⟩ := PP.cells hjl rfl
        rw [hmH.out] at hv hcc1
        simp only [Value.slice.injEq, true_and] at hv
        obtain ⟨rfl, rfl⟩ := hv
        unfold maxLen at hcc2
        obtain ⟨ok, hok⟩ : ∃ ok, j * 11 = ok := ⟨_, rfl⟩
        have hAK : (⟨g, 0, none⟩ : Addr).add ok = ⟨g, ok, none⟩ := add_at g ok
        obtain ⟨d0, d1, d2, d3, d4, d5, d6, d7, d8, d9, d10⟩ := PP.oc hjl hok
        clear d0 d2 d3 d4 d5 d6 d7 d9 d10
        have hst := Lib.hid hstep
        clear hstep
        generalize hEg : (nthE l1 j).att.global = eg at *
        generalize hEc : (nthE l1 j).ctx = ec at *
        cases eg
        · by_cases hcx : ec = a3
          · subst hcx
            have hst2 := Lib.hid (show cN l1 ec (j + 1) = cc + 1 from by rw [hst.out]; simp)
            clear hst
            go_wp2_with fail
            go_roundw
            case rel => exact ⟨j + 1, by rw [hst2.out]; (try go_num), by go_num, by omega, PP, QP⟩
            case measure => simp [intOf]; omega
          · have hst2 := Lib.hid (show cN l1 a3 (j + 1) = cc from by rw [hst.out]; simp [hcx])
            clear hst
            go_wp2_with fail
            go_roundw
            case rel => exact ⟨j + 1, by rw [hst2.out]; (try go_num), by go_num, by omega, PP, QP⟩
            case measure => simp [intOf]; omega
        · have hst2 := Lib.hid (show cN l1 a3 (j + 1) = cc from by rw [hst.out]; simp)
          clear hst
          go_wp2_with fail
          go_roundw
          case rel => exact ⟨j + 1, by rw [hst2.out]; (try go_num), by go_num, by omega, PP, QP⟩
          case measure => simp [intOf]; omega
      · obtain rfl : m = j := by omega
        have hK : cN l1 a3 m = dn := by have := cN_all l1 a3; rw [hmH.out] at this; rw [this]; exact hCnt.out.symm
        rw [hK]
        clear PP hK
        go_wp2_with fail
        go_loopw [18] (fun i wr => ∃ j : Nat, i = .int .i64 (j : Int) ∧ j ≤ k ∧ PL w wr st sb b7 P U [(tb, #[.int .i64 s, .int .i64 n, rv], 39)] w7.heap.size (.slice ao9 k cap9) l2) (fun i _ => k - (intOf i).toNat)
        case atStart => exact ⟨0, rfl, Nat.zero_le _, QP⟩
        case round =>
          clear QP
          obtain ⟨j, rfl, hj, QP⟩ := hrel
          by_cases hjk : j < k
          · have hjl : j < l2.length := by rw [hkH.out]; exact hjk
            have hjk' : (j : Int) < (k : Int) := by omega
            have hstep : ((nthE l2 j).ctx == a3 && !(nthE l2 j).att.global) = false := hNo.out _ (nth_mem hjl)
            obtain ⟨g, cap', hv, hcc1, hcc2, _⟩ := QP.cells hjl rfl
            rw [hkH.out] at hv hcc1
            simp only [Value.slice.injEq, true_and] at hv
            obtain ⟨rfl, rfl⟩ := hv
            unfold maxLen at hcc2
            obtain ⟨ok, hok⟩ : ∃ ok, j * 11 = ok := ⟨_, rfl⟩
            have hAK : (⟨g, 0, none⟩ : Addr).add ok = ⟨g, ok, none⟩ := add_at g ok
            obtain ⟨d0, d1, d2, d3, d4, d5, d6, d7, d8, d9, d10⟩ := QP.oc hjl hok
            clear d0 d2 d3 d4 d5 d6 d7 d9 d10
            have hst := Lib.hid hstep
            clear hstep
            generalize hEg : (nthE l2 j).att.global = eg at *
            generalize hEc : (nthE l2 j).ctx = ec at *
            cases eg
            · have hcx : ec ≠ a3 := by have := hst.out; simpa using this
              clear hst
              go_wp2_with fail
              go_roundw
              case rel => exact ⟨j + 1, by go_num, by omega, QP⟩
              case measure => simp [intOf]; omega
            · clear hst
              go_wp2_with fail
              go_roundw
              case rel => exact ⟨j + 1, by go_num, by omega, QP⟩
              case measure => simp [intOf]; omega
          · obtain rfl : k = j := by omega
            have CC := Lib.hid (pclear QP)
            go_wp2_with fail
            refine CC.out.mono ?_; rintro e wk ⟨rfl, bk, Pk⟩
            have CK := Lib.hid (plocked Pk)
            rw [clear_lck] at CK
            clear CC QP Pk
            go_wp2_with fail
            refine CK.out.mono ?_; rintro e wl ⟨rfl, Pm⟩
            have CN := Lib.hid (plen Pm)
            clear CK Pm
            go_wp2_with fail
            refine CN.out.mono ?_; rintro e wn ⟨rfl, Pn⟩
            have CS := Lib.hid (plist Pn)
            rw [clear_list] at CS
            clear CN Pn
            go_wp2_with fail
            refine CS.out.mono ?_; rintro e wt ⟨vt, rfl, -, Pz⟩
            obtain ⟨aot, capt, rfl⟩ := own_shape Pz.own
            simp only [List.length_nil]
            clear CS
            go_wp2_with fail
            refine (HL.out _).mono ?_; rintro e wq ⟨rfl, hb9⟩
            go_wp2_with fail
            go_ret
            exact ⟨rfl, Pz.bel.trans (hb9.mono Pz.bel.size)⟩

/-! ### The row -/
set_option maxRecDepth 100000 in
theorem lifted (os : Os) (started : os.Started) (H : Type) (enc : TypeId × Value → H) :
    ReturnsInHanded {} Try.checked os 7 .any (Rows.tsbClearsSpec.pre6 enc Try.prog Try.f7 Rows.tsbClearsRow.domain false) (Rows.tsbClearsSpec.post enc Try.prog Try.f7 false true false false) := by
  refine returnsInHanded_of_change (C := Try.checked) own started (by kernel_rfl) Try.func7
    (ChangeSpec.witness6 (enc := enc) (C := Try.checked) false ⟨#[], #[.int .i64 0, .int .i64 0, .slice none 0 0, .int .i64 0], []⟩ 8 (by kernel_rfl) (by kernel_rfl) (by kernel_rfl) (by kernel_rfl)) ?_
  intro W base args ds gs before hval0 hW hcnd _
  have hval : ∀ (j : Nat) t v, Try.f7.params[j]? = some t → args[j]? = some v → Value.okWide Try.prog W .any base t v := hval0
  have hW' := hW
  obtain ⟨p, q, hA0, hV, rfl, hfz, hnd⟩ := hW
  have hA : DataW.TrodAll enc Try.prog W 0 (fun _ => true) true Try.f7.params.toList args.toList ds p := hA0
  rw [Try.params7] at hA hval
  obtain ⟨v0, vs0, d0, ds0, p0, q0, hargs, rfl, rfl, h0, r0⟩ := trodAll_cons hA
  obtain ⟨v1, vs1, d1, ds1, p1, q1, rfl, rfl, rfl, h1, r1⟩ := trodAll_cons r0
  obtain ⟨v2, vs2, d2, ds2, p2, q2, rfl, rfl, rfl, h2, r2⟩ := trodAll_cons r1
  obtain ⟨v3, vs3, d3, ds3, p3, q3, rfl, rfl, rfl, h3, r3⟩ := trodAll_cons r2
  obtain ⟨rfl, rfl, rfl⟩ := trodAll_nil r3
  obtain rfl : args = #[v0, v1, v2, v3] := by cases args; simp_all
  obtain ⟨rfl, rfl⟩ := trodVars_none hV
  obtain ⟨a0, rfl, rfl, rfl, w0⟩ := open_int Try.underlying3 (hval 0 3 v0 rfl rfl) h0
  obtain ⟨a1, rfl, rfl, rfl, w1⟩ := open_int Try.underlying3 (hval 1 3 v1 rfl rfl) h1
  obtain ⟨s2, len2, cap2, rfl⟩ := okWide_slice Try.underlying34 (hval 2 34 v2 rfl rfl)
  have k2 := h2
  have lt2 : ∀ x ∈ p2, x.block < W.heap.size := by obtain ⟨m, hm⟩ := k2; exact DataW.trod_lt m _ _ _ hm
  have w2 : IsEnts W s2 len2 cap2 := by
    obtain ⟨fuel, hf⟩ := h2
    exact open_ents hf
  obtain ⟨a3, rfl, rfl, rfl, w3⟩ := open_int Try.underlying3 (hval 3 3 v3 rfl rfl) h3
  clear hA0 hval0
  simp only [List.append_nil] at hW'
  refine (walk W a0 w0 a1 w1 s2 len2 cap2 w2 a3 w3).mono fun e W' ⟨he, hg⟩ => ?_
  subst he
  exact ⟨_, rfl, _, _, _, [], _, [], hW', trodAll_mk1 (shut_bool Try.underlying4 _), (trodAll_cons_mk (shut_int Try.underlying3 w0) (trodAll_cons_mk (shut_int Try.underlying3 w1) (trodAll_cons_mk (Below.trod laidOut (by kernel_rfl) (of_decide_eq_true (by kernel_rfl)) k2 hg lt2) (trodAll_cons_mk (shut_int Try.underlying3 w3) trodAll_mk0)))), rfl, hg.frame _, fun h => by cases h⟩

theorem over : Rows.tsbClearsRow.holds Try.pinned (OpenSpec.ofChange Rows.tsbClearsSpec) :=
  OpenClaim.holds_of_wide 7 Try.f7 rfl rfl rfl rfl rfl rfl rfl ⟨rfl, rfl, rfl, rfl, rfl⟩ rfl rfl rfl rfl rfl (by kernel_rfl) Try.func7 (by kernel_rfl)
    (of_decide_eq_true (by kernel_rfl)) (by unfold Func.isWrapper; first | (rw [if_pos (by decide +kernel)]; kernel_rfl) | (rw [if_neg (by decide +kernel)]; exact ⟨rfl, rfl⟩))
    (fun os started H enc _ => lifted os started H enc)

theorem proved : Rows.TsbClearsSaid :=
  over
#print axioms proved
end Go.Proofs.Ytgdagfhdimoklaa.tsbClears
