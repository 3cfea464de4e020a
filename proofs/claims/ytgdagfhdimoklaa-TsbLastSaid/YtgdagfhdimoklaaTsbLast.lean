/-
  TsbLast: for every size and grade, all entries (made such as may be there), every address and context the law returns true, and its arguments read as before. Conditions: none.
-/
import Derived.Test.YtgdagfhdimoklaaRows
import Derived.WalkKit
import Derived.ProofKit
import Derived.OpenShut
import Derived.Test.YtgdagfhdimoklaaGF
import Derived.Deep.CutBlock
import Derived.Deep.DeepCutAuto
import Derived.Deep.RegionHeld3
import Derived.Test.YtgdagfhdimoklaaGD
namespace Go.Proofs.Ytgdagfhdimoklaa.tsbLast
open Fld Ts
open Tl (IsEnts ents_at open_ents laidOut ListAt DocAt)
open Go.ChangeShapes Go.WideShapes Go.ChangeAt Go.RowKit Go.Deep Go.Shelf
set_option linter.unusedVariables false

theorem own : ownKnob Try.prog.godebug = none := by kernel_rfl

open Pt (idxI arI ar_bd)
open Tl (nthE rowL_list eleven eleven_one cell_eleven_new rowL infoE)
/-- Has a later one of the first m the same place? -/
def ovB (p : Par) (l : List Ent) (k : Nat) (m : Nat) : Bool := (List.range m).any fun q => decide (k < q) && (p.pl (nthE l q).va == p.pl (nthE l k).va)
theorem ov_step {p : Par} {l : List Ent} {k m : Nat} (h : k < m) : ovB p l k (m + 1) = (ovB p l k m || (p.pl (nthE l m).va == p.pl (nthE l k).va)) := by
  unfold ovB; rw [List.range_succ, List.any_append]; simp [h]
theorem ov_start (p : Par) (l : List Ent) (k : Nat) : ovB p l k (k + 1) = false := by
  unfold ovB
  rw [List.any_eq_false]
  intro q hq
  have := List.mem_range.1 hq
  simp; intro h; omega
theorem ov_no {p : Par} {l : List Ent} {k m : Nat} (h : ovB p l k m = false) : ∀ q, k < q → q < m → p.pl (nthE l q).va ≠ p.pl (nthE l k).va := by
  intro q h1 h2 he
  unfold ovB at h
  rw [List.any_eq_false] at h
  exact h q (List.mem_range.2 h2) (by simp [h1, he])
def fdB (l : List Ent) (va ctx : Int) (e : Ent) (m : Nat) : Bool := (List.range m).any fun q => (nthE l q).hitsB va ctx && entEq (nthE l q) e
theorem fd_step (l : List Ent) (va ctx : Int) (e : Ent) (m : Nat) : fdB l va ctx e (m + 1) = (fdB l va ctx e m || ((nthE l m).hitsB va ctx && entEq (nthE l m) e)) := by
  unfold fdB; rw [List.range_succ, List.any_append]; simp
theorem fd_all {p : Par} (hp : p.Ok) (l : List Ent) (h : Fine p l) {va ctx : Int} (v0 : 0 ≤ va) (v1 : va ≤ 18446744073709551615) : fdB l va ctx (fndE p (insAll p l) va ctx) l.length = fndB p (insAll p l) va ctx := by
  rw [Bool.eq_iff_iff, found_is hp l h v0 v1]
  unfold fdB
  rw [List.any_eq_true]
  constructor
  · rintro ⟨q, hq, hh⟩
    rw [Bool.and_eq_true, entEq_iff] at hh
    exact ⟨q, List.mem_range.1 hq, hh.1, hh.2⟩
  · rintro ⟨q, hq, h1, h2⟩
    exact ⟨q, List.mem_range.2 hq, by rw [Bool.and_eq_true, entEq_iff]; exact ⟨h1, h2⟩⟩
/-! ### The walk -/
set_option maxHeartbeats 8000000 in
set_option maxRecDepth 100000 in
theorem walk (w : World) (a0 : Int) (w0 : (Lit.int .i64 a0).wf = true) (a1 : Int) (w1 : (Lit.int .i64 a1).wf = true) (s2 : Option Addr) (len2 cap2 : Nat) (w2 : IsEnts w s2 len2 cap2) (a3 : Int) (w3 : (Lit.int .u64 a3).wf = true) (a4 : Int) (w4 : (Lit.int .i64 a4).wf = true) :
    Calls Try.prog 4 #[.int .i64 a0, .int .i64 a1, .slice s2 len2 cap2, .int .u64 a3, .int .i64 a4] w fun e w' => e = .returned (.bool true) ∧ Below w.heap.size w w' := by
  obtain ⟨s0, s1⟩ := bounds_i64 w0
  obtain ⟨g0, g1⟩ := bounds_i64 w1
  obtain ⟨x0, x1⟩ := bounds_u64 w3
  have CB := Lib.hid (fun W => cbegin a0 a1 s0 s1 g0 g1 W)
  have HL := Lib.hid (fun W => blives_any W)
  have hs := ar_bd a0 4 (by decide)
  have hps := Lib.hid (show (parB (arI a0 4) (arI a1 4)).s = arI a0 4 from rfl)
  have hpn := Lib.hid (show ((parB (arI a0 4) (arI a1 4)).n : Int) = placesI (arI a0 4) (arI a1 4) from by
    have hz : sizeB (arI a0 4) = true := sizeB_mk (by omega)
    have hg := ar_bd a1 4 (by decide)
    have := places_bd hz hg.1 (by omega)
    show ((placesI (arI a0 4) (arI a1 4)).toNat : Int) = _
    omega)
  generalize parB (arI a0 4) (arI a1 4) = P at *
  generalize placesI (arI a0 4) (arI a1 4) = n at *
  generalize arI a0 4 = s at *
  clear w0 w1 w3
  go_enter Try.func4, Try.ntmps4
  go_wp2_with fail
  refine (CB.out _).mono ?_; rintro e w1 ⟨st, rfl, H1⟩
  have H2 := H1.push #[.int .i64 s, .int .i64 n, .slice none 0 0] 39 ⟨by decide, by decide⟩
  clear CB H1
  go_upto_block 0 with fail
  generalize World.alloc w1 _ = wb at *
  generalize w1.heap.size = tb at *
  obtain ⟨sb0, bm0, P0⟩ := PL.start H2
  have H2 := H2.new.below
  have w2' := w2
  go_cut [13] (fun v wx => ∃ (l : List Ent) (sb bm : Nat), l.length ≤ 12 ∧ Fine P l ∧ PL w wx st sb bm P (insAll P l) [(tb, #[.int .i64 s, .int .i64 n, .slice none 0 0], 39)] w.heap.size v l)
  case first =>
    go_wp2_with fail
    go_loopw [13, 14] (fun v i wr => ∃ (j : Nat) (l : List Ent) (sb bm : Nat), i = .int .i64 (j : Int) ∧ j ≤ len2 ∧ j ≤ 12 ∧ l.length = j ∧ Fine P l ∧ PL w wr st sb bm P (insAll P l) [(tb, #[.int .i64 s, .int .i64 n, .slice none 0 0], 39)] w.heap.size v l) (fun _ i _ => 12 - (intOf i).toNat)
    case atStart => exact ⟨0, [], sb0, bm0, rfl, Nat.zero_le _, Nat.zero_le _, rfl, Fine.nil P, P0⟩
    case round =>
      clear P0 H2
      obtain ⟨j, l, sb, bm, rfl, hj, hj2, hlen, hfine, PP⟩ := hrel
      obtain ⟨ao, cap, rfl⟩ := own_shape PP.own
      rw [hlen]
      by_cases hj1 : j < len2
      · by_cases hj12 : j < 12
        · have h1 := hj1
          have h2 := hj12
          obtain ⟨ib, o, off, x, rfl, ho, hlc, hcm, he, hc⟩ := ents_at w2' j h1
          subst ho
          unfold maxLen at hcm
          have hcl : ∀ {b o : Nat} {v : Value}, w.cell? ⟨b, o, none⟩ = some v → wr.cell? ⟨b, o, none⟩ = some v := fun {b o v} hc => (PP.bel.cell (p := ⟨b, o, none⟩) (Tl.lt_cell hc)).trans hc
          have hib : ib < w.heap.size := Tl.lt_cell hc.1
          obtain ⟨c0, c1, c2, c3, c4, c5, c6, c7, c8, c9, c10⟩ := hc
          replace c0 := hcl c0; replace c1 := hcl c1; replace c2 := hcl c2; replace c3 := hcl c3; replace c4 := hcl c4; replace c5 := hcl c5; replace c6 := hcl c6; replace c7 := hcl c7; replace c8 := hcl c8; replace c9 := hcl c9; replace c10 := hcl c10
          have PI1 : PI w w wr st sb bm P (insAll P l) [(tb, #[.int .i64 s, .int .i64 n, .slice none 0 0], 39)] w.heap.size (.slice ao l.length cap) l ib (off + j * 11) x := ⟨PP, ⟨c0, c1, c2, c3, c4, c5, c6, c7, c8, c9, c10⟩, hib⟩
          have t0 := cell_row 0 (PP.rows _ (List.mem_cons_self ..)).1 rfl
          have CX := Lib.hid (fun W => dmade_any x (Ent.lits_wf he) s hs W)
          have okx := made_ok s x
          have szx := Lib.hid (show (made s x).size = s from made_size x hs)
          generalize made s x = y at *
          have h1' : (j : Int) < (len2 : Int) := by omega
          have h2' : (j : Int) < 12 := by omega
          have hds : ∀ W : World, W.drew.heap.size = W.heap.size := fun _ => rfl
          have hszr := PP.bel.size
          clear PP hcl
          rw [hlen] at PI1
          have hlenH := Lib.hid hlen
          clear hlen
          go_wp2_with fail
          go_cut [15] (fun a wx => ∃ c, a = .pointer (some ⟨c, 0, none⟩) ∧ PL w wx st sb bm P (insAll P l) [(tb, #[.int .i64 s, .int .i64 n, .slice none 0 0], 39)] w.heap.size (.slice ao j cap) l ∧ RowE wx c y)
          case first =>
            go_region_held3 (fun w1 => (w1.cell? ⟨ib, off + j * 11, none⟩ = some (.int .i64 x.size) ∧ w1.cell? ⟨ib, off + j * 11 + 1, none⟩ = some (.int .i64 x.ctx) ∧ w1.cell? ⟨ib, off + j * 11 + 2, none⟩ = some (.int .u64 x.va) ∧ w1.cell? ⟨ib, off + j * 11 + 3, none⟩ = some (.int .u64 x.pa) ∧ w1.cell? ⟨ib, off + j * 11 + 4, none⟩ = some (.bool x.att.write) ∧ w1.cell? ⟨ib, off + j * 11 + 5, none⟩ = some (.bool x.att.priv) ∧ w1.cell? ⟨ib, off + j * 11 + 6, none⟩ = some (.bool x.att.exec) ∧ w1.cell? ⟨ib, off + j * 11 + 7, none⟩ = some (.bool x.att.lock) ∧ w1.cell? ⟨ib, off + j * 11 + 8, none⟩ = some (.bool x.att.global) ∧ w1.cell? ⟨ib, off + j * 11 + 9, none⟩ = some (.bool x.att.quiet) ∧ w1.cell? ⟨ib, off + j * 11 + 10, none⟩ = some (.bool x.valid)) ∧ w1.cell? ⟨tb, 0, none⟩ = some (.int .i64 s)) ((refine PI.sc (w := w) (W := w) (C := w.heap.size) (st := st) (sb := sb) (bm := bm) (p := P) (T := insAll P l) (v := .slice ao j cap) (u := .slice none 0 0) (n := .int .i64 n) (l := l) ?_; (repeat (first | (with_reducible assumption) | (with_reducible refine PI.drew ?_) | (with_reducible refine PI.drewN ?_ _) | (with_reducible refine PI.alloc ?_ _) | (with_reducible refine PI.setNew ?_ ?_) | (with_reducible refine PI.low ?_ (by assumption)))) ))
              ((go_at_call 20; (with_reducible refine (CX.out _).mono ?_); rintro r w' ⟨rfl, hb⟩; obtain ⟨hcc, hf, hs1, hs2⟩ := bfacts hb; (try have hv : wr.heap.size < w'.heap.size := by (have hsz := hb.size; (try simp only [hds] at hsz); (try simp only [World.size_alloc] at hsz); omega))))
            all_goals
              go_wp2_with fail
              go_meet
              refine ⟨_, rfl, ?_, ?_⟩
              · refine PI.pl (w := w) (ib := ib) (o := off + j * 11) (x := x) ?_; (repeat (first | (with_reducible assumption) | (with_reducible refine PI.drew ?_) | (with_reducible refine PI.drewN ?_ _) | (with_reducible refine PI.alloc ?_ _) | (with_reducible refine PI.setNew ?_ ?_) | (with_reducible refine PI.low ?_ (by assumption)))) 
              · (first | (with_reducible exact RowE.new _ _) | (refine RowE.setAll (z := Ent.zero) ?_; (repeat (first | (with_reducible refine RowE.call ?_ (by assumption)) | (with_reducible refine RowE.drew ?_) | exact RowE.new _ Ent.zero))))
          case rest =>
            obtain ⟨c, rfl, P3, R3⟩ := hcut
            have ysz : y.size = P.s := szx.out.trans hps.out.symm
            have uY := wf_u (ok_wf okx)
            have hE0 : errP P y = 0 := by unfold errP; rw [fine_may okx ysz]; rfl
            have CI := Lib.hid (pinsert P3 y uY)
            rw [hE0, ← insAll_snoc] at CI
            have hfine2 := Lib.hid (hfine.snoc okx ysz)
            obtain ⟨d0, d1, d2, d3, d4, d5, d6, d7, d8, d9, d10⟩ := R3.cells
            clear PI1 CX c0 c1 c2 c3 c4 c5 c6 c7 c8 c9 c10 t0 hE0 ysz hds P3 hfine
            go_wp2_with fail
            refine CI.out.mono ?_; rintro e w4 ⟨rfl, ⟨b4, P4⟩, hR⟩
            have R4 := hR _ _ R3
            clear CI hR R3 d0 d1 d2 d3 d4 d5 d6 d7 d8 d9 d10
            obtain ⟨d0, d1, d2, d3, d4, d5, d6, d7, d8, d9, d10⟩ := R4.cells
            obtain ⟨i0, hi0, hz0, hz1, hz2⟩ := info_parts infoE
            have P5 := P4.alloc (.cells #[.int .i64 y.size, .int .i64 y.ctx, .int .u64 y.va, .int .u64 y.pa, .bool y.att.write, .bool y.att.priv, .bool y.att.exec, .bool y.att.lock, .bool y.att.global, .bool y.att.quiet, .bool y.valid] 45)
            have HC := Lib.hid (cell_eleven_new w4 y 45)
            have HE := Lib.hid (rowL_list l y)
            have HO := Lib.hid (eleven_one y)
            have hO3 : (w4.alloc (.cells #[.int .i64 y.size, .int .i64 y.ctx, .int .u64 y.va, .int .u64 y.pa, .bool y.att.write, .bool y.att.priv, .bool y.att.exec, .bool y.att.lock, .bool y.att.global, .bool y.att.quiet, .bool y.valid] 45)).ownsRow w.heap.size 45 11 (.slice ao j cap) j (rowL (nthE l) j) := by have := P5.own; rw [← hlenH.out]; rw [← hlenH.out] at this; exact this
            have hsz5 := P5.bel.size
            clear P4
            go_wp2_with (at_builtin; (refine wpList_append_own_at _ rfl _ _ 34 rfl w.heap.size 45 i0 _ 11 40 Try.underlying34 hi0 hz0 hz1 hz2 rfl (by decide) _ _ _ rfl (by exact hO3) ⟨w4.heap.size, 0, none⟩ 1 1 (eleven y) rfl rfl HC.out HO.out (by unfold maxLen; omega) (by omega) (by simp at hsz5 ⊢; omega) ?_))
            intro v' w5 hown' hgrow _ _
            have R1 : ListAt w5 w.heap.size v' (l ++ [y]) := by
              unfold ListAt DocAt
              rw [HE.out, List.length_append, hlenH.out]; exact hown'
            have P6 := P5.append hgrow y R1 (by intro q hq; rw [List.mem_singleton.1 hq]; exact of_decide_eq_true rfl)
            clear hown' hgrow hO3 HC HE HO P5 R4 d0 d1 d2 d3 d4 d5 d6 d7 d8 d9 d10
            go_wp2
            go_roundw
            case rel => exact ⟨j + 1, l ++ [y], sb, b4, by go_num, by omega, by omega, by rw [List.length_append, hlenH.out]; rfl, hfine2.out, P6⟩
            case measure => simp [intOf]; omega
        · have h1' : (j : Int) < (len2 : Int) := by omega
          have h2' : ¬ (j : Int) < 12 := by omega
          go_wp2_with fail
          go_meet
          exact ⟨l, sb, bm, by omega, hfine, by rw [← hlen]; exact PP⟩
      · have h1' : ¬ (j : Int) < (len2 : Int) := by omega
        go_wp2_with fail
        go_meet
        exact ⟨l, sb, bm, by omega, hfine, by rw [← hlen]; exact PP⟩
  case rest =>
    clear P0 H2 w2'
    obtain ⟨l, sb, bm, hl12, hfine, PP⟩ := hcut
    obtain ⟨ao, cap, rfl⟩ := own_shape PP.own
    obtain ⟨j, hlen⟩ : ∃ j, l.length = j := ⟨_, rfl⟩
    rw [hlen]
    have hfineH := Lib.hid hfine
    have hlenH := Lib.hid hlen
    rw [hlen] at hl12
    clear hfine hlen
    have hPok := PP.tsb.ok
    have hsB : sizeB s = true := sizeB_mk (by omega)
    have hnb := hPok.n_bd
    have hidx := Lib.hid (fun va => (show Pt.idxI va s n = (P.pl va : Int) from by
      have := (hPok.idx va).1
      rw [hps.out, hpn.out] at this; exact this))
    have hn12 : 1 ≤ n ∧ n ≤ 4096 := by have := hpn.out; omega
    go_wp2_with fail
    go_loopw [16] (fun i wr => ∃ k : Nat, i = .int .i64 (k : Int) ∧ k ≤ j ∧ PL w wr st sb bm P (insAll P l) [(tb, #[.int .i64 s, .int .i64 n, .slice none 0 0], 39)] w.heap.size (.slice ao l.length cap) l) (fun i _ => j - (intOf i).toNat)
    case atStart => exact ⟨0, rfl, Nat.zero_le _, PP⟩
    case round =>
      clear PP
      obtain ⟨k, rfl, hk, PP⟩ := hrel
      by_cases hkj : k < j
      · have hkl : k < l.length := by rw [hlenH.out]; exact hkj
        obtain ⟨g, cap', hv, hcc1, hcc2, _⟩ := PP.cells hkl rfl
        simp only [Value.slice.injEq, true_and] at hv
        obtain ⟨rfl, rfl⟩ := hv
        unfold maxLen at hcc2
        have hkj' : (k : Int) < (j : Int) := by omega
        go_wp2_with fail
        have hover := Lib.hid (fun (h : ovB P l k j = false) => last_found hPok l hfineH.out hkl (by intro q q1 q2; exact ov_no h q q1 (by rw [hlenH.out] at q2; exact q2)))
        have hek := (hfineH.out _ (nth_mem hkl)).1
        have k0 := hek.v0
        have k1 := hek.v1
        have CK := Lib.hid (fun W => (show Calls Try.prog 22 #[.int .u64 (nthE l k).va, .int .i64 s, .int .i64 n] W fun e w' => e = .returned (.int .i64 (P.pl (nthE l k).va : Int)) ∧ ∃ n, w' = W.drewN n from by
          have := Pt.rindex_any (nthE l k).va s n k0 k1 hsB hn12.1 hn12.2 W
          rw [hidx.out] at this; exact this))
        obtain ⟨ok, hok⟩ : ∃ ok, k * 11 = ok := ⟨_, rfl⟩
        have hAK : (⟨g, 0, none⟩ : Addr).add ok = ⟨g, ok, none⟩ := add_at g ok
        go_loopw [17, 18] (fun a i wr => ∃ m : Nat, a = .bool (ovB P l k m) ∧ i = .int .i64 (m : Int) ∧ k + 1 ≤ m ∧ m ≤ j ∧ PL w wr st sb bm P (insAll P l) [(tb, #[.int .i64 s, .int .i64 n, .slice none 0 0], 39)] w.heap.size (.slice (some ⟨g, 0, none⟩) l.length cap) l) (fun _ i _ => j - (intOf i).toNat)
        case atStart => exact ⟨k + 1, by rw [ov_start], by go_num, Nat.le_refl _, by omega, PP⟩
        case round =>
          clear PP
          obtain ⟨m, rfl, rfl, hm1, hm2, PP⟩ := hrel
          by_cases hmj : m < j
          · have hml : m < l.length := by rw [hlenH.out]; exact hmj
            have hem := (hfineH.out _ (nth_mem hml)).1
            have m0 := hem.v0
            have m1 := hem.v1
            have CM := Lib.hid (fun W => (show Calls Try.prog 22 #[.int .u64 (nthE l m).va, .int .i64 s, .int .i64 n] W fun e w' => e = .returned (.int .i64 (P.pl (nthE l m).va : Int)) ∧ ∃ n, w' = W.drewN n from by
              have := Pt.rindex_any (nthE l m).va s n m0 m1 hsB hn12.1 hn12.2 W
              rw [hidx.out] at this; exact this))
            have hst := Lib.hid (ov_step (p := P) (l := l) (k := k) (m := m) (by omega))
            obtain ⟨om, hom⟩ : ∃ om, m * 11 = om := ⟨_, rfl⟩
            have hAM : (⟨g, 0, none⟩ : Addr).add om = ⟨g, om, none⟩ := add_at g om
            obtain ⟨c0, c1, c2, c3, c4, c5, c6, c7, c8, c9, c10⟩ := PP.oc hml hom
            obtain ⟨d0, d1, d2, d3, d4, d5, d6, d7, d8, d9, d10⟩ := PP.oc hkl hok
            obtain ⟨t0, t1⟩ := PP.tc
            have hmj' : (m : Int) < (j : Int) := by omega
            cases hov : ovB P l k m
            · rw [hov] at hst
              by_cases he : P.pl (nthE l m).va = P.pl (nthE l k).va
              · have hst2 := Lib.hid (show ovB P l k (m + 1) = true by rw [hst.out, he]; simp)
                rw [he] at CM
                clear hst he hov hover
                generalize P.pl (nthE l k).va = pk at *
                go_wp2_with fail
                go_quiet (first | (go_at_call 22; (with_reducible refine (CM.out _).mono ?_); rintro e w' ⟨rfl, q, rfl⟩; exact ⟨rfl, _, by rw [World.drewN_drewN]⟩) | (go_at_call 22; (with_reducible refine (CK.out _).mono ?_); rintro e w' ⟨rfl, q, rfl⟩; exact ⟨rfl, _, by rw [World.drewN_drewN]⟩))
                have PQ := PP.drewN nq
                clear PP c0 c1 c2 c3 c4 c5 c6 c7 c8 c9 c10 d0 d1 d2 d3 d4 d5 d6 d7 d8 d9 d10 t0 t1
                go_wp2_with fail
                go_roundw
                case rel => exact ⟨m + 1, by rw [hst2.out], by go_num, by omega, by omega, PQ⟩
                case measure => simp [intOf]; omega
              · have hst2 := Lib.hid (show ovB P l k (m + 1) = false by rw [hst.out]; simp [he])
                have he' : ¬ ((P.pl (nthE l m).va : Nat) : Int) = ((P.pl (nthE l k).va : Nat) : Int) := by omega
                clear hst he hov hover
                generalize P.pl (nthE l k).va = pk at *
                generalize P.pl (nthE l m).va = pm at *
                go_wp2_with fail
                go_quiet (first | (go_at_call 22; (with_reducible refine (CM.out _).mono ?_); rintro e w' ⟨rfl, q, rfl⟩; exact ⟨rfl, _, by rw [World.drewN_drewN]⟩) | (go_at_call 22; (with_reducible refine (CK.out _).mono ?_); rintro e w' ⟨rfl, q, rfl⟩; exact ⟨rfl, _, by rw [World.drewN_drewN]⟩))
                have PQ := PP.drewN nq
                clear PP c0 c1 c2 c3 c4 c5 c6 c7 c8 c9 c10 d0 d1 d2 d3 d4 d5 d6 d7 d8 d9 d10 t0 t1
                go_wp2_with fail
                go_roundw
                case rel => exact ⟨m + 1, by rw [hst2.out]; simp [he'], by go_num, by omega, by omega, PQ⟩
                case measure => simp [intOf]; omega
            · have hst2 := Lib.hid (show ovB P l k (m + 1) = true by rw [hst.out, hov]; rfl)
              clear hst hov hover c0 c1 c2 c3 c4 c5 c6 c7 c8 c9 c10 d0 d1 d2 d3 d4 d5 d6 d7 d8 d9 d10 t0 t1
              go_wp2_with fail
              go_quiet (fail)
              have PQ := PP.drewN nq
              clear PP
              go_wp2_with fail
              go_roundw
              case rel => exact ⟨m + 1, by rw [hst2.out], by go_num, by omega, by omega, PQ⟩
              case measure => simp [intOf]; omega
          · obtain rfl : j = m := by omega
            have CF := Lib.hid (fun W (h : PL w W st sb bm P (insAll P l) [(tb, #[.int .i64 s, .int .i64 n, .slice none 0 0], 39)] w.heap.size (.slice (some ⟨g, 0, none⟩) l.length cap) l) => pfind h (nthE l k).va (nthE l k).ctx k0 k1)
            generalize fndE P (insAll P l) (nthE l k).va (nthE l k).ctx = FE at *
            generalize fndB P (insAll P l) (nthE l k).va (nthE l k).ctx = FB at *
            have hds : ∀ W : World, W.drew.heap.size = W.heap.size := fun _ => rfl
            obtain ⟨d0, d1, d2, d3, d4, d5, d6, d7, d8, d9, d10⟩ := PP.oc hkl hok
            generalize hovE : ovB P l k j = ov at *
            clear CK hovE
            go_wp2_with fail
            go_cut [19, 20] (fun a b wx => ∃ c, a = .pointer (some ⟨c, 0, none⟩) ∧ b = .bool FB ∧ PL w wx st sb bm P (insAll P l) [(tb, #[.int .i64 s, .int .i64 n, .slice none 0 0], 39)] w.heap.size (.slice (some ⟨g, 0, none⟩) l.length cap) l ∧ RowE wx c FE)
            case first =>
              go_region_held3 (fun w1 => w1.cell? ⟨g, ok, none⟩ = some (.int .i64 (nthE l k).size) ∧ w1.cell? ⟨g, ok + 1, none⟩ = some (.int .i64 (nthE l k).ctx) ∧ w1.cell? ⟨g, ok + 2, none⟩ = some (.int .u64 (nthE l k).va) ∧ w1.cell? ⟨g, ok + 3, none⟩ = some (.int .u64 (nthE l k).pa) ∧ w1.cell? ⟨g, ok + 4, none⟩ = some (.bool (nthE l k).att.write) ∧ w1.cell? ⟨g, ok + 5, none⟩ = some (.bool (nthE l k).att.priv) ∧ w1.cell? ⟨g, ok + 6, none⟩ = some (.bool (nthE l k).att.exec) ∧ w1.cell? ⟨g, ok + 7, none⟩ = some (.bool (nthE l k).att.lock) ∧ w1.cell? ⟨g, ok + 8, none⟩ = some (.bool (nthE l k).att.global) ∧ w1.cell? ⟨g, ok + 9, none⟩ = some (.bool (nthE l k).att.quiet) ∧ w1.cell? ⟨g, ok + 10, none⟩ = some (.bool (nthE l k).valid)) ((refine PL.oc (W := w) (st := st) (sb := sb) (bm := bm) (C := w.heap.size) (p := P) (T := insAll P l) (L := [(tb, #[.int .i64 s, .int .i64 n, .slice none 0 0], 39)]) (n := l.length) (cap := cap) ?_ hkl hok; (repeat (first | (with_reducible assumption) | (with_reducible refine PL.drew ?_) | (with_reducible refine PL.drewN ?_ _) | (with_reducible refine PL.alloc ?_ _) | (with_reducible refine PL.setNew ?_ ?_) | (with_reducible refine PL.low ?_ (by assumption)))) ))
                ((go_at_call 23; (refine (CF.out _ (by (repeat (first | (with_reducible assumption) | (with_reducible refine PL.drew ?_) | (with_reducible refine PL.drewN ?_ _) | (with_reducible refine PL.alloc ?_ _) | (with_reducible refine PL.setNew ?_ ?_) | (with_reducible refine PL.low ?_ (by assumption)))) )).mono ?_); rintro r w' ⟨rfl, hb⟩; obtain ⟨hcc, hf, hs1, hs2⟩ := bfacts hb; (try have hv : wr.heap.size < w'.heap.size := by (have hsz := hb.size; (try simp only [hds] at hsz); (try simp only [World.size_alloc] at hsz); omega))))
              all_goals
                go_wp2_with fail
                go_meet
                refine ⟨_, rfl, rfl, ?_, ?_⟩
                · (repeat (first | (with_reducible assumption) | (with_reducible refine PL.drew ?_) | (with_reducible refine PL.drewN ?_ _) | (with_reducible refine PL.alloc ?_ _) | (with_reducible refine PL.setNew ?_ ?_) | (with_reducible refine PL.low ?_ (by assumption)))) 
                · (first | (with_reducible exact RowE.new _ _) | (refine RowE.setAll (z := Ent.zero) ?_; (repeat (first | (with_reducible refine RowE.call ?_ (by assumption)) | (with_reducible refine RowE.drew ?_) | exact RowE.new _ Ent.zero))))
            case rest =>
              obtain ⟨c, rfl, rfl, P3, R3⟩ := hcut
              clear PP CF d0 d1 d2 d3 d4 d5 d6 d7 d8 d9 d10 hds
              cases ov
              · obtain ⟨hFB, hFE⟩ := hover.out rfl
                subst hFB hFE
                obtain ⟨d0, d1, d2, d3, d4, d5, d6, d7, d8, d9, d10⟩ := P3.oc hkl hok
                obtain ⟨c0, c1, c2, c3, c4, c5, c6, c7, c8, c9, c10⟩ := R3.cells
                clear hover
                go_wp2_with fail
                go_quiet (fail)
                have PQ := P3.drewN nq
                clear P3 R3 c0 c1 c2 c3 c4 c5 c6 c7 c8 c9 c10 d0 d1 d2 d3 d4 d5 d6 d7 d8 d9 d10
                go_wp2_with fail
                go_roundw
                case rel => exact ⟨k + 1, by go_num, by omega, PQ⟩
                case measure => simp [intOf]; omega
              · clear hover
                go_wp2_with fail
                go_quiet (fail)
                have PQ := P3.drewN nq
                clear P3 R3
                go_wp2_with fail
                go_roundw
                case rel => exact ⟨k + 1, by go_num, by omega, PQ⟩
                case measure => simp [intOf]; omega
      · obtain rfl : j = k := by omega
        have CF := Lib.hid (pfind PP a3 a4 x0 x1)
        have hfin := Lib.hid (fd_all hPok l hfineH.out (ctx := a4) x0 x1)
        have hbe := rdE_fnd (p := P) (T := insAll P l) (ctx := a4) a3 x0 x1
        generalize fndE P (insAll P l) a3 a4 = FE at *
        generalize fndB P (insAll P l) a3 a4 = FB at *
        go_wp2_with fail
        refine CF.out.mono ?_; rintro e w6 ⟨rfl, hb6⟩
        have P6 := (PP.low hb6).alloc (.cells #[.int .i64 FE.size, .int .i64 FE.ctx, .int .u64 FE.va, .int .u64 FE.pa, .bool FE.att.write, .bool FE.att.priv, .bool FE.att.exec, .bool FE.att.lock, .bool FE.att.global, .bool FE.att.quiet, .bool FE.valid] 45)
        have R6 := RowE.new w6 FE
        clear CF PP hb6
        go_wp2_with fail
        generalize World.alloc w6 _ = w7 at *
        generalize w6.heap.size = eb at *
        go_loopw [23, 24] (fun a i wr => ∃ m : Nat, a = .bool (fdB l a3 a4 FE m) ∧ i = .int .i64 (m : Int) ∧ m ≤ j ∧ PL w wr st sb bm P (insAll P l) [(tb, #[.int .i64 s, .int .i64 n, .slice none 0 0], 39)] w.heap.size (.slice ao l.length cap) l ∧ RowE wr eb FE) (fun _ i _ => j - (intOf i).toNat)
        case atStart => exact ⟨0, rfl, rfl, Nat.zero_le _, P6, R6⟩
        case round =>
          clear P6 R6
          obtain ⟨m, rfl, rfl, hm, PP, RR⟩ := hrel
          by_cases hmj : m < j
          · have hml : m < l.length := by rw [hlenH.out]; exact hmj
            obtain ⟨g, cap', hv, hcc1, hcc2, _⟩ := PP.cells hml rfl
            simp only [Value.slice.injEq, true_and] at hv
            obtain ⟨rfl, rfl⟩ := hv
            unfold maxLen at hcc2
            have hmj' : (m : Int) < (j : Int) := by omega
            have hem := (hfineH.out _ (nth_mem hml)).1
            have CH := Lib.hid (fun W => rhits_any (nthE l m) a3 a4 hem.v0 hem.v1 x0 x1 W)
            have hst := Lib.hid (fd_step l a3 a4 FE m)
            obtain ⟨om, hom⟩ : ∃ om, m * 11 = om := ⟨_, rfl⟩
            have hAM : (⟨g, 0, none⟩ : Addr).add om = ⟨g, om, none⟩ := add_at g om
            obtain ⟨c0, c1, c2, c3, c4, c5, c6, c7, c8, c9, c10⟩ := PP.oc hml hom
            have heq := Lib.hid (ent_is (nthE l m) FE)
            clear hem
            generalize (nthE l m).hitsB a3 a4 = HB at *
            generalize entEq (nthE l m) FE = EB at *
            generalize fdB l a3 a4 FE m = F0 at *
            go_wp2_with fail
            refine (CH.out _).mono ?_; rintro e w8 ⟨rfl, hb8⟩
            have P8 := PP.low hb8
            have R8 := RR.below hb8 RR.lt
            clear CH PP RR hb8 c0 c1 c2 c3 c4 c5 c6 c7 c8 c9 c10
            cases F0
            · cases HB
              · have hF := Lib.hid (show fdB l a3 a4 FE (m + 1) = false from hst.out)
                clear hst heq
                go_wp2_with fail
                go_quiet (fail)
                have PQ := P8.drewN nq
                have RQ := R8.drewN nq
                clear P8 R8
                go_wp2_with fail
                go_roundw
                case rel => exact ⟨m + 1, by rw [hF.out], by go_num, by omega, PQ, RQ⟩
                case measure => simp [intOf]; omega
              · have hF := Lib.hid (show fdB l a3 a4 FE (m + 1) = EB from by rw [hst.out]; rfl)
                obtain ⟨c0, c1, c2, c3, c4, c5, c6, c7, c8, c9, c10⟩ := P8.oc hml hom
                obtain ⟨d0, d1, d2, d3, d4, d5, d6, d7, d8, d9, d10⟩ := R8.cells
                have heq2 := heq.out
                clear hst heq
                go_wp2_with fail
                go_quiet (fail)
                have PQ := P8.drewN nq
                have RQ := R8.drewN nq
                clear P8 R8 c0 c1 c2 c3 c4 c5 c6 c7 c8 c9 c10 d0 d1 d2 d3 d4 d5 d6 d7 d8 d9 d10 heq2
                go_wp2_with fail
                go_roundw
                case rel => exact ⟨m + 1, by rw [hF.out], by go_num, by omega, PQ, RQ⟩
                case measure => simp [intOf]; omega
            · have hF := Lib.hid (show fdB l a3 a4 FE (m + 1) = true from by rw [hst.out]; rfl)
              clear hst heq
              go_wp2_with fail
              go_quiet (fail)
              have PQ := P8.drewN nq
              have RQ := R8.drewN nq
              clear P8 R8
              go_wp2_with fail
              go_roundw
              case rel => exact ⟨m + 1, by rw [hF.out], by go_num, by omega, PQ, RQ⟩
              case measure => simp [intOf]; omega
          · obtain rfl : j = m := by omega
            have hFB := hfin.out
            rw [hlenH.out] at hFB
            rw [hFB]
            cases FB
            · go_wp2_with fail
              refine (HL.out _).mono ?_; rintro e w9 ⟨rfl, hb9⟩
              go_wp2_with fail
              go_ret
              exact ⟨rfl, PP.bel.trans (hb9.mono PP.bel.size)⟩
            · go_wp2_with fail
              refine (HL.out _).mono ?_; rintro e w9 ⟨rfl, hb9⟩
              go_wp2_with fail
              go_ret
              exact ⟨rfl, PP.bel.trans (hb9.mono PP.bel.size)⟩

/-! ### The row -/
set_option maxRecDepth 100000 in
theorem lifted (os : Os) (started : os.Started) (H : Type) (enc : TypeId × Value → H) :
    ReturnsInHanded {} Try.checked os 4 .any (Rows.tsbLastSpec.pre6 enc Try.prog Try.f4 Rows.tsbLastRow.domain false) (Rows.tsbLastSpec.post enc Try.prog Try.f4 false true false false) := by
  refine returnsInHanded_of_change (C := Try.checked) own started (by kernel_rfl) Try.func4
    (ChangeSpec.witness6 (enc := enc) (C := Try.checked) false ⟨#[], #[.int .i64 0, .int .i64 0, .slice none 0 0, .int .u64 0, .int .i64 0], []⟩ 8 (by kernel_rfl) (by kernel_rfl) (by kernel_rfl) (by kernel_rfl)) ?_
  intro W base args ds gs before hval0 hW hcnd _
  have hval : ∀ (j : Nat) t v, Try.f4.params[j]? = some t → args[j]? = some v → Value.okWide Try.prog W .any base t v := hval0
  have hW' := hW
  obtain ⟨p, q, hA0, hV, rfl, hfz, hnd⟩ := hW
  have hA : DataW.TrodAll enc Try.prog W 0 (fun _ => true) true Try.f4.params.toList args.toList ds p := hA0
  rw [Try.params4] at hA hval
  obtain ⟨v0, vs0, d0, ds0, p0, q0, hargs, rfl, rfl, h0, r0⟩ := trodAll_cons hA
  obtain ⟨v1, vs1, d1, ds1, p1, q1, rfl, rfl, rfl, h1, r1⟩ := trodAll_cons r0
  obtain ⟨v2, vs2, d2, ds2, p2, q2, rfl, rfl, rfl, h2, r2⟩ := trodAll_cons r1
  obtain ⟨v3, vs3, d3, ds3, p3, q3, rfl, rfl, rfl, h3, r3⟩ := trodAll_cons r2
  obtain ⟨v4, vs4, d4, ds4, p4, q4, rfl, rfl, rfl, h4, r4⟩ := trodAll_cons r3
  obtain ⟨rfl, rfl, rfl⟩ := trodAll_nil r4
  obtain rfl : args = #[v0, v1, v2, v3, v4] := by cases args; simp_all
  obtain ⟨rfl, rfl⟩ := trodVars_none hV
  obtain ⟨a0, rfl, rfl, rfl, w0⟩ := open_int Try.underlying3 (hval 0 3 v0 rfl rfl) h0
  obtain ⟨a1, rfl, rfl, rfl, w1⟩ := open_int Try.underlying3 (hval 1 3 v1 rfl rfl) h1
  obtain ⟨s2, len2, cap2, rfl⟩ := okWide_slice Try.underlying34 (hval 2 34 v2 rfl rfl)
  have k2 := h2
  have lt2 : ∀ x ∈ p2, x.block < W.heap.size := by obtain ⟨m, hm⟩ := k2; exact DataW.trod_lt m _ _ _ hm
  have w2 : IsEnts W s2 len2 cap2 := by
    obtain ⟨fuel, hf⟩ := h2
    exact open_ents hf
  obtain ⟨a3, rfl, rfl, rfl, w3⟩ := open_int Try.underlying22 (hval 3 22 v3 rfl rfl) h3
  obtain ⟨a4, rfl, rfl, rfl, w4⟩ := open_int Try.underlying3 (hval 4 3 v4 rfl rfl) h4
  clear hA0 hval0
  simp only [List.append_nil] at hW'
  refine (walk W a0 w0 a1 w1 s2 len2 cap2 w2 a3 w3 a4 w4).mono fun e W' ⟨he, hg⟩ => ?_
  subst he
  exact ⟨_, rfl, _, _, _, [], _, [], hW', trodAll_mk1 (shut_bool Try.underlying4 _), (trodAll_cons_mk (shut_int Try.underlying3 w0) (trodAll_cons_mk (shut_int Try.underlying3 w1) (trodAll_cons_mk (Below.trod laidOut (by kernel_rfl) (of_decide_eq_true (by kernel_rfl)) k2 hg lt2) (trodAll_cons_mk (shut_int Try.underlying22 w3) (trodAll_cons_mk (shut_int Try.underlying3 w4) trodAll_mk0))))), rfl, hg.frame _, fun h => by cases h⟩

theorem over : Rows.tsbLastRow.holds Try.pinned (OpenSpec.ofChange Rows.tsbLastSpec) :=
  OpenClaim.holds_of_wide 4 Try.f4 rfl rfl rfl rfl rfl rfl rfl ⟨rfl, rfl, rfl, rfl, rfl⟩ rfl rfl rfl rfl rfl (by kernel_rfl) Try.func4 (by kernel_rfl)
    (of_decide_eq_true (by kernel_rfl)) (by unfold Func.isWrapper; first | (rw [if_pos (by decide +kernel)]; kernel_rfl) | (rw [if_neg (by decide +kernel)]; exact ⟨rfl, rfl⟩))
    (fun os started H enc _ => lifted os started H enc)

theorem proved : Rows.TsbLastSaid :=
  over
#print axioms proved
end Go.Proofs.Ytgdagfhdimoklaa.tsbLast
