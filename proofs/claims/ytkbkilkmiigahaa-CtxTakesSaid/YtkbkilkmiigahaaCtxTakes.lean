/-
  CtxTakes: for every number, all deeds and every space the law returns true, and its arguments read as before. Conditions: none.
-/
import Derived.Test.YtkbkilkmiigahaaRows
import Derived.WalkKit
import Derived.ProofKit
import Derived.OpenShut
import Derived.Test.YtkbkilkmiigahaaCLaw
import Derived.Test.YtkbkilkmiigahaaCPx
import Derived.Test.YtkbkilkmiigahaaCTk
import Derived.Deep.DeepCutAuto
import Derived.Deep.CutBlock
import Derived.Deep.RegionHeld3
import Derived.Test.YtkbkilkmiigahaaCDeeds
namespace Go.Proofs.Ytkbkilkmiigahaa.ctxTakes
open Fld Cx
open Go.ChangeShapes Go.WideShapes Go.ChangeAt Go.RowKit Go.Deep Go.Shelf
set_option linter.unusedVariables false

theorem own : ownKnob Try.prog.godebug = none := by kernel_rfl

/-! ### The walk -/
set_option maxHeartbeats 1500000 in
set_option maxRecDepth 100000 in
theorem walk (w : World) (a0 : Int) (w0 : (Lit.int .i64 a0).wf = true) (s1 : Option Addr) (len1 cap1 : Nat) (w1 : IsDeeds w s1 len1 cap1) (a2 : Int) (w2 : (Lit.int .i64 a2).wf = true) :
    Calls Try.prog 7 #[.int .i64 a0, .slice s1 len1 cap1, .int .i64 a2] w fun e w' => e = .returned (.bool true) ∧ Below w.heap.size w w' := by
  obtain ⟨i0, i1⟩ := bounds_i64 w0
  obtain ⟨e0, e1⟩ := bounds_i64 w2
  have DE := Lib.hid w1
  clear w0 w1 w2
  go_enter Try.func7, Try.ntmps7
  go_upto_if 24 with fail
  go_cut [0] (fun nv wx => w = wx ∧ ∃ x : Int, nv = .int .i64 x ∧ 0 ≤ x ∧ x ≤ 9223372036854775807)
  case first =>
    by_cases hn : a0 < 0
    · go_wp2
      go_meet
      exact ⟨rfl, _, rfl, by omega, by omega⟩
    · go_wp2
      go_meet
      exact ⟨rfl, _, rfl, by omega, by omega⟩
  obtain ⟨rfl, x, rfl, x0, x1⟩ := hcut
  have tx : Int.tmod x 10 = x % 10 := Int.tmod_eq_emod_of_nonneg x0
  obtain ⟨n, hn⟩ : ∃ n : Nat, 1 + x % 10 = (n : Int) := ⟨(1 + x % 10).toNat, by omega⟩
  have n0 : 0 < n := by omega
  have n10 : n ≤ 10 := by omega
  go_upto_if 32 with fail
  go_cut [2] (fun nv wx => w = wx ∧ ∃ s : Int, nv = .int .i64 s ∧ 0 ≤ s ∧ s ≤ 9223372036854775807)
  case first =>
    by_cases hn : a2 < 0
    · go_wp2
      go_meet
      exact ⟨rfl, _, rfl, by omega, by omega⟩
    · go_wp2
      go_meet
      exact ⟨rfl, _, rfl, by omega, by omega⟩
  obtain ⟨rfl, s, rfl, s0, s1⟩ := hcut
  have NA := new_any n w
  have RN := fun W => rnew_any n (by omega) W
  rw [show newN n = n by unfold newN; omega] at NA RN
  clear tx hn
  go_wp2_with fail
  refine NA.mono ?_
  rintro e w1 ⟨pb, bm, ob, rfl, H1, hbm, B1⟩
  have RN := RN w1
  clear NA
  go_wp2_with fail
  refine RN.mono ?_
  rintro e w2 ⟨v2, rfl, D2, B2⟩
  obtain ⟨av, cv, rfl, hl2, hcm2⟩ := D2.shape
  have X3 := LW.startN B1 H1 hbm D2 B2
  have H0 : ∃ (P : Pl) (au : Option Addr) (cu : Nat), P.n = n ∧ P.Ok ∧ P.R ≤ 0 ∧ LW w (w2.alloc (docO (.slice av n cv) 1 0)) pb bm ob w2.heap.size (.slice au P.n cu) P := ⟨Pl.new n, av, cv, rfl, Pl.new_ok (by omega), Nat.le_refl _, X3⟩
  have H0 := Lib.hid H0
  clear X3 H1 B1 D2 B2 RN hl2 hcm2
  go_upto_block 0 with fail
  generalize w2.alloc (docO (.slice av n cv) 1 0) = W3 at *
  generalize w2.heap.size = rb at *
  go_cut [] (fun wx => ∃ P : Pl, P.n = n ∧ P.Ok ∧ P.R ≤ 1000000000 ∧ PX w wx pb bm ob P)
  case first =>
    go_wp2_with fail
    go_loopw [9] (fun i wr => ∃ j : Nat, i = .int .i64 (j : Int) ∧ j ≤ len1 ∧ j ≤ 20 ∧ ∃ (P : Pl) (au : Option Addr) (cu : Nat), P.n = n ∧ P.Ok ∧ P.R ≤ j ∧ LW w wr pb bm ob rb (.slice au P.n cu) P) (fun i _ => 20 - (RowKit.intOf i).toNat)
    case atStart => exact ⟨0, rfl, Nat.zero_le _, Nat.zero_le _, H0.out⟩
    case round =>
      clear H0
      obtain ⟨j, rfl, hj, hj20, P, au, cu, hPn, ok, hR, X⟩ := hrel
      have HP := Lib.hid hPn
      clear hPn
      by_cases c : j < len1 ∧ j < 20
      · obtain ⟨c1, c2⟩ := c
        obtain ⟨b, o, off, d, ao, cp, A, rfl, hof, hl1, hc1, hd, hA, q0, q1, q2, q3⟩ := deeds_at DE.out j c1
        have hbw := cell_lt q0
        have hA1 := hA.low (Nat.le_refl _) X.bel
        have KX : KB wr rb (.slice au P.n cu) P b o d (.slice ao A.length cp) := ⟨X.box, (X.bel.cell (p := ⟨b, o, none⟩) hbw).trans q0, (X.bel.cell (p := ⟨b, o + 1, none⟩) hbw).trans q1, (X.bel.cell (p := ⟨b, o + 2, none⟩) hbw).trans q2, (X.bel.cell (p := ⟨b, o + 3, none⟩) hbw).trans q3⟩
        unfold maxLen at hc1
        have hne := KX.ne
        have okQ := act_ok ok hd A
        have nQ := Lib.hid (show (act P d A).n = n by rw [act_n]; exact HP.out)
        have RQ := Lib.hid (show (act P d A).R ≤ j + 1 by have := act_R P d A; omega)
        have hpw := X.pool.lt
        have hR2 : P.R ≤ 1000000000 := by omega
        have c1' : (j : Int) < (len1 : Int) := by omega
        have c2' : (j : Int) < 20 := by omega
        clear hA q0 q1 q2 q3
        go_upto_region 13 with fail
        go_region_held3 (fun w9 => w9.cell? ⟨rb, 0, none⟩ = some (.slice au P.n cu) ∧ w9.cell? ⟨rb, 1, none⟩ = some (.int .i64 (P.h : Int)) ∧ w9.cell? ⟨rb, 2, none⟩ = some (.int .i64 (P.R : Int)) ∧ w9.cell? ⟨b, o, none⟩ = some (.int .i64 d.k) ∧ w9.cell? ⟨b, o + 1, none⟩ = some (.int .i64 d.n) ∧ w9.cell? ⟨b, o + 2, none⟩ = some (.int .i64 d.s) ∧ w9.cell? ⟨b, o + 3, none⟩ = some (.slice ao A.length cp))
          ((refine KB.cells (P := P) (d := d) (rb := rb) (b := b) (o := o) ?_; repeat (first | assumption | (refine KB.drew ?_) | (refine KB.alloc ?_ _) | (refine KB.set ?_ _ (by first | exact hne | exact KB.ne (by assumption)) _))))
          (first | (go_at_call 11; (with_reducible refine (law_does (w0 := w) (pb := pb) (bm := bm) (ob := ob) (rb := rb) (b := b) (o := o) (v := .slice au P.n cu) (P := P) (d := d) (ao := ao) (cap := cp) (A := A) (by repeat (first | assumption | (refine LW.drew ?_) | (refine LW.alloc ?_ _))) (by repeat (first | assumption | (refine KB.drew ?_) | (refine KB.alloc ?_ _))) ok hR2 hd (by repeat (first | assumption | (refine IsInts.drew ?_) | (refine IsInts.alloc ?_ _))) hbw).mono ?_); rintro e w9 ⟨au9, cu9, rfl, L9, K9, T9⟩; (first | (have nb9 : w9.heap[wr.heap.size]? = some docZ := (T9 wr.heap.size (by simp; done) hpw).trans (heap_alloc_new wr docZ); obtain ⟨n0, n1, n2, nf⟩ := nbZ nb9) | skip)))
        · rename_i hHeld
          clear hHeld K9 T9 hA1 KX X
          generalize act P d A = Q at *
          have NB := heap_alloc_new w9 (docO (.slice au9 Q.n cu9) Q.h Q.R)
          have D9 := L9.alloc (docO (.slice au9 Q.n cu9) Q.h Q.R)
          clear L9
          generalize w9.heap.size = g at *
          generalize w9.alloc (docO (.slice au9 Q.n cu9) Q.h Q.R) = W9 at *
          obtain ⟨g0, g1, g2, _⟩ := docO_cells NB
          obtain ⟨r0, r1, r2, rf⟩ := docO_cells D9.box
          have X9 := Lib.hid D9.put
          clear D9 NB
          go_wp2_with fail
          go_roundw
          case rel => exact ⟨j + 1, by go_num, by omega, by omega, Q, au9, cu9, nQ.out, okQ, RQ.out, X9.out⟩
          case measure => simp [RowKit.intOf]; omega
        · rename_i hHeld
          clear hHeld K9 T9 hA1 KX X n0 n1 n2 nf
          generalize act P d A = Q at *
          obtain ⟨D9, NB⟩ := L9.fill nb9 hpw hne.1
          clear L9 nb9
          generalize wr.heap.size = g at *
          generalize ((w9.setCell ⟨g, 0, none⟩ (.slice au9 Q.n cu9)).setCell ⟨g, 1, none⟩ (.int .i64 (Q.h : Int))).setCell ⟨g, 2, none⟩ (.int .i64 (Q.R : Int)) = W9 at *
          obtain ⟨g0, g1, g2, _⟩ := docO_cells NB
          obtain ⟨r0, r1, r2, rf⟩ := docO_cells D9.box
          have X9 := Lib.hid D9.put
          clear D9 NB
          go_wp2_with fail
          go_roundw
          case rel => exact ⟨j + 1, by go_num, by omega, by omega, Q, au9, cu9, nQ.out, okQ, RQ.out, X9.out⟩
          case measure => simp [RowKit.intOf]; omega
      · have Y : PX w wr pb bm ob P := ⟨X.bel, X.pool, X.lo⟩
        have Y := Lib.hid (show ∃ P : Pl, P.n = n ∧ P.Ok ∧ P.R ≤ 1000000000 ∧ PX w wr pb bm ob P from ⟨P, HP.out, ok, by omega, Y⟩)
        clear X ok hR HP
        by_cases c1 : (j : Int) < (len1 : Int)
        · have c2 : ¬ (j : Int) < 20 := by omega
          go_wp2_with fail
          go_meet
          exact Y.out
        · go_wp2_with fail
          go_meet
          exact Y.out
  obtain ⟨P, hPn, ok, hR, Y⟩ := hcut
  have OA := px_of Y (x := s) (by omega) (by omega)
  have HP := Lib.hid hPn
  have hfree : P.free = seek (fun i => decide (P.T i < 0)) n P.h n := by unfold Pl.free; rw [hPn]
  have h0 := ok.h0
  have h1 := ok.h1 (by omega)
  rw [hPn] at h1
  have HFR := Lib.hid hfree
  clear hPn hfree
  go_wp2_with fail
  refine OA.mono ?_
  rintro e w4 ⟨rfl, Y⟩
  have WA := owners_any w4 Y.pool
  rw [HP.out] at WA
  clear OA
  go_wp2_with fail
  refine WA.mono ?_
  rintro e w5 ⟨v5, rfl, ho, hb⟩
  have Y5 := Y.low hb
  obtain ⟨g, cg, rfl, gl, gm, hc⟩ := own_some ho (by rw [lstT_length]; omega)
  have HC := Lib.hid (show ∀ k, k < n → w5.cell? ⟨g, k, none⟩ = some (.int .i64 (P.T k)) from fun k hk => by
    have := hc k (by rw [lstT_length]; exact hk)
    rw [lstT_get] at this; exact this)
  rw [lstT_length] at gl ⊢
  have HA := hand_any w5 Y5.pool
  have Y5 := Lib.hid Y5
  unfold maxLen at gm
  clear WA ho hb hc Y
  go_upto_block 2 with fail
  go_cut [15] (fun wv wx => w5 = wx ∧ wv = .int .i64 (P.free : Int))
  case first =>
    go_wp2_with fail
    go_loopw [15, 16] (fun wv i wr => w5 = wr ∧ ∃ t W : Nat, i = .int .i64 (t : Int) ∧ t ≤ n ∧ wv = .int .i64 (W : Int) ∧ ((W = 0 ∧ P.free = seek (fun i => decide (P.T i < 0)) n (rot n P.h t) (n - t)) ∨ (0 < W ∧ P.free = W))) (fun _ i _ => n - (RowKit.intOf i).toNat)
    case atStart => exact ⟨rfl, 0, 0, rfl, Nat.zero_le _, rfl, .inl ⟨rfl, HFR.out⟩⟩
    case round =>
      obtain ⟨rfl, t, W, rfl, ht, rfl, hW⟩ := hrel
      by_cases hlt : t < n
      · rcases hW with ⟨rfl, hs⟩ | ⟨hW0, hWf⟩
        · obtain ⟨mm, hmm⟩ : ∃ mm, n - t = mm + 1 := ⟨n - t - 1, by omega⟩
          have hm2 : n - (t + 1) = mm := by omega
          rw [hmm] at hs
          simp only [seek] at hs
          have hrot := rot_eq h0 h1 t
          have hnx : rot n P.h (t + 1) = rot n P.h t % n + 1 := rfl
          obtain ⟨k, hk⟩ : ∃ k, (P.h - 1 + t) % n = k := ⟨_, rfl⟩
          have hkn : k < n := by rw [← hk]; exact Nat.mod_lt _ n0
          rw [hk] at hrot
          rw [hrot] at hs hnx
          rw [Nat.add_sub_cancel] at hs
          have hmod : Int.tmod ((P.h : Int) - 1 + (t : Int)) (n : Int) = (k : Int) := by
            rw [Int.tmod_eq_emod_of_nonneg (by omega), show (P.h : Int) - 1 + (t : Int) = ((P.h - 1 + t : Nat) : Int) by omega, ← Int.natCast_emod, hk]
          have hcell := HC.out k hkn
          have hnn : n ≠ 0 := by omega
          have hlt' : (t : Int) < (n : Int) := by omega
          have hkn' : (k : Int) < (n : Int) := by omega
          by_cases hf : P.T k < 0
          · rw [if_pos (decide_eq_true hf)] at hs
            have HS := Lib.hid hs
            generalize P.T k = y at *
            clear hs hnx hrot hmm hm2 hk
            go_wp2_with (go_at_call 21; refine HA.mono ?_; rintro e w' ⟨rfl, rfl⟩)
            go_roundw
            case rel => exact ⟨trivial, t + 1, k + 1, by go_num, by omega, by go_num, .inr ⟨by omega, HS.out⟩⟩
            case measure => simp [RowKit.intOf]; omega
          · rw [if_neg (fun e => hf (of_decide_eq_true e))] at hs
            have HS := Lib.hid (show P.free = seek (fun i => decide (P.T i < 0)) n (rot n P.h (t + 1)) (n - (t + 1)) by rw [hm2, hnx]; exact hs)
            generalize P.T k = y at *
            clear hs hnx hrot hmm hm2 hk
            go_wp2_with (go_at_call 21; refine HA.mono ?_; rintro e w' ⟨rfl, rfl⟩)
            go_roundw
            case rel => exact ⟨trivial, t + 1, 0, by go_num, by omega, rfl, .inl ⟨rfl, HS.out⟩⟩
            case measure => simp [RowKit.intOf]; omega
        · have HW := Lib.hid hWf
          have hW1 : (W : Int) ≠ 0 := by omega
          have hWn : W ≠ 0 := by omega
          have hlt' : (t : Int) < (n : Int) := by omega
          clear hWf hW0
          go_wp2_with fail
          go_meet
          exact ⟨rfl, by rw [HW.out]⟩
      · have HW := Lib.hid (show P.free = W by
          rcases hW with ⟨rfl, hs⟩ | ⟨_, hWf⟩
          · rw [hs, show n - t = 0 by omega]; rfl
          · exact hWf)
        have hlt' : ¬ (t : Int) < (n : Int) := by omega
        clear hW
        go_wp2_with fail
        go_meet
        exact ⟨rfl, by rw [HW.out]⟩
  obtain ⟨rfl, rfl⟩ := hcut
  have Y := Y5.out
  have TA := px_take Y ok (x := s) (by omega) (by omega) hR
  clear HC HFR
  go_wp2_with (go_at_call 21; refine HA.mono ?_; rintro e w' ⟨rfl, rfl⟩)
  by_cases hz : P.of s = 0
  · rw [hz]
    by_cases hf : P.free = 0
    · obtain ⟨t1, t2, t3⟩ := Pl.take_none s0 hz hf
      rw [t1, t2, t3] at TA
      rw [hf]
      clear t1 t2 t3 HA Y Y5 HP h1 h0 hf hz
      refine TA.mono ?_
      rintro e w6 ⟨rfl, Y6⟩
      have HA := px_hand Y6
      clear TA Y6
      go_wp2_with fail
      refine HA.mono ?_
      rintro e w7 ⟨rfl, Y7⟩
      have LA := px_lives Y7
      clear HA Y7
      go_wp2_with fail
      refine LA.mono ?_
      rintro e w8 ⟨rfl, Y8⟩
      have Z := Y8.bel
      clear LA Y8
      go_wp2
      go_ret
      exact ⟨rfl, Z⟩
    · obtain ⟨t1, t2, t3, t4, t5⟩ := ok.take_new s0 hz hf
      have f := ok.free hf
      have okt := ok.take (x := s) s1
      rw [t1, t2] at TA
      rw [HP.out] at t3 f
      have T3 := Lib.hid t3
      have T4 := Lib.hid t4
      have T5 := Lib.hid t5
      generalize P.take s = P2 at *
      obtain ⟨fr, hfr⟩ : ∃ fr, P.free = fr := ⟨_, rfl⟩
      rw [hfr] at TA T3 T4 T5 f hf ⊢
      clear t1 t2 t3 t4 t5 HA Y Y5 hz hfr HP h1 h0
      refine TA.mono ?_
      rintro e w6 ⟨rfl, Y6⟩
      have OA := px_owner Y6 okt (fr : Int)
      rw [T4.out, T5.out] at OA
      have hf1 : (fr : Int) ≠ 0 := by omega
      clear TA Y6
      go_wp2_with fail
      refine OA.mono ?_
      rintro e w7 ⟨rfl, Y7⟩
      have Y7 := Y7.drew
      obtain ⟨f2, hf2⟩ : ∃ f2, fr % n = f2 := ⟨_, rfl⟩
      have hf3 : f2 < n := by rw [← hf2]; exact Nat.mod_lt _ n0
      have hmod : Int.tmod (fr : Int) (n : Int) = (f2 : Int) := by
        rw [Int.tmod_eq_emod_of_nonneg (by omega), ← Int.natCast_emod, hf2]
      have hnn : n ≠ 0 := by omega
      have hw : IntKind.i64.wrap ((f2 : Int) + 1) = (f2 : Int) + 1 := by rw [IntKind.wrap_i64]; omega
      have hw2 : IntKind.i64.wrap (f2 : Int) = (f2 : Int) := by rw [IntKind.wrap_i64]; omega
      have q1 : ((fr : Int) == (fr : Int)) = true := by simp
      have q2 : (((f2 : Int) + 1) == (f2 : Int) + 1) = true := by simp
      have q3 : (s == s) = true := by simp
      have LH := Lib.hid (fun wz (Xz : PX w wz pb bm ob P2) => px_hand Xz)
      rw [T3.out, hf2, show ((f2 + 1 : Nat) : Int) = (f2 : Int) + 1 from rfl] at LH
      clear OA hf2 T3 T4 T5
      go_wp2_with fail
      go_region_held3 (fun w9 => w9.cell? ⟨pb, 0, none⟩ = some (.map (some bm)))
        ((refine PX.cell (w := w) (P := P2) (ob := ob) ?_; assumption))
        (first | (go_at_call 21; (with_reducible refine (LH.out _ (by assumption)).mono ?_); rintro e w9 ⟨rfl, P9⟩) | (go_at_call 12; (with_reducible refine (px_lives (w := w) (pb := pb) (bm := bm) (ob := ob) (P := P2) (by assumption)).mono ?_); rintro e w9 ⟨rfl, P9⟩))
      clear q1 q2 q3 hw hw2 Y7
      go_wp2
      go_ret
      exact ⟨rfl, P9.bel⟩
  · obtain ⟨t1, t2, t3⟩ := Pl.take_had s0 hz
    have hd : decide (P.of s = 0) = false := decide_eq_false hz
    rw [t1, t2, t3] at TA
    rw [hd]
    obtain ⟨y, hy⟩ : ∃ y, P.of s = y := ⟨_, rfl⟩
    rw [hy] at TA ⊢
    clear t1 t2 t3 hz hd hy HA Y Y5 HP h1 h0
    refine TA.mono ?_
    rintro e w6 ⟨rfl, Y6⟩
    have HA := px_hand Y6
    clear TA Y6
    go_wp2_with fail
    refine HA.mono ?_
    rintro e w7 ⟨rfl, Y7⟩
    have LA := px_lives Y7
    clear HA Y7
    go_wp2_with fail
    refine LA.mono ?_
    rintro e w8 ⟨rfl, Y8⟩
    have Z := Y8.bel
    clear LA Y8
    go_wp2
    go_ret
    exact ⟨rfl, Z⟩

/-! ### The row -/
set_option maxRecDepth 100000 in
theorem lifted (os : Os) (started : os.Started) (H : Type) (enc : TypeId × Value → H) :
    ReturnsInHanded {} Try.checked os 7 .any (Rows.ctxTakesSpec.pre6 enc Try.prog Try.f7 Rows.ctxTakesRow.domain false) (Rows.ctxTakesSpec.post enc Try.prog Try.f7 false true false false) := by
  refine returnsInHanded_of_change (C := Try.checked) own started (by kernel_rfl) Try.func7
    (ChangeSpec.witness6 (enc := enc) (C := Try.checked) false ⟨#[], #[.int .i64 0, .slice none 0 0, .int .i64 0], []⟩ 8 (by kernel_rfl) (by kernel_rfl) (by kernel_rfl) (by kernel_rfl)) ?_
  intro W base args ds gs before hval0 hW hcnd _
  have hval : ∀ (j : Nat) t v, Try.f7.params[j]? = some t → args[j]? = some v → Value.okWide Try.prog W .any base t v := hval0
  have hW' := hW
  obtain ⟨p, q, hA0, hV, rfl, hfz, hnd⟩ := hW
  have hA : DataW.TrodAll enc Try.prog W 0 (fun _ => true) true Try.f7.params.toList args.toList ds p := hA0
  rw [Try.params7] at hA hval
  obtain ⟨v0, vs0, d0, ds0, p0, q0, hargs, rfl, rfl, h0, r0⟩ := trodAll_cons hA
  obtain ⟨v1, vs1, d1, ds1, p1, q1, rfl, rfl, rfl, h1, r1⟩ := trodAll_cons r0
  obtain ⟨v2, vs2, d2, ds2, p2, q2, rfl, rfl, rfl, h2, r2⟩ := trodAll_cons r1
  obtain ⟨rfl, rfl, rfl⟩ := trodAll_nil r2
  obtain rfl : args = #[v0, v1, v2] := by cases args; simp_all
  obtain ⟨rfl, rfl⟩ := trodVars_none hV
  obtain ⟨a0, rfl, rfl, rfl, w0⟩ := open_int Try.underlying3 (hval 0 3 v0 rfl rfl) h0
  obtain ⟨s1, len1, cap1, rfl⟩ := okWide_slice Try.underlying22 (hval 1 22 v1 rfl rfl)
  have k1 := h1
  have lt1 : ∀ x ∈ p1, x.block < W.heap.size := by obtain ⟨m, hm⟩ := k1; exact DataW.trod_lt m _ _ _ hm
  have w1 : IsDeeds W s1 len1 cap1 := by
    obtain ⟨fuel, hf⟩ := h1
    exact open_deeds hf
  obtain ⟨a2, rfl, rfl, rfl, w2⟩ := open_int Try.underlying3 (hval 2 3 v2 rfl rfl) h2
  clear hA0 hval0
  simp only [List.append_nil] at hW'
  refine (walk W a0 w0 s1 len1 cap1 w1 a2 w2).mono fun e W' ⟨he, hg⟩ => ?_
  subst he
  exact ⟨_, rfl, _, _, _, [], _, [], hW', trodAll_mk1 (shut_bool Try.underlying4 _), (trodAll_cons_mk (shut_int Try.underlying3 w0) (trodAll_cons_mk (Below.trod laidOut (by kernel_rfl) (of_decide_eq_true (by kernel_rfl)) k1 hg lt1) (trodAll_cons_mk (shut_int Try.underlying3 w2) trodAll_mk0))), rfl, hg.frame _, fun h => by cases h⟩

theorem over : Rows.ctxTakesRow.holds Try.pinned (OpenSpec.ofChange Rows.ctxTakesSpec) :=
  OpenClaim.holds_of_wide 7 Try.f7 rfl rfl rfl rfl rfl rfl rfl ⟨rfl, rfl, rfl, rfl, rfl⟩ rfl rfl rfl rfl rfl (by kernel_rfl) Try.func7 (by kernel_rfl)
    (of_decide_eq_true (by kernel_rfl)) (by unfold Func.isWrapper; first | (rw [if_pos (by decide +kernel)]; kernel_rfl) | (rw [if_neg (by decide +kernel)]; exact ⟨rfl, rfl⟩))
    (fun os started H enc _ => lifted os started H enc)

theorem proved : Rows.CtxTakesSaid :=
  over
#print axioms proved
end Go.Proofs.Ytkbkilkmiigahaa.ctxTakes
