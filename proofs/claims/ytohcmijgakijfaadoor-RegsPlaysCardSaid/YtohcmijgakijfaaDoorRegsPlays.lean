/-
  RegsPlays: for all deeds the law returns true, and its argument reads as before. Conditions: the table of what registers are like holds what the program lays (the card ties it).
-/
import Derived.Test.YtohcmijgakijfaaDoorCards
import Derived.Test.YtohcmijgakijfaaDoorTie
import Derived.WalkKit
import Derived.ProofKit
import Derived.OpenShut
import Derived.Deep.DeepHandedRow
import Derived.Test.YtohcmijgakijfaaDoorRLoop
namespace Go.Proofs.YtohcmijgakijfaaDoor.regsPlays
open Fld Rg
open Go.ChangeShapes Go.WideShapes Go.ChangeAt Go.RowKit Go.Deep
set_option linter.unusedVariables false

theorem own : ownKnob Tryd.prog.godebug = none := by kernel_rfl

/-- The deed's cells, and the box's. -/
theorem sx {w wr : World} {b o xb : Nat} {d : DeedV} {R : Reg} (hD : wr.cell? ⟨b, o, none⟩ = some (.int .i64 d.kind) ∧ wr.cell? ⟨b, o + 1, none⟩ = some (.int .i64 d.asi) ∧ wr.cell? ⟨b, o + 2, none⟩ = some (.int .i64 d.unit) ∧ wr.cell? ⟨b, o + 3, none⟩ = some (.int .i64 d.n) ∧ wr.cell? ⟨b, o + 4, none⟩ = some (.int .u64 d.place) ∧ wr.cell? ⟨b, o + 5, none⟩ = some (.int .u64 d.v) ∧ wr.cell? ⟨b, o + 6, none⟩ = some (.bool d.store) ∧ wr.cell? ⟨b, o + 7, none⟩ = some (.bool d.priv)) (hb : wr.heap[xb]? = some (.cells #[.int .u64 R.sI, .int .u64 R.tI, .int .u64 R.aI, .int .u64 R.pr, .int .u64 R.se, .int .u64 R.sD, .int .u64 R.ad, .int .u64 R.tD, .int .u64 R.aD] 27 (0, 0))) : wr.cell? ⟨b, o, none⟩ = some (.int .i64 d.kind) ∧ wr.cell? ⟨b, o + 1, none⟩ = some (.int .i64 d.asi) ∧ wr.cell? ⟨b, o + 2, none⟩ = some (.int .i64 d.unit) ∧ wr.cell? ⟨b, o + 3, none⟩ = some (.int .i64 d.n) ∧ wr.cell? ⟨b, o + 4, none⟩ = some (.int .u64 d.place) ∧ wr.cell? ⟨b, o + 5, none⟩ = some (.int .u64 d.v) ∧ wr.cell? ⟨b, o + 6, none⟩ = some (.bool d.store) ∧ wr.cell? ⟨b, o + 7, none⟩ = some (.bool d.priv) ∧ wr.cell? ⟨xb, 0, none⟩ = some (.int .u64 R.sI) ∧ wr.cell? ⟨xb, 1, none⟩ = some (.int .u64 R.tI) ∧ wr.cell? ⟨xb, 2, none⟩ = some (.int .u64 R.aI) ∧ wr.cell? ⟨xb, 3, none⟩ = some (.int .u64 R.pr) ∧ wr.cell? ⟨xb, 4, none⟩ = some (.int .u64 R.se) ∧ wr.cell? ⟨xb, 5, none⟩ = some (.int .u64 R.sD) ∧ wr.cell? ⟨xb, 6, none⟩ = some (.int .u64 R.ad) ∧ wr.cell? ⟨xb, 7, none⟩ = some (.int .u64 R.tD) ∧ wr.cell? ⟨xb, 8, none⟩ = some (.int .u64 R.aD) := by
  obtain ⟨a0, a1, a2, a3, a4, a5, a6, a7⟩ := hD
  obtain ⟨q0, q1, q2, q3, q4, q5, q6, q7, q8⟩ := nine_cells hb
  exact ⟨a0, a1, a2, a3, a4, a5, a6, a7, q0, q1, q2, q3, q4, q5, q6, q7, q8⟩
theorem px_sc {w wr : World} {sb bm xb : Nat} {Q : Reg} (h : PX w wr sb bm xb Q) : wr.cell? ⟨xb, 0, none⟩ = some (.int .u64 Q.sI) ∧ wr.cell? ⟨xb, 1, none⟩ = some (.int .u64 Q.tI) ∧ wr.cell? ⟨xb, 2, none⟩ = some (.int .u64 Q.aI) ∧ wr.cell? ⟨xb, 3, none⟩ = some (.int .u64 Q.pr) ∧ wr.cell? ⟨xb, 4, none⟩ = some (.int .u64 Q.se) ∧ wr.cell? ⟨xb, 5, none⟩ = some (.int .u64 Q.sD) ∧ wr.cell? ⟨xb, 6, none⟩ = some (.int .u64 Q.ad) ∧ wr.cell? ⟨xb, 7, none⟩ = some (.int .u64 Q.tD) ∧ wr.cell? ⟨xb, 8, none⟩ = some (.int .u64 Q.aD) := nine_cells h.box
/-- Behind the first region: the new ones in a box of their own. -/
structure PZ (w wr : World) (sb bm xb nb : Nat) (R Q : Reg) : Prop where
  py : PY w wr sb bm xb R Q
  box : wr.heap[nb]? = some (.cells #[.int .u64 Q.sI, .int .u64 Q.tI, .int .u64 Q.aI, .int .u64 Q.pr, .int .u64 Q.se, .int .u64 Q.sD, .int .u64 Q.ad, .int .u64 Q.tD, .int .u64 Q.aD] 27 (0, 0))
  ne : nb ≠ xb
theorem py_made {w wr : World} {sb bm xb : Nat} {R Q : Reg} (h : PY w wr sb bm xb R Q) : PZ w (wr.alloc (.cells #[.int .u64 Q.sI, .int .u64 Q.tI, .int .u64 Q.aI, .int .u64 Q.pr, .int .u64 Q.se, .int .u64 Q.sD, .int .u64 Q.ad, .int .u64 Q.tD, .int .u64 Q.aD] 27)) sb bm xb wr.heap.size R Q :=
  ⟨h.low _, heap_alloc_new _ _, by have := lt_row h.box; omega⟩
theorem py_set {w wr : World} {sb bm xb nb : Nat} {R Q : Reg} {z0 z1 z2 z3 z4 z5 z6 z7 z8 : Value} (h : PY w wr sb bm xb R Q) (hz : wr.heap[nb]? = some (.cells #[z0, z1, z2, z3, z4, z5, z6, z7, z8] 27 (0, 0))) (hn : w.heap.size ≤ nb ∧ nb ≠ sb ∧ nb ≠ bm ∧ nb ≠ 0 ∧ nb ≠ xb) :
    PZ w (((((((((wr.setCell ⟨nb, 0, none⟩ (.int .u64 Q.sI)).setCell ⟨nb, 1, none⟩ (.int .u64 Q.tI)).setCell ⟨nb, 2, none⟩ (.int .u64 Q.aI)).setCell ⟨nb, 3, none⟩ (.int .u64 Q.pr)).setCell ⟨nb, 4, none⟩ (.int .u64 Q.se)).setCell ⟨nb, 5, none⟩ (.int .u64 Q.sD)).setCell ⟨nb, 6, none⟩ (.int .u64 Q.ad)).setCell ⟨nb, 7, none⟩ (.int .u64 Q.tD)).setCell ⟨nb, 8, none⟩ (.int .u64 Q.aD)) sb bm xb nb R Q := by
  have hx : xb ≠ nb := hn.2.2.2.2.symm
  refine ⟨⟨⟨below_nine h.pk.bel hn.1, h.pk.regs.nine ⟨hn.2.1, hn.2.2.1, hn.2.2.2.1⟩, h.pk.far⟩, ?_, h.far⟩, row_nine hz, hn.2.2.2.2⟩
  rw [Below.heap_setCell _ _ _ _ hx, Below.heap_setCell _ _ _ _ hx, Below.heap_setCell _ _ _ _ hx, Below.heap_setCell _ _ _ _ hx, Below.heap_setCell _ _ _ _ hx, Below.heap_setCell _ _ _ _ hx, Below.heap_setCell _ _ _ _ hx, Below.heap_setCell _ _ _ _ hx, Below.heap_setCell _ _ _ _ hx]
  exact h.box
/-! ### The walk -/
set_option maxHeartbeats 8000000 in
set_option maxRecDepth 100000 in
theorem walk (w : World) (hT : Tab w) (s0 : Option Addr) (len0 cap0 : Nat) (w0 : IsDeeds w s0 len0 cap0) :
    Calls Tryd.prog 3 #[.slice s0 len0 cap0] w fun e w' => e = .returned (.bool true) ∧ Below w.heap.size w w' := by
  have w0' := w0
  have hlen : len0 ≤ 9223372036854775807 := by
    rcases w0 with ⟨_, h⟩ | ⟨_, _, h1, h2, _⟩
    · omega
    · unfold maxLen at h2; omega
  clear w0
  have NW := Lib.hid (new_any w hT)
  go_enter Tryd.func3, Tryd.ntmps3
  go_wp2_with fail
  refine NW.out.mono ?_; rintro r x1 ⟨rfl, H1, B1⟩
  have P1 := PK.new H1 B1
  clear NW H1 B1
  go_wp2_with fail
  have P2 := PX.start P1
  clear P1
  generalize World.alloc x1 _ = X2 at P2 ⊢
  generalize x1.heap.size = xb at P2 ⊢
  go_loopw [5] (fun i wr => ∃ (j : Nat) (R : Reg), i = .int .i64 (j : Int) ∧ j ≤ 40 ∧ PX w wr (w.heap.size + 1) w.heap.size xb R) (fun i _ => 40 - (intOf i).toNat)
  case atStart => exact ⟨0, _, rfl, by omega, P2⟩
  case round =>
    clear P2
    obtain ⟨j, R, rfl, hj, P⟩ := hrel
    by_cases h1 : (j : Int) < (len0 : Int)
    · by_cases h2 : (j : Int) < 40
      · obtain ⟨b, o, off, d, rfl, ho, hlc, hcm, hd, hbl, hc⟩ := deeds_at w0' j (by omega)
        unfold maxLen at hcm
        have hAE : (⟨b, off, none⟩ : Addr).add (j * 8) = ⟨b, o, none⟩ := by rw [← ho]; unfold Addr.add; split <;> simp_all
        have PD := P.drew
        have SD := old_deed PD.pk.bel hbl hc
        go_wp2_with fail
        refine wp_region_held_drew (S := fun w9 => w9.cell? ⟨b, o, none⟩ = some (.int .i64 d.kind) ∧ w9.cell? ⟨b, o + 1, none⟩ = some (.int .i64 d.asi) ∧ w9.cell? ⟨b, o + 2, none⟩ = some (.int .i64 d.unit) ∧ w9.cell? ⟨b, o + 3, none⟩ = some (.int .i64 d.n) ∧ w9.cell? ⟨b, o + 4, none⟩ = some (.int .u64 d.place) ∧ w9.cell? ⟨b, o + 5, none⟩ = some (.int .u64 d.v) ∧ w9.cell? ⟨b, o + 6, none⟩ = some (.bool d.store) ∧ w9.cell? ⟨b, o + 7, none⟩ = some (.bool d.priv) ∧ w9.cell? ⟨xb, 0, none⟩ = some (.int .u64 R.sI) ∧ w9.cell? ⟨xb, 1, none⟩ = some (.int .u64 R.tI) ∧ w9.cell? ⟨xb, 2, none⟩ = some (.int .u64 R.aI) ∧ w9.cell? ⟨xb, 3, none⟩ = some (.int .u64 R.pr) ∧ w9.cell? ⟨xb, 4, none⟩ = some (.int .u64 R.se) ∧ w9.cell? ⟨xb, 5, none⟩ = some (.int .u64 R.sD) ∧ w9.cell? ⟨xb, 6, none⟩ = some (.int .u64 R.ad) ∧ w9.cell? ⟨xb, 7, none⟩ = some (.int .u64 R.tD) ∧ w9.cell? ⟨xb, 8, none⟩ = some (.int .u64 R.aD)) (by kernel_rfl) (sx (w := w) SD PD.box) (fun hHeld => ?_)
        refine wpAnyH_take (i := 0) (v := ?va0) rfl (by kernel_rfl) (by kernel_rfl) (by kernel_rfl) (fun _ _ _ h => h) (Or.inl ⟨by rfl, ?hya0⟩) (by assumption) ?resta0
        case hya0 => (intro w hSw; (try dsimp only at hSw); go_simp <;> (with_reducible rfl))
        (try simp only [Act.put, List.setIfInBounds_toArray, List.set_cons_zero, List.set_cons_succ, List.getElem_toArray, List.getElem_cons_zero])
        refine wpAnyH_take (i := 1) (v := ?va1) rfl (by kernel_rfl) (by kernel_rfl) (by kernel_rfl) (fun _ _ _ h => h) (Or.inl ⟨by rfl, ?hya1⟩) (by assumption) ?resta1
        case hya1 => (intro w hSw; (try dsimp only at hSw); go_simp <;> (with_reducible rfl))
        (try simp only [Act.put, List.setIfInBounds_toArray, List.set_cons_zero, List.set_cons_succ, List.getElem_toArray, List.getElem_cons_zero, List.getElem_cons_succ])
        refine wpAnyH_take (i := 2) (v := ?va2) rfl (by kernel_rfl) (by kernel_rfl) (by kernel_rfl) (fun _ _ _ h => h) (Or.inl ⟨by rfl, ?hya2⟩) (by assumption) ?resta2
        case hya2 => (intro w hSw; (try dsimp only at hSw); go_simp <;> (with_reducible rfl))
        (try simp only [Act.put, List.setIfInBounds_toArray, List.set_cons_zero, List.set_cons_succ, List.getElem_toArray, List.getElem_cons_zero, List.getElem_cons_succ])
        refine wpAnyH_take (i := 3) (v := ?va3) rfl (by kernel_rfl) (by kernel_rfl) (by kernel_rfl) (fun _ _ _ h => h) (Or.inl ⟨by rfl, ?hya3⟩) (by assumption) ?resta3
        case hya3 => (intro w hSw; (try dsimp only at hSw); go_simp <;> (with_reducible rfl))
        (try simp only [Act.put, List.setIfInBounds_toArray, List.set_cons_zero, List.set_cons_succ, List.getElem_toArray, List.getElem_cons_zero, List.getElem_cons_succ])
        refine wpAnyH_take (i := 4) (v := ?va4) rfl (by kernel_rfl) (by kernel_rfl) (by kernel_rfl) (fun _ _ _ h => h) (Or.inl ⟨by rfl, ?hya4⟩) (by assumption) ?resta4
        case hya4 => (intro w hSw; (try dsimp only at hSw); go_simp <;> (with_reducible rfl))
        (try simp only [Act.put, List.setIfInBounds_toArray, List.set_cons_zero, List.set_cons_succ, List.getElem_toArray, List.getElem_cons_zero, List.getElem_cons_succ])
        refine wpAnyH_take (i := 5) (v := ?va5) rfl (by kernel_rfl) (by kernel_rfl) (by kernel_rfl) (fun _ _ _ h => h) (Or.inl ⟨by rfl, ?hya5⟩) (by assumption) ?resta5
        case hya5 => (intro w hSw; (try dsimp only at hSw); go_simp <;> (with_reducible rfl))
        (try simp only [Act.put, List.setIfInBounds_toArray, List.set_cons_zero, List.set_cons_succ, List.getElem_toArray, List.getElem_cons_zero, List.getElem_cons_succ])
        refine wpAnyH_ready (rs := [6, 10]) (by kernel_rfl) (by simp) ?_
        refine AllReadyH.cons rfl (fun K hK => ?_) (AllReadyH.cons rfl (fun K hK => ?_) AllReadyH.nil)
        · go_simp
          refine (does_any d hd _ PD.pk.regs).mono ?_
          rintro r w5 ⟨rfl, T5⟩
          have P5 := PD.does T5
          (try go_simp)
          refine hK.out _ _ (sx (w := w) (old_deed P5.pk.bel hbl hc) P5.box) (fun hHeld => ?_)
          clear hK K
          (try simp only [Act.put, List.setIfInBounds_toArray, List.set_cons_zero, List.set_cons_succ, List.getElem_toArray, List.getElem_cons_zero, List.getElem_cons_succ])
          refine wpAnyH_take (i := 7) (v := ?vb7) rfl (by kernel_rfl) (by kernel_rfl) (by kernel_rfl) (fun _ _ _ h => h) (Or.inl ⟨by rfl, ?hyb7⟩) (by assumption) ?restb7
          case hyb7 => (intro w hSw; (try dsimp only at hSw); go_simp <;> (with_reducible rfl))
          (try simp only [Act.put, List.setIfInBounds_toArray, List.set_cons_zero, List.set_cons_succ, List.getElem_toArray, List.getElem_cons_zero, List.getElem_cons_succ])
          refine wpAnyH_take (i := 8) (v := ?vb8) rfl (by kernel_rfl) (by kernel_rfl) (by kernel_rfl) (fun _ _ _ h => h) (Or.inl ⟨by rfl, ?hyb8⟩) (by assumption) ?restb8
          case hyb8 => (intro w hSw; (try dsimp only at hSw); go_simp <;> (with_reducible rfl))
          (try simp only [Act.put, List.setIfInBounds_toArray, List.set_cons_zero, List.set_cons_succ, List.getElem_toArray, List.getElem_cons_zero, List.getElem_cons_succ])
          refine wpAnyH_take (i := 9) (v := ?vb9) rfl (by kernel_rfl) (by kernel_rfl) (by kernel_rfl) (fun _ _ _ h => h) (Or.inl ⟨by rfl, ?hyb9⟩) (by assumption) ?restb9
          case hyb9 => (intro w hSw; (try dsimp only at hSw); go_simp <;> (with_reducible rfl))
          (try simp only [Act.put, List.setIfInBounds_toArray, List.set_cons_zero, List.set_cons_succ, List.getElem_toArray, List.getElem_cons_zero, List.getElem_cons_succ])
          refine wpAnyH_ready (rs := [10]) (by kernel_rfl) (by simp) ?_
          refine AllReadyH.cons rfl (fun K hK => ?_) AllReadyH.nil
          go_simp
          (try go_simp)
          refine hK.out _ _ (sx (w := w) (old_deed (P5.low _).pk.bel hbl hc) (P5.low _).box) (fun hHeld => ?_)
          clear hK K
          (try simp only [Act.put, List.setIfInBounds_toArray, List.set_cons_zero, List.set_cons_succ, List.getElem_toArray, List.getElem_cons_zero, List.getElem_cons_succ])
          have P6 := py_made P5
          refine wpAnyH_ready (rs := [11]) (by kernel_rfl) (by simp) ?_
          refine AllReadyH.cons rfl (fun K hK => ?_) AllReadyH.nil
          go_simp
          (try go_simp)
          refine hK.out _ _ (sx (w := w) (old_deed P6.py.pk.bel hbl hc) P6.py.box) (fun hHeld => ?_)
          clear hK K
          (try simp only [Act.put, List.setIfInBounds_toArray, List.set_cons_zero, List.set_cons_succ, List.getElem_toArray, List.getElem_cons_zero, List.getElem_cons_succ])
          refine wpAnyH_take (i := 12) (v := ?vb12) rfl (by kernel_rfl) (by kernel_rfl) (by kernel_rfl) (fun _ _ _ h => h) (Or.inl ⟨by rfl, ?hyb12⟩) (by assumption) ?restb12
          case hyb12 => (intro w hSw; (try dsimp only at hSw); go_simp <;> (with_reducible rfl))
          (try simp only [Act.put, List.setIfInBounds_toArray, List.set_cons_zero, List.set_cons_succ, List.getElem_toArray, List.getElem_cons_zero, List.getElem_cons_succ])
          refine wpAnyH_done (by kernel_rfl) ?_ _
          clear hHeld P5 T5 SD PD P
          generalize World.alloc w5 _ = W6 at P6 ⊢
          generalize w5.heap.size = nb at P6 ⊢
          obtain ⟨n0, n1, n2, n3, n4, n5, n6, n7, n8⟩ := nine_cells P6.box
          obtain ⟨x0, x1, x2, x3, x4, x5, x6, x7, x8⟩ := nine_cells P6.py.box
          have FX := P6.py.cells
          have FNE := P6.ne
          have P7 := P6.py.put
          clear P6
          go_wp2_with fail
          generalize World.setCell (World.setCell (World.setCell (World.setCell (World.setCell (World.setCell (World.setCell (World.setCell (World.setCell W6 _ _) _ _) _ _) _ _) _ _) _ _) _ _) _ _) _ _ = W7 at P7 ⊢
          clear n0 n1 n2 n3 n4 n5 n6 n7 n8 x0 x1 x2 x3 x4 x5 x6 x7 x8 FX FNE hAE hc hd hbl
          generalize act R d = Q at *
          have hm : (wrap64 Q.pr != IntKind.i64.wrap Q.pr) = false := by
            rw [show IntKind.i64.wrap Q.pr = wrap64 Q.pr from IntWalk.i64_left _]; simp
          go_region_held3 (fun w1 => w1.cell? ⟨xb, 0, none⟩ = some (.int .u64 Q.sI) ∧ w1.cell? ⟨xb, 1, none⟩ = some (.int .u64 Q.tI) ∧ w1.cell? ⟨xb, 2, none⟩ = some (.int .u64 Q.aI) ∧ w1.cell? ⟨xb, 3, none⟩ = some (.int .u64 Q.pr) ∧ w1.cell? ⟨xb, 4, none⟩ = some (.int .u64 Q.se) ∧ w1.cell? ⟨xb, 5, none⟩ = some (.int .u64 Q.sD) ∧ w1.cell? ⟨xb, 6, none⟩ = some (.int .u64 Q.ad) ∧ w1.cell? ⟨xb, 7, none⟩ = some (.int .u64 Q.tD) ∧ w1.cell? ⟨xb, 8, none⟩ = some (.int .u64 Q.aD)) ((refine px_sc (w := w) (sb := w.heap.size + 1) (bm := w.heap.size) (Q := Q) ?_; (repeat (first | (with_reducible assumption) | (with_reducible refine PX.drew ?_))))) (first | (go_at_call 11; (with_reducible refine (all_any _ _ Q _ P7.drew.pk.regs).mono ?_); rintro r z1 ⟨v1, rfl, o1, b1⟩; have P8 := P7.drew.call b1; obtain ⟨g1, cap1, U1, _⟩ := own_isU o1 (Nat.succ_pos _)) | (go_at_call 12; (with_reducible refine (dall_any Q P8.pk.regs.wf _).mono ?_); rintro r z2 ⟨v2, g2, cap2, rfl, U2, b2⟩; have P9 := P8.call b2; have V1 := U1.below b2 (Nat.succ_pos _)) | (go_at_call 10; (with_reducible refine (dsame_any (allL Q) _ _ g1 cap1 g2 cap2 _ (by simp [allL]) V1 U2).mono ?_); rintro r z3 ⟨rfl, m3, rfl⟩; have P10 := P9.call (below_drewN (Below.refl _ _) m3)) | (go_at_call 13; (with_reducible refine (primary_any _ _ Q _ P10.pk.regs).mono ?_); rintro r z4 ⟨rfl, rfl⟩))
          clear P7 P8 P9 U1 U2 V1 o1 b1 b2
          go_wp2_with fail
          go_roundw
          case rel => exact ⟨j + 1, Q, by go_num, by omega, P10⟩
          case measure => simp [intOf]; omega
        · go_simp
          have PL := PD.low (.cells #[.int .u64 0, .int .u64 0, .int .u64 0, .int .u64 0, .int .u64 0, .int .u64 0, .int .u64 0, .int .u64 0, .int .u64 0] 27)
          (try go_simp)
          refine hK.out _ _ (sx (w := w) (old_deed PL.pk.bel hbl hc) PL.box) (fun hHeld => ?_)
          clear hK K
          (try simp only [Act.put, List.setIfInBounds_toArray, List.set_cons_zero, List.set_cons_succ, List.getElem_toArray, List.getElem_cons_zero, List.getElem_cons_succ])
          refine wpAnyH_ready (rs := [6]) (by kernel_rfl) (by simp) ?_
          refine AllReadyH.cons rfl (fun K hK => ?_) AllReadyH.nil
          go_simp
          refine (does_any d hd _ PL.pk.regs).mono ?_
          rintro r w5 ⟨rfl, T5⟩
          have P5 := PL.does T5
          have hnl := PD.pk.regs.lt
          have hnt := PD.pk.regs.tab.1
          have hnx := lt_row PD.box
          have hnw := PD.pk.bel.size
          have NBX : w5.heap[wr.drew.heap.size]? = some (.cells #[.int .u64 0, .int .u64 0, .int .u64 0, .int .u64 0, .int .u64 0, .int .u64 0, .int .u64 0, .int .u64 0, .int .u64 0] 27 (0, 0)) := (T5.2.block _ (lt_row (heap_alloc_new wr.drew (.cells #[.int .u64 0, .int .u64 0, .int .u64 0, .int .u64 0, .int .u64 0, .int .u64 0, .int .u64 0, .int .u64 0, .int .u64 0] 27))) (by omega)).trans (heap_alloc_new wr.drew (.cells #[.int .u64 0, .int .u64 0, .int .u64 0, .int .u64 0, .int .u64 0, .int .u64 0, .int .u64 0, .int .u64 0, .int .u64 0] 27))
          have NBN : w.heap.size ≤ wr.drew.heap.size ∧ wr.drew.heap.size ≠ w.heap.size + 1 ∧ wr.drew.heap.size ≠ w.heap.size ∧ wr.drew.heap.size ≠ 0 ∧ wr.drew.heap.size ≠ xb := ⟨by omega, by omega, by omega, by omega, by omega⟩
          rw [show wr.drew.heap.size = wr.heap.size from rfl] at NBX NBN
          obtain ⟨e0, e1, e2, e3, e4, e5, e6, e7, e8⟩ := nine_cells NBX
          have FB := fun i => row_frozen NBX i
          clear hnl hnt hnx hnw
          (try go_simp)
          refine hK.out _ _ (sx (w := w) (old_deed P5.pk.bel hbl hc) P5.box) (fun hHeld => ?_)
          clear hK K
          (try simp only [Act.put, List.setIfInBounds_toArray, List.set_cons_zero, List.set_cons_succ, List.getElem_toArray, List.getElem_cons_zero, List.getElem_cons_succ])
          refine wpAnyH_take (i := 7) (v := ?vc7) rfl (by kernel_rfl) (by kernel_rfl) (by kernel_rfl) (fun _ _ _ h => h) (Or.inl ⟨by rfl, ?hyc7⟩) (by assumption) ?restc7
          case hyc7 => (intro w hSw; (try dsimp only at hSw); go_simp <;> (with_reducible rfl))
          (try simp only [Act.put, List.setIfInBounds_toArray, List.set_cons_zero, List.set_cons_succ, List.getElem_toArray, List.getElem_cons_zero, List.getElem_cons_succ])
          refine wpAnyH_take (i := 8) (v := ?vc8) rfl (by kernel_rfl) (by kernel_rfl) (by kernel_rfl) (fun _ _ _ h => h) (Or.inl ⟨by rfl, ?hyc8⟩) (by assumption) ?restc8
          case hyc8 => (intro w hSw; (try dsimp only at hSw); go_simp <;> (with_reducible rfl))
          (try simp only [Act.put, List.setIfInBounds_toArray, List.set_cons_zero, List.set_cons_succ, List.getElem_toArray, List.getElem_cons_zero, List.getElem_cons_succ])
          refine wpAnyH_take (i := 9) (v := ?vc9) rfl (by kernel_rfl) (by kernel_rfl) (by kernel_rfl) (fun _ _ _ h => h) (Or.inl ⟨by rfl, ?hyc9⟩) (by assumption) ?restc9
          case hyc9 => (intro w hSw; (try dsimp only at hSw); go_simp <;> (with_reducible rfl))
          (try simp only [Act.put, List.setIfInBounds_toArray, List.set_cons_zero, List.set_cons_succ, List.getElem_toArray, List.getElem_cons_zero, List.getElem_cons_succ])
          have P6 := py_set P5 NBX NBN
          refine wpAnyH_ready (rs := [11]) (by kernel_rfl) (by simp) ?_
          refine AllReadyH.cons rfl (fun K hK => ?_) AllReadyH.nil
          go_simp
          (try go_simp)
          refine hK.out _ _ (sx (w := w) (old_deed P6.py.pk.bel hbl hc) P6.py.box) (fun hHeld => ?_)
          clear hK K
          (try simp only [Act.put, List.setIfInBounds_toArray, List.set_cons_zero, List.set_cons_succ, List.getElem_toArray, List.getElem_cons_zero, List.getElem_cons_succ])
          refine wpAnyH_take (i := 12) (v := ?vc12) rfl (by kernel_rfl) (by kernel_rfl) (by kernel_rfl) (fun _ _ _ h => h) (Or.inl ⟨by rfl, ?hyc12⟩) (by assumption) ?restc12
          case hyc12 => (intro w hSw; (try dsimp only at hSw); go_simp <;> (with_reducible rfl))
          (try simp only [Act.put, List.setIfInBounds_toArray, List.set_cons_zero, List.set_cons_succ, List.getElem_toArray, List.getElem_cons_zero, List.getElem_cons_succ])
          refine wpAnyH_done (by kernel_rfl) ?_ _
          clear hHeld P5 T5 SD PD P PL e0 e1 e2 e3 e4 e5 e6 e7 e8 FB NBX NBN
          generalize World.setCell (World.setCell (World.setCell (World.setCell (World.setCell (World.setCell (World.setCell (World.setCell (World.setCell w5 _ _) _ _) _ _) _ _) _ _) _ _) _ _) _ _) _ _ = W6 at P6 ⊢
          generalize wr.heap.size = nb at P6 ⊢
          obtain ⟨n0, n1, n2, n3, n4, n5, n6, n7, n8⟩ := nine_cells P6.box
          obtain ⟨x0, x1, x2, x3, x4, x5, x6, x7, x8⟩ := nine_cells P6.py.box
          have FX := P6.py.cells
          have FNE := P6.ne
          have P7 := P6.py.put
          clear P6
          go_wp2_with fail
          generalize World.setCell (World.setCell (World.setCell (World.setCell (World.setCell (World.setCell (World.setCell (World.setCell (World.setCell W6 _ _) _ _) _ _) _ _) _ _) _ _) _ _) _ _) _ _ = W7 at P7 ⊢
          clear n0 n1 n2 n3 n4 n5 n6 n7 n8 x0 x1 x2 x3 x4 x5 x6 x7 x8 FX FNE hAE hc hd hbl
          generalize act R d = Q at *
          have hm : (wrap64 Q.pr != IntKind.i64.wrap Q.pr) = false := by
            rw [show IntKind.i64.wrap Q.pr = wrap64 Q.pr from IntWalk.i64_left _]; simp
          go_region_held3 (fun w1 => w1.cell? ⟨xb, 0, none⟩ = some (.int .u64 Q.sI) ∧ w1.cell? ⟨xb, 1, none⟩ = some (.int .u64 Q.tI) ∧ w1.cell? ⟨xb, 2, none⟩ = some (.int .u64 Q.aI) ∧ w1.cell? ⟨xb, 3, none⟩ = some (.int .u64 Q.pr) ∧ w1.cell? ⟨xb, 4, none⟩ = some (.int .u64 Q.se) ∧ w1.cell? ⟨xb, 5, none⟩ = some (.int .u64 Q.sD) ∧ w1.cell? ⟨xb, 6, none⟩ = some (.int .u64 Q.ad) ∧ w1.cell? ⟨xb, 7, none⟩ = some (.int .u64 Q.tD) ∧ w1.cell? ⟨xb, 8, none⟩ = some (.int .u64 Q.aD)) ((refine px_sc (w := w) (sb := w.heap.size + 1) (bm := w.heap.size) (Q := Q) ?_; (repeat (first | (with_reducible assumption) | (with_reducible refine PX.drew ?_))))) (first | (go_at_call 11; (with_reducible refine (all_any _ _ Q _ P7.drew.pk.regs).mono ?_); rintro r z1 ⟨v1, rfl, o1, b1⟩; have P8 := P7.drew.call b1; obtain ⟨g1, cap1, U1, _⟩ := own_isU o1 (Nat.succ_pos _)) | (go_at_call 12; (with_reducible refine (dall_any Q P8.pk.regs.wf _).mono ?_); rintro r z2 ⟨v2, g2, cap2, rfl, U2, b2⟩; have P9 := P8.call b2; have V1 := U1.below b2 (Nat.succ_pos _)) | (go_at_call 10; (with_reducible refine (dsame_any (allL Q) _ _ g1 cap1 g2 cap2 _ (by simp [allL]) V1 U2).mono ?_); rintro r z3 ⟨rfl, m3, rfl⟩; have P10 := P9.call (below_drewN (Below.refl _ _) m3)) | (go_at_call 13; (with_reducible refine (primary_any _ _ Q _ P10.pk.regs).mono ?_); rintro r z4 ⟨rfl, rfl⟩))
          clear P7 P8 P9 U1 U2 V1 o1 b1 b2
          go_wp2_with fail
          go_roundw
          case rel => exact ⟨j + 1, Q, by go_num, by omega, P10⟩
          case measure => simp [intOf]; omega
      · skip
        go_wp2_with fail
        refine (lives_any _ P.pk.tab).mono ?_; rintro r y9 ⟨rfl, b9⟩
        go_wp2_with fail
        go_ret
        exact ⟨rfl, (P.pk.call b9).bel⟩
    · skip
      go_wp2_with fail
      refine (lives_any _ P.pk.tab).mono ?_; rintro r y9 ⟨rfl, b9⟩
      go_wp2_with fail
      go_ret
      exact ⟨rfl, (P.pk.call b9).bel⟩

/-! ### The row -/
theorem contract (H : Type) (enc : TypeId × Value → H) (W : World) (base : Nat) (args : Array Value) (ds gs : List (DataW H)) (before : List MemPlace)
    (hval : ∀ (j : Nat) t v, Tryd.f3.params[j]? = some t → args[j]? = some v → Value.okWide Tryd.prog W .any base t v)
    (hW : DataW.Whole enc Tryd.prog Tryd.f3.params.toList Rows.regsPlaysSpec.vars false W args.toList ds gs before) (hL : laidMetH Tryd.prog Rows.regsPlaysRow.laid W) :
    Calls Tryd.prog 3 args W fun e W' => ∃ v, e = .returned v ∧ Rows.regsPlaysSpec.post enc Tryd.prog Tryd.f3 false true false false W args v W' := by
  have hW' := hW
  obtain ⟨p, q, hA0, hV, rfl, hfz, hnd⟩ := hW
  have hA : DataW.TrodAll enc Tryd.prog W 0 (fun _ => true) true Tryd.f3.params.toList args.toList ds p := hA0
  rw [Tryd.params3] at hA hval
  obtain ⟨v0, vs0, d0, ds0, p0, q0, hargs, rfl, rfl, h0, r0⟩ := trodAll_cons hA
  obtain ⟨rfl, rfl, rfl⟩ := trodAll_nil r0
  obtain rfl : args = #[v0] := by cases args; simp_all
  obtain ⟨rfl, rfl⟩ := trodVars_none hV
  obtain ⟨s0, len0, cap0, rfl⟩ := okWide_slice Tryd.underlying22 (hval 0 22 v0 rfl rfl)
  have k0 := h0
  have lt0 : ∀ x ∈ p0, x.block < W.heap.size := by obtain ⟨m, hm⟩ := k0; exact DataW.trod_lt m _ _ _ hm
  have w0 : IsDeeds W s0 len0 cap0 := by
    obtain ⟨fuel, hf⟩ := h0
    exact open_deeds hf
  clear hA0
  simp only [List.append_nil] at hW'
  refine (walk W (tab_of hL) s0 len0 cap0 w0).mono fun e W' ⟨he, hg⟩ => ?_
  subst he
  exact ⟨_, rfl, _, _, _, [], _, [], hW', trodAll_mk1 (shut_bool Tryd.underlying4 _), (trodAll_cons_mk (Below.trod laidOut (by kernel_rfl) (of_decide_eq_true (by kernel_rfl)) k0 hg lt0) trodAll_mk0), rfl, hg.frame _, fun h => by cases h⟩

/-- A world for the witness: the settled one, the table holding what its initialiser lays. -/
noncomputable def laidWorld (os : Os) : World :=
  { World.holding Tryd.prog os ⟨#[], #[], []⟩ with heap := (World.holding Tryd.prog os ⟨#[], #[], []⟩).heap.modify 0 fun
      | .cells _ t frozen => .cells #[.int .u64 0, .int .u64 0, .bool true, .int .u64 8, .int .u64 8191, .bool false, .int .u64 16, .int .u64 8191, .bool false, .int .u64 24, .int .u64 16728063, .bool true, .int .u64 32, .int .u64 0, .bool false, .int .u64 40, .int .u64 18446744073709547527, .bool true, .int .u64 48, .int .u64 18446744073709551615, .bool true] t frozen
      | o => o }
theorem laid_met (os : Os) : laidMet Tryd.prog Rows.regsPlaysRow.laid ((laidWorld os).forCall (fun _ _ => 0) ⟨#[], #[.slice none 0 0], []⟩).memory :=
  laidMet_of_run' 8 (by kernel_rfl) (by kernel_rfl)
theorem reads (os : Os) {H : Type} (enc : TypeId × Value → H) : ∃ places, DataW.whole enc Tryd.prog ((laidWorld os).forCall (fun _ _ => 0) ⟨#[], #[.slice none 0 0], []⟩).memory Tryd.f3.params.toList Rows.regsPlaysSpec.vars false (#[.slice none 0 0] : Array Value).toList 8 = some ([.nil], [], places) :=
  ⟨[], by kernel_rfl⟩
set_option maxRecDepth 100000 in
theorem lifted (os : Os) (started : os.Started) (H : Type) (enc : TypeId × Value → H) (F : Stop.Interp) :
    ReturnsInHanded {} Tryd.checked os 3 .any ((OpenSpec.ofChange Rows.regsPlaysSpec).preRow enc Tryd.prog Tryd.f3 Rows.regsPlaysRow.domain false Rows.regsPlaysRow.laid) (((OpenSpec.ofChange Rows.regsPlaysSpec).at F).post enc Tryd.prog Tryd.f3 false true false false) := by
  obtain ⟨places, hx⟩ := reads os enc
  refine returnsInHanded_of_row (C := Tryd.checked) (s := OpenSpec.ofChange Rows.regsPlaysSpec) own started (by kernel_rfl) Tryd.func3
    (witness_row_at (enc := enc) (C := Tryd.checked) false (laidWorld os) #[.slice none 0 0] rfl (by kernel_rfl) (by kernel_rfl) (by kernel_rfl)
      (OpenSpec.preRow_of_cond 8 hx (by kernel_rfl) (fun k hk => by cases hk) (by kernel_rfl) (laid_met os))) ?_
  intro W base args ds gs before hval hW _ _ _ hL _ _
  exact contract H enc W base args ds gs before hval hW hL
theorem said : Rows.RegsPlaysSaid :=
  OpenClaim.holds_of_cond 3 Tryd.f3 rfl rfl rfl rfl rfl rfl rfl ⟨rfl, rfl, rfl, rfl, rfl⟩ rfl rfl rfl rfl rfl (by kernel_rfl) Tryd.func3 (by kernel_rfl)
    (of_decide_eq_true (by kernel_rfl)) (by unfold Func.isWrapper; first | (rw [if_pos (by decide +kernel)]; kernel_rfl) | (rw [if_neg (by decide +kernel)]; exact ⟨rfl, rfl⟩))
    (fun os started H enc _ F => by rw [OpenClaim.pre_eq_preRow]; exact lifted os started H enc F)
theorem plain (f : FuncId) (fn : Func) (hf : Tryd.pinned.checked.prog.funcNamed "lookaside/lookasidelaw07.RegsPlays" = some f) (hfn : Tryd.pinned.checked.prog.funcs[f]? = some fn) :
    false = Tryd.pinned.checked.prog.looks [] ∧ ∀ (j : Nat) t, fn.params[j]? = some t → Tryd.pinned.checked.prog.wantsStandIn t = false := by
  obtain rfl : f = 3 := Option.some.inj ((show Tryd.prog.funcNamed "lookaside/lookasidelaw07.RegsPlays" = some 3 by kernel_rfl).symm.trans hf) |>.symm
  obtain rfl : fn = Tryd.f3 := (Option.some.inj (Tryd.func3.symm.trans hfn)).symm
  refine ⟨by kernel_rfl, fun j t ht => ?_⟩
  rw [Tryd.params3] at ht
  have hm : t ∈ [22] := by simpa using Array.mem_of_getElem? ht
  have hall : ([22].all fun u => !Tryd.prog.wantsStandIn u) = true := by kernel_rfl
  exact (show Tryd.prog.wantsStandIn t = false by simpa using List.all_eq_true.1 hall t hm)
theorem proved : Rows.RegsPlaysCardSaid :=
  Claim7.holds_tied_plain_at .later [] _ _ _ _ said (fun _ h => by cases h) (by kernel_rfl) (fun _ h => by cases h) regsPlays_row_tie rfl ⟨rfl, rfl⟩ (by kernel_rfl) rfl plain (by kernel_rfl)
#print axioms proved
end Go.Proofs.YtohcmijgakijfaaDoor.regsPlays
