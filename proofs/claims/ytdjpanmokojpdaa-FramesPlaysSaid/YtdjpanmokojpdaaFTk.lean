/-
  Contracts of take, Take, TakeMany of the document's package for layer 5. Conditions: at most 2 to the 16 frames.
-/
import Derived.Test.YtdjpanmokojpdaaFPut
namespace Go.Proofs.Ytdjpanmokojpdaa.Frm
open Fld
open Go.ChangeShapes Go.WideShapes Go.ChangeAt Go.RowKit
set_option maxHeartbeats 1000000
theorem each_none {T : Nat → Bool} {n k e j : Nat} (h : ∀ i, i < j → okAt T n k e (i * e) = false) (hf : n < j * e + k) : pick T n k e = none := by
  refine pick_eq_none fun p => ?_
  cases ho : okAt T n k e p
  · rfl
  · obtain ⟨h1, h2, _⟩ := okAt_iff.1 ho
    obtain ⟨i, rfl⟩ : ∃ i, p = i * e := ⟨p / e, (Nat.div_mul_cancel (Nat.dvd_of_mod_eq_zero h1)).symm⟩
    by_cases hi : i < j
    · rw [h i hi] at ho; cases ho
    · have := Nat.mul_le_mul_right e (Nat.le_of_not_lt hi); omega
theorem each_some {T : Nat → Bool} {n k e j : Nat} (h : ∀ i, i < j → okAt T n k e (i * e) = false) (hf : j * e + k ≤ n) (ha : allB T (j * e) k false = true) : pick T n k e = some (j * e) := by
  refine pick_eq (okAt_iff.2 ⟨Nat.mul_mod_left j e, hf, ha⟩) fun p hp => ?_
  cases ho : okAt T n k e p
  · rfl
  · obtain ⟨h1, h2, _⟩ := okAt_iff.1 ho
    obtain ⟨i, rfl⟩ : ∃ i, p = i * e := ⟨p / e, (Nat.div_mul_cancel (Nat.dvd_of_mod_eq_zero h1)).symm⟩
    have hi : i < j := Nat.lt_of_mul_lt_mul_right hp
    rw [h i hi] at ho; cases ho
theorem each_next {T : Nat → Bool} {n k e j : Nat} (h : ∀ i, i < j → okAt T n k e (i * e) = false) (ha : allB T (j * e) k false = false) : ∀ i, i < j + 1 → okAt T n k e (i * e) = false := by
  intro i hi
  by_cases e1 : i = j
  · subst e1; unfold okAt; rw [ha, Bool.and_false]
  · exact h i (by omega)
theorem FD.below {w wr w' : World} {N : Nat} {v v' : Value} {P : List Int} (h : FD w wr N v v' P) (hb : Below wr.heap.size wr w') : FD w w' N v v' P :=
  ⟨h.bel.trans (hb.mono h.bel.size), (hb.block _ (by have := h.two; omega)).trans h.m, (hb.block _ (by have := h.two; omega)).trans h.r, own_below h.own hb, Nat.le_trans h.two hb.size⟩
/-- Frames as the document has them: a number, and the taken ones in a row from base B on. -/
def IsD (w : World) (B N : Nat) (P : List Int) (x : Value) : Prop := ∃ ao cap, x = .agg #[.int .i64 (N : Int), .slice ao P.length cap] ∧ OwnI w B ao cap P
theorem IsD.below {w w' : World} {B N : Nat} {P : List Int} {x : Value} (h : IsD w B N P x) (hb : Below w.heap.size w w') : IsD w' B N P x := by
  obtain ⟨ao, cap, e, ho⟩ := h
  exact ⟨ao, cap, e, own_below ho hb⟩
/-- The end: frames are laid into the result's place. -/
theorem FD.ret {w wr : World} {N : Nat} {v v' : Value} {P : List Int} (h : FD w wr N v v' P) (y : Value) :
    ((wr.setCell ⟨w.heap.size + 1, 0, none⟩ (.int .i64 (N : Int))).setCell ⟨w.heap.size + 1, 1, none⟩ y).heap[w.heap.size + 1]? = some (.cells #[.int .i64 (N : Int), y] 27 (0, 0)) ∧
    Below w.heap.size w ((wr.setCell ⟨w.heap.size + 1, 0, none⟩ (.int .i64 (N : Int))).setCell ⟨w.heap.size + 1, 1, none⟩ y) :=
  ⟨by rw [heap_set (heap_set h.r _) _]; rfl, (h.bel.setCell (by simp) _).setCell (by simp) _⟩
theorem retOwn {w wr : World} {B cap : Nat} {Q : List Int} {ao : Option Addr} (ho : OwnI wr B ao cap Q) (y z : Value) (hne : ∀ g, ao = some ⟨g, 0, none⟩ → g ≠ w.heap.size + 1) :
    OwnI ((wr.setCell ⟨w.heap.size + 1, 0, none⟩ y).setCell ⟨w.heap.size + 1, 1, none⟩ z) B ao cap Q := by
  refine ⟨ho.1, ?_⟩
  rcases ho.2 with hn | ⟨g, cap', cur, hv, hb2, hg, rest⟩
  · exact .inl hn
  · have hgn := hne g (by injection hv)
    exact .inr ⟨g, cap', cur, hv, hb2, ((Below.heap_setCell _ _ _ _ (by show g ≠ w.heap.size + 1; exact hgn)).trans (Below.heap_setCell _ _ _ _ (by show g ≠ w.heap.size + 1; exact hgn))).trans hg, rest⟩
theorem own_block_ne {wr : World} {B cap b : Nat} {ao : Option Addr} {Q : List Int} {c : Array Value} (ho : OwnI wr B ao cap Q) (hb : wr.heap[b]? = some (.cells c 27 (0, 0))) : ∀ g, ao = some ⟨g, 0, none⟩ → g ≠ b := by
  rintro g rfl rfl
  rcases ho.2 with ⟨hn, _⟩ | ⟨g', cap', cur, hv, _, hg, _⟩
  · injection hn with a; cases a
  · obtain rfl : g = g' := by injection hv with a; injection a with a; injection a
    rw [hb] at hg
    injection hg with hg
    injection hg with _ e _
    exact absurd e (by decide)
theorem rtk_any (N B cap k each : Nat) (ao : Option Addr) (T : Nat → Bool) (w : World) (h : OwnI w B ao cap (lst T N)) (hB : B ≤ w.heap.size) (hN : N ≤ 65536) (k1 : k ≤ 9223372036854775807) (e0 : 0 < each) (e1 : each ≤ 512) :
    Calls Try.prog 36 #[.agg #[.int .i64 (N : Int), .slice ao (lst T N).length cap], .int .i64 (k : Int), .int .i64 (each : Int)] w fun e w' => ∃ x, e = .returned (.tuple #[x, .int .i64 (pickI (pick T N k each)), .int .i64 (pickE (pick T N k each))]) ∧ IsD w' B N (lst (pickT T k (pick T N k each)) N) x ∧ Below w.heap.size w w' := by
  have hl : (lst T N).length ≤ 65536 := by have := lst_length T N; omega
  have F0 := FD.start w N (.slice ao (lst T N).length cap)
  go_enter Try.func36, Try.ntmps36
  go_wp2
  go_loopw [9] (fun i wr => ∃ j : Nat, i = .int .i64 ((j * each : Nat) : Int) ∧ j * each ≤ N + 512 ∧ FD w wr N (.slice ao (lst T N).length cap) (.slice none 0 0) [] ∧ Hid (∀ i, i < j → okAt T N k each (i * each) = false)) (fun i _ => N + 1024 - (intOf i).toNat)
  case atStart => exact ⟨0, by simp, by omega, F0, Lib.hid (fun i hi => absurd hi (Nat.not_lt_zero i))⟩
  case round =>
    obtain ⟨j, rfl, hj, F, HJ⟩ := hrel
    clear F0
    obtain ⟨m1, m2, m3, m4, r1, r2, r3, r4⟩ := F.cells
    have hsucc : (j + 1) * each = j * each + each := Nat.succ_mul j each
    have HS := Lib.hid hsucc
    clear hsucc
    by_cases c1 : (k : Int) ≤ (N : Int)
    · by_cases c2 : ((j * each : Nat) : Int) ≤ (N : Int) - (k : Int)
      · have hrow : OwnI wr B ao cap (lst T N) := own_below h F.bel
        have NN := rnone_any N B cap ao (lst T N) ((j * each : Nat) : Int) (k : Int) (by omega) (by omega) (by omega) wr hrow (by omega)
        rw [lst_none (by omega)] at NN
        cases ha : allB T (j * each) k false
        · have H2 := Lib.hid (each_next HJ.out ha)
          rw [ha] at NN
          clear HJ ha
          generalize j * each = q at *
          go_wp2_with (go_at_call 41; refine NN.mono ?_; rintro e w2 ⟨rfl, hb2⟩; have F2 := F.below hb2)
          go_roundw
          case rel => exact ⟨j + 1, by rw [HS.out]; simp, by rw [HS.out]; omega, F2, H2⟩
          case measure => simp [intOf]; omega
        · have H2 := Lib.hid (each_some HJ.out (by omega) ha)
          obtain ⟨s1, s2⟩ := lst_take (T := T) (n := N) (i := j * each) (k := k) (by omega) ha
          rw [ha] at NN
          have hA : ∀ x ∈ seg T 0 (j * each), x < ((j * each : Nat) : Int) := fun x hx => by
            obtain ⟨q, _, b, _, rfl⟩ := seg_mem.1 hx; omega
          have hC : ∀ x ∈ seg T (j * each + k) (N - (j * each + k)), ((j * each : Nat) : Int) ≤ x := fun x hx => by
            obtain ⟨q, b, _, _, rfl⟩ := seg_mem.1 hx; omega
          have PU := fun W (hW : OwnI W B ao cap (lst T N)) => rput_any N B cap (j * each) k ao (seg T 0 (j * each)) (seg T (j * each + k) (N - (j * each + k))) W (by rw [← s1]; exact hW) hA hC (by rw [← s1]; exact hl) (by omega)
          rw [← s1, ← s2] at PU
          clear HJ ha s1 s2 hA hC
          generalize j * each = q at *
          go_wp2_with (first | (go_at_call 41; refine NN.mono ?_; rintro e w2 ⟨rfl, hb2⟩; have F2 := F.below hb2; obtain ⟨m1, m2, m3, m4, r1, r2, r3, r4⟩ := F2.cells; have hrow2 := own_below hrow hb2) | (go_at_call 42; refine (PU _ hrow2).mono ?_; rintro e w3 ⟨x, rfl, ao3, cap3, rfl, ho3, hb3⟩; have F3 := F2.below hb3; obtain ⟨m1, m2, m3, m4, r1, r2, r3, r4⟩ := F3.cells))
          obtain ⟨Lr, Lb⟩ := F3.ret (.slice ao3 (lst (setT T q k true) N).length cap3)
          have x1 : ((w3.setCell ⟨w.heap.size + 1, 0, none⟩ (.int .i64 (N : Int))).setCell ⟨w.heap.size + 1, 1, none⟩ (.slice ao3 (lst (setT T q k true) N).length cap3)).cell? ⟨w.heap.size + 1, 0, none⟩ = some (.int .i64 (N : Int)) := by simp [World.cell?, Lr]
          have x2 : ((w3.setCell ⟨w.heap.size + 1, 0, none⟩ (.int .i64 (N : Int))).setCell ⟨w.heap.size + 1, 1, none⟩ (.slice ao3 (lst (setT T q k true) N).length cap3)).cell? ⟨w.heap.size + 1, 1, none⟩ = some (.slice ao3 (lst (setT T q k true) N).length cap3) := by simp [World.cell?, Lr]
          have hw2 := F2.bel.size
          have ho4 := own_low ho3 (C := B) (by omega)
          refine bodyPost_ret (v := .tuple #[.agg #[.int .i64 (N : Int), .slice ao3 (lst (setT T q k true) N).length cap3], .int .i64 (q : Int), .int .i64 0]) (by simp [results, Try.results36, go_sem, x1, x2]) rfl ⟨_, by rw [H2.out]; rfl, ⟨ao3, cap3, ?_, ?_⟩, Lb⟩
          · rw [H2.out]; rfl
          · rw [H2.out]; exact retOwn ho4 _ _ (own_block_ne ho4 F3.r)
      · have hrow : OwnI wr B ao cap (lst T N) := own_below h F.bel
        have H2 := Lib.hid (each_none (T := T) (n := N) (k := k) (e := each) HJ.out (by omega))
        clear HJ
        obtain ⟨Lr, Lb⟩ := F.ret (.slice ao (lst T N).length cap)
        have x1 : ((wr.setCell ⟨w.heap.size + 1, 0, none⟩ (.int .i64 (N : Int))).setCell ⟨w.heap.size + 1, 1, none⟩ (.slice ao (lst T N).length cap)).cell? ⟨w.heap.size + 1, 0, none⟩ = some (.int .i64 (N : Int)) := by simp [World.cell?, Lr]
        have x2 : ((wr.setCell ⟨w.heap.size + 1, 0, none⟩ (.int .i64 (N : Int))).setCell ⟨w.heap.size + 1, 1, none⟩ (.slice ao (lst T N).length cap)).cell? ⟨w.heap.size + 1, 1, none⟩ = some (.slice ao (lst T N).length cap) := by simp [World.cell?, Lr]
        replace x1 := Lib.hid x1
        replace x2 := Lib.hid x2
        replace Lr := Lib.hid Lr
        go_wp2
        refine bodyPost_ret (v := .tuple #[.agg #[.int .i64 (N : Int), .slice ao (lst T N).length cap], .int .i64 0, .int .i64 6]) (by simp [results, Try.results36, go_sem, x1.out, x2.out]) rfl ⟨_, by rw [H2.out]; rfl, ⟨ao, cap, ?_, ?_⟩, Lb⟩
        · rw [H2.out]; rfl
        · rw [H2.out]; exact retOwn hrow _ _ (own_block_ne hrow F.r)
    · have hrow : OwnI wr B ao cap (lst T N) := own_below h F.bel
      have H2 := Lib.hid (each_none (T := T) (n := N) (k := k) (e := each) HJ.out (by omega))
      clear HJ
      obtain ⟨Lr, Lb⟩ := F.ret (.slice ao (lst T N).length cap)
      have x1 : ((wr.setCell ⟨w.heap.size + 1, 0, none⟩ (.int .i64 (N : Int))).setCell ⟨w.heap.size + 1, 1, none⟩ (.slice ao (lst T N).length cap)).cell? ⟨w.heap.size + 1, 0, none⟩ = some (.int .i64 (N : Int)) := by simp [World.cell?, Lr]
      have x2 : ((wr.setCell ⟨w.heap.size + 1, 0, none⟩ (.int .i64 (N : Int))).setCell ⟨w.heap.size + 1, 1, none⟩ (.slice ao (lst T N).length cap)).cell? ⟨w.heap.size + 1, 1, none⟩ = some (.slice ao (lst T N).length cap) := by simp [World.cell?, Lr]
      replace x1 := Lib.hid x1
      replace x2 := Lib.hid x2
      replace Lr := Lib.hid Lr
      go_wp2
      refine bodyPost_ret (v := .tuple #[.agg #[.int .i64 (N : Int), .slice ao (lst T N).length cap], .int .i64 0, .int .i64 6]) (by simp [results, Try.results36, go_sem, x1.out, x2.out]) rfl ⟨_, by rw [H2.out]; rfl, ⟨ao, cap, ?_, ?_⟩, Lb⟩
      · rw [H2.out]; rfl
      · rw [H2.out]; exact retOwn hrow _ _ (own_block_ne hrow F.r)
end Go.Proofs.Ytdjpanmokojpdaa.Frm
