/-
  The deeds of kind 3: Give of a run that was taken. Conditions: none.
-/
import Derived.Test.YtdjpanmokojpdaaFDo2
namespace Go.Proofs.Ytdjpanmokojpdaa.Frm
open Fld
open Go.ChangeShapes Go.WideShapes Go.ChangeAt Go.RowKit
set_option maxHeartbeats 2000000
set_option maxRecDepth 100000
theorem DS.giveT {w u wr : World} {n : Nat} {T : Nat → Bool} {v sl : Value} {l : List (Nat × Nat)} {K A B : Int} (h : DS w u n T v l sl K A B wr) (f k : Int) (f0 : -9223372036854775808 ≤ f) (f1 : f ≤ 9223372036854775807) (k0 : -9223372036854775808 ≤ k) (k1 : k ≤ 9223372036854775807) :
    Calls Try.prog 21 #[.pointer (some ⟨w.heap.size + 1, 0, none⟩), .int .i64 f, .int .i64 k] wr fun e w' => e = .returned (.int .i64 (giveE T n f k)) ∧ DS w u n (giveT T n f k) v l sl K A B w' ∧ Turn wr w' (w.heap.size + 1) w.heap.size :=
  (give_any f k f0 f1 k0 k1 wr h.ap.fr.fr).mono fun _ _ ⟨a, b, c⟩ => ⟨a, h.kp (Kp.of_turn c) (h.ap.turn b c), c⟩
theorem cell_turn {w wr w' : World} {b o : Nat} {y : Value} (ht : Turn wr w' (w.heap.size + 1) w.heap.size) (h : wr.cell? ⟨b, o, none⟩ = some y) (hb : w.heap.size + 2 ≤ b) : w'.cell? ⟨b, o, none⟩ = some y :=
  (World.cell?_of_block (ht.block b (cell_lt h) (by omega) (by omega))).trans h
theorem does3 {w u : World} {n : Nat} {T : Nat → Bool} {v x : Value} {l : List (Nat × Nat)} (h : PlIn w n T v l x u) (hn : n ≤ 65536) (hl : l.length ≤ 100) (A B : Int) (B0 : -9223372036854775808 ≤ B) (B1 : B ≤ 9223372036854775807) :
    Calls Try.prog 10 #[.pointer (some ⟨w.heap.size + 1, 0, none⟩), x, v, .agg #[.int .i64 3, .int .i64 A, .int .i64 B]] u (Done w u n l) := by
  obtain ⟨hap, ⟨ao, cap, rfl, ho⟩, hbd⟩ := h
  obtain ⟨ao2, cap2, rfl⟩ := own_shape hap.own
  have htwo := hap.two
  have D0 := DS.start hap (.slice ao (lst T n).length cap) 3 A B
  obtain ⟨W0, hW0⟩ : ∃ W0, ((u.alloc (.cells #[.int .i64 (n : Int), .slice ao (lst T n).length cap] 27)).alloc (.cells #[.int .i64 3, .int .i64 A, .int .i64 B] 33)).alloc (.cells #[.int .i64 0, .slice none 0 0] 27) = W0 := ⟨_, rfl⟩
  rw [hW0] at D0
  have ho0 : OwnI W0 (w.heap.size + 2) ao cap (lst T n) := by rw [← hW0]; exact ((ho.alloc _).alloc _).alloc _
  have hsz3 : u.heap.size + 3 ≤ W0.heap.size := by rw [← hW0]; simp
  have q1 := D0.f.c0
  have q2 := D0.f.c1
  have q3 := D0.d.c0
  have q4 := D0.d.c1
  have q5 := D0.d.c2
  have q6 := D0.r.c0
  have q7 := D0.r.c1
  have q8 := D0.r.f0 0
  have q9 := D0.r.f0 1
  by_cases hz : l.length = 0
  · have hz1 : ((l.length : Int) == 0) = true := by simp; exact List.eq_nil_of_length_eq_zero hz
    generalize hlq : l.length = lq at *
    have x1 := Lib.hid (D0.r.set (m := n) (sl2 := .slice ao (lst T n).length cap)).c0
    have x2 := Lib.hid (D0.r.set (m := n) (sl2 := .slice ao (lst T n).length cap)).c1
    go_enter Try.func10, Try.ntmps10
    go_wp2_with fail
    exact bodyPost_ret (v := .tuple #[.agg #[.int .i64 (n : Int), .slice ao (lst T n).length cap], .slice ao2 lq cap2, .bool true]) (by simp [results, Try.results10, go_sem, x1.out, x2.out]) rfl (done_end D0 ho0 hbd (by omega))
  · have hq := plN_lt B (m := l.length) (by omega)
    obtain ⟨gb, p1, p2, rfl, hlc2, hcm2, hgb, hkb, k1, k2⟩ := rowT_at D0.ap.own (plN B l.length) hq
    have hpb := hbd _ (List.mem_of_getElem? hkb)
    simp only at hpb
    unfold maxLen at hcm2
    have hz1 : ((l.length : Int) == 0) = false := by simp; intro e; rw [e] at hz; simp at hz
    generalize hlq : l.length = lq at *
    have PL := place_any B lq (by omega) B0 B1
    generalize plN B lq = q at *
    clear hkb
    go_enter Try.func10, Try.ntmps10
    go_wp2_with fail
    clear hW0
    refine (PL _).mono ?_
    rintro e w' ⟨rfl, rfl⟩
    obtain ⟨W1, hW1⟩ : ∃ W1, W0.alloc (.cells #[.int .i64 (p1 : Int), .int .i64 (p2 : Int)] 46) = W1 := ⟨_, rfl⟩
    have hbW : Below W0.heap.size W0 W1 := by rw [← hW1]; exact (Below.refl _ _).alloc (Nat.le_refl _) _
    have D1 := D0.below hbW
    have ho1 := own_below ho0 hbW
    have t0 : W1.cell? ⟨W0.heap.size, 0, none⟩ = some (.int .i64 (p1 : Int)) := by
      have := heap_alloc_new W0 (.cells #[.int .i64 (p1 : Int), .int .i64 (p2 : Int)] 46)
      rw [hW1] at this; simp [World.cell?, this]
    have t1 : W1.cell? ⟨W0.heap.size, 1, none⟩ = some (.int .i64 (p2 : Int)) := by
      have := heap_alloc_new W0 (.cells #[.int .i64 (p1 : Int), .int .i64 (p2 : Int)] 46)
      rw [hW1] at this; simp [World.cell?, this]
    clear q6 q7 q8 q9 D0 ho0 PL
    have q1' := D1.f.c0
    have q2' := D1.f.c1
    go_wp2_with fail
    have hs1 : W1.heap.size = W0.heap.size + 1 := by rw [← hW1]; simp
    clear hW1
    refine (rgive_any n (w.heap.size + 2) cap ao T (p1 : Int) (p2 : Int) (by omega) (by omega) (by omega) (by omega) W1 ho1 (by have := D1.ap.two; omega) hn).mono ?_
    rintro e w1 ⟨x1, rfl, ⟨ao1, cap1, rfl, ho2⟩, hb1⟩
    have D2 := D1.below hb1
    have htwo1 := D2.ap.two
    have hb1s := hb1.size
    have t2 := (hb1.cell (p := ⟨W0.heap.size, 0, none⟩) (by show W0.heap.size < _; omega)).trans t0
    have t3 := (hb1.cell (p := ⟨W0.heap.size, 1, none⟩) (by show W0.heap.size < _; omega)).trans t1
    obtain ⟨W2, hW2⟩ : ∃ W2, w1.alloc (.cells #[.int .i64 (n : Int), .slice ao1 (lst (giveT T n (p1 : Int) (p2 : Int)) n).length cap1] 27) = W2 := ⟨_, rfl⟩
    have hbW2 : Below w1.heap.size w1 W2 := by rw [← hW2]; exact (Below.refl _ _).alloc (Nat.le_refl _) _
    have N1 := BF.new (w := w) (wr := w1) (n := n) (sl := .slice ao1 (lst (giveT T n (p1 : Int) (p2 : Int)) n).length cap1) htwo1
    rw [hW2] at N1
    have D3 := D2.below hbW2
    have ho3 := own_below ho2 hbW2
    have t4 := (hbW2.cell (p := ⟨W0.heap.size, 0, none⟩) (by show W0.heap.size < _; omega)).trans t2
    have t5 := (hbW2.cell (p := ⟨W0.heap.size, 1, none⟩) (by show W0.heap.size < _; omega)).trans t3
    clear t0 t1 t2 t3 D1 D2 ho1 ho2 hb1 q1 q2 q3 q4 q5 q1' q2' k1 k2
    go_wp2_with fail
    clear hW2 hbW2
    have G2 : NS w W2 w1.heap.size W0.heap.size 0 1 n (.slice ao1 (lst (giveT T n (p1 : Int) (p2 : Int)) n).length cap1) (p1 : Int) (p2 : Int) := ⟨N1, t4, t5⟩
    have D4 := D3.drew
    have ho4 := (Kp.drew w W2).row ho3
    have hnb1 : w1.heap.size ≠ u.heap.size + 1 + 1 := by omega
    have hnb2 : W0.heap.size ≠ u.heap.size + 1 + 1 := by omega
    have hxb : w.heap.size + 2 ≤ W0.heap.size := by omega
    have GV := D4.giveT (p1 : Int) (p2 : Int) (by omega) (by omega) (by omega) (by omega)
    clear D3 N1 ho3 t4 t5
    generalize giveT T n (p1 : Int) (p2 : Int) = U at *
    generalize giveE T n (p1 : Int) (p2 : Int) = E at *
    go_region_held3 (fun w9 => w9.cell? ⟨w1.heap.size, 0, none⟩ = some (.int .i64 (n : Int)) ∧ w9.cell? ⟨w1.heap.size, 1, none⟩ = some (.slice ao1 (lst U n).length cap1) ∧ w9.cell? ⟨W0.heap.size, 0, none⟩ = some (.int .i64 (p1 : Int)) ∧ w9.cell? ⟨W0.heap.size, 1, none⟩ = some (.int .i64 (p2 : Int)))
      ((refine NS.all (w := w) ?_; repeat (first | assumption | (refine NS.drew ?_) | (refine NS.set ?_ hnb1 hnb2 _))))
      (first | (go_at_call 21; (with_reducible refine GV.mono ?_); rintro e w3 ⟨rfl, D5, K5⟩; have G5 : NS w w3 w1.heap.size W0.heap.size 0 1 n (.slice ao1 (lst U n).length cap1) (p1 : Int) (p2 : Int) := ⟨G2.drew.f.kp (Kp.of_turn K5), cell_turn K5 G2.drew.a hxb, cell_turn K5 G2.drew.b hxb⟩; have ho5 := (Kp.of_turn K5).row ho4; have q6 := D5.r.c0; have q7 := D5.r.c1; have q8 := D5.r.f0 0; have q9 := D5.r.f0 1))
    have x1 := Lib.hid (D5.r.set (m := n) (sl2 := .slice ao1 (lst U n).length cap1)).c0
    have x2 := Lib.hid (D5.r.set (m := n) (sl2 := .slice ao1 (lst U n).length cap1)).c1
    clear q6 q7 q8 q9
    go_wp2_with fail
    exact bodyPost_ret (v := .tuple #[.agg #[.int .i64 (n : Int), .slice ao1 (lst U n).length cap1], .slice (some ⟨gb, 0, none⟩) lq cap2, .bool true]) (by simp [results, Try.results10, go_sem, x1.out, x2.out]) rfl (done_end D5 ho5 hbd (by omega))
end Go.Proofs.Ytdjpanmokojpdaa.Frm
