/-
  The deeds of kind 1: TakeMany. Conditions: none.
-/
import Derived.Test.YtdjpanmokojpdaaFDo0
namespace Go.Proofs.Ytdjpanmokojpdaa.Frm
open Fld
open Go.ChangeShapes Go.WideShapes Go.ChangeAt Go.RowKit
set_option maxHeartbeats 2000000
set_option maxRecDepth 100000
theorem BF.other {w wr : World} {b c n o : Nat} {sl : Value} (h : BF w wr b n sl) (hne : b ≠ c) (u : Value) : BF w (wr.setCell ⟨c, o, none⟩ u) b n sl := ⟨(Below.heap_setCell _ _ _ _ hne).trans h.bk, h.le⟩
theorem BD.other {w wr : World} {b c o : Nat} {K A B : Int} (h : BD w wr b K A B) (hne : b ≠ c) (u : Value) : BD w (wr.setCell ⟨c, o, none⟩ u) b K A B := ⟨(Below.heap_setCell _ _ _ _ hne).trans h.bk, h.le⟩
theorem DS.setN {w u wr : World} {n b m k : Nat} {T : Nat → Bool} {v sl sl2 sl3 : Value} {l : List (Nat × Nat)} {K A B : Int} (h : DS w u n T v l sl K A B wr) (hb : BF w wr b m sl2) (hne : u.heap.size + 1 + 1 < b) : DS w u n T v l sl K A B ((wr.setCell ⟨b, 0, none⟩ (.int .i64 (k : Int))).setCell ⟨b, 1, none⟩ sl3) :=
  ⟨laid_ap h.ap hb, (h.f.other (by omega) _).other (by omega) _, (h.d.other (by omega) _).other (by omega) _, (h.r.other (by omega) _).other (by omega) _, (h.k.set (by omega) _).set (by omega) _⟩
theorem does1 {w u : World} {n : Nat} {T : Nat → Bool} {v x : Value} {l : List (Nat × Nat)} (h : PlIn w n T v l x u) (hn : n ≤ 65536) (hl : l.length ≤ 100) (A B : Int) (hA1 : A ≤ 9223372036854775807) :
    Calls Try.prog 10 #[.pointer (some ⟨w.heap.size + 1, 0, none⟩), x, v, .agg #[.int .i64 1, .int .i64 A, .int .i64 B]] u (Done w u n l) := by
  obtain ⟨hap, ⟨ao, cap, rfl, ho⟩, hbd⟩ := h
  obtain ⟨ao2, cap2, rfl⟩ := own_shape hap.own
  obtain ⟨i0, hi, hz0, hz1, hz2⟩ := info_parts infoT
  have htwo := hap.two
  have D0 := DS.start hap (.slice ao (lst T n).length cap) 1 A B
  obtain ⟨W0, hW0⟩ : ∃ W0, ((u.alloc (.cells #[.int .i64 (n : Int), .slice ao (lst T n).length cap] 27)).alloc (.cells #[.int .i64 1, .int .i64 A, .int .i64 B] 33)).alloc (.cells #[.int .i64 0, .slice none 0 0] 27) = W0 := ⟨_, rfl⟩
  rw [hW0] at D0
  have ho0 : OwnI W0 (w.heap.size + 2) ao cap (lst T n) := by rw [← hW0]; exact ((ho.alloc _).alloc _).alloc _
  have hsz : u.heap.size ≤ W0.heap.size := by rw [← hW0]; simp; omega
  have hsz3 : u.heap.size + 3 ≤ W0.heap.size := by rw [← hW0]; simp
  have RR := rrun_any A
  have q1 := D0.f.c0
  have q2 := D0.f.c1
  have q3 := D0.d.c0
  have q4 := D0.d.c1
  have q5 := D0.d.c2
  have q6 := D0.r.c0
  have q7 := D0.r.c1
  have q8 := D0.r.f0 0
  have q9 := D0.r.f0 1
  go_enter Try.func10, Try.ntmps10
  go_wp2_with (go_at_call 24; refine (RR _).mono ?_; rintro e w' ⟨rfl, rfl⟩)
  clear hW0
  refine (rtake_any n (w.heap.size + 2) cap ao T A W0 ho0 (by omega) hn).mono ?_
  rintro e w1 ⟨x1, rfl, ⟨ao1, cap1, rfl, ho1⟩, hb1⟩
  have D1 := D0.below hb1
  have htwo1 := D1.ap.two
  obtain ⟨W2, hW2⟩ : ∃ W2, w1.alloc (.cells #[.int .i64 (n : Int), .slice ao1 (lst (takeT T n A) n).length cap1] 27) = W2 := ⟨_, rfl⟩
  have N1 := BF.new (w := w) (wr := w1) (n := n) (sl := .slice ao1 (lst (takeT T n A) n).length cap1) htwo1
  have D2 := D1.below ((Below.refl _ _).alloc (Nat.le_refl _) (.cells #[.int .i64 (n : Int), .slice ao1 (lst (takeT T n A) n).length cap1] 27))
  have ho2 : OwnI (w1.alloc (.cells #[.int .i64 (n : Int), .slice ao1 (lst (takeT T n A) n).length cap1] 27)) (w.heap.size + 2) ao1 cap1 (lst (takeT T n A) n) := ho1.alloc _
  have hoo2 : OwnI (w1.alloc (.cells #[.int .i64 (n : Int), .slice ao1 (lst (takeT T n A) n).length cap1] 27)) (w.heap.size + 2) ao cap (lst T n) := (own_below ho0 hb1).alloc _
  rw [hW2] at N1 D2 ho2 hoo2
  have hb1s := hb1.size
  clear q1 q2 q3 q4 q5 q6 q7 q8 q9 D0 D1 ho0 ho1 hb1 RR
  have q1 := D2.f.c0
  have q2 := D2.f.c1
  have q3 := D2.d.c0
  have q4 := D2.d.c1
  have q5 := D2.d.c2
  have q6 := D2.r.c0
  have q7 := D2.r.c1
  have q8 := D2.r.f0 0
  have q9 := D2.r.f0 1
  have q10 := N1.c0
  have q11 := N1.c1
  have hnb : u.heap.size + 1 + 1 < w1.heap.size := by
    have e1 := (Array.getElem?_eq_some_iff.1 D2.r.bk).1
    have e2 : W2.heap.size = w1.heap.size + 1 := by rw [← hW2]; simp
    have e3 := hsz3
    have e4 := hb1s
    omega
  go_wp2_with fail
  clear hW2
  refine (rmany_any n (w.heap.size + 2) cap ao T A hA1 W2 hoo2 (by have := D2.ap.two; omega) hn).mono ?_
  rintro e w2 ⟨x2, rfl, ⟨ao4, cap4, rfl, ho4⟩, hb2⟩
  have D5 := D2.below hb2
  have N5 := N1.kp (Kp.of_below (w := w) hb2)
  clear q1 q2 q3 q4 q5 q6 q7 q8 q9 q10 q11 D2 N1 ho2 hb2 hoo2
  obtain ⟨W3, hW3⟩ : ∃ W3, (w2.setCell ⟨w1.heap.size, 0, none⟩ (.int .i64 (n : Int))).setCell ⟨w1.heap.size, 1, none⟩ (.slice ao4 (lst (manyT T n A) n).length cap4) = W3 := ⟨_, rfl⟩
  have D6 := D5.setN (k := n) (sl3 := .slice ao4 (lst (manyT T n A) n).length cap4) N5 hnb
  have N6 := N5.set (m := n) (sl2 := .slice ao4 (lst (manyT T n A) n).length cap4)
  have ho6 := laid_row (k := n) (sl2 := .slice ao4 (lst (manyT T n A) n).length cap4) ho4 N5
  rw [hW3] at D6 N6 ho6
  have q21 := N5.c0
  have q22 := N5.c1
  have q23 := N5.f0 0
  have q24 := N5.f0 1
  clear N5 D5 ho4
  have q1 := D6.f.c0
  have q2 := D6.f.c1
  have q3 := D6.d.c0
  have q4 := D6.d.c1
  have q5 := D6.d.c2
  have q6 := D6.r.c0
  have q7 := D6.r.c1
  have q8 := D6.r.f0 0
  have q9 := D6.r.f0 1
  have q10 := N6.c0
  have q11 := N6.c1
  go_wp2_with fail
  clear hW3 q21 q22 q23 q24
  refine (fmany_any A W3 D6.ap.fr.fr).mono ?_
  rintro e w3 ⟨rfl, hf3, ht3⟩
  have A3 := D6.ap.turn hf3 ht3
  have K3 := Kp.of_turn (w := w) ht3
  have D3 := D6.kp K3 A3
  have N3 := N6.kp K3
  have ho3 := K3.row ho6
  have htwo3 := A3.two
  clear q1 q2 q3 q4 q5 q6 q7 q8 q9 q10 q11 D6 N6 ho6 hf3 ht3 K3
  rcases many_or T n A with ⟨hE, i, q, hI, rfl, hiq⟩ | hE
  · generalize manyT T n _ = U at *
    have q1 := D3.f.c0
    have q2 := D3.f.c1
    have q3 := D3.d.c0
    have q4 := D3.d.c1
    have q5 := D3.d.c2
    have q6 := D3.r.c0
    have q7 := D3.r.c1
    have q8 := D3.r.f0 0
    have q9 := D3.r.f0 1
    have q10 := N3.c0
    have q11 := N3.c1
    go_wp2_with (at_builtin; refine wpList_append_own_at _ rfl _ _ 29 rfl (w.heap.size + 2) 46 i0 (.agg #[.int .i64 0, .int .i64 0]) 2 16 Try.underlying29 hi hz0 hz1 hz2 rfl (by decide) (.slice ao2 l.length cap2) _ _ rfl (A3.own.alloc _) ⟨w3.heap.size, 0, none⟩ 1 1 [.int .i64 (i : Int), .int .i64 (q : Int)] rfl rfl (cell_two_new _ _ _ _) (two_oneT _ _) (by unfold maxLen; omega) (by omega) (by simp; omega) ?_; intro v1 w4 ho5 hg5 _ _; have A4 := A3.add hg5 ho5; have K4 := (Kp.alloc w w3 _).trans (Kp.of_grow (A3.below ((Below.refl _ _).alloc (Nat.le_refl _) _)) hg5); have D4 := D3.kp K4 A4; have N4 := N3.kp K4; have ho4 := K4.row ho3; clear q1 q2 q3 q4 q5 q6 q7 q8 q9 q10 q11 ho5 hg5; have q1 := D4.f.c0; have q2 := D4.f.c1; have q3 := D4.d.c0; have q4 := D4.d.c1; have q5 := D4.d.c2; have q6 := D4.r.c0; have q7 := D4.r.c1; have q8 := D4.r.f0 0; have q9 := D4.r.f0 1; have q10 := N4.c0; have q11 := N4.c1)
    have x1 := (D4.r.set (m := n) (sl2 := .slice ao4 (lst U n).length cap4)).c0
    have x2 := (D4.r.set (m := n) (sl2 := .slice ao4 (lst U n).length cap4)).c1
    refine bodyPost_ret (v := .tuple #[.agg #[.int .i64 (n : Int), .slice ao4 (lst U n).length cap4], v1, .bool true]) (by simp [results, Try.results10, go_sem, x1, x2]) rfl (done_end D4 ho4 ?_ (by simp))
    intro p hp
    rcases List.mem_append.1 hp with hp | hp
    · exact hbd p hp
    · simp at hp; subst hp; show i + q ≤ 65536; omega
  · generalize manyT T n _ = U at *
    have q1 := D3.f.c0
    have q2 := D3.f.c1
    have q3 := D3.d.c0
    have q4 := D3.d.c1
    have q5 := D3.d.c2
    have q6 := D3.r.c0
    have q7 := D3.r.c1
    have q8 := D3.r.f0 0
    have q9 := D3.r.f0 1
    have q10 := N3.c0
    have q11 := N3.c1
    go_wp2_with fail
    have x1 := (D3.r.set (m := n) (sl2 := .slice ao4 (lst U n).length cap4)).c0
    have x2 := (D3.r.set (m := n) (sl2 := .slice ao4 (lst U n).length cap4)).c1
    exact bodyPost_ret (v := .tuple #[.agg #[.int .i64 (n : Int), .slice ao4 (lst U n).length cap4], .slice ao2 l.length cap2, .bool true]) (by simp [results, Try.results10, go_sem, x1, x2]) rfl (done_end D3 ho3 hbd (by omega))
end Go.Proofs.Ytdjpanmokojpdaa.Frm
