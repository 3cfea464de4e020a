/-
  The deeds of kind 2: Give. Conditions: none.
-/
import Derived.Test.YtdjpanmokojpdaaFDo1
namespace Go.Proofs.Ytdjpanmokojpdaa.Frm
open Fld
open Go.ChangeShapes Go.WideShapes Go.ChangeAt Go.RowKit
set_option maxHeartbeats 2000000
set_option maxRecDepth 100000
theorem DS.give {w u wr : World} {n : Nat} {T : Nat → Bool} {v sl : Value} {l : List (Nat × Nat)} {K A B : Int} (h : DS w u n T v l sl K A B wr) (f k : Int) (f0 : -9223372036854775808 ≤ f) (f1 : f ≤ 9223372036854775807) (k0 : -9223372036854775808 ≤ k) (k1 : k ≤ 9223372036854775807) :
    Calls Try.prog 21 #[.pointer (some ⟨w.heap.size + 1, 0, none⟩), .int .i64 f, .int .i64 k] wr fun e w' => e = .returned (.int .i64 (giveE T n f k)) ∧ DS w u n (giveT T n f k) v l sl K A B w' ∧ Kp w wr w' :=
  (give_any f k f0 f1 k0 k1 wr h.ap.fr.fr).mono fun _ _ ⟨a, b, c⟩ => ⟨a, h.kp (Kp.of_turn c) (h.ap.turn b c), Kp.of_turn c⟩
theorem DS.drew {w u wr : World} {n : Nat} {T : Nat → Bool} {v sl : Value} {l : List (Nat × Nat)} {K A B : Int} (h : DS w u n T v l sl K A B wr) : DS w u n T v l sl K A B wr.drew := h.below (below_drewN (Below.refl _ _) 1)
/-- What a region reads: the box of the next frames, and a deed's (or a run's) two numbers. -/
structure NS (w wr : World) (nb db o1 o2 n : Nat) (sl : Value) (A B : Int) : Prop where
  f : BF w wr nb n sl
  a : wr.cell? ⟨db, o1, none⟩ = some (.int .i64 A)
  b : wr.cell? ⟨db, o2, none⟩ = some (.int .i64 B)
theorem NS.all {w wr : World} {nb db o1 o2 n : Nat} {sl : Value} {A B : Int} (h : NS w wr nb db o1 o2 n sl A B) : wr.cell? ⟨nb, 0, none⟩ = some (.int .i64 (n : Int)) ∧ wr.cell? ⟨nb, 1, none⟩ = some sl ∧ wr.cell? ⟨db, o1, none⟩ = some (.int .i64 A) ∧ wr.cell? ⟨db, o2, none⟩ = some (.int .i64 B) := ⟨h.f.c0, h.f.c1, h.a, h.b⟩
theorem NS.drew {w wr : World} {nb db o1 o2 n : Nat} {sl : Value} {A B : Int} (h : NS w wr nb db o1 o2 n sl A B) : NS w wr.drew nb db o1 o2 n sl A B := ⟨h.f.kp (Kp.drew w wr), h.a, h.b⟩
theorem NS.set {w wr : World} {nb db o1 o2 n c o : Nat} {sl : Value} {A B : Int} (h : NS w wr nb db o1 o2 n sl A B) (h1 : nb ≠ c) (h2 : db ≠ c) (y : Value) : NS w (wr.setCell ⟨c, o, none⟩ y) nb db o1 o2 n sl A B :=
  ⟨h.f.other h1 y, (World.cell?_of_block (Below.heap_setCell _ _ _ _ (by show db ≠ c; exact h2))).trans h.a, (World.cell?_of_block (Below.heap_setCell _ _ _ _ (by show db ≠ c; exact h2))).trans h.b⟩
theorem does2 {w u : World} {n : Nat} {T : Nat → Bool} {v x : Value} {l : List (Nat × Nat)} (h : PlIn w n T v l x u) (hn : n ≤ 65536) (A B : Int) (A0 : -9223372036854775808 ≤ A) (A1 : A ≤ 9223372036854775807) (B0 : -9223372036854775808 ≤ B) (B1 : B ≤ 9223372036854775807) :
    Calls Try.prog 10 #[.pointer (some ⟨w.heap.size + 1, 0, none⟩), x, v, .agg #[.int .i64 2, .int .i64 A, .int .i64 B]] u (Done w u n l) := by
  obtain ⟨hap, ⟨ao, cap, rfl, ho⟩, hbd⟩ := h
  obtain ⟨ao2, cap2, rfl⟩ := own_shape hap.own
  have htwo := hap.two
  have D0 := DS.start hap (.slice ao (lst T n).length cap) 2 A B
  obtain ⟨W0, hW0⟩ : ∃ W0, ((u.alloc (.cells #[.int .i64 (n : Int), .slice ao (lst T n).length cap] 27)).alloc (.cells #[.int .i64 2, .int .i64 A, .int .i64 B] 33)).alloc (.cells #[.int .i64 0, .slice none 0 0] 27) = W0 := ⟨_, rfl⟩
  rw [hW0] at D0
  have ho0 : OwnI W0 (w.heap.size + 2) ao cap (lst T n) := by rw [← hW0]; exact ((ho.alloc _).alloc _).alloc _
  have hsz3 : u.heap.size + 3 ≤ W0.heap.size := by rw [← hW0]; simp
  have q1 := D0.f.c0
  have q2 := D0.f.c1
  have q3 := D0.d.c0
  have q4 := D0.d.c1
  have q5 := D0.d.c2
  have q6 := D0.r.c0
  have q7 := D0.r.c1
  have q8 := D0.r.f0 0
  have q9 := D0.r.f0 1
  go_enter Try.func10, Try.ntmps10
  go_wp2_with fail
  clear hW0
  refine (rgive_any n (w.heap.size + 2) cap ao T B A B0 B1 A0 A1 W0 ho0 (by omega) hn).mono ?_
  rintro e w1 ⟨x1, rfl, ⟨ao1, cap1, rfl, ho1⟩, hb1⟩
  have D1 := D0.below hb1
  have htwo1 := D1.ap.two
  have hb1s := hb1.size
  obtain ⟨W2, hW2⟩ : ∃ W2, w1.alloc (.cells #[.int .i64 (n : Int), .slice ao1 (lst (giveT T n B A) n).length cap1] 27) = W2 := ⟨_, rfl⟩
  have N1 := BF.new (w := w) (wr := w1) (n := n) (sl := .slice ao1 (lst (giveT T n B A) n).length cap1) htwo1
  have D2 := D1.below ((Below.refl _ _).alloc (Nat.le_refl _) (.cells #[.int .i64 (n : Int), .slice ao1 (lst (giveT T n B A) n).length cap1] 27))
  have ho2 : OwnI (w1.alloc (.cells #[.int .i64 (n : Int), .slice ao1 (lst (giveT T n B A) n).length cap1] 27)) (w.heap.size + 2) ao1 cap1 (lst (giveT T n B A) n) := ho1.alloc _
  rw [hW2] at N1 D2 ho2
  clear q1 q2 q3 q4 q5 q6 q7 q8 q9 D0 D1 ho0 ho1 hb1
  go_wp2_with fail
  clear hW2
  have G2 : NS w W2 w1.heap.size (u.heap.size + 1) 1 2 n (.slice ao1 (lst (giveT T n B A) n).length cap1) A B := ⟨N1, D2.d.c1, D2.d.c2⟩
  have D3 := D2.drew
  have ho3 := (Kp.drew w W2).row ho2
  have hnb1 : w1.heap.size ≠ u.heap.size + 1 + 1 := by omega
  have hnb2 : u.heap.size + 1 ≠ u.heap.size + 1 + 1 := by omega
  have GV := D3.give B A B0 B1 A0 A1
  clear D2 N1 ho2
  generalize giveT T n B A = U at *
  generalize giveE T n B A = E at *
  go_region_held3 (fun w9 => w9.cell? ⟨w1.heap.size, 0, none⟩ = some (.int .i64 (n : Int)) ∧ w9.cell? ⟨w1.heap.size, 1, none⟩ = some (.slice ao1 (lst U n).length cap1) ∧ w9.cell? ⟨u.heap.size + 1, 1, none⟩ = some (.int .i64 A) ∧ w9.cell? ⟨u.heap.size + 1, 2, none⟩ = some (.int .i64 B))
    ((refine NS.all (w := w) ?_; repeat (first | assumption | (refine NS.drew ?_) | (refine NS.set ?_ hnb1 hnb2 _))))
    (first | (go_at_call 21; (with_reducible refine GV.mono ?_); rintro e w3 ⟨rfl, D4, K4⟩; have G4 : NS w w3 w1.heap.size (u.heap.size + 1) 1 2 n (.slice ao1 (lst U n).length cap1) A B := ⟨G2.drew.f.kp K4, D4.d.c1, D4.d.c2⟩; have ho4 := K4.row ho3; have q6 := D4.r.c0; have q7 := D4.r.c1; have q8 := D4.r.f0 0; have q9 := D4.r.f0 1))
  have x1 := Lib.hid (D4.r.set (m := n) (sl2 := .slice ao1 (lst U n).length cap1)).c0
  have x2 := Lib.hid (D4.r.set (m := n) (sl2 := .slice ao1 (lst U n).length cap1)).c1
  clear q6 q7 q8 q9
  go_wp2_with fail
  exact bodyPost_ret (v := .tuple #[.agg #[.int .i64 (n : Int), .slice ao1 (lst U n).length cap1], .slice ao2 l.length cap2, .bool true]) (by simp [results, Try.results10, go_sem, x1.out, x2.out]) rfl (done_end D4 ho4 hbd (by omega))
end Go.Proofs.Ytdjpanmokojpdaa.Frm
