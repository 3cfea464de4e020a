/-
  The other deeds: Is; all deeds. Conditions: none.
-/
import Derived.Test.YtdjpanmokojpdaaFDo3
namespace Go.Proofs.Ytdjpanmokojpdaa.Frm
open Fld
open Go.ChangeShapes Go.WideShapes Go.ChangeAt Go.RowKit
set_option maxHeartbeats 2000000
set_option maxRecDepth 100000
theorem mem_is (T : Nat → Bool) (n : Nat) (i : Int) : decide (i ∈ lst T n) = isB T n i := by
  rw [Bool.eq_iff_iff, decide_eq_true_iff, lst_mem]
  simp [isB, and_assoc]
theorem doesd {w u : World} {n : Nat} {T : Nat → Bool} {v x : Value} {l : List (Nat × Nat)} (h : PlIn w n T v l x u) (hn : n ≤ 65536) (K A B : Int) (h0 : (K == 0) = false) (h1 : (K == 1) = false) (h2 : (K == 2) = false) (h3 : (K == 3) = false) :
    Calls Try.prog 10 #[.pointer (some ⟨w.heap.size + 1, 0, none⟩), x, v, .agg #[.int .i64 K, .int .i64 A, .int .i64 B]] u (Done w u n l) := by
  obtain ⟨hap, ⟨ao, cap, rfl, ho⟩, hbd⟩ := h
  obtain ⟨ao2, cap2, rfl⟩ := own_shape hap.own
  have htwo := hap.two
  have D0 := DS.start hap (.slice ao (lst T n).length cap) K A B
  obtain ⟨W0, hW0⟩ : ∃ W0, ((u.alloc (.cells #[.int .i64 (n : Int), .slice ao (lst T n).length cap] 27)).alloc (.cells #[.int .i64 K, .int .i64 A, .int .i64 B] 33)).alloc (.cells #[.int .i64 0, .slice none 0 0] 27) = W0 := ⟨_, rfl⟩
  rw [hW0] at D0
  have ho0 : OwnI W0 (w.heap.size + 2) ao cap (lst T n) := by rw [← hW0]; exact ((ho.alloc _).alloc _).alloc _
  have hll : (lst T n).length ≤ 65536 := by have := lst_length T n; omega
  have q1 := D0.f.c0
  have q2 := D0.f.c1
  have q3 := D0.d.c0
  have q4 := D0.d.c1
  have q5 := D0.d.c2
  have q6 := D0.r.c0
  have q7 := D0.r.c1
  have q8 := D0.r.f0 0
  have q9 := D0.r.f0 1
  go_enter Try.func10, Try.ntmps10
  go_wp2_with fail
  clear hW0
  have D1 := D0.drew
  have ho1 := (Kp.drew w W0).row ho0
  have G1 : NS w W0 u.heap.size (u.heap.size + 1) 1 2 n (.slice ao (lst T n).length cap) A B := ⟨D0.f, D0.d.c1, D0.d.c2⟩
  have IS := is_any A W0.drew D1.ap.fr.fr
  have RI := ris_any n (w.heap.size + 2) cap ao (lst T n) A W0.drew ho1 (by omega)
  rw [mem_is] at RI
  have hnb1 : u.heap.size ≠ u.heap.size + 1 + 1 := by omega
  have hnb2 : u.heap.size + 1 ≠ u.heap.size + 1 + 1 := by omega
  clear q1 q2 q3 q4 q5 q6 q7 q8 q9 D0 ho0 h0 h1 h2 h3
  generalize isB T n A = E at *
  go_region_held3 (fun w9 => w9.cell? ⟨u.heap.size, 0, none⟩ = some (.int .i64 (n : Int)) ∧ w9.cell? ⟨u.heap.size, 1, none⟩ = some (.slice ao (lst T n).length cap) ∧ w9.cell? ⟨u.heap.size + 1, 1, none⟩ = some (.int .i64 A) ∧ w9.cell? ⟨u.heap.size + 1, 2, none⟩ = some (.int .i64 B))
    ((refine NS.all (w := w) ?_; repeat (first | assumption | (refine NS.drew ?_) | (refine NS.set ?_ hnb1 hnb2 _))))
    (first | (go_at_call 23; (with_reducible refine IS.mono ?_); rintro e w3 ⟨rfl, rfl⟩) | (go_at_call 28; (with_reducible refine RI.mono ?_); rintro e w3 ⟨rfl, hb5⟩; have D5 := D1.below hb5; have G5 : NS w w3 u.heap.size (u.heap.size + 1) 1 2 n (.slice ao (lst T n).length cap) A B := ⟨D5.f, D5.d.c1, D5.d.c2⟩; have ho5 := own_below ho1 hb5; have q6 := D5.r.c0; have q7 := D5.r.c1; have q8 := D5.r.f0 0; have q9 := D5.r.f0 1))
  have x1 := Lib.hid (D5.r.set (m := n) (sl2 := .slice ao (lst T n).length cap)).c0
  have x2 := Lib.hid (D5.r.set (m := n) (sl2 := .slice ao (lst T n).length cap)).c1
  clear q6 q7 q8 q9
  go_wp2_with fail
  exact bodyPost_ret (v := .tuple #[.agg #[.int .i64 (n : Int), .slice ao (lst T n).length cap], .slice ao2 l.length cap2, .bool true]) (by simp [results, Try.results10, go_sem, x1.out, x2.out]) rfl (done_end D5 ho5 hbd (by omega))
theorem does_any {w u : World} {n : Nat} {T : Nat → Bool} {v x : Value} {l : List (Nat × Nat)} (h : PlIn w n T v l x u) (hn : n ≤ 65536) (hl : l.length ≤ 100) (K A B : Int) (A0 : -9223372036854775808 ≤ A) (A1 : A ≤ 9223372036854775807) (B0 : -9223372036854775808 ≤ B) (B1 : B ≤ 9223372036854775807) :
    Calls Try.prog 10 #[.pointer (some ⟨w.heap.size + 1, 0, none⟩), x, v, .agg #[.int .i64 K, .int .i64 A, .int .i64 B]] u (Done w u n l) := by
  by_cases e0 : K = 0
  · subst e0; exact does0 h hn hl A B
  · by_cases e1 : K = 1
    · subst e1; exact does1 h hn hl A B A1
    · by_cases e2 : K = 2
      · subst e2; exact does2 h hn A B A0 A1 B0 B1
      · by_cases e3 : K = 3
        · subst e3; exact does3 h hn hl A B B0 B1
        · exact doesd h hn K A B (by simp [e0]) (by simp [e1]) (by simp [e2]) (by simp [e3])
end Go.Proofs.Ytdjpanmokojpdaa.Frm
