/-
  Frames that a law has made itself, whatever is taken. Conditions: none.
-/
import Derived.Test.YtdjpanmokojpdaaFRef
namespace Go.Proofs.Ytdjpanmokojpdaa.Frm
open Fld
open Go.ChangeShapes Go.WideShapes Go.ChangeAt Go.RowKit
set_option maxHeartbeats 1000000
/-- Frames made behind w, in the world wr; what was in w stays. -/
structure FrIn (w : World) (n : Nat) (T : Nat → Bool) (wr : World) : Prop where
  fr : FrAt wr (w.heap.size + 1) w.heap.size n T
  bel : Below w.heap.size w wr
theorem FrIn.turn {w wr w' : World} {n : Nat} {T U : Nat → Bool} (h : FrIn w n T wr) (hf : FrAt w' (w.heap.size + 1) w.heap.size n U) (ht : Turn wr w' (w.heap.size + 1) w.heap.size) : FrIn w n U w' :=
  ⟨hf, h.bel.trans (ht.to_below (by omega) (Nat.le_refl _) h.bel.size)⟩
theorem FrIn.below {w wr w' : World} {n : Nat} {T : Nat → Bool} (h : FrIn w n T wr) (hb : Below wr.heap.size wr w') : FrIn w n T w' :=
  ⟨h.fr.below hb, h.bel.trans (hb.mono h.bel.size)⟩
theorem FrIn.drewN {w wr : World} {n : Nat} {T : Nat → Bool} (h : FrIn w n T wr) (m : Nat) : FrIn w n T (wr.drewN m) := h.below (below_drewN (Below.refl _ _) m)
theorem fnew_in (n : Int) (w : World) :
    Calls Try.prog 8 #[.int .i64 n] w fun e w' => e = .returned (.pointer (some ⟨w.heap.size + 1, 0, none⟩)) ∧ FrIn w (newN n) (fun _ => false) w' :=
  (new_any n w).mono fun _ _ ⟨a, b, c⟩ => ⟨a, b, c⟩
theorem take_in {w wr : World} {n : Nat} {T : Nat → Bool} (h : FrIn w n T wr) (s : Int) :
    Calls Try.prog 19 #[.pointer (some ⟨w.heap.size + 1, 0, none⟩), .int .i64 s] wr fun e w' => e = .returned (.tuple #[.int .i64 (takeI T n s), .int .i64 (takeE T n s)]) ∧ FrIn w n (takeT T n s) w' :=
  (ftake_any s wr h.fr).mono fun _ _ ⟨a, b, c⟩ => ⟨a, h.turn b c⟩
theorem many_in {w wr : World} {n : Nat} {T : Nat → Bool} (h : FrIn w n T wr) (k : Int) :
    Calls Try.prog 22 #[.pointer (some ⟨w.heap.size + 1, 0, none⟩), .int .i64 k] wr fun e w' => e = .returned (.tuple #[.int .i64 (manyI T n k), .int .i64 (manyE T n k)]) ∧ FrIn w n (manyT T n k) w' :=
  (fmany_any k wr h.fr).mono fun _ _ ⟨a, b, c⟩ => ⟨a, h.turn b c⟩
theorem give_in {w wr : World} {n : Nat} {T : Nat → Bool} (h : FrIn w n T wr) (f k : Int) (f0 : -9223372036854775808 ≤ f) (f1 : f ≤ 9223372036854775807) (k0 : -9223372036854775808 ≤ k) (k1 : k ≤ 9223372036854775807) :
    Calls Try.prog 21 #[.pointer (some ⟨w.heap.size + 1, 0, none⟩), .int .i64 f, .int .i64 k] wr fun e w' => e = .returned (.int .i64 (giveE T n f k)) ∧ FrIn w n (giveT T n f k) w' :=
  (give_any f k f0 f1 k0 k1 wr h.fr).mono fun _ _ ⟨a, b, c⟩ => ⟨a, h.turn b c⟩
theorem longest_in {w wr : World} {n : Nat} {T : Nat → Bool} (h : FrIn w n T wr) :
    Calls Try.prog 13 #[.pointer (some ⟨w.heap.size + 1, 0, none⟩)] wr fun e w' => e = .returned (.int .i64 (lng T n : Int)) ∧ FrIn w n T w' :=
  (longest_any wr h.fr).mono fun _ _ ⟨a, b⟩ => ⟨a, h.below b⟩
theorem is_in {w wr : World} {n : Nat} {T : Nat → Bool} (h : FrIn w n T wr) (i : Int) :
    Calls Try.prog 23 #[.pointer (some ⟨w.heap.size + 1, 0, none⟩), .int .i64 i] wr fun e w' => e = .returned (.bool (isB T n i)) ∧ wr = w' := is_any i wr h.fr
theorem free_in {w wr : World} {n : Nat} {T : Nat → Bool} (h : FrIn w n T wr) :
    Calls Try.prog 11 #[.pointer (some ⟨w.heap.size + 1, 0, none⟩)] wr fun e w' => e = .returned (.int .i64 (cnt T n : Int)) ∧ wr = w' := free_any wr h.fr
theorem lives_in {w wr : World} {n : Nat} {T : Nat → Bool} (h : FrIn w n T wr) :
    Calls Try.prog 17 #[] wr fun e w' => e = .returned (.bool true) ∧ FrIn w n T w' :=
  (flives_any wr).mono fun _ _ ⟨a, b⟩ => ⟨a, h.below b⟩
theorem cell_lt {w : World} {p : Addr} {v : Value} (h : w.cell? p = some v) : p.block < w.heap.size := by
  apply Classical.byContradiction
  intro hn
  have : w.heap[p.block]? = none := Array.getElem?_eq_none (by omega)
  simp [World.cell?, this] at h
/-! ### What follows -/
theorem newN_pl (n : Nat) (h : n ≤ 65536) : newN (n : Int) = n := by unfold newN; omega
theorem many_none {T : Nat → Bool} {n k : Nat} (h : lng T n < k) : pick T n k 1 = none := by
  cases e : pick T n k 1 with
  | none => rfl
  | some i =>
    obtain ⟨_, h2, h3⟩ := okAt_iff.1 (pick_some e).1
    have := lng_max h2 h3
    omega
theorem many_some {T : Nat → Bool} {n k : Nat} (h : k ≤ lng T n) : ∃ i, pick T n k 1 = some i ∧ i + k ≤ n := by
  cases e : pick T n k 1 with
  | some i => exact ⟨i, rfl, (okAt_iff.1 (pick_some e).1).2.1⟩
  | none =>
    obtain ⟨i, h1, h2⟩ := lng_is T n
    have := pick_none e i
    rw [okAt_iff.2 ⟨Nat.mod_one _, by omega, allB_mem.2 fun q a b => allB_mem.1 h2 q a (by omega)⟩] at this
    cases this
theorem isB_in {T : Nat → Bool} {n : Nat} {j : Nat} (h : j < n) : isB T n (j : Int) = T j := by simp [isB, h]
end Go.Proofs.Ytdjpanmokojpdaa.Frm
