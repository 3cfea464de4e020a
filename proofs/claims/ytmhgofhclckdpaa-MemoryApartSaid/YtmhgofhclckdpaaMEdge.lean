/-
  A memory of no words beside two blocks of cells, and what the calls of a law do to them. Conditions: words are below 2 to the 64.
-/
import Derived.Test.YtmhgofhclckdpaaMRef
import Derived.Deep.RegionHeld3
namespace Go.Proofs.Ytmhgofhclckdpaa.Mem
open Go.ChangeShapes Go.WideShapes Go.ChangeAt Go.RowKit Go.Maps
set_option maxHeartbeats 400000
/-- Since W: a memory at sb with the bytes g; at rb and ab rows of cells. -/
structure EK (W w : World) (sb S : Nat) (g : Nat → Nat) (rb : Nat) (rc : Array Value) (rt : TypeId) (ab : Nat) (ac : Array Value) (at_ : TypeId) : Prop where
  has : Has W w sb S g
  r : w.heap[rb]? = some (.cells rc rt (0, 0))
  a : w.heap[ab]? = some (.cells ac at_ (0, 0))
  rs : rb ≠ sb
  as_ : ab ≠ sb
variable {W w w' : World} {sb S rb ab : Nat} {g g' : Nat → Nat} {rc ac : Array Value} {rt at_ : TypeId}
theorem EK.call (h : EK W w sb S g rb rc rt ab ac at_) (hb : Below w.heap.size w w') : EK W w' sb S g rb rc rt ab ac at_ :=
  ⟨h.has.call hb, (hb.block _ (lt_of_block h.r)).trans h.r, (hb.block _ (lt_of_block h.a)).trans h.a, h.rs, h.as_⟩
theorem EK.drewN (h : EK W w sb S g rb rc rt ab ac at_) (n : Nat) : EK W (w.drewN n) sb S g rb rc rt ab ac at_ := ⟨h.has.drewN n, h.r, h.a, h.rs, h.as_⟩
theorem EK.drew (h : EK W w sb S g rb rc rt ab ac at_) : EK W w.drew sb S g rb rc rt ab ac at_ := h.drewN 1
theorem EK.to {bm : Nat} (h : EK W w sb S g rb rc rt ab ac at_) (a : W.heap.size ≤ sb) (b : W.heap.size ≤ bm) (c : Below W.heap.size W w) (d : MemAt w sb bm S g) (k : MemTo w w' sb bm S g') : EK W w' sb S g' rb rc rt ab ac at_ := by
  have k' := k
  obtain ⟨_, _, _, t⟩ := k'
  have nb : ∀ {i : Nat} {c : Array Value} {e : TypeId}, w.heap[i]? = some (.cells c e (0, 0)) → i ≠ bm := fun {i c e} hi e1 => by
    obtain ⟨D, ⟨es, clock, hb2, _⟩, _⟩ := d.words
    rw [← e1, hi] at hb2; cases hb2
  exact ⟨Has.to a b c d k, (t.block _ (lt_of_block h.r) h.rs (nb h.r)).trans h.r, (t.block _ (lt_of_block h.a) h.as_ (nb h.a)).trans h.a, h.rs, h.as_⟩
theorem EK.byte (h : EK W w sb S g rb rc rt ab ac at_) (x : Int) (h0 : 0 ≤ x) (h1 : x < 18446744073709551616) :
    Calls Try.prog 11 #[.pointer (some ⟨sb, 0, none⟩), .int .u64 x] w fun e w' => e = .returned (.tuple #[.int .u8 (rdB S g x), .int .i64 (mayI S x 1 1)]) ∧ EK W w' sb S g rb rc rt ab ac at_ := by
  obtain ⟨bm, a1, b1, c1, d1⟩ := h.has
  refine (byte_any sb bm S g x w d1 h0 h1).mono ?_
  rintro e w' ⟨rfl, n, rfl⟩
  exact ⟨rfl, h.drewN n⟩
theorem EK.word (h : EK W w sb S g rb rc rt ab ac at_) (x : Int) (h0 : 0 ≤ x) (h1 : x < 18446744073709551616) :
    Calls Try.prog 10 #[.pointer (some ⟨sb, 0, none⟩), .int .u64 x] w fun e w' => e = .returned (.tuple #[.int .u64 (rdW S g x), .int .i64 (mayI S x 8 8)]) ∧ EK W w' sb S g rb rc rt ab ac at_ := by
  obtain ⟨bm, a1, b1, c1, d1⟩ := h.has
  refine (word_any sb bm S g x w d1 h0 h1).mono ?_
  rintro e w' ⟨rfl, rfl⟩
  exact ⟨rfl, h⟩
theorem EK.pair (h : EK W w sb S g rb rc rt ab ac at_) (x : Int) (h0 : 0 ≤ x) (h1 : x < 18446744073709551616) :
    Calls Try.prog 14 #[.pointer (some ⟨sb, 0, none⟩), .int .u64 x] w fun e w' => e = .returned (.tuple #[.int .u64 (rdP S g x 0), .int .u64 (rdP S g x 8), .int .i64 (mayI S x 16 16)]) ∧ EK W w' sb S g rb rc rt ab ac at_ := by
  obtain ⟨bm, a1, b1, c1, d1⟩ := h.has
  refine (pair_any sb bm S g x w d1 h0 h1).mono ?_
  rintro e w' ⟨rfl, n, rfl⟩
  exact ⟨rfl, h.drewN n⟩
theorem EK.clear (h : EK W w sb S g rb rc rt ab ac at_) (x n : Int) (h0 : 0 ≤ x) (h1 : x < 18446744073709551616) (n0 : 0 ≤ n) (n1 : n < 18446744073709551616) :
    Calls Try.prog 16 #[.pointer (some ⟨sb, 0, none⟩), .int .u64 x, .int .u64 n] w fun e w' => e = .returned (.int .i64 (mayI S x 1 n)) ∧ EK W w' sb S (clS S g x n) rb rc rt ab ac at_ := by
  obtain ⟨bm, a1, b1, c1, d1⟩ := h.has
  refine (clear_any sb bm S g x n w d1 h0 h1 n0 n1).mono ?_
  rintro e w' ⟨rfl, M⟩
  exact ⟨rfl, h.to a1 b1 c1 d1 M⟩
theorem EK.copy (h : EK W w sb S g rb rc rt ab ac at_) (x t n : Int) (h0 : 0 ≤ x) (h1 : x < 18446744073709551616) (t0 : 0 ≤ t) (t1 : t < 18446744073709551616) (n0 : 0 ≤ n) (n1 : n < 18446744073709551616) :
    Calls Try.prog 17 #[.pointer (some ⟨sb, 0, none⟩), .int .u64 x, .int .u64 t, .int .u64 n] w fun e w' => e = .returned (.int .i64 (cpErr S x t n)) ∧ EK W w' sb S (cpS S g x t n) rb rc rt ab ac at_ := by
  obtain ⟨bm, a1, b1, c1, d1⟩ := h.has
  refine (copy_any sb bm S g x t n w d1 h0 h1 t0 t1 n0 n1).mono ?_
  rintro e w' ⟨rfl, M⟩
  exact ⟨rfl, h.to a1 b1 c1 d1 M⟩
theorem may_none (S x : Int) : mayI S x 1 0 = 0 := by unfold mayI; rw [if_neg (by omega), if_neg (by omega)]
theorem EK.clear0 (h : EK W w sb S (fun _ => 0) rb rc rt ab ac at_) (x : Int) (h0 : 0 ≤ x) (h1 : x < 18446744073709551616) :
    Calls Try.prog 16 #[.pointer (some ⟨sb, 0, none⟩), .int .u64 x, .int .u64 0] w fun e w' => e = .returned (.int .i64 0) ∧ EK W w' sb S (fun _ => 0) rb rc rt ab ac at_ := by
  refine (h.clear x 0 h0 h1 (by omega) (by omega)).mono ?_
  rintro e w' ⟨rfl, M⟩
  have e1 : clS S (fun _ => 0) x 0 = fun _ => 0 := by
    unfold clS; rw [if_pos (may_none _ _)]; funext y; unfold clr; split <;> rfl
  rw [e1] at M
  exact ⟨by rw [may_none], M⟩
theorem EK.copy0 (h : EK W w sb S (fun _ => 0) rb rc rt ab ac at_) (x : Int) (h0 : 0 ≤ x) (h1 : x < 18446744073709551616) :
    Calls Try.prog 17 #[.pointer (some ⟨sb, 0, none⟩), .int .u64 x, .int .u64 0, .int .u64 0] w fun e w' => e = .returned (.int .i64 0) ∧ EK W w' sb S (fun _ => 0) rb rc rt ab ac at_ := by
  refine (h.copy x 0 0 h0 h1 (by omega) (by omega) (by omega) (by omega)).mono ?_
  rintro e w' ⟨rfl, M⟩
  have e0 : cpErr S x 0 0 = 0 := by unfold cpErr; rw [if_pos (may_none _ _)]; exact may_none _ _
  have e1 : cpS S (fun _ => 0) x 0 0 = fun _ => 0 := by
    unfold cpS; rw [if_pos e0]; funext y; unfold cp; split <;> rfl
  rw [e1] at M
  exact ⟨by rw [e0], M⟩
/-- The document's May beside them. -/
theorem EK.may (h : EK W w sb S g rb rc rt ab ac at_) (x n st : Int) (ao : Option Addr) (l c : Nat) (h0 : 0 ≤ x) (h1 : x < 18446744073709551616) (hst : 0 < st) (hst1 : st ≤ 16) (n0 : 0 ≤ n) (n1 : n < 18446744073709551616) :
    Calls Try.prog 15 #[.agg #[.int .u64 (S : Int), .slice ao l c], .int .u64 x, .int .u64 n, .int .u64 st] w fun e w' => e = .returned (.int .i64 (mayI S x st n)) ∧ EK W w' sb S g rb rc rt ab ac at_ := by
  have hS := h.has.good.le
  refine (rmay_any S x n st _ w (by omega) (by omega) h0 h1 hst hst1 n0 n1 ⟨_, _, _, rfl⟩).mono ?_
  rintro e w' ⟨rfl, hb⟩
  exact ⟨rfl, h.call hb⟩
end Go.Proofs.Ytmhgofhclckdpaa.Mem
