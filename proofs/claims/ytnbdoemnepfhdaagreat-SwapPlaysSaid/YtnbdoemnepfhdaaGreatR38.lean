/-
  Contracts and plain facts: FRef, FLaw. Conditions: each says its own.
-/
import Derived.Test.YtnbdoemnepfhdaaGreatR32
import Derived.Test.YtnbdoemnepfhdaaGreatR37
namespace Go.Proofs.YtnbdoemnepfhdaaGreat.Frm
open Fld
open Go.ChangeShapes Go.WideShapes Go.ChangeAt Go.RowKit
set_option maxHeartbeats 1000000
theorem rnew_any (n : Int) (w : World) :
    Calls Tryz.prog 23 #[.int .i64 n] w fun e w' => e = .returned (.agg #[.int .i64 (newN n : Int), .slice none 0 0]) ∧ Below w.heap.size w w' := by
  obtain ⟨N, hN⟩ : ∃ N, newN n = N := ⟨_, rfl⟩
  have hmn : min (max n 0) 65536 = (N : Int) := by rw [← hN]; unfold newN; omega
  rw [hN]
  clear hN
  go_enter Tryz.func23, Tryz.ntmps23
  go_wp2
  refine bodyPost_ret (v := .agg #[.int .i64 (N : Int), .slice none 0 0]) (by simp [results, Tryz.results23, go_sem]) rfl ⟨rfl, ?_⟩
  exact (Below.refl _ _).alloc (Nat.le_refl _) _
end Go.Proofs.YtnbdoemnepfhdaaGreat.Frm

namespace Go.Proofs.YtnbdoemnepfhdaaGreat.Frm
open Fld
open Go.ChangeShapes Go.WideShapes Go.ChangeAt Go.RowKit
set_option maxHeartbeats 1000000
/-- Frames made behind w, in the world wr; what was in w stays. -/
structure FrIn (w : World) (n : Nat) (T : Nat → Bool) (wr : World) : Prop where
  fr : FrAt wr (w.heap.size + 1) w.heap.size n T
  bel : Below w.heap.size w wr
theorem FrIn.turn {w wr w' : World} {n : Nat} {T U : Nat → Bool} (h : FrIn w n T wr) (hf : FrAt w' (w.heap.size + 1) w.heap.size n U) (ht : Turn wr w' (w.heap.size + 1) w.heap.size) : FrIn w n U w' :=
  ⟨hf, h.bel.trans (ht.to_below (by omega) (Nat.le_refl _) h.bel.size)⟩
theorem FrIn.below {w wr w' : World} {n : Nat} {T : Nat → Bool} (h : FrIn w n T wr) (hb : Below wr.heap.size wr w') : FrIn w n T w' :=
  ⟨h.fr.below hb, h.bel.trans (hb.mono h.bel.size)⟩
theorem FrIn.drewN {w wr : World} {n : Nat} {T : Nat → Bool} (h : FrIn w n T wr) (m : Nat) : FrIn w n T (wr.drewN m) := h.below (below_drewN (Below.refl _ _) m)
/-! ### What follows -/
end Go.Proofs.YtnbdoemnepfhdaaGreat.Frm

