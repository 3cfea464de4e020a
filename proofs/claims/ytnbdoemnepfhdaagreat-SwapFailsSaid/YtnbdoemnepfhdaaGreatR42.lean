/-
  Contracts and plain facts: WChange. Conditions: each says its own.
-/
import Derived.Test.YtnbdoemnepfhdaaGreatR40
import Derived.Test.YtnbdoemnepfhdaaGreatR28
import Derived.Defers
namespace Go.Proofs.YtnbdoemnepfhdaaGreat.Sw
open Fld Ts
open Mem (MemAt MemTo word)
open Frm (FrRow FrAt setT allB manyE manyI manyT manyO pick allB_mem)
open Go.ChangeShapes Go.WideShapes Go.ChangeAt Go.RowKit
set_option maxHeartbeats 2000000
set_option maxRecDepth 100000
theorem pchange_no {w : World} {sb bm fb bb n : Nat} {g0 : Nat → Nat} {F : Nat → Bool} (st : Nat) (s g : Int) (h : PAt w sb bm fb bb n g0 F) (he : manyE F n (frI s g) ≠ 0) :
    Calls Tryz.prog 14 #[.pointer (some ⟨sb, 0, none⟩), .pointer (some ⟨fb, 0, none⟩), .pointer (some ⟨st, 0, none⟩), .int .i64 s, .int .i64 g] w fun e w' => e = .returned (.tuple #[.pointer none, .int .i64 0, .int .i64 (manyE F n (frI s g))]) ∧ PTo w w' sb bm fb bb n g0 F := by
  have CM := Lib.hid (pmake_no s g h he)
  generalize manyE F n (frI s g) = E at *
  have he' : (E != 0) = true := by simpa using he
  clear he h
  go_enter_defers Tryz.func14, Tryz.ntmps14
  go_wp2_with fail
  refine CM.out.mono ?_; rintro e w1 ⟨rfl, k1⟩
  go_wp2_with fail
  exact ⟨_, results_tmp3 rfl _ _ _, rfl, k1⟩
end Go.Proofs.YtnbdoemnepfhdaaGreat.Sw

