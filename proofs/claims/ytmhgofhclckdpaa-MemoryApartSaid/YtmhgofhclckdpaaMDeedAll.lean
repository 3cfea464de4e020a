/-
  Contract of the law's does, at whatever deed: both memories have the same bytes behind it, and it answers true. Conditions: they have the same bytes ahead of it.
-/
import Derived.Test.YtmhgofhclckdpaaMDeed0
import Derived.Test.YtmhgofhclckdpaaMDeed1
import Derived.Test.YtmhgofhclckdpaaMDeed2
import Derived.Test.YtmhgofhclckdpaaMDeed6
import Derived.Test.YtmhgofhclckdpaaMDeed7
import Derived.Test.YtmhgofhclckdpaaMDeedd
namespace Go.Proofs.Ytmhgofhclckdpaa.Mem
open Go.ChangeShapes Go.WideShapes Go.ChangeAt Go.RowKit Go.Maps
theorem does_any (sb bm S : Nat) (g : Nat → Nat) (k a x y : Int) (v : Value) (w : World) (h : MemAt w sb bm S g) (hl : HasL w S g v) (a0 : 0 ≤ a) (a1 : a < 18446744073709551616) (x0 : 0 ≤ x) (x1 : x < 18446744073709551616) (y0 : 0 ≤ y) (y1 : y < 18446744073709551616) :
    Calls Try.prog 19 #[.pointer (some ⟨sb, 0, none⟩), .agg #[.int .u64 (S : Int), v], .agg #[.int .i64 k, .int .u64 a, .int .u64 x, .int .u64 y]] w (DoneD w sb bm S) := by
  by_cases k0 : k = 0
  · subst k0; exact does_0 sb bm S g a x y v w h hl a0 a1 x0 x1 y0 y1
  by_cases k1 : k = 1
  · subst k1; exact does_1 sb bm S g a x y v w h hl a0 a1 x0 x1 y0 y1
  by_cases k2 : k = 2
  · subst k2; exact does_2 sb bm S g a x y v w h hl a0 a1 x0 x1 y0 y1
  by_cases k6 : k = 6
  · subst k6; exact does_6 sb bm S g a x y v w h hl a0 a1 x0 x1 y0 y1
  by_cases k7 : k = 7
  · subst k7; exact does_7 sb bm S g a x y v w h hl a0 a1 x0 x1 y0 y1
  exact does_d sb bm S g k a x y v w h hl a0 a1 x0 x1 y0 y1 k0 k1 k2 k6 k7
end Go.Proofs.Ytmhgofhclckdpaa.Mem
