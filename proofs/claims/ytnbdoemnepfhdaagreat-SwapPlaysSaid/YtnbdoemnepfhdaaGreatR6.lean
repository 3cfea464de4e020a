/-
  Contracts and plain facts: Hex, Bits. Conditions: each says its own.
-/
import Derived.Test.YtnbdoemnepfhdaaGreatR3
import Derived.Laws.IdiomStrings
import Derived.Deep.AppendLies
namespace Go.Proofs.YtnbdoemnepfhdaaGreat.Fld
open Go.ChangeShapes Go.WideShapes Go.ChangeAt Go.RowKit
set_option maxHeartbeats 400000
theorem news_one (w : World) (n : Nat) (t : TypeId) (v : Value) : ∀ j u, [v][j]? = some u → ((w.drewN n).alloc (.cells #[v] t)).cell? ((⟨w.heap.size, 0, none⟩ : Addr).add j) = some u := by
  intro j u hj
  match j, hj with
  | 0, hj =>
    simp at hj; subst hj
    exact (World.cell?_alloc_mark (w.drewN n) #[v] t (0, 0) 0).trans rfl
end Go.Proofs.YtnbdoemnepfhdaaGreat.Fld

namespace Go.Proofs.YtnbdoemnepfhdaaGreat.Fld
open Go.ChangeShapes Go.WideShapes Go.ChangeAt Go.RowKit
set_option maxHeartbeats 400000
theorem set_any (x p : Int) (b : Bool) (x0 : 0 ≤ x) (x1 : x ≤ 18446744073709551615) (w : World) :
    Calls Tryz.prog 122 #[.int .u64 x, .int .i64 p, .bool b] w fun e w' => e = .returned (.int .u64 (putI x p 1 (b.toNat : Int))) ∧ w = w' := by
  cases b
  all_goals
    go_enter Tryz.func122, Tryz.ntmps122
    go_wp2_with (go_at_call 105; refine (put_any _ _ _ _ x0 x1 (by omega) (by omega) _).mono ?_; rintro e w' ⟨rfl, rfl⟩)
    go_ret
    exact ⟨rfl, rfl⟩
theorem bit_any (x p : Int) (x0 : 0 ≤ x) (x1 : x ≤ 18446744073709551615) (w : World) :
    Calls Tryz.prog 106 #[.int .u64 x, .int .i64 p] w fun e w' => e = .returned (.bool (getI x p 1 == 1)) ∧ ∃ n, w' = w.drewN n := by
  go_enter Tryz.func106, Tryz.ntmps106
  go_wp2_with (go_at_call 123; refine (get_any _ _ _ x0 x1 _).mono ?_; rintro e w' ⟨rfl, n, rfl⟩)
  go_ret
  exact ⟨rfl, n, rfl⟩
end Go.Proofs.YtnbdoemnepfhdaaGreat.Fld

