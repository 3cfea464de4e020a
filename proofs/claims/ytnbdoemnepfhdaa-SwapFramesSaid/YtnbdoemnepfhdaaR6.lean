/-
  Contracts and plain facts: Hex. Conditions: each says its own.
-/
import Derived.Test.YtnbdoemnepfhdaaR3
import Derived.Laws.IdiomStrings
import Derived.Deep.AppendLies
namespace Go.Proofs.Ytnbdoemnepfhdaa.Fld
open Go.ChangeShapes Go.WideShapes Go.ChangeAt Go.RowKit
set_option maxHeartbeats 400000
theorem news_one (w : World) (n : Nat) (t : TypeId) (v : Value) : ∀ j u, [v][j]? = some u → ((w.drewN n).alloc (.cells #[v] t)).cell? ((⟨w.heap.size, 0, none⟩ : Addr).add j) = some u := by
  intro j u hj
  match j, hj with
  | 0, hj =>
    simp at hj; subst hj
    exact (World.cell?_alloc_mark (w.drewN n) #[v] t (0, 0) 0).trans rfl
end Go.Proofs.Ytnbdoemnepfhdaa.Fld

