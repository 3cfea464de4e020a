/-
  Contract of Owners of package ctx: a list of its own. Conditions: a pool that is there.
-/
import Derived.Test.YtkbkilkmiigahaaCOps
import Derived.Lib.SliceRun
namespace Go.Proofs.Ytkbkilkmiigahaa.Cx
open Fld
open Go.ChangeShapes Go.WideShapes Go.ChangeAt Go.RowKit Go.Maps
set_option maxHeartbeats 1000000
theorem run_append0 (base xo : Option Addr) (n cap xc : Nat) (h : n ≤ cap) (w : World) : (Builtin.append_ #[25, 25] 25 #[.slice base n cap, .slice xo 0 xc]).run Try.prog w = .ok (.slice base n cap) w := by
  obtain ⟨i0, hi, hz0, hz1, hz2⟩ := info_parts infoInt
  cases base <;> cases xo <;> simp [Builtin.append_, run_underlying Try.underlying25, sizeOf, typeInfo, hi, Builtin.lenOf, h, Builtin.firstCells, storeCells, loadCells, loadCellsFrom]
theorem wpList_append0 {w : World} {ops : Array Oper} {rest : List Oper} {o : Oper} {a : Act} {Q : Exit → Act → World → Prop} (hgd : o.guard = none) (s x : Operand)
    (ho : o.op = .call { callee := .builtin .append, args := #[s, x], argTypes := #[25, 25] }) (hty : o.type = 25) (base xo : Option Addr) (n cap xc : Nat) (h0 : n ≤ cap)
    (hs : a.eval s = .slice base n cap) (hx : a.eval x = .slice xo 0 xc) (h : wpList Try.prog ops Q rest (a.put o.dst (.slice base n cap)) w) : wpList Try.prog ops Q (o :: rest) a w := by
  refine wpList_plain hgd fun K hK => ?_
  unfold Oper.wp execOp
  simp only [ho, resolve, invoke, builtin, Sem.run_bind, Sem.run_pure, Result.andThen_ok, List.map_toArray, List.map_cons, List.map_nil, hs, hx, hty, run_append0 base xo n cap xc h0]
  exact hK _ _ h
theorem intsV_one (l : List Int) : ∀ u ∈ intsV l, u.oneCell' = true := by
  intro u hu
  obtain ⟨x, _, rfl⟩ := List.mem_map.1 hu
  rfl
theorem intsV_length (l : List Int) : (intsV l).length = l.length := by simp [intsV]
theorem intsV_app (l m : List Int) : intsV (l ++ m) = intsV l ++ intsV m := by simp [intsV]
theorem clone_any {ob n : Nat} {T : Nat → Int} (hn : n ≤ 8191) (w : World) (h : w.heap[ob]? = some (.cells (rowI T n) 3 (0, 0))) :
    Calls Try.prog 32 #[.slice (some ⟨ob, 0, none⟩) n n] w fun e w' => ∃ v, e = .returned v ∧ w'.ownsRow w.heap.size 3 1 v (lstT T n).length (intsV (lstT T n)) ∧ Below w.heap.size w w' := by
  obtain ⟨i0, hi, hz0, hz1, hz2⟩ := info_parts infoInt
  have hob : ob < w.heap.size := (Array.getElem?_eq_some_iff.1 h).1
  have hc : ∀ j u, (intsV (lstT T n))[j]? = some u → (w.alloc (.cells #[] 3)).cell? ((⟨ob, 0, none⟩ : Addr).add j) = some u := by
    intro j u hu
    have hj : j < n := by
      have := (List.getElem?_eq_some_iff.1 hu).1
      simpa [intsV, lstT] using this
    have e : (rowI T n)[j]? = some u := by
      rw [← Array.getElem?_toList, rowI_lst]; exact hu
    have hb : (w.alloc (.cells #[] 3)).heap[ob]? = some (.cells (rowI T n) 3 (0, 0)) := (Below.heap_alloc _ _ _ hob).trans h
    have ad : (⟨ob, 0, none⟩ : Addr).add j = ⟨ob, j, none⟩ := by unfold Addr.add; split <;> simp_all
    rw [ad]
    simp [World.cell?, hb, e]
  have hnil := fun w a l c => Go.Lib.run_eql_slice_nil (P := Try.prog) w 25 3 a l c 0 0 Try.underlying25
  have ho : (w.alloc (.cells #[] 3)).ownsRow w.heap.size 3 1 (.slice (some ⟨w.heap.size, 0, none⟩) 0 0) 0 [] :=
    World.ownsRow_made (base := w.heap.size) (e := 3) (size := 1) w #[] 0 (Nat.le_refl _) (by unfold maxLen; omega) (by simp)
  have hb : Below w.heap.size w (w.alloc (.cells #[] 3)) := (Below.refl _ _).alloc (Nat.le_refl _) _
  obtain ⟨l, hl⟩ : ∃ l, lstT T n = l := ⟨_, rfl⟩
  have hln : l.length = n := by rw [← hl, lstT_length]
  rw [hl] at hc ⊢
  clear hl h
  by_cases hz : n = 0
  · subst hz
    have hl0 : l = [] := List.length_eq_zero_iff.1 hln
    subst hl0
    go_enter Try.func32, Try.ntmps32
    go_wp2_with (at_builtin; refine wpList_append0 rfl _ _ rfl rfl _ _ 0 0 0 (Nat.le_refl _) rfl rfl ?_)
    go_ret
    exact ⟨_, rfl, ho, hb⟩
  · have hone := intsV_one l
    have hlen := intsV_length l
    go_enter Try.func32, Try.ntmps32
    go_wp2_with (at_builtin; refine wpList_append_own _ rfl _ _ 25 rfl w.heap.size 3 i0 (.int .i64 0) 1 8 Try.underlying25 hi hz0 hz1 hz2 rfl (by decide) _ _ _ rfl (by exact ho) ⟨ob, 0, none⟩ n n (intsV l) rfl (by rw [hlen, hln, Nat.mul_one]) hc hone (by unfold maxLen; omega) (by omega) (by simp) ?_)
    intro v w1 ho1 hg1 _
    have R : w1.ownsRow w.heap.size 3 1 v l.length (intsV l) := by
      rw [hln]; simpa using ho1
    have B1 : Below w.heap.size w w1 := hb.grown hg1 (by simp) (fun g hg => (ho.lt g hg).1)
    clear ho1 hg1 ho hb hc hone hlen
    go_wp2
    go_ret
    exact ⟨_, rfl, R, B1⟩
theorem owners_any {pb bm ob n h R : Nat} {T M : Nat → Int} (w : World) (H : PoolRow w pb bm ob n T M h R) :
    Calls Try.prog 13 #[.pointer (some ⟨pb, 0, none⟩)] w fun e w' => ∃ v, e = .returned v ∧ w'.ownsRow w.heap.size 3 1 v (lstT T n).length (intsV (lstT T n)) ∧ Below w.heap.size w w' := by
  obtain ⟨c0, c1, c2, c3⟩ := H.cells
  have CA := clone_any H.le w H.o
  go_enter Try.func13, Try.ntmps13
  go_wp2_with (go_at_call 32; refine CA.mono ?_; rintro e w1 ⟨v, rfl, ho, hb⟩)
  go_ret
  exact ⟨_, rfl, ho, hb⟩
end Go.Proofs.Ytkbkilkmiigahaa.Cx
