/-
  Contracts of find, space, fits, targetOf, statusOf of package regs. Conditions: the table stands where it was laid; words are below 2 to the 64.
-/
import Derived.Test.YtohcmijgakijfaaDoorRState
import Derived.Deep.MidRow
import Derived.Deep.RegionHeld3
namespace Go.Proofs.YtohcmijgakijfaaDoor.Rg
open Fld
open Go.ChangeShapes Go.WideShapes Go.ChangeAt Go.RowKit Go.Maps
set_option maxHeartbeats 1000000
set_option maxRecDepth 100000
/-- What the table says of a place. -/
def stayI (j : Int) : Int := if j = 1 ∨ j = 2 then 8191 else if j = 3 then 16728063 else if j = 5 then 18446744073709547527 else if j = 6 then 18446744073709551615 else 0
def bothB (j : Int) : Bool := decide (j = 0 ∨ j = 3 ∨ j = 5 ∨ j = 6)
def tabA : Array Value := tabL.toArray
theorem tab_range {w : World} (h : Tab w) : w.rangeAt 0 0 tabL := fun j v hv => by
  have hj : j < 21 := (List.getElem?_eq_some_iff.1 hv).1
  have := h.2 j hj
  rw [Nat.zero_add, this, List.getD, hv]; rfl
theorem load_tab {w : World} (h : Tab w) : (Instr.loadAt 63 (.pointer (some ⟨0, 0, none⟩))).run Tryd.prog w = .ok (.agg tabA) w :=
  run_loadAt_mid w _ 0 63 tabL _ (tab_range h) Tryd.underlying63 rfl (by kernel_rfl)
theorem index_tab (w : World) (j : Nat) (h : j < 7) : (Instr.index 63 (.agg tabA) (.int .i64 (j : Int))).run Tryd.prog w = .ok (.agg #[.int .u64 (8 * (j : Int)), .int .u64 (stayI j), .bool (bothB j)]) w := by
  have : j = 0 ∨ j = 1 ∨ j = 2 ∨ j = 3 ∨ j = 4 ∨ j = 5 ∨ j = 6 := by omega
  rcases this with rfl | rfl | rfl | rfl | rfl | rfl | rfl <;> (show _ = _; kernel_rfl)
theorem Tab.alloc {w : World} (h : Tab w) (o : Obj) : Tab (w.alloc o) :=
  h.same (by simp) (Below.heap_alloc _ _ _ h.1)
theorem Tab.below {w w' : World} {n : Nat} (h : Tab w) (hb : Below n w w') (hn : w.heap.size ≤ n) : Tab w' :=
  h.same hb.size (hb.block _ (Nat.lt_of_lt_of_le h.1 hn))
theorem wpList_load_tab {ops : Array Oper} {rest : List Oper} {op : Oper} {a : Act} {w : World} {Q : Exit → Act → World → Prop} (hgd : op.guard = none) (x : Operand) (ho : op.op = .load 63 x)
    (hx : a.eval x = .pointer (some ⟨0, 0, none⟩)) (h : Tab w) (k : wpList Tryd.prog ops Q rest (a.put op.dst (.agg tabA)) w) : wpList Tryd.prog ops Q (op :: rest) a w :=
  wpList_load_mid hgd 63 x ho _ 0 hx tabL _ (tab_range h) Tryd.underlying63 rfl (by kernel_rfl) k
theorem infoRow : (Tryd.prog.info? 62).map (fun i => (i.zero, i.size, i.bytes)) = some (some (.agg #[.int .u64 0, .int .u64 0, .bool false]), 3, 24) := by kernel_rfl
theorem set_row {w : World} {b : Nat} {C : Array Value} {t : TypeId} {f : Nat × Nat} (h : w.heap[b]? = some (.cells C t f)) (o : Nat) (v : Value) : (w.setCell ⟨b, o, none⟩ v).heap[b]? = some (.cells (C.setIfInBounds o v) t f) := by
  simp [World.setCell, Array.getElem?_modify, h]
theorem row_frozen {w : World} {g : Nat} {t : TypeId} {cs : Array Value} (h : w.heap[g]? = some (.cells cs t (0, 0))) (i : Nat) : w.frozen? ⟨g, i, none⟩ = false := by
  simp [World.frozen?, h]
theorem three_cells {w : World} {g : Nat} {t : TypeId} {x0 x1 x2 : Value} (h : w.heap[g]? = some (.cells #[x0, x1, x2] t (0, 0))) :
    w.cell? ⟨g, 0, none⟩ = some x0 ∧ w.cell? ⟨g, 1, none⟩ = some x1 ∧ w.cell? ⟨g, 2, none⟩ = some x2 :=
  ⟨cell_of_row _ _ 0 _ _ _ h, cell_of_row _ _ 1 _ _ _ h, cell_of_row _ _ 2 _ _ _ h⟩
theorem below_setN {B b o : Nat} {w w' : World} {u : Value} (h : Below B w w') (hb : B ≤ b) : Below B w (w'.setCell ⟨b, o, none⟩ u) := h.setCell hb u
theorem set_three {w : World} {g : Nat} {T : TypeId} {z0 z1 z2 x0 x1 x2 : Value} (h : w.heap[g]? = some (.cells #[z0, z1, z2] T (0, 0))) :
    (((w.setCell ⟨g, 0, none⟩ x0).setCell ⟨g, 1, none⟩ x1).setCell ⟨g, 2, none⟩ x2).heap[g]? = some (.cells #[x0, x1, x2] T (0, 0)) := by
  have h0 := set_row h 0 x0
  have h1 := set_row h0 1 x1
  have h2 := set_row h1 2 x2
  clear h h0 h1
  simp only [List.setIfInBounds_toArray, List.set_cons_succ, List.set_cons_zero] at h2
  exact h2
/-- The results of a function that answers a row and one thing more. -/
theorem res_row {fn : Func} {p u : Tmp} (h : fn.results = #[.cell p 62, .tmp u]) (tmps : Array Value) (w : World) (g : Nat) (x0 x1 x2 : Value) (hp : tmps.getD p undef = .pointer (some ⟨g, 0, none⟩)) (hR : w.heap[g]? = some (.cells #[x0, x1, x2] 62 (0, 0))) :
    (results fn tmps).run Tryd.prog w = .ok (.tuple #[.agg #[x0, x1, x2], tmps.getD u undef]) w := by
  have hl := run_loadVar_row (P := Tryd.prog) w g 62 62 _ (0, 0) _ hR Tryd.underlying62 (by kernel_rfl) (by kernel_rfl)
  rw [results_cell_tmp h, hp]
  simp only [asAddr, Sem.run_pure, Result.andThen_ok, hl]
theorem ret_row {q s : Int} {b c d : Bool} (h : c = d) : Ending.returned (.tuple #[.agg #[.int .u64 q, .int .u64 s, .bool b], .bool c]) = .returned (.tuple #[.agg #[.int .u64 q, .int .u64 s, .bool b], .bool d]) := by rw [h]
theorem isB_none (a p : Int) (h : ∀ k : Nat, k < 7 → p ≠ 8 * (k : Int)) : isB a p = false := by
  have h0 := h 0 (by decide); have h1 := h 1 (by decide); have h2 := h 2 (by decide); have h3 := h 3 (by decide); have h4 := h 4 (by decide); have h5 := h 5 (by decide); have h6 := h 6 (by decide)
  unfold isB; rw [decide_eq_false_iff_not]; omega
theorem isB_data (j : Nat) (h : j < 7) : isB 88 (8 * (j : Int)) = true := by unfold isB; rw [decide_eq_true_eq]; omega
theorem isB_fetch (j : Nat) (h : j < 7) : isB 80 (8 * (j : Int)) = bothB j := by unfold isB bothB; rw [Bool.eq_iff_iff]; simp; omega
theorem isB_other (a p : Int) (h0 : a ≠ 88) (h1 : a ≠ 80) : isB a p = false := by unfold isB; rw [decide_eq_false_iff_not]; omega
theorem find_any (a p : Int) (w : World) (h : Tab w) :
    Calls Tryd.prog 31 #[.int .i64 a, .int .u64 p] w fun e w' => (∃ q s b, e = .returned (.tuple #[.agg #[.int .u64 q, .int .u64 s, .bool b], .bool (isB a p)]) ∧ (isB a p = true → s = stayI (p / 8))) ∧ Below w.heap.size w w' := by
  have hlt := h.1
  have B1 : Below w.heap.size w (w.alloc (.cells #[.int .u64 0, .int .u64 0, .bool false] 62)) := (Below.refl _ _).alloc (Nat.le_refl _) _
  have R1 := heap_alloc_new w (.cells #[.int .u64 0, .int .u64 0, .bool false] 62)
  have hix := index_tab
  go_enter Tryd.func31, Tryd.ntmps31
  go_wp2_with (refine wpList_load_tab rfl _ rfl rfl (h.alloc _) ?_)
  generalize World.alloc w _ = W1 at B1 R1 ⊢
  go_loopw [9] (fun i wr => ∃ j : Nat, j ≤ 7 ∧ i = .int .i64 (j : Int) ∧ (∀ k : Nat, k < j → p ≠ 8 * (k : Int)) ∧ wr.heap[w.heap.size]? = some (.cells #[.int .u64 0, .int .u64 0, .bool false] 62 (0, 0)) ∧ Below w.heap.size w wr) (fun i _ => 7 - (intOf i).toNat)
  case atStart => exact ⟨0, by omega, rfl, fun k hk => absurd hk (Nat.not_lt_zero k), R1, B1⟩
  case round =>
    clear R1 B1
    obtain ⟨j, hj, rfl, hno, hR, hB⟩ := hrel
    have hsz := hB.size
    have hbox : w.heap.size < wr.heap.size := (Array.getElem?_eq_some_iff.1 hR).1
    have hne : wr.heap.size ≠ w.heap.size := by omega
    by_cases hj7 : j < 7
    · replace hix := fun w => hix w j hj7
      have NB : Below wr.heap.size wr (wr.alloc (.cells #[.int .u64 (8 * (j : Int)), .int .u64 (stayI j), .bool (bothB j)] 62)) := (Below.refl _ _).alloc (Nat.le_refl _) _
      have NR := heap_alloc_new wr (.cells #[.int .u64 (8 * (j : Int)), .int .u64 (stayI j), .bool (bothB j)] 62)
      have hR1 := (NB.block _ hbox).trans hR
      have hB1 := hB.trans (NB.mono hsz)
      have hS := Lib.hid (show stayI (j : Int) = stayI (8 * (j : Int) / 8) by congr 1; omega)
      generalize hSe : stayI (j : Int) = S at *
      obtain ⟨b, hb⟩ : ∃ b, bothB (j : Int) = b := ⟨_, rfl⟩
      rw [hb] at hix NB NR hR1 hB1
      replace hb := Lib.hid hb
      clear hSe
      by_cases hp : p = 8 * (j : Int)
      · subst hp
        have hR2 := set_three (x0 := .int .u64 (8 * (j : Int))) (x1 := .int .u64 S) (x2 := .bool b) hR1
        have hB2 := below_setN (o := 2) (u := .bool b) (below_setN (o := 1) (u := .int .u64 S) (below_setN (o := 0) (u := .int .u64 (8 * (j : Int))) hB1 (Nat.le_refl _)) (Nat.le_refl _)) (Nat.le_refl _)
        have FR := fun i => row_frozen hR1 i
        obtain ⟨c0, c1, c2⟩ := three_cells hR1
        obtain ⟨n0, n1, n2⟩ := three_cells NR
        by_cases ha : a = 88
        · subst ha
          have E := Lib.hid (isB_data j hj7)
          go_wp2_with fail
          generalize World.alloc wr _ = W2 at NB NR hR1 hB1 hR2 hB2 FR c0 c1 c2 n0 n1 n2 ⊢
          go_region
          all_goals go_wp2_with fail
          all_goals (try simp only [Exit.inBlock, Exit.then])
          all_goals (refine bodyPost_ret (res_row rfl _ _ _ _ _ _ rfl hR2) rfl ?_)
          all_goals exact ⟨⟨_, _, _, by rw [E.out]; rfl, fun _ => hS.out⟩, hB2.drew⟩
        · by_cases ha2 : a = 80
          · subst ha2
            cases b
            · have E := Lib.hid ((isB_fetch j hj7).trans hb.out)
              go_wp2_with fail
              generalize World.alloc wr _ = W2 at NB NR hR1 hB1 hR2 hB2 FR c0 c1 c2 n0 n1 n2 ⊢
              go_region
              all_goals go_wp2_with fail
              all_goals (try simp only [Exit.inBlock, Exit.then])
              all_goals (refine bodyPost_ret (res_row rfl _ _ _ _ _ _ rfl hR2) rfl ?_)
              all_goals exact ⟨⟨_, _, _, by rw [E.out]; rfl, fun _ => hS.out⟩, hB2.drew⟩
            · have E := Lib.hid ((isB_fetch j hj7).trans hb.out)
              go_wp2_with fail
              generalize World.alloc wr _ = W2 at NB NR hR1 hB1 hR2 hB2 FR c0 c1 c2 n0 n1 n2 ⊢
              go_region
              all_goals go_wp2_with fail
              all_goals (try simp only [Exit.inBlock, Exit.then])
              all_goals (refine bodyPost_ret (res_row rfl _ _ _ _ _ _ rfl hR2) rfl ?_)
              all_goals exact ⟨⟨_, _, _, by rw [E.out]; rfl, fun _ => hS.out⟩, hB2.drew⟩
          · have d1 : (a == 88) = false := by simpa using ha
            have d2 : (a == 80) = false := by simpa using ha2
            have E := Lib.hid (isB_other a (8 * (j : Int)) ha ha2)
            go_wp2_with fail
            generalize World.alloc wr _ = W2 at NB NR hR1 hB1 hR2 hB2 FR c0 c1 c2 n0 n1 n2 ⊢
            go_region
            all_goals go_wp2_with fail
            all_goals (try simp only [Exit.inBlock, Exit.then])
            all_goals (refine bodyPost_ret (res_row rfl _ _ _ _ _ _ rfl hR2) rfl ?_)
            all_goals exact ⟨⟨_, _, _, by rw [E.out]; rfl, fun _ => hS.out⟩, hB2.drew⟩
      · have hj' : (j : Int) < 7 := by omega
        go_wp2_with fail
        go_roundw
        case rel => exact ⟨j + 1, by omega, by go_num, fun k hk => (by by_cases e : k = j; rw [e]; exact hp; exact hno k (by omega)), hR1, hB1⟩
        case measure => simp [intOf]; omega
    · obtain rfl : j = 7 := by omega
      have E := Lib.hid (isB_none a p hno)
      have F := row_frozen hR
      obtain ⟨c0, c1, c2⟩ := three_cells hR
      have hR2 := set_three (x0 := .int .u64 0) (x1 := .int .u64 0) (x2 := .bool false) hR
      go_wp2_with fail
      (try simp only [Exit.inBlock, Exit.then])
      refine bodyPost_ret (res_row rfl _ _ _ _ _ _ rfl hR2) rfl ?_
      exact ⟨⟨0, 0, false, by rw [E.out]; rfl, fun h => by rw [E.out] at h; cases h⟩, below_setN (below_setN (below_setN hB (Nat.le_refl _)) (Nat.le_refl _)) (Nat.le_refl _)⟩
end Go.Proofs.YtohcmijgakijfaaDoor.Rg
