/-
  Contracts of the document's Miss, Fault, Clear, Write of registers. Conditions: words are below 2 to the 64.
-/
import Derived.Test.YtohcmijgakijfaaDoorRDoc
namespace Go.Proofs.YtohcmijgakijfaaDoor.Rg
open Fld
open Go.ChangeShapes Go.WideShapes Go.ChangeAt Go.RowKit Go.Maps
set_option maxHeartbeats 1000000
set_option maxRecDepth 100000
theorem infoR : (Tryd.prog.info? 27).map (fun i => (i.zero, i.size, i.bytes)) = some (some (.agg #[.int .u64 Reg.zero.sI, .int .u64 Reg.zero.tI, .int .u64 Reg.zero.aI, .int .u64 Reg.zero.pr, .int .u64 Reg.zero.se, .int .u64 Reg.zero.sD, .int .u64 Reg.zero.ad, .int .u64 Reg.zero.tD, .int .u64 Reg.zero.aD]), 9, 72) := by kernel_rfl
theorem row_nine {w : World} {g : Nat} {T : TypeId} {z0 z1 z2 z3 z4 z5 z6 z7 z8 x0 x1 x2 x3 x4 x5 x6 x7 x8 : Value} (h : w.heap[g]? = some (.cells #[z0, z1, z2, z3, z4, z5, z6, z7, z8] T (0, 0))) :
    (((((((((w.setCell ⟨g, 0, none⟩ x0).setCell ⟨g, 1, none⟩ x1).setCell ⟨g, 2, none⟩ x2).setCell ⟨g, 3, none⟩ x3).setCell ⟨g, 4, none⟩ x4).setCell ⟨g, 5, none⟩ x5).setCell ⟨g, 6, none⟩ x6).setCell ⟨g, 7, none⟩ x7).setCell ⟨g, 8, none⟩ x8).heap[g]? = some (.cells #[x0, x1, x2, x3, x4, x5, x6, x7, x8] T (0, 0)) := by
  have h0 := set_row h 0 x0
  have h1 := set_row h0 1 x1
  have h2 := set_row h1 2 x2
  have h3 := set_row h2 3 x3
  have h4 := set_row h3 4 x4
  have h5 := set_row h4 5 x5
  have h6 := set_row h5 6 x6
  have h7 := set_row h6 7 x7
  have h8 := set_row h7 8 x8
  clear h h0 h1 h2 h3 h4 h5 h6 h7
  simp only [List.setIfInBounds_toArray, List.set_cons_succ, List.set_cons_zero] at h8
  exact h8
theorem below_nine {B g : Nat} {w w' : World} {x0 x1 x2 x3 x4 x5 x6 x7 x8 : Value} (h : Below B w w') (hb : B ≤ g) :
    Below B w (((((((((w'.setCell ⟨g, 0, none⟩ x0).setCell ⟨g, 1, none⟩ x1).setCell ⟨g, 2, none⟩ x2).setCell ⟨g, 3, none⟩ x3).setCell ⟨g, 4, none⟩ x4).setCell ⟨g, 5, none⟩ x5).setCell ⟨g, 6, none⟩ x6).setCell ⟨g, 7, none⟩ x7).setCell ⟨g, 8, none⟩ x8) := by
  iterate 9 refine below_setN ?_ hb
  exact h
theorem nine_cells {w : World} {g : Nat} {t : TypeId} {x0 x1 x2 x3 x4 x5 x6 x7 x8 : Value} (h : w.heap[g]? = some (.cells #[x0, x1, x2, x3, x4, x5, x6, x7, x8] t (0, 0))) :
    w.cell? ⟨g, 0, none⟩ = some x0 ∧ w.cell? ⟨g, 1, none⟩ = some x1 ∧ w.cell? ⟨g, 2, none⟩ = some x2 ∧ w.cell? ⟨g, 3, none⟩ = some x3 ∧ w.cell? ⟨g, 4, none⟩ = some x4 ∧ w.cell? ⟨g, 5, none⟩ = some x5 ∧ w.cell? ⟨g, 6, none⟩ = some x6 ∧ w.cell? ⟨g, 7, none⟩ = some x7 ∧ w.cell? ⟨g, 8, none⟩ = some x8 :=
  ⟨cell_of_row _ _ 0 _ _ _ h, cell_of_row _ _ 1 _ _ _ h, cell_of_row _ _ 2 _ _ _ h, cell_of_row _ _ 3 _ _ _ h, cell_of_row _ _ 4 _ _ _ h, cell_of_row _ _ 5 _ _ _ h, cell_of_row _ _ 6 _ _ _ h, cell_of_row _ _ 7 _ _ _ h, cell_of_row _ _ 8 _ _ _ h⟩
/-- The results of a function that answers registers and one thing more. -/
theorem res_reg {fn : Func} {p u : Tmp} (h : fn.results = #[.cell p 27, .tmp u]) (tmps : Array Value) (w : World) (g : Nat) (R : Reg) (hp : tmps.getD p undef = .pointer (some ⟨g, 0, none⟩)) (hR : w.heap[g]? = some (.cells #[.int .u64 R.sI, .int .u64 R.tI, .int .u64 R.aI, .int .u64 R.pr, .int .u64 R.se, .int .u64 R.sD, .int .u64 R.ad, .int .u64 R.tD, .int .u64 R.aD] 27 (0, 0))) :
    (results fn tmps).run Tryd.prog w = .ok (.tuple #[.agg #[.int .u64 R.sI, .int .u64 R.tI, .int .u64 R.aI, .int .u64 R.pr, .int .u64 R.se, .int .u64 R.sD, .int .u64 R.ad, .int .u64 R.tD, .int .u64 R.aD], tmps.getD u undef]) w := by
  have hl := run_loadVar_row (P := Tryd.prog) w g 27 27 _ (0, 0) _ hR Tryd.underlying27 (by kernel_rfl) (by kernel_rfl)
  rw [results_cell_tmp h, hp]
  simp only [asAddr, Sem.run_pure, Result.andThen_ok, hl]
theorem ret_reg {Q R : Reg} {c d : Int} (h : Q = R) (k : c = d) : Ending.returned (.tuple #[.agg #[.int .u64 Q.sI, .int .u64 Q.tI, .int .u64 Q.aI, .int .u64 Q.pr, .int .u64 Q.se, .int .u64 Q.sD, .int .u64 Q.ad, .int .u64 Q.tD, .int .u64 Q.aD], .int .i64 c]) = .returned (.tuple #[.agg #[.int .u64 R.sI, .int .u64 R.tI, .int .u64 R.aI, .int .u64 R.pr, .int .u64 R.se, .int .u64 R.sD, .int .u64 R.ad, .int .u64 R.tD, .int .u64 R.aD], .int .i64 d]) := by rw [h, k]
theorem boxes (w : World) (X Y : Array Value) (t u : TypeId) : Below w.heap.size w ((w.alloc (.cells X t)).alloc (.cells Y u)) ∧ ((w.alloc (.cells X t)).alloc (.cells Y u)).heap[w.heap.size + 1]? = some (.cells Y u (0, 0)) := by
  refine ⟨((Below.refl _ _).alloc (Nat.le_refl _) _).alloc (by simp) _, ?_⟩
  have := heap_alloc_new (w.alloc (.cells X t)) (.cells Y u)
  simpa using this
theorem dclear_any (R : Reg) (u : Int) (w : World) :
    Calls Tryd.prog 24 #[.agg #[.int .u64 R.sI, .int .u64 R.tI, .int .u64 R.aI, .int .u64 R.pr, .int .u64 R.se, .int .u64 R.sD, .int .u64 R.ad, .int .u64 R.tD, .int .u64 R.aD], .int .i64 u] w fun e w' => e = .returned (.tuple #[.agg #[.int .u64 (cleR R u).sI, .int .u64 (cleR R u).tI, .int .u64 (cleR R u).aI, .int .u64 (cleR R u).pr, .int .u64 (cleR R u).se, .int .u64 (cleR R u).sD, .int .u64 (cleR R u).ad, .int .u64 (cleR R u).tD, .int .u64 (cleR R u).aD], .int .i64 (cleE u)]) ∧ Below w.heap.size w w' := by
  by_cases h0 : u = 0
  · subst h0
    go_enter Tryd.func24, Tryd.ntmps24
    go_wp2_with fail
    (try simp only [Exit.inBlock, Exit.then])
    refine bodyPost_ret (res_reg rfl _ _ _ ({ R with sI := 0 }) rfl (boxes w _ _ _ _).2) rfl ?_
    exact ⟨ret_reg rfl rfl, (boxes w _ _ _ _).1⟩
  · by_cases h1 : u = 1
    · subst h1
      go_enter Tryd.func24, Tryd.ntmps24
      go_wp2_with fail
      (try simp only [Exit.inBlock, Exit.then])
      refine bodyPost_ret (res_reg rfl _ _ _ ({ R with sD := 0 }) rfl (boxes w _ _ _ _).2) rfl ?_
      exact ⟨ret_reg rfl rfl, (boxes w _ _ _ _).1⟩
    · have e1 : cleE u = 1 := by unfold cleE uB; rw [if_neg (by simp; omega)]
      have e2 : cleR R u = R := by unfold cleR; rw [e1]; rfl
      rw [e1, e2]
      by_cases h2 : u < 0
      · go_enter Tryd.func24, Tryd.ntmps24
        go_wp2_with fail
        (try simp only [Exit.inBlock, Exit.then])
        refine bodyPost_ret (res_reg rfl _ _ _ (R) rfl (boxes w _ _ _ _).2) rfl ?_
        exact ⟨ret_reg rfl rfl, (boxes w _ _ _ _).1⟩
      · have h3 : 1 < u := by omega
        go_enter Tryd.func24, Tryd.ntmps24
        go_wp2_with fail
        (try simp only [Exit.inBlock, Exit.then])
        refine bodyPost_ret (res_reg rfl _ _ _ (R) rfl (boxes w _ _ _ _).2) rfl ?_
        exact ⟨ret_reg rfl rfl, (boxes w _ _ _ _).1⟩
theorem dmiss_err (R : Reg) (u va c : Int) (h : misE u c = 1) (w : World) :
    Calls Tryd.prog 22 #[.agg #[.int .u64 R.sI, .int .u64 R.tI, .int .u64 R.aI, .int .u64 R.pr, .int .u64 R.se, .int .u64 R.sD, .int .u64 R.ad, .int .u64 R.tD, .int .u64 R.aD], .int .i64 u, .int .u64 va, .int .i64 c] w fun e w' => e = .returned (.tuple #[.agg #[.int .u64 R.sI, .int .u64 R.tI, .int .u64 R.aI, .int .u64 R.pr, .int .u64 R.se, .int .u64 R.sD, .int .u64 R.ad, .int .u64 R.tD, .int .u64 R.aD], .int .i64 1]) ∧ Below w.heap.size w w' := by
  by_cases h0 : u < 0
  · go_enter Tryd.func22, Tryd.ntmps22
    go_wp2_with fail
    (try simp only [Exit.inBlock, Exit.then])
    refine bodyPost_ret (res_reg rfl _ _ _ (R) rfl (boxes w _ _ _ _).2) rfl ?_
    exact ⟨ret_reg rfl rfl, (boxes w _ _ _ _).1⟩
  · by_cases h1 : 1 < u
    · go_enter Tryd.func22, Tryd.ntmps22
      go_wp2_with fail
      (try simp only [Exit.inBlock, Exit.then])
      refine bodyPost_ret (res_reg rfl _ _ _ (R) rfl (boxes w _ _ _ _).2) rfl ?_
      exact ⟨ret_reg rfl rfl, (boxes w _ _ _ _).1⟩
    · by_cases h2 : c < 0
      · go_enter Tryd.func22, Tryd.ntmps22
        go_wp2_with fail
        (try simp only [Exit.inBlock, Exit.then])
        refine bodyPost_ret (res_reg rfl _ _ _ (R) rfl (boxes w _ _ _ _).2) rfl ?_
        exact ⟨ret_reg rfl rfl, (boxes w _ _ _ _).1⟩
      · have h3 : 8191 < c := by
          unfold misE uB at h; split at h
          · cases h
          · rename_i hn; simp at hn; omega
        go_enter Tryd.func22, Tryd.ntmps22
        go_wp2_with fail
        (try simp only [Exit.inBlock, Exit.then])
        refine bodyPost_ret (res_reg rfl _ _ _ (R) rfl (boxes w _ _ _ _).2) rfl ?_
        exact ⟨ret_reg rfl rfl, (boxes w _ _ _ _).1⟩
theorem dmiss_i (R : Reg) (va c : Int) (hv : U va) (c0 : 0 ≤ c) (c1 : c ≤ 8191) (w : World) :
    Calls Tryd.prog 22 #[.agg #[.int .u64 R.sI, .int .u64 R.tI, .int .u64 R.aI, .int .u64 R.pr, .int .u64 R.se, .int .u64 R.sD, .int .u64 R.ad, .int .u64 R.tD, .int .u64 R.aD], .int .i64 0, .int .u64 va, .int .i64 c] w fun e w' => e = .returned (.tuple #[.agg #[.int .u64 (misR R 0 va c).sI, .int .u64 (misR R 0 va c).tI, .int .u64 (misR R 0 va c).aI, .int .u64 (misR R 0 va c).pr, .int .u64 (misR R 0 va c).se, .int .u64 (misR R 0 va c).sD, .int .u64 (misR R 0 va c).ad, .int .u64 (misR R 0 va c).tD, .int .u64 (misR R 0 va c).aD], .int .i64 0]) ∧ Below w.heap.size w w' := by
  have e1 : misR R 0 va c = { R with aI := va / 8192 * 8192 + c } := by
    unfold misR misE; rw [show uB 0 = true from rfl, if_pos (if_pos ⟨rfl, c0, c1⟩)]; rfl
  rw [e1]
  obtain ⟨v0, v1⟩ := hv
  have wc : IntKind.u64.wrap c = c := by rw [IntKind.wrap_u64]; omega
  clear e1
  go_enter Tryd.func22, Tryd.ntmps22
  go_wp2_with fail
  (try simp only [Exit.inBlock, Exit.then])
  refine bodyPost_ret (res_reg rfl _ _ _ ({ R with aI := va / 8192 * 8192 + c }) rfl (boxes w _ _ _ _).2) rfl ?_
  exact ⟨ret_reg rfl rfl, (boxes w _ _ _ _).1⟩
theorem dmiss_d (R : Reg) (va c : Int) (hv : U va) (c0 : 0 ≤ c) (c1 : c ≤ 8191) (w : World) :
    Calls Tryd.prog 22 #[.agg #[.int .u64 R.sI, .int .u64 R.tI, .int .u64 R.aI, .int .u64 R.pr, .int .u64 R.se, .int .u64 R.sD, .int .u64 R.ad, .int .u64 R.tD, .int .u64 R.aD], .int .i64 1, .int .u64 va, .int .i64 c] w fun e w' => e = .returned (.tuple #[.agg #[.int .u64 (misR R 1 va c).sI, .int .u64 (misR R 1 va c).tI, .int .u64 (misR R 1 va c).aI, .int .u64 (misR R 1 va c).pr, .int .u64 (misR R 1 va c).se, .int .u64 (misR R 1 va c).sD, .int .u64 (misR R 1 va c).ad, .int .u64 (misR R 1 va c).tD, .int .u64 (misR R 1 va c).aD], .int .i64 0]) ∧ Below w.heap.size w w' := by
  have e1 : misR R 1 va c = { R with aD := va / 8192 * 8192 + c } := by
    unfold misR misE; rw [show uB 1 = true from rfl, if_pos (if_pos ⟨rfl, c0, c1⟩)]; rfl
  rw [e1]
  obtain ⟨v0, v1⟩ := hv
  have wc : IntKind.u64.wrap c = c := by rw [IntKind.wrap_u64]; omega
  clear e1
  go_enter Tryd.func22, Tryd.ntmps22
  go_wp2_with fail
  (try simp only [Exit.inBlock, Exit.then])
  refine bodyPost_ret (res_reg rfl _ _ _ ({ R with aD := va / 8192 * 8192 + c }) rfl (boxes w _ _ _ _).2) rfl ?_
  exact ⟨ret_reg rfl rfl, (boxes w _ _ _ _).1⟩
theorem dmiss_any (R : Reg) (u va c : Int) (hv : U va) (w : World) :
    Calls Tryd.prog 22 #[.agg #[.int .u64 R.sI, .int .u64 R.tI, .int .u64 R.aI, .int .u64 R.pr, .int .u64 R.se, .int .u64 R.sD, .int .u64 R.ad, .int .u64 R.tD, .int .u64 R.aD], .int .i64 u, .int .u64 va, .int .i64 c] w fun e w' => e = .returned (.tuple #[.agg #[.int .u64 (misR R u va c).sI, .int .u64 (misR R u va c).tI, .int .u64 (misR R u va c).aI, .int .u64 (misR R u va c).pr, .int .u64 (misR R u va c).se, .int .u64 (misR R u va c).sD, .int .u64 (misR R u va c).ad, .int .u64 (misR R u va c).tD, .int .u64 (misR R u va c).aD], .int .i64 (misE u c)]) ∧ Below w.heap.size w w' := by
  by_cases hE : misE u c = 0
  · rw [hE]
    obtain ⟨hu, h1, h2⟩ := misE_zero hE
    rcases hu with rfl | rfl
    · exact dmiss_i R va c hv h1 h2 w
    · exact dmiss_d R va c hv h1 h2 w
  · have e1 : misE u c = 1 := by unfold misE at hE ⊢; split at hE <;> simp_all
    have e2 : misR R u va c = R := by unfold misR; rw [if_neg hE]
    rw [e2, e1]
    exact dmiss_err R u va c e1 w
theorem dfault_err (R : Reg) (u k a : Int) (st pr : Bool) (va : Int) (h : fauE u k a = 1) (w : World) :
    Calls Tryd.prog 23 #[.agg #[.int .u64 R.sI, .int .u64 R.tI, .int .u64 R.aI, .int .u64 R.pr, .int .u64 R.se, .int .u64 R.sD, .int .u64 R.ad, .int .u64 R.tD, .int .u64 R.aD], .int .i64 u, .int .i64 k, .int .i64 a, .bool st, .bool pr, .int .u64 va] w fun e w' => e = .returned (.tuple #[.agg #[.int .u64 R.sI, .int .u64 R.tI, .int .u64 R.aI, .int .u64 R.pr, .int .u64 R.se, .int .u64 R.sD, .int .u64 R.ad, .int .u64 R.tD, .int .u64 R.aD], .int .i64 1]) ∧ Below w.heap.size w w' := by
  by_cases h0 : u < 0
  · go_enter Tryd.func23, Tryd.ntmps23
    go_wp2_with fail
    (try simp only [Exit.inBlock, Exit.then])
    refine bodyPost_ret (res_reg rfl _ _ _ (R) rfl (boxes w _ _ _ _).2) rfl ?_
    exact ⟨ret_reg rfl rfl, (boxes w _ _ _ _).1⟩
  · skip
    by_cases h1 : 1 < u
    · go_enter Tryd.func23, Tryd.ntmps23
      go_wp2_with fail
      (try simp only [Exit.inBlock, Exit.then])
      refine bodyPost_ret (res_reg rfl _ _ _ (R) rfl (boxes w _ _ _ _).2) rfl ?_
      exact ⟨ret_reg rfl rfl, (boxes w _ _ _ _).1⟩
    · skip
      by_cases h2 : k < 0
      · go_enter Tryd.func23, Tryd.ntmps23
        go_wp2_with fail
        (try simp only [Exit.inBlock, Exit.then])
        refine bodyPost_ret (res_reg rfl _ _ _ (R) rfl (boxes w _ _ _ _).2) rfl ?_
        exact ⟨ret_reg rfl rfl, (boxes w _ _ _ _).1⟩
      · skip
        by_cases h3 : 127 < k
        · go_enter Tryd.func23, Tryd.ntmps23
          go_wp2_with fail
          (try simp only [Exit.inBlock, Exit.then])
          refine bodyPost_ret (res_reg rfl _ _ _ (R) rfl (boxes w _ _ _ _).2) rfl ?_
          exact ⟨ret_reg rfl rfl, (boxes w _ _ _ _).1⟩
        · skip
          by_cases h4 : a < 0
          · go_enter Tryd.func23, Tryd.ntmps23
            go_wp2_with fail
            (try simp only [Exit.inBlock, Exit.then])
            refine bodyPost_ret (res_reg rfl _ _ _ (R) rfl (boxes w _ _ _ _).2) rfl ?_
            exact ⟨ret_reg rfl rfl, (boxes w _ _ _ _).1⟩
          · skip
            have h5 : 255 < a := by
              unfold fauE uB at h; split at h
              · cases h
              · rename_i hn; simp at hn; omega
            go_enter Tryd.func23, Tryd.ntmps23
            go_wp2_with fail
            (try simp only [Exit.inBlock, Exit.then])
            refine bodyPost_ret (res_reg rfl _ _ _ (R) rfl (boxes w _ _ _ _).2) rfl ?_
            exact ⟨ret_reg rfl rfl, (boxes w _ _ _ _).1⟩
theorem dfault_i (R : Reg) (k a : Int) (st pr : Bool) (va : Int) (h : U R.sI) (k0 : 0 ≤ k) (k1 : k ≤ 127) (a0 : 0 ≤ a) (a1 : a ≤ 255) (w : World) :
    Calls Tryd.prog 23 #[.agg #[.int .u64 R.sI, .int .u64 R.tI, .int .u64 R.aI, .int .u64 R.pr, .int .u64 R.se, .int .u64 R.sD, .int .u64 R.ad, .int .u64 R.tD, .int .u64 R.aD], .int .i64 0, .int .i64 k, .int .i64 a, .bool st, .bool pr, .int .u64 va] w fun e w' => e = .returned (.tuple #[.agg #[.int .u64 (fauR R 0 k a st pr va).sI, .int .u64 (fauR R 0 k a st pr va).tI, .int .u64 (fauR R 0 k a st pr va).aI, .int .u64 (fauR R 0 k a st pr va).pr, .int .u64 (fauR R 0 k a st pr va).se, .int .u64 (fauR R 0 k a st pr va).sD, .int .u64 (fauR R 0 k a st pr va).ad, .int .u64 (fauR R 0 k a st pr va).tD, .int .u64 (fauR R 0 k a st pr va).aD], .int .i64 0]) ∧ Below w.heap.size w w' := by
  have e1 : fauR R 0 k a st pr va = { R with sI := fauI R.sI k a st pr } := by
    unfold fauR fauE; rw [show uB 0 = true from rfl, if_pos (if_pos ⟨rfl, k0, k1, a0, a1⟩)]; rfl
  rw [e1]
  obtain ⟨v0, v1⟩ := h
  have wk : IntKind.u64.wrap k = k := by rw [IntKind.wrap_u64]; omega
  have wa : IntKind.u64.wrap a = a := by rw [IntKind.wrap_u64]; omega
  clear e1
  cases st <;> cases pr
  · have E := Lib.hid (show 1 + 2 * (R.sI % 2) + k * 128 + a * 65536 = fauI R.sI k a false false by unfold fauI; simp)
    go_enter Tryd.func23, Tryd.ntmps23
    go_wp2_with fail
    (try simp only [Exit.inBlock, Exit.then])
    refine bodyPost_ret (res_reg rfl _ _ _ ({ R with sI := 1 + 2 * (R.sI % 2) + k * 128 + a * 65536 }) rfl (boxes w _ _ _ _).2) rfl ?_
    exact ⟨ret_reg (show ({ R with sI := 1 + 2 * (R.sI % 2) + k * 128 + a * 65536 } : Reg) = { R with sI := fauI R.sI k a false false } by rw [E.out]) rfl, (boxes w _ _ _ _).1⟩
  · have E := Lib.hid (show 1 + 2 * (R.sI % 2) + k * 128 + a * 65536 + 8 = fauI R.sI k a false true by unfold fauI; simp)
    go_enter Tryd.func23, Tryd.ntmps23
    go_wp2_with fail
    (try simp only [Exit.inBlock, Exit.then])
    refine bodyPost_ret (res_reg rfl _ _ _ ({ R with sI := 1 + 2 * (R.sI % 2) + k * 128 + a * 65536 + 8 }) rfl (boxes w _ _ _ _).2) rfl ?_
    exact ⟨ret_reg (show ({ R with sI := 1 + 2 * (R.sI % 2) + k * 128 + a * 65536 + 8 } : Reg) = { R with sI := fauI R.sI k a false true } by rw [E.out]) rfl, (boxes w _ _ _ _).1⟩
  · have E := Lib.hid (show 1 + 2 * (R.sI % 2) + k * 128 + a * 65536 + 4 = fauI R.sI k a true false by unfold fauI; simp)
    go_enter Tryd.func23, Tryd.ntmps23
    go_wp2_with fail
    (try simp only [Exit.inBlock, Exit.then])
    refine bodyPost_ret (res_reg rfl _ _ _ ({ R with sI := 1 + 2 * (R.sI % 2) + k * 128 + a * 65536 + 4 }) rfl (boxes w _ _ _ _).2) rfl ?_
    exact ⟨ret_reg (show ({ R with sI := 1 + 2 * (R.sI % 2) + k * 128 + a * 65536 + 4 } : Reg) = { R with sI := fauI R.sI k a true false } by rw [E.out]) rfl, (boxes w _ _ _ _).1⟩
  · have E := Lib.hid (show 1 + 2 * (R.sI % 2) + k * 128 + a * 65536 + 4 + 8 = fauI R.sI k a true true by unfold fauI; simp)
    go_enter Tryd.func23, Tryd.ntmps23
    go_wp2_with fail
    (try simp only [Exit.inBlock, Exit.then])
    refine bodyPost_ret (res_reg rfl _ _ _ ({ R with sI := 1 + 2 * (R.sI % 2) + k * 128 + a * 65536 + 4 + 8 }) rfl (boxes w _ _ _ _).2) rfl ?_
    exact ⟨ret_reg (show ({ R with sI := 1 + 2 * (R.sI % 2) + k * 128 + a * 65536 + 4 + 8 } : Reg) = { R with sI := fauI R.sI k a true true } by rw [E.out]) rfl, (boxes w _ _ _ _).1⟩
theorem dfault_d (R : Reg) (k a : Int) (st pr : Bool) (va : Int) (h : U R.sD) (k0 : 0 ≤ k) (k1 : k ≤ 127) (a0 : 0 ≤ a) (a1 : a ≤ 255) (w : World) :
    Calls Tryd.prog 23 #[.agg #[.int .u64 R.sI, .int .u64 R.tI, .int .u64 R.aI, .int .u64 R.pr, .int .u64 R.se, .int .u64 R.sD, .int .u64 R.ad, .int .u64 R.tD, .int .u64 R.aD], .int .i64 1, .int .i64 k, .int .i64 a, .bool st, .bool pr, .int .u64 va] w fun e w' => e = .returned (.tuple #[.agg #[.int .u64 (fauR R 1 k a st pr va).sI, .int .u64 (fauR R 1 k a st pr va).tI, .int .u64 (fauR R 1 k a st pr va).aI, .int .u64 (fauR R 1 k a st pr va).pr, .int .u64 (fauR R 1 k a st pr va).se, .int .u64 (fauR R 1 k a st pr va).sD, .int .u64 (fauR R 1 k a st pr va).ad, .int .u64 (fauR R 1 k a st pr va).tD, .int .u64 (fauR R 1 k a st pr va).aD], .int .i64 0]) ∧ Below w.heap.size w w' := by
  have e1 : fauR R 1 k a st pr va = { R with sD := fauI R.sD k a st pr, ad := va } := by
    unfold fauR fauE; rw [show uB 1 = true from rfl, if_pos (if_pos ⟨rfl, k0, k1, a0, a1⟩)]; rfl
  rw [e1]
  obtain ⟨v0, v1⟩ := h
  have wk : IntKind.u64.wrap k = k := by rw [IntKind.wrap_u64]; omega
  have wa : IntKind.u64.wrap a = a := by rw [IntKind.wrap_u64]; omega
  clear e1
  cases st <;> cases pr
  · have E := Lib.hid (show 1 + 2 * (R.sD % 2) + k * 128 + a * 65536 = fauI R.sD k a false false by unfold fauI; simp)
    go_enter Tryd.func23, Tryd.ntmps23
    go_wp2_with fail
    (try simp only [Exit.inBlock, Exit.then])
    refine bodyPost_ret (res_reg rfl _ _ _ ({ R with sD := 1 + 2 * (R.sD % 2) + k * 128 + a * 65536, ad := va }) rfl (boxes w _ _ _ _).2) rfl ?_
    exact ⟨ret_reg (show ({ R with sD := 1 + 2 * (R.sD % 2) + k * 128 + a * 65536, ad := va } : Reg) = { R with sD := fauI R.sD k a false false, ad := va } by rw [E.out]) rfl, (boxes w _ _ _ _).1⟩
  · have E := Lib.hid (show 1 + 2 * (R.sD % 2) + k * 128 + a * 65536 + 8 = fauI R.sD k a false true by unfold fauI; simp)
    go_enter Tryd.func23, Tryd.ntmps23
    go_wp2_with fail
    (try simp only [Exit.inBlock, Exit.then])
    refine bodyPost_ret (res_reg rfl _ _ _ ({ R with sD := 1 + 2 * (R.sD % 2) + k * 128 + a * 65536 + 8, ad := va }) rfl (boxes w _ _ _ _).2) rfl ?_
    exact ⟨ret_reg (show ({ R with sD := 1 + 2 * (R.sD % 2) + k * 128 + a * 65536 + 8, ad := va } : Reg) = { R with sD := fauI R.sD k a false true, ad := va } by rw [E.out]) rfl, (boxes w _ _ _ _).1⟩
  · have E := Lib.hid (show 1 + 2 * (R.sD % 2) + k * 128 + a * 65536 + 4 = fauI R.sD k a true false by unfold fauI; simp)
    go_enter Tryd.func23, Tryd.ntmps23
    go_wp2_with fail
    (try simp only [Exit.inBlock, Exit.then])
    refine bodyPost_ret (res_reg rfl _ _ _ ({ R with sD := 1 + 2 * (R.sD % 2) + k * 128 + a * 65536 + 4, ad := va }) rfl (boxes w _ _ _ _).2) rfl ?_
    exact ⟨ret_reg (show ({ R with sD := 1 + 2 * (R.sD % 2) + k * 128 + a * 65536 + 4, ad := va } : Reg) = { R with sD := fauI R.sD k a true false, ad := va } by rw [E.out]) rfl, (boxes w _ _ _ _).1⟩
  · have E := Lib.hid (show 1 + 2 * (R.sD % 2) + k * 128 + a * 65536 + 4 + 8 = fauI R.sD k a true true by unfold fauI; simp)
    go_enter Tryd.func23, Tryd.ntmps23
    go_wp2_with fail
    (try simp only [Exit.inBlock, Exit.then])
    refine bodyPost_ret (res_reg rfl _ _ _ ({ R with sD := 1 + 2 * (R.sD % 2) + k * 128 + a * 65536 + 4 + 8, ad := va }) rfl (boxes w _ _ _ _).2) rfl ?_
    exact ⟨ret_reg (show ({ R with sD := 1 + 2 * (R.sD % 2) + k * 128 + a * 65536 + 4 + 8, ad := va } : Reg) = { R with sD := fauI R.sD k a true true, ad := va } by rw [E.out]) rfl, (boxes w _ _ _ _).1⟩
theorem dfault_any (R : Reg) (hR : R.Wf) (u k a : Int) (st pr : Bool) (va : Int) (w : World) :
    Calls Tryd.prog 23 #[.agg #[.int .u64 R.sI, .int .u64 R.tI, .int .u64 R.aI, .int .u64 R.pr, .int .u64 R.se, .int .u64 R.sD, .int .u64 R.ad, .int .u64 R.tD, .int .u64 R.aD], .int .i64 u, .int .i64 k, .int .i64 a, .bool st, .bool pr, .int .u64 va] w fun e w' => e = .returned (.tuple #[.agg #[.int .u64 (fauR R u k a st pr va).sI, .int .u64 (fauR R u k a st pr va).tI, .int .u64 (fauR R u k a st pr va).aI, .int .u64 (fauR R u k a st pr va).pr, .int .u64 (fauR R u k a st pr va).se, .int .u64 (fauR R u k a st pr va).sD, .int .u64 (fauR R u k a st pr va).ad, .int .u64 (fauR R u k a st pr va).tD, .int .u64 (fauR R u k a st pr va).aD], .int .i64 (fauE u k a)]) ∧ Below w.heap.size w w' := by
  by_cases hE : fauE u k a = 0
  · rw [hE]
    obtain ⟨hu, h1, h2, h3, h4⟩ := fauE_zero hE
    rcases hu with rfl | rfl
    · exact dfault_i R k a st pr va hR.sI h1 h2 h3 h4 w
    · exact dfault_d R k a st pr va hR.sD h1 h2 h3 h4 w
  · have e1 : fauE u k a = 1 := by unfold fauE at hE ⊢; split at hE <;> simp_all
    have e2 : fauR R u k a st pr va = R := by unfold fauR; rw [if_neg hE]
    rw [e2, e1]
    exact dfault_err R u k a st pr va e1 w
end Go.Proofs.YtohcmijgakijfaaDoor.Rg
