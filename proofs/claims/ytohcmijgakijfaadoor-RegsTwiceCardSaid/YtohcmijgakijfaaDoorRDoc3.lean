/-
  Contract of the document's Write of registers. Conditions: words are below 2 to the 64.
-/
import Derived.Test.YtohcmijgakijfaaDoorRDoc2
import Derived.Test.YtohcmijgakijfaaDoorROps2
namespace Go.Proofs.YtohcmijgakijfaaDoor.Rg
open Fld
open Go.ChangeShapes Go.WideShapes Go.ChangeAt Go.RowKit Go.Maps
set_option maxHeartbeats 1000000
set_option maxRecDepth 100000
theorem two_boxes (w : World) (R : Reg) : (((w.alloc (.cells #[.int .u64 R.sI, .int .u64 R.tI, .int .u64 R.aI, .int .u64 R.pr, .int .u64 R.se, .int .u64 R.sD, .int .u64 R.ad, .int .u64 R.tD, .int .u64 R.aD] 27)).alloc (.cells #[.int .u64 Reg.zero.sI, .int .u64 Reg.zero.tI, .int .u64 Reg.zero.aI, .int .u64 Reg.zero.pr, .int .u64 Reg.zero.se, .int .u64 Reg.zero.sD, .int .u64 Reg.zero.ad, .int .u64 Reg.zero.tD, .int .u64 Reg.zero.aD] 27)).heap[w.heap.size]? = some (.cells #[.int .u64 R.sI, .int .u64 R.tI, .int .u64 R.aI, .int .u64 R.pr, .int .u64 R.se, .int .u64 R.sD, .int .u64 R.ad, .int .u64 R.tD, .int .u64 R.aD] 27 (0, 0))) ∧ w.heap.size < ((w.alloc (.cells #[.int .u64 R.sI, .int .u64 R.tI, .int .u64 R.aI, .int .u64 R.pr, .int .u64 R.se, .int .u64 R.sD, .int .u64 R.ad, .int .u64 R.tD, .int .u64 R.aD] 27)).alloc (.cells #[.int .u64 Reg.zero.sI, .int .u64 Reg.zero.tI, .int .u64 Reg.zero.aI, .int .u64 Reg.zero.pr, .int .u64 Reg.zero.se, .int .u64 Reg.zero.sD, .int .u64 Reg.zero.ad, .int .u64 Reg.zero.tD, .int .u64 Reg.zero.aD] 27)).heap.size ∧ w.heap.size + 1 < ((w.alloc (.cells #[.int .u64 R.sI, .int .u64 R.tI, .int .u64 R.aI, .int .u64 R.pr, .int .u64 R.se, .int .u64 R.sD, .int .u64 R.ad, .int .u64 R.tD, .int .u64 R.aD] 27)).alloc (.cells #[.int .u64 Reg.zero.sI, .int .u64 Reg.zero.tI, .int .u64 Reg.zero.aI, .int .u64 Reg.zero.pr, .int .u64 Reg.zero.se, .int .u64 Reg.zero.sD, .int .u64 Reg.zero.ad, .int .u64 Reg.zero.tD, .int .u64 Reg.zero.aD] 27)).heap.size := by
  refine ⟨?_, by simp; omega, by simp⟩
  rw [Below.heap_alloc _ _ _ (by simp)]
  exact heap_alloc_new _ _
theorem dwrite_none (R : Reg) (hR : R.Wf) (a p v : Int) (hB : isB a p = false) (w : World) :
    Calls Tryd.prog 21 #[.agg #[.int .u64 R.sI, .int .u64 R.tI, .int .u64 R.aI, .int .u64 R.pr, .int .u64 R.se, .int .u64 R.sD, .int .u64 R.ad, .int .u64 R.tD, .int .u64 R.aD], .int .i64 a, .int .u64 p, .int .u64 v] w fun e w' => e = .returned (.tuple #[.agg #[.int .u64 R.sI, .int .u64 R.tI, .int .u64 R.aI, .int .u64 R.pr, .int .u64 R.se, .int .u64 R.sD, .int .u64 R.ad, .int .u64 R.tD, .int .u64 R.aD], .int .i64 10]) ∧ Below w.heap.size w w' := by
  have g1 : regE a p = 10 := by unfold regE; rw [hB]; rfl
  have BX := boxes w #[.int .u64 R.sI, .int .u64 R.tI, .int .u64 R.aI, .int .u64 R.pr, .int .u64 R.se, .int .u64 R.sD, .int .u64 R.ad, .int .u64 R.tD, .int .u64 R.aD] #[.int .u64 Reg.zero.sI, .int .u64 Reg.zero.tI, .int .u64 Reg.zero.aI, .int .u64 Reg.zero.pr, .int .u64 Reg.zero.se, .int .u64 Reg.zero.sD, .int .u64 Reg.zero.ad, .int .u64 Reg.zero.tD, .int .u64 Reg.zero.aD] 27 27
  have TB := two_boxes w R
  have C := Lib.hid (dread_any R hR a p ((w.alloc (.cells #[.int .u64 R.sI, .int .u64 R.tI, .int .u64 R.aI, .int .u64 R.pr, .int .u64 R.se, .int .u64 R.sD, .int .u64 R.ad, .int .u64 R.tD, .int .u64 R.aD] 27)).alloc (.cells #[.int .u64 Reg.zero.sI, .int .u64 Reg.zero.tI, .int .u64 Reg.zero.aI, .int .u64 Reg.zero.pr, .int .u64 Reg.zero.se, .int .u64 Reg.zero.sD, .int .u64 Reg.zero.ad, .int .u64 Reg.zero.tD, .int .u64 Reg.zero.aD] 27)))
  rw [g1] at C
  go_enter Tryd.func21, Tryd.ntmps21
  go_wp2_with fail
  refine C.out.mono ?_; rintro e w1 ⟨rfl, hb⟩
  have B1 := BX.1.trans (hb.mono BX.1.size)
  have r1 := (hb.block _ TB.2.1).trans TB.1
  have r2 := (hb.block _ TB.2.2).trans BX.2
  clear C BX TB hb
  obtain ⟨c0, c1, c2, c3, c4, c5, c6, c7, c8⟩ := nine_cells r1
  obtain ⟨d0, d1, d2, d3, d4, d5, d6, d7, d8⟩ := nine_cells r2
  have F1 := row_frozen r1
  have F2 := row_frozen r2
  go_wp2_with fail
  (try simp only [Exit.inBlock, Exit.then])
  refine bodyPost_ret (res_reg rfl _ _ (w.heap.size + 1) (R) rfl (row_nine r2)) rfl ?_
  exact ⟨ret_reg rfl rfl, below_nine B1 (by omega)⟩
theorem dwrite_zero (R : Reg) (hR : R.Wf) (a v : Int) (hB : isB a 0 = true) (w : World) :
    Calls Tryd.prog 21 #[.agg #[.int .u64 R.sI, .int .u64 R.tI, .int .u64 R.aI, .int .u64 R.pr, .int .u64 R.se, .int .u64 R.sD, .int .u64 R.ad, .int .u64 R.tD, .int .u64 R.aD], .int .i64 a, .int .u64 0, .int .u64 v] w fun e w' => e = .returned (.tuple #[.agg #[.int .u64 R.sI, .int .u64 R.tI, .int .u64 R.aI, .int .u64 R.pr, .int .u64 R.se, .int .u64 R.sD, .int .u64 R.ad, .int .u64 R.tD, .int .u64 R.aD], .int .i64 11]) ∧ Below w.heap.size w w' := by
  have g1 : regE a 0 = 0 := by unfold regE; rw [hB]; rfl
  clear hB
  have BX := boxes w #[.int .u64 R.sI, .int .u64 R.tI, .int .u64 R.aI, .int .u64 R.pr, .int .u64 R.se, .int .u64 R.sD, .int .u64 R.ad, .int .u64 R.tD, .int .u64 R.aD] #[.int .u64 Reg.zero.sI, .int .u64 Reg.zero.tI, .int .u64 Reg.zero.aI, .int .u64 Reg.zero.pr, .int .u64 Reg.zero.se, .int .u64 Reg.zero.sD, .int .u64 Reg.zero.ad, .int .u64 Reg.zero.tD, .int .u64 Reg.zero.aD] 27 27
  have TB := two_boxes w R
  have C := Lib.hid (dread_any R hR a 0 ((w.alloc (.cells #[.int .u64 R.sI, .int .u64 R.tI, .int .u64 R.aI, .int .u64 R.pr, .int .u64 R.se, .int .u64 R.sD, .int .u64 R.ad, .int .u64 R.tD, .int .u64 R.aD] 27)).alloc (.cells #[.int .u64 Reg.zero.sI, .int .u64 Reg.zero.tI, .int .u64 Reg.zero.aI, .int .u64 Reg.zero.pr, .int .u64 Reg.zero.se, .int .u64 Reg.zero.sD, .int .u64 Reg.zero.ad, .int .u64 Reg.zero.tD, .int .u64 Reg.zero.aD] 27)))
  rw [g1] at C
  go_enter Tryd.func21, Tryd.ntmps21
  go_wp2_with fail
  refine C.out.mono ?_; rintro e w1 ⟨rfl, hb⟩
  have B1 := BX.1.trans (hb.mono BX.1.size)
  have r1 := (hb.block _ TB.2.1).trans TB.1
  have r2 := (hb.block _ TB.2.2).trans BX.2
  clear C BX TB hb
  obtain ⟨c0, c1, c2, c3, c4, c5, c6, c7, c8⟩ := nine_cells r1
  obtain ⟨d0, d1, d2, d3, d4, d5, d6, d7, d8⟩ := nine_cells r2
  have F1 := row_frozen r1
  have F2 := row_frozen r2
  go_wp2_with fail
  (try simp only [Exit.inBlock, Exit.then])
  refine bodyPost_ret (res_reg rfl _ _ (w.heap.size + 1) (R) rfl (row_nine r2)) rfl ?_
  exact ⟨ret_reg rfl rfl, below_nine B1 (by omega)⟩
theorem dwrite_addr (R : Reg) (hR : R.Wf) (a v : Int) (hB : isB a 32 = true) (w : World) :
    Calls Tryd.prog 21 #[.agg #[.int .u64 R.sI, .int .u64 R.tI, .int .u64 R.aI, .int .u64 R.pr, .int .u64 R.se, .int .u64 R.sD, .int .u64 R.ad, .int .u64 R.tD, .int .u64 R.aD], .int .i64 a, .int .u64 32, .int .u64 v] w fun e w' => e = .returned (.tuple #[.agg #[.int .u64 R.sI, .int .u64 R.tI, .int .u64 R.aI, .int .u64 R.pr, .int .u64 R.se, .int .u64 R.sD, .int .u64 R.ad, .int .u64 R.tD, .int .u64 R.aD], .int .i64 11]) ∧ Below w.heap.size w w' := by
  have g1 : regE a 32 = 0 := by unfold regE; rw [hB]; rfl
  clear hB
  have BX := boxes w #[.int .u64 R.sI, .int .u64 R.tI, .int .u64 R.aI, .int .u64 R.pr, .int .u64 R.se, .int .u64 R.sD, .int .u64 R.ad, .int .u64 R.tD, .int .u64 R.aD] #[.int .u64 Reg.zero.sI, .int .u64 Reg.zero.tI, .int .u64 Reg.zero.aI, .int .u64 Reg.zero.pr, .int .u64 Reg.zero.se, .int .u64 Reg.zero.sD, .int .u64 Reg.zero.ad, .int .u64 Reg.zero.tD, .int .u64 Reg.zero.aD] 27 27
  have TB := two_boxes w R
  have C := Lib.hid (dread_any R hR a 32 ((w.alloc (.cells #[.int .u64 R.sI, .int .u64 R.tI, .int .u64 R.aI, .int .u64 R.pr, .int .u64 R.se, .int .u64 R.sD, .int .u64 R.ad, .int .u64 R.tD, .int .u64 R.aD] 27)).alloc (.cells #[.int .u64 Reg.zero.sI, .int .u64 Reg.zero.tI, .int .u64 Reg.zero.aI, .int .u64 Reg.zero.pr, .int .u64 Reg.zero.se, .int .u64 Reg.zero.sD, .int .u64 Reg.zero.ad, .int .u64 Reg.zero.tD, .int .u64 Reg.zero.aD] 27)))
  rw [g1] at C
  go_enter Tryd.func21, Tryd.ntmps21
  go_wp2_with fail
  refine C.out.mono ?_; rintro e w1 ⟨rfl, hb⟩
  have B1 := BX.1.trans (hb.mono BX.1.size)
  have r1 := (hb.block _ TB.2.1).trans TB.1
  have r2 := (hb.block _ TB.2.2).trans BX.2
  clear C BX TB hb
  obtain ⟨c0, c1, c2, c3, c4, c5, c6, c7, c8⟩ := nine_cells r1
  obtain ⟨d0, d1, d2, d3, d4, d5, d6, d7, d8⟩ := nine_cells r2
  have F1 := row_frozen r1
  have F2 := row_frozen r2
  go_wp2_with fail
  (try simp only [Exit.inBlock, Exit.then])
  refine bodyPost_ret (res_reg rfl _ _ (w.heap.size + 1) (R) rfl (row_nine r2)) rfl ?_
  exact ⟨ret_reg rfl rfl, below_nine B1 (by omega)⟩
theorem dwrite_80_24 (R : Reg) (hR : R.Wf) (v : Int) (hv : U v) (w : World) :
    Calls Tryd.prog 21 #[.agg #[.int .u64 R.sI, .int .u64 R.tI, .int .u64 R.aI, .int .u64 R.pr, .int .u64 R.se, .int .u64 R.sD, .int .u64 R.ad, .int .u64 R.tD, .int .u64 R.aD], .int .i64 80, .int .u64 24, .int .u64 v] w fun e w' => e = .returned (.tuple #[.agg #[.int .u64 (wrR R 80 24 v).sI, .int .u64 (wrR R 80 24 v).tI, .int .u64 (wrR R 80 24 v).aI, .int .u64 (wrR R 80 24 v).pr, .int .u64 (wrR R 80 24 v).se, .int .u64 (wrR R 80 24 v).sD, .int .u64 (wrR R 80 24 v).ad, .int .u64 (wrR R 80 24 v).tD, .int .u64 (wrR R 80 24 v).aD], .int .i64 0]) ∧ Below w.heap.size w w' := by
  rw [show wrR R 80 24 v = { R with sI := stI v } from rfl]
  have hv0 := hv.1
  have hv1 := hv.2
  have BX := boxes w #[.int .u64 R.sI, .int .u64 R.tI, .int .u64 R.aI, .int .u64 R.pr, .int .u64 R.se, .int .u64 R.sD, .int .u64 R.ad, .int .u64 R.tD, .int .u64 R.aD] #[.int .u64 Reg.zero.sI, .int .u64 Reg.zero.tI, .int .u64 Reg.zero.aI, .int .u64 Reg.zero.pr, .int .u64 Reg.zero.se, .int .u64 Reg.zero.sD, .int .u64 Reg.zero.ad, .int .u64 Reg.zero.tD, .int .u64 Reg.zero.aD] 27 27
  have TB := two_boxes w R
  have C := Lib.hid (dread_any R hR 80 24 ((w.alloc (.cells #[.int .u64 R.sI, .int .u64 R.tI, .int .u64 R.aI, .int .u64 R.pr, .int .u64 R.se, .int .u64 R.sD, .int .u64 R.ad, .int .u64 R.tD, .int .u64 R.aD] 27)).alloc (.cells #[.int .u64 Reg.zero.sI, .int .u64 Reg.zero.tI, .int .u64 Reg.zero.aI, .int .u64 Reg.zero.pr, .int .u64 Reg.zero.se, .int .u64 Reg.zero.sD, .int .u64 Reg.zero.ad, .int .u64 Reg.zero.tD, .int .u64 Reg.zero.aD] 27)))
  rw [show regE 80 24 = 0 from rfl] at C
  go_enter Tryd.func21, Tryd.ntmps21
  go_wp2_with fail
  refine C.out.mono ?_; rintro e w1 ⟨rfl, hb⟩
  have B1 := BX.1.trans (hb.mono BX.1.size)
  have r1 := (hb.block _ TB.2.1).trans TB.1
  have r2 := (hb.block _ TB.2.2).trans BX.2
  clear C BX TB hb
  obtain ⟨c0, c1, c2, c3, c4, c5, c6, c7, c8⟩ := nine_cells r1
  obtain ⟨d0, d1, d2, d3, d4, d5, d6, d7, d8⟩ := nine_cells r2
  have F1 := row_frozen r1
  have F2 := row_frozen r2
  go_wp2_with fail
  refine (dstatus_any v hv _).mono ?_; rintro e w2 ⟨rfl, rfl⟩
  go_wp2_with fail
  (try simp only [Exit.inBlock, Exit.then])
  refine bodyPost_ret (res_reg rfl _ _ (w.heap.size + 1) ({ R with sI := stI v }) rfl (row_nine (w := w1.setCell ⟨w.heap.size, 0, none⟩ (.int .u64 (stI v))) ((Below.heap_setCell _ _ _ _ (by simp)).trans r2))) rfl ?_
  exact ⟨ret_reg rfl rfl, below_nine (below_setN (o := 0) (u := .int .u64 (stI v)) B1 (Nat.le_refl _)) (by omega)⟩
theorem dwrite_80_40 (R : Reg) (hR : R.Wf) (v : Int) (hv : U v) (w : World) :
    Calls Tryd.prog 21 #[.agg #[.int .u64 R.sI, .int .u64 R.tI, .int .u64 R.aI, .int .u64 R.pr, .int .u64 R.se, .int .u64 R.sD, .int .u64 R.ad, .int .u64 R.tD, .int .u64 R.aD], .int .i64 80, .int .u64 40, .int .u64 v] w fun e w' => e = .returned (.tuple #[.agg #[.int .u64 (wrR R 80 40 v).sI, .int .u64 (wrR R 80 40 v).tI, .int .u64 (wrR R 80 40 v).aI, .int .u64 (wrR R 80 40 v).pr, .int .u64 (wrR R 80 40 v).se, .int .u64 (wrR R 80 40 v).sD, .int .u64 (wrR R 80 40 v).ad, .int .u64 (wrR R 80 40 v).tD, .int .u64 (wrR R 80 40 v).aD], .int .i64 0]) ∧ Below w.heap.size w w' := by
  rw [show wrR R 80 40 v = { R with tI := tsI v } from rfl]
  have hv0 := hv.1
  have hv1 := hv.2
  have BX := boxes w #[.int .u64 R.sI, .int .u64 R.tI, .int .u64 R.aI, .int .u64 R.pr, .int .u64 R.se, .int .u64 R.sD, .int .u64 R.ad, .int .u64 R.tD, .int .u64 R.aD] #[.int .u64 Reg.zero.sI, .int .u64 Reg.zero.tI, .int .u64 Reg.zero.aI, .int .u64 Reg.zero.pr, .int .u64 Reg.zero.se, .int .u64 Reg.zero.sD, .int .u64 Reg.zero.ad, .int .u64 Reg.zero.tD, .int .u64 Reg.zero.aD] 27 27
  have TB := two_boxes w R
  have C := Lib.hid (dread_any R hR 80 40 ((w.alloc (.cells #[.int .u64 R.sI, .int .u64 R.tI, .int .u64 R.aI, .int .u64 R.pr, .int .u64 R.se, .int .u64 R.sD, .int .u64 R.ad, .int .u64 R.tD, .int .u64 R.aD] 27)).alloc (.cells #[.int .u64 Reg.zero.sI, .int .u64 Reg.zero.tI, .int .u64 Reg.zero.aI, .int .u64 Reg.zero.pr, .int .u64 Reg.zero.se, .int .u64 Reg.zero.sD, .int .u64 Reg.zero.ad, .int .u64 Reg.zero.tD, .int .u64 Reg.zero.aD] 27)))
  rw [show regE 80 40 = 0 from rfl] at C
  go_enter Tryd.func21, Tryd.ntmps21
  go_wp2_with fail
  refine C.out.mono ?_; rintro e w1 ⟨rfl, hb⟩
  have B1 := BX.1.trans (hb.mono BX.1.size)
  have r1 := (hb.block _ TB.2.1).trans TB.1
  have r2 := (hb.block _ TB.2.2).trans BX.2
  clear C BX TB hb
  obtain ⟨c0, c1, c2, c3, c4, c5, c6, c7, c8⟩ := nine_cells r1
  obtain ⟨d0, d1, d2, d3, d4, d5, d6, d7, d8⟩ := nine_cells r2
  have F1 := row_frozen r1
  have F2 := row_frozen r2
  go_wp2_with fail
  refine (dtsb_any v hv _).mono ?_; rintro e w2 ⟨rfl, rfl⟩
  go_wp2_with fail
  (try simp only [Exit.inBlock, Exit.then])
  refine bodyPost_ret (res_reg rfl _ _ (w.heap.size + 1) ({ R with tI := tsI v }) rfl (row_nine (w := w1.setCell ⟨w.heap.size, 1, none⟩ (.int .u64 (tsI v))) ((Below.heap_setCell _ _ _ _ (by simp)).trans r2))) rfl ?_
  exact ⟨ret_reg rfl rfl, below_nine (below_setN (o := 1) (u := .int .u64 (tsI v)) B1 (Nat.le_refl _)) (by omega)⟩
theorem dwrite_80_48 (R : Reg) (hR : R.Wf) (v : Int) (hv : U v) (w : World) :
    Calls Tryd.prog 21 #[.agg #[.int .u64 R.sI, .int .u64 R.tI, .int .u64 R.aI, .int .u64 R.pr, .int .u64 R.se, .int .u64 R.sD, .int .u64 R.ad, .int .u64 R.tD, .int .u64 R.aD], .int .i64 80, .int .u64 48, .int .u64 v] w fun e w' => e = .returned (.tuple #[.agg #[.int .u64 (wrR R 80 48 v).sI, .int .u64 (wrR R 80 48 v).tI, .int .u64 (wrR R 80 48 v).aI, .int .u64 (wrR R 80 48 v).pr, .int .u64 (wrR R 80 48 v).se, .int .u64 (wrR R 80 48 v).sD, .int .u64 (wrR R 80 48 v).ad, .int .u64 (wrR R 80 48 v).tD, .int .u64 (wrR R 80 48 v).aD], .int .i64 0]) ∧ Below w.heap.size w w' := by
  rw [show wrR R 80 48 v = { R with aI := v } from rfl]
  have hv0 := hv.1
  have hv1 := hv.2
  have BX := boxes w #[.int .u64 R.sI, .int .u64 R.tI, .int .u64 R.aI, .int .u64 R.pr, .int .u64 R.se, .int .u64 R.sD, .int .u64 R.ad, .int .u64 R.tD, .int .u64 R.aD] #[.int .u64 Reg.zero.sI, .int .u64 Reg.zero.tI, .int .u64 Reg.zero.aI, .int .u64 Reg.zero.pr, .int .u64 Reg.zero.se, .int .u64 Reg.zero.sD, .int .u64 Reg.zero.ad, .int .u64 Reg.zero.tD, .int .u64 Reg.zero.aD] 27 27
  have TB := two_boxes w R
  have C := Lib.hid (dread_any R hR 80 48 ((w.alloc (.cells #[.int .u64 R.sI, .int .u64 R.tI, .int .u64 R.aI, .int .u64 R.pr, .int .u64 R.se, .int .u64 R.sD, .int .u64 R.ad, .int .u64 R.tD, .int .u64 R.aD] 27)).alloc (.cells #[.int .u64 Reg.zero.sI, .int .u64 Reg.zero.tI, .int .u64 Reg.zero.aI, .int .u64 Reg.zero.pr, .int .u64 Reg.zero.se, .int .u64 Reg.zero.sD, .int .u64 Reg.zero.ad, .int .u64 Reg.zero.tD, .int .u64 Reg.zero.aD] 27)))
  rw [show regE 80 48 = 0 from rfl] at C
  go_enter Tryd.func21, Tryd.ntmps21
  go_wp2_with fail
  refine C.out.mono ?_; rintro e w1 ⟨rfl, hb⟩
  have B1 := BX.1.trans (hb.mono BX.1.size)
  have r1 := (hb.block _ TB.2.1).trans TB.1
  have r2 := (hb.block _ TB.2.2).trans BX.2
  clear C BX TB hb
  obtain ⟨c0, c1, c2, c3, c4, c5, c6, c7, c8⟩ := nine_cells r1
  obtain ⟨d0, d1, d2, d3, d4, d5, d6, d7, d8⟩ := nine_cells r2
  have F1 := row_frozen r1
  have F2 := row_frozen r2
  go_wp2_with fail
  (try simp only [Exit.inBlock, Exit.then])
  refine bodyPost_ret (res_reg rfl _ _ (w.heap.size + 1) ({ R with aI := v }) rfl (row_nine (w := w1.setCell ⟨w.heap.size, 2, none⟩ (.int .u64 (v))) ((Below.heap_setCell _ _ _ _ (by simp)).trans r2))) rfl ?_
  exact ⟨ret_reg rfl rfl, below_nine (below_setN (o := 2) (u := .int .u64 (v)) B1 (Nat.le_refl _)) (by omega)⟩
theorem dwrite_88_8 (R : Reg) (hR : R.Wf) (v : Int) (hv : U v) (w : World) :
    Calls Tryd.prog 21 #[.agg #[.int .u64 R.sI, .int .u64 R.tI, .int .u64 R.aI, .int .u64 R.pr, .int .u64 R.se, .int .u64 R.sD, .int .u64 R.ad, .int .u64 R.tD, .int .u64 R.aD], .int .i64 88, .int .u64 8, .int .u64 v] w fun e w' => e = .returned (.tuple #[.agg #[.int .u64 (wrR R 88 8 v).sI, .int .u64 (wrR R 88 8 v).tI, .int .u64 (wrR R 88 8 v).aI, .int .u64 (wrR R 88 8 v).pr, .int .u64 (wrR R 88 8 v).se, .int .u64 (wrR R 88 8 v).sD, .int .u64 (wrR R 88 8 v).ad, .int .u64 (wrR R 88 8 v).tD, .int .u64 (wrR R 88 8 v).aD], .int .i64 0]) ∧ Below w.heap.size w w' := by
  rw [show wrR R 88 8 v = { R with pr := v % 8192 } from rfl]
  have hv0 := hv.1
  have hv1 := hv.2
  have BX := boxes w #[.int .u64 R.sI, .int .u64 R.tI, .int .u64 R.aI, .int .u64 R.pr, .int .u64 R.se, .int .u64 R.sD, .int .u64 R.ad, .int .u64 R.tD, .int .u64 R.aD] #[.int .u64 Reg.zero.sI, .int .u64 Reg.zero.tI, .int .u64 Reg.zero.aI, .int .u64 Reg.zero.pr, .int .u64 Reg.zero.se, .int .u64 Reg.zero.sD, .int .u64 Reg.zero.ad, .int .u64 Reg.zero.tD, .int .u64 Reg.zero.aD] 27 27
  have TB := two_boxes w R
  have C := Lib.hid (dread_any R hR 88 8 ((w.alloc (.cells #[.int .u64 R.sI, .int .u64 R.tI, .int .u64 R.aI, .int .u64 R.pr, .int .u64 R.se, .int .u64 R.sD, .int .u64 R.ad, .int .u64 R.tD, .int .u64 R.aD] 27)).alloc (.cells #[.int .u64 Reg.zero.sI, .int .u64 Reg.zero.tI, .int .u64 Reg.zero.aI, .int .u64 Reg.zero.pr, .int .u64 Reg.zero.se, .int .u64 Reg.zero.sD, .int .u64 Reg.zero.ad, .int .u64 Reg.zero.tD, .int .u64 Reg.zero.aD] 27)))
  rw [show regE 88 8 = 0 from rfl] at C
  go_enter Tryd.func21, Tryd.ntmps21
  go_wp2_with fail
  refine C.out.mono ?_; rintro e w1 ⟨rfl, hb⟩
  have B1 := BX.1.trans (hb.mono BX.1.size)
  have r1 := (hb.block _ TB.2.1).trans TB.1
  have r2 := (hb.block _ TB.2.2).trans BX.2
  clear C BX TB hb
  obtain ⟨c0, c1, c2, c3, c4, c5, c6, c7, c8⟩ := nine_cells r1
  obtain ⟨d0, d1, d2, d3, d4, d5, d6, d7, d8⟩ := nine_cells r2
  have F1 := row_frozen r1
  have F2 := row_frozen r2
  go_wp2_with fail
  (try simp only [Exit.inBlock, Exit.then])
  refine bodyPost_ret (res_reg rfl _ _ (w.heap.size + 1) ({ R with pr := v % 8192 }) rfl (row_nine (w := w1.setCell ⟨w.heap.size, 3, none⟩ (.int .u64 (v % 8192))) ((Below.heap_setCell _ _ _ _ (by simp)).trans r2))) rfl ?_
  exact ⟨ret_reg rfl rfl, below_nine (below_setN (o := 3) (u := .int .u64 (v % 8192)) B1 (Nat.le_refl _)) (by omega)⟩
theorem dwrite_88_16 (R : Reg) (hR : R.Wf) (v : Int) (hv : U v) (w : World) :
    Calls Tryd.prog 21 #[.agg #[.int .u64 R.sI, .int .u64 R.tI, .int .u64 R.aI, .int .u64 R.pr, .int .u64 R.se, .int .u64 R.sD, .int .u64 R.ad, .int .u64 R.tD, .int .u64 R.aD], .int .i64 88, .int .u64 16, .int .u64 v] w fun e w' => e = .returned (.tuple #[.agg #[.int .u64 (wrR R 88 16 v).sI, .int .u64 (wrR R 88 16 v).tI, .int .u64 (wrR R 88 16 v).aI, .int .u64 (wrR R 88 16 v).pr, .int .u64 (wrR R 88 16 v).se, .int .u64 (wrR R 88 16 v).sD, .int .u64 (wrR R 88 16 v).ad, .int .u64 (wrR R 88 16 v).tD, .int .u64 (wrR R 88 16 v).aD], .int .i64 0]) ∧ Below w.heap.size w w' := by
  rw [show wrR R 88 16 v = { R with se := v % 8192 } from rfl]
  have hv0 := hv.1
  have hv1 := hv.2
  have BX := boxes w #[.int .u64 R.sI, .int .u64 R.tI, .int .u64 R.aI, .int .u64 R.pr, .int .u64 R.se, .int .u64 R.sD, .int .u64 R.ad, .int .u64 R.tD, .int .u64 R.aD] #[.int .u64 Reg.zero.sI, .int .u64 Reg.zero.tI, .int .u64 Reg.zero.aI, .int .u64 Reg.zero.pr, .int .u64 Reg.zero.se, .int .u64 Reg.zero.sD, .int .u64 Reg.zero.ad, .int .u64 Reg.zero.tD, .int .u64 Reg.zero.aD] 27 27
  have TB := two_boxes w R
  have C := Lib.hid (dread_any R hR 88 16 ((w.alloc (.cells #[.int .u64 R.sI, .int .u64 R.tI, .int .u64 R.aI, .int .u64 R.pr, .int .u64 R.se, .int .u64 R.sD, .int .u64 R.ad, .int .u64 R.tD, .int .u64 R.aD] 27)).alloc (.cells #[.int .u64 Reg.zero.sI, .int .u64 Reg.zero.tI, .int .u64 Reg.zero.aI, .int .u64 Reg.zero.pr, .int .u64 Reg.zero.se, .int .u64 Reg.zero.sD, .int .u64 Reg.zero.ad, .int .u64 Reg.zero.tD, .int .u64 Reg.zero.aD] 27)))
  rw [show regE 88 16 = 0 from rfl] at C
  go_enter Tryd.func21, Tryd.ntmps21
  go_wp2_with fail
  refine C.out.mono ?_; rintro e w1 ⟨rfl, hb⟩
  have B1 := BX.1.trans (hb.mono BX.1.size)
  have r1 := (hb.block _ TB.2.1).trans TB.1
  have r2 := (hb.block _ TB.2.2).trans BX.2
  clear C BX TB hb
  obtain ⟨c0, c1, c2, c3, c4, c5, c6, c7, c8⟩ := nine_cells r1
  obtain ⟨d0, d1, d2, d3, d4, d5, d6, d7, d8⟩ := nine_cells r2
  have F1 := row_frozen r1
  have F2 := row_frozen r2
  go_wp2_with fail
  (try simp only [Exit.inBlock, Exit.then])
  refine bodyPost_ret (res_reg rfl _ _ (w.heap.size + 1) ({ R with se := v % 8192 }) rfl (row_nine (w := w1.setCell ⟨w.heap.size, 4, none⟩ (.int .u64 (v % 8192))) ((Below.heap_setCell _ _ _ _ (by simp)).trans r2))) rfl ?_
  exact ⟨ret_reg rfl rfl, below_nine (below_setN (o := 4) (u := .int .u64 (v % 8192)) B1 (Nat.le_refl _)) (by omega)⟩
theorem dwrite_88_24 (R : Reg) (hR : R.Wf) (v : Int) (hv : U v) (w : World) :
    Calls Tryd.prog 21 #[.agg #[.int .u64 R.sI, .int .u64 R.tI, .int .u64 R.aI, .int .u64 R.pr, .int .u64 R.se, .int .u64 R.sD, .int .u64 R.ad, .int .u64 R.tD, .int .u64 R.aD], .int .i64 88, .int .u64 24, .int .u64 v] w fun e w' => e = .returned (.tuple #[.agg #[.int .u64 (wrR R 88 24 v).sI, .int .u64 (wrR R 88 24 v).tI, .int .u64 (wrR R 88 24 v).aI, .int .u64 (wrR R 88 24 v).pr, .int .u64 (wrR R 88 24 v).se, .int .u64 (wrR R 88 24 v).sD, .int .u64 (wrR R 88 24 v).ad, .int .u64 (wrR R 88 24 v).tD, .int .u64 (wrR R 88 24 v).aD], .int .i64 0]) ∧ Below w.heap.size w w' := by
  rw [show wrR R 88 24 v = { R with sD := stI v } from rfl]
  have hv0 := hv.1
  have hv1 := hv.2
  have BX := boxes w #[.int .u64 R.sI, .int .u64 R.tI, .int .u64 R.aI, .int .u64 R.pr, .int .u64 R.se, .int .u64 R.sD, .int .u64 R.ad, .int .u64 R.tD, .int .u64 R.aD] #[.int .u64 Reg.zero.sI, .int .u64 Reg.zero.tI, .int .u64 Reg.zero.aI, .int .u64 Reg.zero.pr, .int .u64 Reg.zero.se, .int .u64 Reg.zero.sD, .int .u64 Reg.zero.ad, .int .u64 Reg.zero.tD, .int .u64 Reg.zero.aD] 27 27
  have TB := two_boxes w R
  have C := Lib.hid (dread_any R hR 88 24 ((w.alloc (.cells #[.int .u64 R.sI, .int .u64 R.tI, .int .u64 R.aI, .int .u64 R.pr, .int .u64 R.se, .int .u64 R.sD, .int .u64 R.ad, .int .u64 R.tD, .int .u64 R.aD] 27)).alloc (.cells #[.int .u64 Reg.zero.sI, .int .u64 Reg.zero.tI, .int .u64 Reg.zero.aI, .int .u64 Reg.zero.pr, .int .u64 Reg.zero.se, .int .u64 Reg.zero.sD, .int .u64 Reg.zero.ad, .int .u64 Reg.zero.tD, .int .u64 Reg.zero.aD] 27)))
  rw [show regE 88 24 = 0 from rfl] at C
  go_enter Tryd.func21, Tryd.ntmps21
  go_wp2_with fail
  refine C.out.mono ?_; rintro e w1 ⟨rfl, hb⟩
  have B1 := BX.1.trans (hb.mono BX.1.size)
  have r1 := (hb.block _ TB.2.1).trans TB.1
  have r2 := (hb.block _ TB.2.2).trans BX.2
  clear C BX TB hb
  obtain ⟨c0, c1, c2, c3, c4, c5, c6, c7, c8⟩ := nine_cells r1
  obtain ⟨d0, d1, d2, d3, d4, d5, d6, d7, d8⟩ := nine_cells r2
  have F1 := row_frozen r1
  have F2 := row_frozen r2
  go_wp2_with fail
  refine (dstatus_any v hv _).mono ?_; rintro e w2 ⟨rfl, rfl⟩
  go_wp2_with fail
  (try simp only [Exit.inBlock, Exit.then])
  refine bodyPost_ret (res_reg rfl _ _ (w.heap.size + 1) ({ R with sD := stI v }) rfl (row_nine (w := w1.setCell ⟨w.heap.size, 5, none⟩ (.int .u64 (stI v))) ((Below.heap_setCell _ _ _ _ (by simp)).trans r2))) rfl ?_
  exact ⟨ret_reg rfl rfl, below_nine (below_setN (o := 5) (u := .int .u64 (stI v)) B1 (Nat.le_refl _)) (by omega)⟩
theorem dwrite_88_40 (R : Reg) (hR : R.Wf) (v : Int) (hv : U v) (w : World) :
    Calls Tryd.prog 21 #[.agg #[.int .u64 R.sI, .int .u64 R.tI, .int .u64 R.aI, .int .u64 R.pr, .int .u64 R.se, .int .u64 R.sD, .int .u64 R.ad, .int .u64 R.tD, .int .u64 R.aD], .int .i64 88, .int .u64 40, .int .u64 v] w fun e w' => e = .returned (.tuple #[.agg #[.int .u64 (wrR R 88 40 v).sI, .int .u64 (wrR R 88 40 v).tI, .int .u64 (wrR R 88 40 v).aI, .int .u64 (wrR R 88 40 v).pr, .int .u64 (wrR R 88 40 v).se, .int .u64 (wrR R 88 40 v).sD, .int .u64 (wrR R 88 40 v).ad, .int .u64 (wrR R 88 40 v).tD, .int .u64 (wrR R 88 40 v).aD], .int .i64 0]) ∧ Below w.heap.size w w' := by
  rw [show wrR R 88 40 v = { R with tD := tsI v } from rfl]
  have hv0 := hv.1
  have hv1 := hv.2
  have BX := boxes w #[.int .u64 R.sI, .int .u64 R.tI, .int .u64 R.aI, .int .u64 R.pr, .int .u64 R.se, .int .u64 R.sD, .int .u64 R.ad, .int .u64 R.tD, .int .u64 R.aD] #[.int .u64 Reg.zero.sI, .int .u64 Reg.zero.tI, .int .u64 Reg.zero.aI, .int .u64 Reg.zero.pr, .int .u64 Reg.zero.se, .int .u64 Reg.zero.sD, .int .u64 Reg.zero.ad, .int .u64 Reg.zero.tD, .int .u64 Reg.zero.aD] 27 27
  have TB := two_boxes w R
  have C := Lib.hid (dread_any R hR 88 40 ((w.alloc (.cells #[.int .u64 R.sI, .int .u64 R.tI, .int .u64 R.aI, .int .u64 R.pr, .int .u64 R.se, .int .u64 R.sD, .int .u64 R.ad, .int .u64 R.tD, .int .u64 R.aD] 27)).alloc (.cells #[.int .u64 Reg.zero.sI, .int .u64 Reg.zero.tI, .int .u64 Reg.zero.aI, .int .u64 Reg.zero.pr, .int .u64 Reg.zero.se, .int .u64 Reg.zero.sD, .int .u64 Reg.zero.ad, .int .u64 Reg.zero.tD, .int .u64 Reg.zero.aD] 27)))
  rw [show regE 88 40 = 0 from rfl] at C
  go_enter Tryd.func21, Tryd.ntmps21
  go_wp2_with fail
  refine C.out.mono ?_; rintro e w1 ⟨rfl, hb⟩
  have B1 := BX.1.trans (hb.mono BX.1.size)
  have r1 := (hb.block _ TB.2.1).trans TB.1
  have r2 := (hb.block _ TB.2.2).trans BX.2
  clear C BX TB hb
  obtain ⟨c0, c1, c2, c3, c4, c5, c6, c7, c8⟩ := nine_cells r1
  obtain ⟨d0, d1, d2, d3, d4, d5, d6, d7, d8⟩ := nine_cells r2
  have F1 := row_frozen r1
  have F2 := row_frozen r2
  go_wp2_with fail
  refine (dtsb_any v hv _).mono ?_; rintro e w2 ⟨rfl, rfl⟩
  go_wp2_with fail
  (try simp only [Exit.inBlock, Exit.then])
  refine bodyPost_ret (res_reg rfl _ _ (w.heap.size + 1) ({ R with tD := tsI v }) rfl (row_nine (w := w1.setCell ⟨w.heap.size, 7, none⟩ (.int .u64 (tsI v))) ((Below.heap_setCell _ _ _ _ (by simp)).trans r2))) rfl ?_
  exact ⟨ret_reg rfl rfl, below_nine (below_setN (o := 7) (u := .int .u64 (tsI v)) B1 (Nat.le_refl _)) (by omega)⟩
theorem dwrite_88_48 (R : Reg) (hR : R.Wf) (v : Int) (hv : U v) (w : World) :
    Calls Tryd.prog 21 #[.agg #[.int .u64 R.sI, .int .u64 R.tI, .int .u64 R.aI, .int .u64 R.pr, .int .u64 R.se, .int .u64 R.sD, .int .u64 R.ad, .int .u64 R.tD, .int .u64 R.aD], .int .i64 88, .int .u64 48, .int .u64 v] w fun e w' => e = .returned (.tuple #[.agg #[.int .u64 (wrR R 88 48 v).sI, .int .u64 (wrR R 88 48 v).tI, .int .u64 (wrR R 88 48 v).aI, .int .u64 (wrR R 88 48 v).pr, .int .u64 (wrR R 88 48 v).se, .int .u64 (wrR R 88 48 v).sD, .int .u64 (wrR R 88 48 v).ad, .int .u64 (wrR R 88 48 v).tD, .int .u64 (wrR R 88 48 v).aD], .int .i64 0]) ∧ Below w.heap.size w w' := by
  rw [show wrR R 88 48 v = { R with aD := v } from rfl]
  have hv0 := hv.1
  have hv1 := hv.2
  have BX := boxes w #[.int .u64 R.sI, .int .u64 R.tI, .int .u64 R.aI, .int .u64 R.pr, .int .u64 R.se, .int .u64 R.sD, .int .u64 R.ad, .int .u64 R.tD, .int .u64 R.aD] #[.int .u64 Reg.zero.sI, .int .u64 Reg.zero.tI, .int .u64 Reg.zero.aI, .int .u64 Reg.zero.pr, .int .u64 Reg.zero.se, .int .u64 Reg.zero.sD, .int .u64 Reg.zero.ad, .int .u64 Reg.zero.tD, .int .u64 Reg.zero.aD] 27 27
  have TB := two_boxes w R
  have C := Lib.hid (dread_any R hR 88 48 ((w.alloc (.cells #[.int .u64 R.sI, .int .u64 R.tI, .int .u64 R.aI, .int .u64 R.pr, .int .u64 R.se, .int .u64 R.sD, .int .u64 R.ad, .int .u64 R.tD, .int .u64 R.aD] 27)).alloc (.cells #[.int .u64 Reg.zero.sI, .int .u64 Reg.zero.tI, .int .u64 Reg.zero.aI, .int .u64 Reg.zero.pr, .int .u64 Reg.zero.se, .int .u64 Reg.zero.sD, .int .u64 Reg.zero.ad, .int .u64 Reg.zero.tD, .int .u64 Reg.zero.aD] 27)))
  rw [show regE 88 48 = 0 from rfl] at C
  go_enter Tryd.func21, Tryd.ntmps21
  go_wp2_with fail
  refine C.out.mono ?_; rintro e w1 ⟨rfl, hb⟩
  have B1 := BX.1.trans (hb.mono BX.1.size)
  have r1 := (hb.block _ TB.2.1).trans TB.1
  have r2 := (hb.block _ TB.2.2).trans BX.2
  clear C BX TB hb
  obtain ⟨c0, c1, c2, c3, c4, c5, c6, c7, c8⟩ := nine_cells r1
  obtain ⟨d0, d1, d2, d3, d4, d5, d6, d7, d8⟩ := nine_cells r2
  have F1 := row_frozen r1
  have F2 := row_frozen r2
  go_wp2_with fail
  (try simp only [Exit.inBlock, Exit.then])
  refine bodyPost_ret (res_reg rfl _ _ (w.heap.size + 1) ({ R with aD := v }) rfl (row_nine (w := w1.setCell ⟨w.heap.size, 8, none⟩ (.int .u64 (v))) ((Below.heap_setCell _ _ _ _ (by simp)).trans r2))) rfl ?_
  exact ⟨ret_reg rfl rfl, below_nine (below_setN (o := 8) (u := .int .u64 (v)) B1 (Nat.le_refl _)) (by omega)⟩
theorem dwrite_any (R : Reg) (hR : R.Wf) (a p v : Int) (hv : U v) (w : World) :
    Calls Tryd.prog 21 #[.agg #[.int .u64 R.sI, .int .u64 R.tI, .int .u64 R.aI, .int .u64 R.pr, .int .u64 R.se, .int .u64 R.sD, .int .u64 R.ad, .int .u64 R.tD, .int .u64 R.aD], .int .i64 a, .int .u64 p, .int .u64 v] w fun e w' => e = .returned (.tuple #[.agg #[.int .u64 (wrR R a p v).sI, .int .u64 (wrR R a p v).tI, .int .u64 (wrR R a p v).aI, .int .u64 (wrR R a p v).pr, .int .u64 (wrR R a p v).se, .int .u64 (wrR R a p v).sD, .int .u64 (wrR R a p v).ad, .int .u64 (wrR R a p v).tD, .int .u64 (wrR R a p v).aD], .int .i64 (wrE a p)]) ∧ Below w.heap.size w w' := by
  cases hB : isB a p
  · have e1 : wrE a p = 10 := by unfold wrE; rw [hB]; rfl
    have e2 : wrR R a p v = R := by unfold wrR; rw [e1]; rfl
    rw [e1, e2]
    exact dwrite_none R hR a p v hB w
  · rcases isB_rows hB with ⟨hp, _, e1⟩ | ⟨hn, e1, _⟩
    · have e2 : wrR R a p v = R := by unfold wrR; rw [e1]; rfl
      rw [e1, e2]
      rcases hp with rfl | rfl
      · exact dwrite_zero R hR a v hB w
      · exact dwrite_addr R hR a v hB w
    · have E := e1
      rw [e1]
      clear e1
      simp only [nineB, decide_eq_true_eq] at hn
      rcases hn with ⟨rfl, rfl | rfl | rfl⟩ | ⟨rfl, rfl | rfl | rfl | rfl | rfl | rfl⟩
      · exact dwrite_80_24 R hR v hv w
      · exact dwrite_80_40 R hR v hv w
      · exact dwrite_80_48 R hR v hv w
      · exact dwrite_88_8 R hR v hv w
      · exact dwrite_88_16 R hR v hv w
      · exact dwrite_88_24 R hR v hv w
      · exact absurd E (by decide)
      · exact dwrite_88_40 R hR v hv w
      · exact dwrite_88_48 R hR v hv w
end Go.Proofs.YtohcmijgakijfaaDoor.Rg
