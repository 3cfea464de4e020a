/-
  FaultJudges: for all attributes, entries, contexts and accesses the law returns true, and its arguments read as before. Conditions: the table of what kinds of faults are called, and told, holds what the program lays (the card ties it).
-/
import Derived.Test.YtfkbloclogeacaaDoorCards
import Derived.Test.YtfkbloclogeacaaDoorTie
import Derived.WalkKit
import Derived.ProofKit
import Derived.OpenShut
import Derived.Deep.DeepHandedRow
import Derived.Test.YtfkbloclogeacaaDoorJKeep
import Derived.Deep.DeepCutAuto
import Derived.Deep.RegionHeld3
import Derived.Test.YtfkbloclogeacaaDoorJOpen
namespace Go.Proofs.YtfkbloclogeacaaDoor.faultJudges
open Fld Jd
open Go.ChangeShapes Go.WideShapes Go.ChangeAt Go.RowKit Go.Deep
set_option linter.unusedVariables false

theorem own : ownKnob Tryd.prog.godebug = none := by kernel_rfl

structure TabS (w : World) : Prop where
  out : Tab w
/-- What was laid: attributes, entries and accesses, in blocks wherever they stand. -/
structure Six (w wr : World) (na ne n nx ny ng : Nat) (a : Att) (e g : Ent) (z x y : Acc) : Prop where
  below : Below w.heap.size w wr
  rz : wr.heap[n]? = some (.cells (cX z).1 (cX z).2 (0, 0))
  rx : wr.heap[nx]? = some (.cells (cX x).1 (cX x).2 (0, 0))
  ry : wr.heap[ny]? = some (.cells (cX y).1 (cX y).2 (0, 0))
  ra : wr.heap[na]? = some (.cells (cA a).1 (cA a).2 (0, 0))
  re : wr.heap[ne]? = some (.cells (cE e).1 (cE e).2 (0, 0))
  rg : wr.heap[ng]? = some (.cells (cE g).1 (cE g).2 (0, 0))
section
variable {w wr w2 : World} {na ne n nx ny ng : Nat} {a : Att} {e g : Ent} {z x y : Acc}
theorem Six.call (h : Six w wr na ne n nx ny ng a e g z x y) (hb : Below wr.heap.size wr w2) : Six w w2 na ne n nx ny ng a e g z x y :=
  ⟨h.below.trans (hb.mono h.below.size), (hb.block _ (row_lt h.rz)).trans h.rz, (hb.block _ (row_lt h.rx)).trans h.rx, (hb.block _ (row_lt h.ry)).trans h.ry, (hb.block _ (row_lt h.ra)).trans h.ra, (hb.block _ (row_lt h.re)).trans h.re, (hb.block _ (row_lt h.rg)).trans h.rg⟩
theorem Six.drew (h : Six w wr na ne n nx ny ng a e g z x y) : Six w wr.drew na ne n nx ny ng a e g z x y := ⟨h.below.drew, h.rz, h.rx, h.ry, h.ra, h.re, h.rg⟩
theorem Six.drewN (h : Six w wr na ne n nx ny ng a e g z x y) (k : Nat) : Six w (wr.drewN k) na ne n nx ny ng a e g z x y := ⟨below_drewN h.below k, h.rz, h.rx, h.ry, h.ra, h.re, h.rg⟩
theorem Six.tab (h : Six w wr na ne n nx ny ng a e g z x y) (hT : Tab w) : Tab wr := hT.below h.below (Nat.le_refl _)
theorem Six.cells (h : Six w wr na ne n nx ny ng a e g z x y) (hT : Tab w) : TabS wr ∧ wr.cell? ⟨n, 0, none⟩ = some (.int .i64 z.kind) ∧ wr.cell? ⟨n, 1, none⟩ = some (.bool z.priv) ∧ wr.cell? ⟨n, 2, none⟩ = some (.int .u64 z.va) ∧ wr.cell? ⟨nx, 0, none⟩ = some (.int .i64 x.kind) ∧ wr.cell? ⟨nx, 1, none⟩ = some (.bool x.priv) ∧ wr.cell? ⟨nx, 2, none⟩ = some (.int .u64 x.va) ∧ wr.cell? ⟨ny, 0, none⟩ = some (.int .i64 y.kind) ∧ wr.cell? ⟨ny, 1, none⟩ = some (.bool y.priv) ∧ wr.cell? ⟨ny, 2, none⟩ = some (.int .u64 y.va) ∧ wr.cell? ⟨na, 0, none⟩ = some (.bool a.write) ∧ wr.cell? ⟨na, 1, none⟩ = some (.bool a.priv) ∧ wr.cell? ⟨na, 2, none⟩ = some (.bool a.exec) ∧ wr.cell? ⟨na, 3, none⟩ = some (.bool a.lock) ∧ wr.cell? ⟨na, 4, none⟩ = some (.bool a.global) ∧ wr.cell? ⟨na, 5, none⟩ = some (.bool a.quiet) ∧ wr.cell? ⟨ne, 0, none⟩ = some (.int .i64 e.size) ∧ wr.cell? ⟨ne, 1, none⟩ = some (.int .i64 e.ctx) ∧ wr.cell? ⟨ne, 2, none⟩ = some (.int .u64 e.va) ∧ wr.cell? ⟨ne, 3, none⟩ = some (.int .u64 e.pa) ∧ wr.cell? ⟨ne, 4, none⟩ = some (.bool e.att.write) ∧ wr.cell? ⟨ne, 5, none⟩ = some (.bool e.att.priv) ∧ wr.cell? ⟨ne, 6, none⟩ = some (.bool e.att.exec) ∧ wr.cell? ⟨ne, 7, none⟩ = some (.bool e.att.lock) ∧ wr.cell? ⟨ne, 8, none⟩ = some (.bool e.att.global) ∧ wr.cell? ⟨ne, 9, none⟩ = some (.bool e.att.quiet) ∧ wr.cell? ⟨ne, 10, none⟩ = some (.bool e.valid) ∧ wr.cell? ⟨ng, 0, none⟩ = some (.int .i64 g.size) ∧ wr.cell? ⟨ng, 1, none⟩ = some (.int .i64 g.ctx) ∧ wr.cell? ⟨ng, 2, none⟩ = some (.int .u64 g.va) ∧ wr.cell? ⟨ng, 3, none⟩ = some (.int .u64 g.pa) ∧ wr.cell? ⟨ng, 4, none⟩ = some (.bool g.att.write) ∧ wr.cell? ⟨ng, 5, none⟩ = some (.bool g.att.priv) ∧ wr.cell? ⟨ng, 6, none⟩ = some (.bool g.att.exec) ∧ wr.cell? ⟨ng, 7, none⟩ = some (.bool g.att.lock) ∧ wr.cell? ⟨ng, 8, none⟩ = some (.bool g.att.global) ∧ wr.cell? ⟨ng, 9, none⟩ = some (.bool g.att.quiet) ∧ wr.cell? ⟨ng, 10, none⟩ = some (.bool g.valid) := by
  obtain ⟨rz0, rz1, rz2⟩ := three_cells h.rz
  obtain ⟨rx0, rx1, rx2⟩ := three_cells h.rx
  obtain ⟨ry0, ry1, ry2⟩ := three_cells h.ry
  obtain ⟨ra0, ra1, ra2, ra3, ra4, ra5⟩ := six_cells h.ra
  obtain ⟨re0, re1, re2, re3, re4, re5, re6, re7, re8, re9, re10⟩ := (RowE.mk h.re).cells
  obtain ⟨rg0, rg1, rg2, rg3, rg4, rg5, rg6, rg7, rg8, rg9, rg10⟩ := (RowE.mk h.rg).cells
  exact ⟨⟨h.tab hT⟩, rz0, rz1, rz2, rx0, rx1, rx2, ry0, ry1, ry2, ra0, ra1, ra2, ra3, ra4, ra5, re0, re1, re2, re3, re4, re5, re6, re7, re8, re9, re10, rg0, rg1, rg2, rg3, rg4, rg5, rg6, rg7, rg8, rg9, rg10⟩
end
theorem Six.start {w wc : World} {nx ny : Nat} {a : Att} {e g : Ent} {z x y : Acc} (L : Blk w wc w.heap.size [cA a, cE e, cX z]) (X : wc.heap[nx]? = some (.cells (cX x).1 (cX x).2 (0, 0))) (Y : wc.heap[ny]? = some (.cells (cX y).1 (cX y).2 (0, 0))) (h1 : w.heap.size + 1 + 1 < nx) (h2 : nx < ny) :
    Six w ((wc.setCell ⟨ny, 2, none⟩ (.int .u64 g.va)).alloc (.cells (cE g).1 (cE g).2)) w.heap.size (w.heap.size + 1) (w.heap.size + 1 + 1) nx ny wc.heap.size a e g z x ⟨y.kind, y.priv, g.va⟩ := by
  have hs : (wc.setCell ⟨ny, 2, none⟩ (.int .u64 g.va)).heap.size = wc.heap.size := by simp [World.setCell]
  have hY := row_lt Y
  have far : ∀ k o, k ≠ ny → k < wc.heap.size → wc.heap[k]? = some o → ((wc.setCell ⟨ny, 2, none⟩ (.int .u64 g.va)).alloc (.cells (cE g).1 (cE g).2)).heap[k]? = some o := fun k o h l ho => by
    rw [Below.heap_alloc _ _ _ (by rw [hs]; exact l), set_far h]; exact ho
  refine ⟨(below_setN L.below (by omega)).alloc (by rw [hs]; exact L.below.size) _, ?_, ?_, ?_, ?_, ?_, ?_⟩
  · exact far _ _ (by omega) (row_lt (L.row 2 _ rfl)) (L.row 2 _ rfl)
  · exact far _ _ (by omega) (row_lt X) X
  · rw [Below.heap_alloc _ _ _ (by rw [hs]; exact hY)]
    have h3 := Jd.set_row Y 2 (.int .u64 g.va)
    simp only [List.setIfInBounds_toArray, List.set_cons_succ, List.set_cons_zero] at h3
    exact h3
  · exact far _ _ (by omega) (row_lt (L.row 0 _ rfl)) (L.row 0 _ rfl)
  · exact far _ _ (by omega) (row_lt (L.row 1 _ rfl)) (L.row 1 _ rfl)
  · have := heap_alloc_new (wc.setCell ⟨ny, 2, none⟩ (.int .u64 g.va)) (.cells (cE g).1 (cE g).2)
    rwa [hs] at this
/-! ### The walk -/
set_option maxHeartbeats 8000000 in
set_option maxRecDepth 100000 in
theorem walk (w : World) (hT : Tab w) (A0 : Att) (E1 : Ent) (l1 : E1.lits) (a2 : Int) (w2 : (Lit.int .i64 a2).wf = true) (X3 : Acc) (m3 : X3.lits) :
    Calls Tryd.prog 3 #[.agg #[.bool A0.write, .bool A0.priv, .bool A0.exec, .bool A0.lock, .bool A0.global, .bool A0.quiet], .agg #[.int .i64 E1.size, .int .i64 E1.ctx, .int .u64 E1.va, .int .u64 E1.pa, .bool E1.att.write, .bool E1.att.priv, .bool E1.att.exec, .bool E1.att.lock, .bool E1.att.global, .bool E1.att.quiet, .bool E1.valid], .int .i64 a2, .agg #[.int .i64 X3.kind, .bool X3.priv, .int .u64 X3.va]] w fun e w' => e = .returned (.bool true) ∧ Below w.heap.size w w' := by
  obtain ⟨a, ha⟩ : ∃ a, a = A0 := ⟨_, rfl⟩
  obtain ⟨e, he⟩ : ∃ e, e = E1 := ⟨_, rfl⟩
  obtain ⟨z, hz⟩ : ∃ z, z = X3 := ⟨_, rfl⟩
  subst ha he hz
  have zwf := Acc.lits_wf m3
  have Cx := Lib.hid (fun W => agood_any z false zwf W)
  have Cy := Lib.hid (fun W => agood_any z true zwf W)
  have gx := goodA_facts z false zwf
  have gy := goodA_facts z true zwf
  generalize goodA z false = x at *
  generalize goodA z true = y at *
  obtain ⟨g, hok, HG⟩ := good_some e l1
  obtain ⟨_, _, ⟨ev0, ev1⟩, _⟩ := Ent.lits_wf l1
  have gv0 := hok.v0
  have gv1 := hok.v1
  have hof : ofI g g.ctx ⟨y.kind, y.priv, g.va⟩ = judgeI g.att ⟨y.kind, y.priv, g.va⟩ := by
    refine ofI_good hok.hole ?_
    have hin := (at_in hok (o := 0) (Int.le_refl _) (by have := bytes_pos hok.size; omega)).1
    rw [Int.add_zero] at hin
    unfold Ent.hitsB Ent.holdsB
    rw [hok.valid, hin]; simp
  have ywf : (⟨y.kind, y.priv, g.va⟩ : Acc).wf := ⟨gy.2.1, gv0, gv1⟩
  obtain ⟨y', hy'⟩ : ∃ q : Acc, q = ⟨y.kind, y.priv, g.va⟩ := ⟨_, rfl⟩
  rw [← hy'] at hof ywf
  have C1 := Lib.hid (fun W => jmay_any z W)
  have C2 := Lib.hid (fun W => judge_any a x W)
  have C3 := Lib.hid (fun W => rjudge_any a x W)
  have C4 := Lib.hid (fun W => of_any e a2 x ev0 ev1 gx.2.2.1 gx.2.2.2 W)
  have C5 := Lib.hid (fun W => rof_any e a2 x ev0 ev1 gx.2.2.1 gx.2.2.2 W)
  have C6 := Lib.hid (fun W => of_any g a2 x gv0 gv1 gx.2.2.1 gx.2.2.2 W)
  have C7 := Lib.hid (fun W => rof_any g a2 x gv0 gv1 gx.2.2.1 gx.2.2.2 W)
  have C8 := Lib.hid (fun W => of_any g g.ctx y' gv0 gv1 ywf.2.1 ywf.2.2 W)
  have C9 := Lib.hid (fun W => rjudge_any g.att y' W)
  have CL := Lib.hid (fun W (hW : TabS W) => jlives_any W hW.out)
  rw [hof] at C8
  have HM := Lib.hid (show mayA z.kind = decide (0 ≤ z.kind ∧ z.kind < 4) from rfl)
  have HY := Lib.hid hy'
  clear hof ywf gx gy hok zwf m3 l1 hy' ev0 ev1 gv0 gv1
  generalize mayA z.kind = M at *
  generalize judgeI a x = V1 at *
  generalize ofI e a2 x = V2 at *
  generalize ofI g a2 x = V3 at *
  generalize judgeI g.att y' = V4 at *
  obtain ⟨K1, s1⟩ := (Blk.nil (Below.refl w.heap.size w) w.heap.size).push (cA a).1 (cA a).2 (by simp)
  obtain ⟨K2, s2⟩ := K1.push (cE e).1 (cE e).2 s1
  obtain ⟨K3, s3⟩ := K2.push (cX z).1 (cX z).2 s2
  have K := Lib.hid K3
  clear K1 K2 K3 s1 s2 s3
  have HTT := Lib.hid hT
  clear hT
  go_enter Tryd.func3, Tryd.ntmps3
  go_wp2_with fail
  refine (Cx.out _).mono ?_; rintro r w1 ⟨rfl, hb⟩
  have L1 := K.out.call hb
  clear hb K Cx
  obtain ⟨z0, z1, z2⟩ := L1.acc 2 (b := w.heap.size + 1 + 1) rfl (x := z) rfl
  have hl : w.heap.size + 1 + 1 < w1.heap.size := row_lt (L1.row 2 _ rfl)
  have H1 := Lib.hid hl
  have X1 := heap_alloc_new w1 (.cells (cX x).1 (cX x).2)
  have N1 := Lib.hid (L1.alloc (.cells (cX x).1 (cX x).2))
  clear L1
  go_wp2_with fail
  refine (Cy.out _).mono ?_; rintro r wb ⟨rfl, hb⟩
  have L2 := N1.out.call hb
  have X2 := (hb.block _ (row_lt X1)).trans X1
  clear N1 X1 hb Cy z0 z1 z2 hl
  obtain ⟨e0, e1, e2, e3, e4, e5, e6, e7, e8, e9, e10⟩ := L2.ent 1 (b := w.heap.size + 1) rfl (e := e) rfl
  have hl : w.heap.size + 1 < wb.heap.size := row_lt (L2.row 1 _ rfl)
  obtain ⟨nx, hnx⟩ : ∃ b, w1.heap.size = b := ⟨_, rfl⟩
  rw [hnx] at X2 H1 ⊢
  clear hnx
  have hxl : nx < wb.heap.size := row_lt X2
  have H2 := Lib.hid hxl
  have Y1 := heap_alloc_new wb (.cells (cX y).1 (cX y).2)
  have N2 := Lib.hid (L2.alloc (.cells (cX y).1 (cX y).2))
  have X3 := (Below.heap_alloc wb (.cells (cX y).1 (cX y).2) _ hxl).trans X2
  clear L2 X2
  go_wp2_with fail
  refine (HG.out _).mono ?_; rintro r wc ⟨rfl, hb⟩
  have L3 := N2.out.call hb
  have X4 := (hb.block _ (row_lt X3)).trans X3
  have Y2 := (hb.block _ (row_lt Y1)).trans Y1
  clear N2 X3 Y1 hb HG e0 e1 e2 e3 e4 e5 e6 e7 e8 e9 e10 hl hxl
  obtain ⟨ny, hny⟩ : ∃ b, wb.heap.size = b := ⟨_, rfl⟩
  rw [hny] at Y2 H2 ⊢
  clear hny
  have hyl : ny < wc.heap.size := row_lt Y2
  have fr := fun i => row_frozen Y2 i
  obtain ⟨y0, y1, y2⟩ := three_cells Y2
  go_wp2_with fail
  have S6 : Six w ((wc.setCell ⟨ny, 2, none⟩ (.int .u64 g.va)).alloc (.cells #[.int .i64 g.size, .int .i64 g.ctx, .int .u64 g.va, .int .u64 g.pa, .bool g.att.write, .bool g.att.priv, .bool g.att.exec, .bool g.att.lock, .bool g.att.global, .bool g.att.quiet, .bool g.valid] 26)) w.heap.size (w.heap.size + 1) (w.heap.size + 1 + 1) nx ny wc.heap.size a e g z x y' := by
    rw [HY.out]; exact Six.start L3 X4 Y2 H1.out H2.out
  clear L3 X4 Y2 H1 H2 hyl fr y0 y1 y2
  generalize World.alloc (World.setCell wc _ _) _ = W0 at S6 ⊢
  obtain ⟨ng, hng⟩ : ∃ b, wc.heap.size = b := ⟨_, rfl⟩
  obtain ⟨n, hn⟩ : ∃ b, w.heap.size + 1 + 1 = b := ⟨_, rfl⟩
  obtain ⟨ne, hne⟩ : ∃ b, w.heap.size + 1 = b := ⟨_, rfl⟩
  obtain ⟨na, hna⟩ : ∃ b, w.heap.size = b := ⟨_, rfl⟩
  rw [hng, hn, hne] at S6 ⊢
  clear hng hn hne hna na
  have hcs := S6.cells HTT.out
  go_cut [8] (fun t wx => t = .bool true ∧ Six w wx w.heap.size ne n nx ny ng a e g z x y')
  case first =>
    by_cases h0 : 0 ≤ z.kind
    · by_cases h1 : z.kind ≤ 3
      · obtain rfl : M = true := by rw [HM.out]; simp; omega
        go_region_held3 (fun w1 => TabS w1 ∧ w1.cell? ⟨n, 0, none⟩ = some (.int .i64 z.kind) ∧ w1.cell? ⟨n, 1, none⟩ = some (.bool z.priv) ∧ w1.cell? ⟨n, 2, none⟩ = some (.int .u64 z.va) ∧ w1.cell? ⟨nx, 0, none⟩ = some (.int .i64 x.kind) ∧ w1.cell? ⟨nx, 1, none⟩ = some (.bool x.priv) ∧ w1.cell? ⟨nx, 2, none⟩ = some (.int .u64 x.va) ∧ w1.cell? ⟨ny, 0, none⟩ = some (.int .i64 y'.kind) ∧ w1.cell? ⟨ny, 1, none⟩ = some (.bool y'.priv) ∧ w1.cell? ⟨ny, 2, none⟩ = some (.int .u64 y'.va) ∧ w1.cell? ⟨w.heap.size, 0, none⟩ = some (.bool a.write) ∧ w1.cell? ⟨w.heap.size, 1, none⟩ = some (.bool a.priv) ∧ w1.cell? ⟨w.heap.size, 2, none⟩ = some (.bool a.exec) ∧ w1.cell? ⟨w.heap.size, 3, none⟩ = some (.bool a.lock) ∧ w1.cell? ⟨w.heap.size, 4, none⟩ = some (.bool a.global) ∧ w1.cell? ⟨w.heap.size, 5, none⟩ = some (.bool a.quiet) ∧ w1.cell? ⟨ne, 0, none⟩ = some (.int .i64 e.size) ∧ w1.cell? ⟨ne, 1, none⟩ = some (.int .i64 e.ctx) ∧ w1.cell? ⟨ne, 2, none⟩ = some (.int .u64 e.va) ∧ w1.cell? ⟨ne, 3, none⟩ = some (.int .u64 e.pa) ∧ w1.cell? ⟨ne, 4, none⟩ = some (.bool e.att.write) ∧ w1.cell? ⟨ne, 5, none⟩ = some (.bool e.att.priv) ∧ w1.cell? ⟨ne, 6, none⟩ = some (.bool e.att.exec) ∧ w1.cell? ⟨ne, 7, none⟩ = some (.bool e.att.lock) ∧ w1.cell? ⟨ne, 8, none⟩ = some (.bool e.att.global) ∧ w1.cell? ⟨ne, 9, none⟩ = some (.bool e.att.quiet) ∧ w1.cell? ⟨ne, 10, none⟩ = some (.bool e.valid) ∧ w1.cell? ⟨ng, 0, none⟩ = some (.int .i64 g.size) ∧ w1.cell? ⟨ng, 1, none⟩ = some (.int .i64 g.ctx) ∧ w1.cell? ⟨ng, 2, none⟩ = some (.int .u64 g.va) ∧ w1.cell? ⟨ng, 3, none⟩ = some (.int .u64 g.pa) ∧ w1.cell? ⟨ng, 4, none⟩ = some (.bool g.att.write) ∧ w1.cell? ⟨ng, 5, none⟩ = some (.bool g.att.priv) ∧ w1.cell? ⟨ng, 6, none⟩ = some (.bool g.att.exec) ∧ w1.cell? ⟨ng, 7, none⟩ = some (.bool g.att.lock) ∧ w1.cell? ⟨ng, 8, none⟩ = some (.bool g.att.global) ∧ w1.cell? ⟨ng, 9, none⟩ = some (.bool g.att.quiet) ∧ w1.cell? ⟨ng, 10, none⟩ = some (.bool g.valid)) ((refine Six.cells (w := w) (na := w.heap.size) (ne := ne) (n := n) (nx := nx) (ny := ny) (ng := ng) (a := a) (e := e) (g := g) (z := z) (x := x) (y := y') ?_ HTT.out; (repeat (first | (with_reducible assumption) | (with_reducible refine Six.drew ?_) | (with_reducible refine Six.drewN ?_ _) | (with_reducible refine Six.call ?_ (by assumption))))))
          (first
            | (go_at_call 10; (with_reducible refine (C1.out _).mono ?_); rintro r w' ⟨rfl, hb⟩)
            | (go_at_call 11; (with_reducible refine (C2.out _).mono ?_); rintro r w' ⟨rfl, hb⟩)
            | (go_at_call 12; (with_reducible refine (C3.out _).mono ?_); rintro r w' ⟨rfl, hb⟩)
            | (go_at_call 13; (with_reducible refine (C4.out _).mono ?_); rintro r w' ⟨rfl, hb⟩)
            | (go_at_call 14; (with_reducible refine (C5.out _).mono ?_); rintro r w' ⟨rfl, hb⟩)
            | (go_at_call 13; (with_reducible refine (C6.out _).mono ?_); rintro r w' ⟨rfl, hb⟩)
            | (go_at_call 14; (with_reducible refine (C7.out _).mono ?_); rintro r w' ⟨rfl, hb⟩)
            | (go_at_call 13; (with_reducible refine (C8.out _).mono ?_); rintro r w' ⟨rfl, hb⟩)
            | (go_at_call 12; (with_reducible refine (C9.out _).mono ?_); rintro r w' ⟨rfl, hb⟩)
            | (go_at_call 15; (with_reducible refine (CL.out _ (And.left (by assumption))).mono ?_); rintro r w' ⟨rfl, hb⟩))
        all_goals
          go_wp2_with fail
          go_meet
          refine ⟨rfl, ?_⟩ <;> (repeat (first | (with_reducible assumption) | (with_reducible refine Six.drew ?_) | (with_reducible refine Six.drewN ?_ _) | (with_reducible refine Six.call ?_ (by assumption))))
      · obtain rfl : M = false := by rw [HM.out]; simp; omega
        have d1 : decide (z.kind ≤ 3) = false := by simpa using h1
        clear h1
        go_region_held3 (fun w1 => TabS w1 ∧ w1.cell? ⟨n, 0, none⟩ = some (.int .i64 z.kind) ∧ w1.cell? ⟨n, 1, none⟩ = some (.bool z.priv) ∧ w1.cell? ⟨n, 2, none⟩ = some (.int .u64 z.va) ∧ w1.cell? ⟨nx, 0, none⟩ = some (.int .i64 x.kind) ∧ w1.cell? ⟨nx, 1, none⟩ = some (.bool x.priv) ∧ w1.cell? ⟨nx, 2, none⟩ = some (.int .u64 x.va) ∧ w1.cell? ⟨ny, 0, none⟩ = some (.int .i64 y'.kind) ∧ w1.cell? ⟨ny, 1, none⟩ = some (.bool y'.priv) ∧ w1.cell? ⟨ny, 2, none⟩ = some (.int .u64 y'.va) ∧ w1.cell? ⟨w.heap.size, 0, none⟩ = some (.bool a.write) ∧ w1.cell? ⟨w.heap.size, 1, none⟩ = some (.bool a.priv) ∧ w1.cell? ⟨w.heap.size, 2, none⟩ = some (.bool a.exec) ∧ w1.cell? ⟨w.heap.size, 3, none⟩ = some (.bool a.lock) ∧ w1.cell? ⟨w.heap.size, 4, none⟩ = some (.bool a.global) ∧ w1.cell? ⟨w.heap.size, 5, none⟩ = some (.bool a.quiet) ∧ w1.cell? ⟨ne, 0, none⟩ = some (.int .i64 e.size) ∧ w1.cell? ⟨ne, 1, none⟩ = some (.int .i64 e.ctx) ∧ w1.cell? ⟨ne, 2, none⟩ = some (.int .u64 e.va) ∧ w1.cell? ⟨ne, 3, none⟩ = some (.int .u64 e.pa) ∧ w1.cell? ⟨ne, 4, none⟩ = some (.bool e.att.write) ∧ w1.cell? ⟨ne, 5, none⟩ = some (.bool e.att.priv) ∧ w1.cell? ⟨ne, 6, none⟩ = some (.bool e.att.exec) ∧ w1.cell? ⟨ne, 7, none⟩ = some (.bool e.att.lock) ∧ w1.cell? ⟨ne, 8, none⟩ = some (.bool e.att.global) ∧ w1.cell? ⟨ne, 9, none⟩ = some (.bool e.att.quiet) ∧ w1.cell? ⟨ne, 10, none⟩ = some (.bool e.valid) ∧ w1.cell? ⟨ng, 0, none⟩ = some (.int .i64 g.size) ∧ w1.cell? ⟨ng, 1, none⟩ = some (.int .i64 g.ctx) ∧ w1.cell? ⟨ng, 2, none⟩ = some (.int .u64 g.va) ∧ w1.cell? ⟨ng, 3, none⟩ = some (.int .u64 g.pa) ∧ w1.cell? ⟨ng, 4, none⟩ = some (.bool g.att.write) ∧ w1.cell? ⟨ng, 5, none⟩ = some (.bool g.att.priv) ∧ w1.cell? ⟨ng, 6, none⟩ = some (.bool g.att.exec) ∧ w1.cell? ⟨ng, 7, none⟩ = some (.bool g.att.lock) ∧ w1.cell? ⟨ng, 8, none⟩ = some (.bool g.att.global) ∧ w1.cell? ⟨ng, 9, none⟩ = some (.bool g.att.quiet) ∧ w1.cell? ⟨ng, 10, none⟩ = some (.bool g.valid)) ((refine Six.cells (w := w) (na := w.heap.size) (ne := ne) (n := n) (nx := nx) (ny := ny) (ng := ng) (a := a) (e := e) (g := g) (z := z) (x := x) (y := y') ?_ HTT.out; (repeat (first | (with_reducible assumption) | (with_reducible refine Six.drew ?_) | (with_reducible refine Six.drewN ?_ _) | (with_reducible refine Six.call ?_ (by assumption))))))
          (first
            | (go_at_call 10; (with_reducible refine (C1.out _).mono ?_); rintro r w' ⟨rfl, hb⟩)
            | (go_at_call 11; (with_reducible refine (C2.out _).mono ?_); rintro r w' ⟨rfl, hb⟩)
            | (go_at_call 12; (with_reducible refine (C3.out _).mono ?_); rintro r w' ⟨rfl, hb⟩)
            | (go_at_call 13; (with_reducible refine (C4.out _).mono ?_); rintro r w' ⟨rfl, hb⟩)
            | (go_at_call 14; (with_reducible refine (C5.out _).mono ?_); rintro r w' ⟨rfl, hb⟩)
            | (go_at_call 13; (with_reducible refine (C6.out _).mono ?_); rintro r w' ⟨rfl, hb⟩)
            | (go_at_call 14; (with_reducible refine (C7.out _).mono ?_); rintro r w' ⟨rfl, hb⟩)
            | (go_at_call 13; (with_reducible refine (C8.out _).mono ?_); rintro r w' ⟨rfl, hb⟩)
            | (go_at_call 12; (with_reducible refine (C9.out _).mono ?_); rintro r w' ⟨rfl, hb⟩)
            | (go_at_call 15; (with_reducible refine (CL.out _ (And.left (by assumption))).mono ?_); rintro r w' ⟨rfl, hb⟩))
        all_goals
          go_wp2_with fail
          go_meet
          refine ⟨rfl, ?_⟩ <;> (repeat (first | (with_reducible assumption) | (with_reducible refine Six.drew ?_) | (with_reducible refine Six.drewN ?_ _) | (with_reducible refine Six.call ?_ (by assumption))))
    · obtain rfl : M = false := by rw [HM.out]; simp; omega
      have d1 : decide (0 ≤ z.kind) = false := by simpa using h0
      clear h0
      have Q1 := S6.drew
      refine wp_region_held_drew (S := fun w1 => TabS w1 ∧ w1.cell? ⟨n, 0, none⟩ = some (.int .i64 z.kind) ∧ w1.cell? ⟨n, 1, none⟩ = some (.bool z.priv) ∧ w1.cell? ⟨n, 2, none⟩ = some (.int .u64 z.va) ∧ w1.cell? ⟨nx, 0, none⟩ = some (.int .i64 x.kind) ∧ w1.cell? ⟨nx, 1, none⟩ = some (.bool x.priv) ∧ w1.cell? ⟨nx, 2, none⟩ = some (.int .u64 x.va) ∧ w1.cell? ⟨ny, 0, none⟩ = some (.int .i64 y'.kind) ∧ w1.cell? ⟨ny, 1, none⟩ = some (.bool y'.priv) ∧ w1.cell? ⟨ny, 2, none⟩ = some (.int .u64 y'.va) ∧ w1.cell? ⟨w.heap.size, 0, none⟩ = some (.bool a.write) ∧ w1.cell? ⟨w.heap.size, 1, none⟩ = some (.bool a.priv) ∧ w1.cell? ⟨w.heap.size, 2, none⟩ = some (.bool a.exec) ∧ w1.cell? ⟨w.heap.size, 3, none⟩ = some (.bool a.lock) ∧ w1.cell? ⟨w.heap.size, 4, none⟩ = some (.bool a.global) ∧ w1.cell? ⟨w.heap.size, 5, none⟩ = some (.bool a.quiet) ∧ w1.cell? ⟨ne, 0, none⟩ = some (.int .i64 e.size) ∧ w1.cell? ⟨ne, 1, none⟩ = some (.int .i64 e.ctx) ∧ w1.cell? ⟨ne, 2, none⟩ = some (.int .u64 e.va) ∧ w1.cell? ⟨ne, 3, none⟩ = some (.int .u64 e.pa) ∧ w1.cell? ⟨ne, 4, none⟩ = some (.bool e.att.write) ∧ w1.cell? ⟨ne, 5, none⟩ = some (.bool e.att.priv) ∧ w1.cell? ⟨ne, 6, none⟩ = some (.bool e.att.exec) ∧ w1.cell? ⟨ne, 7, none⟩ = some (.bool e.att.lock) ∧ w1.cell? ⟨ne, 8, none⟩ = some (.bool e.att.global) ∧ w1.cell? ⟨ne, 9, none⟩ = some (.bool e.att.quiet) ∧ w1.cell? ⟨ne, 10, none⟩ = some (.bool e.valid) ∧ w1.cell? ⟨ng, 0, none⟩ = some (.int .i64 g.size) ∧ w1.cell? ⟨ng, 1, none⟩ = some (.int .i64 g.ctx) ∧ w1.cell? ⟨ng, 2, none⟩ = some (.int .u64 g.va) ∧ w1.cell? ⟨ng, 3, none⟩ = some (.int .u64 g.pa) ∧ w1.cell? ⟨ng, 4, none⟩ = some (.bool g.att.write) ∧ w1.cell? ⟨ng, 5, none⟩ = some (.bool g.att.priv) ∧ w1.cell? ⟨ng, 6, none⟩ = some (.bool g.att.exec) ∧ w1.cell? ⟨ng, 7, none⟩ = some (.bool g.att.lock) ∧ w1.cell? ⟨ng, 8, none⟩ = some (.bool g.att.global) ∧ w1.cell? ⟨ng, 9, none⟩ = some (.bool g.att.quiet) ∧ w1.cell? ⟨ng, 10, none⟩ = some (.bool g.valid)) (by kernel_rfl) (Six.cells (w := w) (na := w.heap.size) (ne := ne) (n := n) (nx := nx) (ny := ny) (ng := ng) (a := a) (e := e) (g := g) (z := z) (x := x) (y := y') Q1 HTT.out) (fun hHeld => ?_)
      refine wpAnyH_take (i := 0) (v := ?v0) rfl (by kernel_rfl) (by kernel_rfl) (by kernel_rfl) (fun _ _ _ h => h) (Or.inl ⟨by rfl, ?hy0⟩) (by assumption) ?rest0
      case hy0 => (intro w hSw; (try dsimp only at hSw); go_simp <;> (with_reducible rfl))
      (try simp only [Act.put, List.setIfInBounds_toArray, List.set_cons_zero, List.set_cons_succ, List.getElem_toArray, List.getElem_cons_zero, List.getElem_cons_succ])
      refine wpAnyH_take (i := 2) (v := ?v2) rfl (by kernel_rfl) (by kernel_rfl) (by kernel_rfl) (fun _ _ _ h => h) (Or.inl ⟨by rfl, ?hy2⟩) (by assumption) ?rest2
      case hy2 => (intro w hSw; (try dsimp only at hSw); go_simp <;> (with_reducible rfl))
      (try simp only [Act.put, List.setIfInBounds_toArray, List.set_cons_zero, List.set_cons_succ, List.getElem_toArray, List.getElem_cons_zero, List.getElem_cons_succ])
      refine wpAnyH_take (i := 3) (v := ?v3) rfl (by kernel_rfl) (by kernel_rfl) (by kernel_rfl) (fun _ _ _ h => h) (Or.inl ⟨by rfl, ?hy3⟩) (by assumption) ?rest3
      case hy3 => (intro w hSw; (try dsimp only at hSw); go_simp <;> (with_reducible rfl))
      (try simp only [Act.put, List.setIfInBounds_toArray, List.set_cons_zero, List.set_cons_succ, List.getElem_toArray, List.getElem_cons_zero, List.getElem_cons_succ])
      refine wpAnyH_take (i := 4) (v := ?v4) rfl (by kernel_rfl) (by kernel_rfl) (by kernel_rfl) (fun _ _ _ h => h) (Or.inl ⟨by rfl, ?hy4⟩) (by assumption) ?rest4
      case hy4 => (intro w hSw; (try dsimp only at hSw); go_simp <;> (with_reducible rfl))
      (try simp only [Act.put, List.setIfInBounds_toArray, List.set_cons_zero, List.set_cons_succ, List.getElem_toArray, List.getElem_cons_zero, List.getElem_cons_succ])
      refine wpAnyH_ready (rs := [1]) (by kernel_rfl) (by simp) ?_
      refine AllReadyH.cons rfl (fun K hK => ?_) AllReadyH.nil
      go_simp
      refine (C1.out _).mono ?_; rintro r w2 ⟨rfl, hb⟩
      have Q2 := Q1.call hb
      clear hb Q1
      (try go_simp)
      refine hK.out _ _ (Six.cells (w := w) (na := w.heap.size) (ne := ne) (n := n) (nx := nx) (ny := ny) (ng := ng) (a := a) (e := e) (g := g) (z := z) (x := x) (y := y') Q2 HTT.out) (fun hNew => ?_)
      clear hHeld hK K
      have hHeld := hNew
      clear hNew
      (try simp only [Act.put, List.setIfInBounds_toArray, List.set_cons_zero, List.set_cons_succ, List.getElem_toArray, List.getElem_cons_zero, List.getElem_cons_succ])
      refine wpAnyH_take (i := 5) (v := ?v5) rfl (by kernel_rfl) (by kernel_rfl) (by kernel_rfl) (fun _ _ _ h => h) (Or.inl ⟨by rfl, ?hy5⟩) (by assumption) ?rest5
      case hy5 => (intro w hSw; (try dsimp only at hSw); go_simp <;> (with_reducible rfl))
      (try simp only [Act.put, List.setIfInBounds_toArray, List.set_cons_zero, List.set_cons_succ, List.getElem_toArray, List.getElem_cons_zero, List.getElem_cons_succ])
      refine wpAnyH_take (i := 6) (v := undef) rfl (by kernel_rfl) (by kernel_rfl) (by kernel_rfl) (fun _ _ _ h => h) (Or.inr ⟨by rfl, rfl⟩) (by assumption) ?_
      (try simp only [Act.put, List.setIfInBounds_toArray, List.set_cons_zero, List.set_cons_succ, List.getElem_toArray, List.getElem_cons_zero, List.getElem_cons_succ])
      refine wpAnyH_take (i := 7) (v := undef) rfl (by kernel_rfl) (by kernel_rfl) (by kernel_rfl) (fun _ _ _ h => h) (Or.inr ⟨by rfl, rfl⟩) (by assumption) ?_
      (try simp only [Act.put, List.setIfInBounds_toArray, List.set_cons_zero, List.set_cons_succ, List.getElem_toArray, List.getElem_cons_zero, List.getElem_cons_succ])
      refine wpAnyH_take (i := 8) (v := undef) rfl (by kernel_rfl) (by kernel_rfl) (by kernel_rfl) (fun _ _ _ h => h) (Or.inr ⟨by rfl, rfl⟩) (by assumption) ?_
      (try simp only [Act.put, List.setIfInBounds_toArray, List.set_cons_zero, List.set_cons_succ, List.getElem_toArray, List.getElem_cons_zero, List.getElem_cons_succ])
      refine wpAnyH_take (i := 9) (v := ?v9) rfl (by kernel_rfl) (by kernel_rfl) (by kernel_rfl) (fun _ _ _ h => h) (Or.inl ⟨by rfl, ?hy9⟩) (by assumption) ?rest9
      case hy9 => (intro w hSw; (try dsimp only at hSw); go_simp <;> (with_reducible rfl))
      (try simp only [Act.put, List.setIfInBounds_toArray, List.set_cons_zero, List.set_cons_succ, List.getElem_toArray, List.getElem_cons_zero, List.getElem_cons_succ])
      refine wpAnyH_take (i := 10) (v := ?v10) rfl (by kernel_rfl) (by kernel_rfl) (by kernel_rfl) (fun _ _ _ h => h) (Or.inl ⟨by rfl, ?hy10⟩) (by assumption) ?rest10
      case hy10 => (intro w hSw; (try dsimp only at hSw); go_simp <;> (with_reducible rfl))
      (try simp only [Act.put, List.setIfInBounds_toArray, List.set_cons_zero, List.set_cons_succ, List.getElem_toArray, List.getElem_cons_zero, List.getElem_cons_succ])
      refine wpAnyH_take (i := 11) (v := ?v11) rfl (by kernel_rfl) (by kernel_rfl) (by kernel_rfl) (fun _ _ _ h => h) (Or.inl ⟨by rfl, ?hy11⟩) (by assumption) ?rest11
      case hy11 => (intro w hSw; (try dsimp only at hSw); go_simp <;> (with_reducible rfl))
      (try simp only [Act.put, List.setIfInBounds_toArray, List.set_cons_zero, List.set_cons_succ, List.getElem_toArray, List.getElem_cons_zero, List.getElem_cons_succ])
      refine wpAnyH_take (i := 12) (v := ?v12) rfl (by kernel_rfl) (by kernel_rfl) (by kernel_rfl) (fun _ _ _ h => h) (Or.inl ⟨by rfl, ?hy12⟩) (by assumption) ?rest12
      case hy12 => (intro w hSw; (try dsimp only at hSw); go_simp <;> (with_reducible rfl))
      (try simp only [Act.put, List.setIfInBounds_toArray, List.set_cons_zero, List.set_cons_succ, List.getElem_toArray, List.getElem_cons_zero, List.getElem_cons_succ])
      refine wpAnyH_take (i := 13) (v := ?v13) rfl (by kernel_rfl) (by kernel_rfl) (by kernel_rfl) (fun _ _ _ h => h) (Or.inl ⟨by rfl, ?hy13⟩) (by assumption) ?rest13
      case hy13 => (intro w hSw; (try dsimp only at hSw); go_simp <;> (with_reducible rfl))
      (try simp only [Act.put, List.setIfInBounds_toArray, List.set_cons_zero, List.set_cons_succ, List.getElem_toArray, List.getElem_cons_zero, List.getElem_cons_succ])
      refine wpAnyH_take (i := 15) (v := ?v15) rfl (by kernel_rfl) (by kernel_rfl) (by kernel_rfl) (fun _ _ _ h => h) (Or.inl ⟨by rfl, ?hy15⟩) (by assumption) ?rest15
      case hy15 => (intro w hSw; (try dsimp only at hSw); go_simp <;> (with_reducible rfl))
      (try simp only [Act.put, List.setIfInBounds_toArray, List.set_cons_zero, List.set_cons_succ, List.getElem_toArray, List.getElem_cons_zero, List.getElem_cons_succ])
      refine wpAnyH_take (i := 16) (v := ?v16) rfl (by kernel_rfl) (by kernel_rfl) (by kernel_rfl) (fun _ _ _ h => h) (Or.inl ⟨by rfl, ?hy16⟩) (by assumption) ?rest16
      case hy16 => (intro w hSw; (try dsimp only at hSw); go_simp <;> (with_reducible rfl))
      (try simp only [Act.put, List.setIfInBounds_toArray, List.set_cons_zero, List.set_cons_succ, List.getElem_toArray, List.getElem_cons_zero, List.getElem_cons_succ])
      refine wpAnyH_ready (rs := [14]) (by kernel_rfl) (by simp) ?_
      refine AllReadyH.cons rfl (fun K hK => ?_) AllReadyH.nil
      go_simp
      refine (C2.out _).mono ?_; rintro r w3 ⟨rfl, hb⟩
      have Q3 := Q2.call hb
      clear hb Q2
      (try go_simp)
      refine hK.out _ _ (Six.cells (w := w) (na := w.heap.size) (ne := ne) (n := n) (nx := nx) (ny := ny) (ng := ng) (a := a) (e := e) (g := g) (z := z) (x := x) (y := y') Q3 HTT.out) (fun hNew => ?_)
      clear hHeld hK K
      have hHeld := hNew
      clear hNew
      (try simp only [Act.put, List.setIfInBounds_toArray, List.set_cons_zero, List.set_cons_succ, List.getElem_toArray, List.getElem_cons_zero, List.getElem_cons_succ])
      refine wpAnyH_ready (rs := [17]) (by kernel_rfl) (by simp) ?_
      refine AllReadyH.cons rfl (fun K hK => ?_) AllReadyH.nil
      go_simp
      refine (C3.out _).mono ?_; rintro r w4 ⟨rfl, hb⟩
      have Q4 := Q3.call hb
      clear hb Q3
      (try go_simp)
      refine hK.out _ _ (Six.cells (w := w) (na := w.heap.size) (ne := ne) (n := n) (nx := nx) (ny := ny) (ng := ng) (a := a) (e := e) (g := g) (z := z) (x := x) (y := y') Q4 HTT.out) (fun hNew => ?_)
      clear hHeld hK K
      have hHeld := hNew
      clear hNew
      (try simp only [Act.put, List.setIfInBounds_toArray, List.set_cons_zero, List.set_cons_succ, List.getElem_toArray, List.getElem_cons_zero, List.getElem_cons_succ])
      refine wpAnyH_take (i := 18) (v := ?v18) rfl (by kernel_rfl) (by kernel_rfl) (by kernel_rfl) (fun _ _ _ h => h) (Or.inl ⟨by rfl, ?hy18⟩) (by assumption) ?rest18
      case hy18 => (intro w hSw; (try dsimp only at hSw); go_simp <;> (with_reducible rfl))
      (try simp only [Act.put, List.setIfInBounds_toArray, List.set_cons_zero, List.set_cons_succ, List.getElem_toArray, List.getElem_cons_zero, List.getElem_cons_succ])
      refine wpAnyH_take (i := 19) (v := ?v19) rfl (by kernel_rfl) (by kernel_rfl) (by kernel_rfl) (fun _ _ _ h => h) (Or.inl ⟨by rfl, ?hy19⟩) (by assumption) ?rest19
      case hy19 => (intro w hSw; (try dsimp only at hSw); go_simp <;> (with_reducible rfl))
      (try simp only [Act.put, List.setIfInBounds_toArray, List.set_cons_zero, List.set_cons_succ, List.getElem_toArray, List.getElem_cons_zero, List.getElem_cons_succ])
      refine wpAnyH_take (i := 20) (v := ?v20) rfl (by kernel_rfl) (by kernel_rfl) (by kernel_rfl) (fun _ _ _ h => h) (Or.inl ⟨by rfl, ?hy20⟩) (by assumption) ?rest20
      case hy20 => (intro w hSw; (try dsimp only at hSw); go_simp <;> (with_reducible rfl))
      (try simp only [Act.put, List.setIfInBounds_toArray, List.set_cons_zero, List.set_cons_succ, List.getElem_toArray, List.getElem_cons_zero, List.getElem_cons_succ])
      refine wpAnyH_take (i := 21) (v := ?v21) rfl (by kernel_rfl) (by kernel_rfl) (by kernel_rfl) (fun _ _ _ h => h) (Or.inl ⟨by rfl, ?hy21⟩) (by assumption) ?rest21
      case hy21 => (intro w hSw; (try dsimp only at hSw); go_simp <;> (with_reducible rfl))
      (try simp only [Act.put, List.setIfInBounds_toArray, List.set_cons_zero, List.set_cons_succ, List.getElem_toArray, List.getElem_cons_zero, List.getElem_cons_succ])
      refine wpAnyH_take (i := 22) (v := ?v22) rfl (by kernel_rfl) (by kernel_rfl) (by kernel_rfl) (fun _ _ _ h => h) (Or.inl ⟨by rfl, ?hy22⟩) (by assumption) ?rest22
      case hy22 => (intro w hSw; (try dsimp only at hSw); go_simp <;> (with_reducible rfl))
      (try simp only [Act.put, List.setIfInBounds_toArray, List.set_cons_zero, List.set_cons_succ, List.getElem_toArray, List.getElem_cons_zero, List.getElem_cons_succ])
      refine wpAnyH_take (i := 23) (v := ?v23) rfl (by kernel_rfl) (by kernel_rfl) (by kernel_rfl) (fun _ _ _ h => h) (Or.inl ⟨by rfl, ?hy23⟩) (by assumption) ?rest23
      case hy23 => (intro w hSw; (try dsimp only at hSw); go_simp <;> (with_reducible rfl))
      (try simp only [Act.put, List.setIfInBounds_toArray, List.set_cons_zero, List.set_cons_succ, List.getElem_toArray, List.getElem_cons_zero, List.getElem_cons_succ])
      refine wpAnyH_take (i := 25) (v := ?v25) rfl (by kernel_rfl) (by kernel_rfl) (by kernel_rfl) (fun _ _ _ h => h) (Or.inl ⟨by rfl, ?hy25⟩) (by assumption) ?rest25
      case hy25 => (intro w hSw; (try dsimp only at hSw); go_simp <;> (with_reducible rfl))
      (try simp only [Act.put, List.setIfInBounds_toArray, List.set_cons_zero, List.set_cons_succ, List.getElem_toArray, List.getElem_cons_zero, List.getElem_cons_succ])
      refine wpAnyH_take (i := 26) (v := ?v26) rfl (by kernel_rfl) (by kernel_rfl) (by kernel_rfl) (fun _ _ _ h => h) (Or.inl ⟨by rfl, ?hy26⟩) (by assumption) ?rest26
      case hy26 => (intro w hSw; (try dsimp only at hSw); go_simp <;> (with_reducible rfl))
      (try simp only [Act.put, List.setIfInBounds_toArray, List.set_cons_zero, List.set_cons_succ, List.getElem_toArray, List.getElem_cons_zero, List.getElem_cons_succ])
      refine wpAnyH_take (i := 27) (v := ?v27) rfl (by kernel_rfl) (by kernel_rfl) (by kernel_rfl) (fun _ _ _ h => h) (Or.inl ⟨by rfl, ?hy27⟩) (by assumption) ?rest27
      case hy27 => (intro w hSw; (try dsimp only at hSw); go_simp <;> (with_reducible rfl))
      (try simp only [Act.put, List.setIfInBounds_toArray, List.set_cons_zero, List.set_cons_succ, List.getElem_toArray, List.getElem_cons_zero, List.getElem_cons_succ])
      refine wpAnyH_ready (rs := [24]) (by kernel_rfl) (by simp) ?_
      refine AllReadyH.cons rfl (fun K hK => ?_) AllReadyH.nil
      go_simp
      refine (C4.out _).mono ?_; rintro r w5 ⟨rfl, hb⟩
      have Q5 := Q4.call hb
      clear hb Q4
      (try go_simp)
      refine hK.out _ _ (Six.cells (w := w) (na := w.heap.size) (ne := ne) (n := n) (nx := nx) (ny := ny) (ng := ng) (a := a) (e := e) (g := g) (z := z) (x := x) (y := y') Q5 HTT.out) (fun hNew => ?_)
      clear hHeld hK K
      have hHeld := hNew
      clear hNew
      (try simp only [Act.put, List.setIfInBounds_toArray, List.set_cons_zero, List.set_cons_succ, List.getElem_toArray, List.getElem_cons_zero, List.getElem_cons_succ])
      refine wpAnyH_ready (rs := [28]) (by kernel_rfl) (by simp) ?_
      refine AllReadyH.cons rfl (fun K hK => ?_) AllReadyH.nil
      go_simp
      refine (C5.out _).mono ?_; rintro r w6 ⟨rfl, hb⟩
      have Q6 := Q5.call hb
      clear hb Q5
      (try go_simp)
      refine hK.out _ _ (Six.cells (w := w) (na := w.heap.size) (ne := ne) (n := n) (nx := nx) (ny := ny) (ng := ng) (a := a) (e := e) (g := g) (z := z) (x := x) (y := y') Q6 HTT.out) (fun hNew => ?_)
      clear hHeld hK K
      have hHeld := hNew
      clear hNew
      (try simp only [Act.put, List.setIfInBounds_toArray, List.set_cons_zero, List.set_cons_succ, List.getElem_toArray, List.getElem_cons_zero, List.getElem_cons_succ])
      refine wpAnyH_take (i := 29) (v := ?v29) rfl (by kernel_rfl) (by kernel_rfl) (by kernel_rfl) (fun _ _ _ h => h) (Or.inl ⟨by rfl, ?hy29⟩) (by assumption) ?rest29
      case hy29 => (intro w hSw; (try dsimp only at hSw); go_simp <;> (with_reducible rfl))
      (try simp only [Act.put, List.setIfInBounds_toArray, List.set_cons_zero, List.set_cons_succ, List.getElem_toArray, List.getElem_cons_zero, List.getElem_cons_succ])
      refine wpAnyH_take (i := 30) (v := ?v30) rfl (by kernel_rfl) (by kernel_rfl) (by kernel_rfl) (fun _ _ _ h => h) (Or.inl ⟨by rfl, ?hy30⟩) (by assumption) ?rest30
      case hy30 => (intro w hSw; (try dsimp only at hSw); go_simp <;> (with_reducible rfl))
      (try simp only [Act.put, List.setIfInBounds_toArray, List.set_cons_zero, List.set_cons_succ, List.getElem_toArray, List.getElem_cons_zero, List.getElem_cons_succ])
      refine wpAnyH_take (i := 31) (v := ?v31) rfl (by kernel_rfl) (by kernel_rfl) (by kernel_rfl) (fun _ _ _ h => h) (Or.inl ⟨by rfl, ?hy31⟩) (by assumption) ?rest31
      case hy31 => (intro w hSw; (try dsimp only at hSw); go_simp <;> (with_reducible rfl))
      (try simp only [Act.put, List.setIfInBounds_toArray, List.set_cons_zero, List.set_cons_succ, List.getElem_toArray, List.getElem_cons_zero, List.getElem_cons_succ])
      refine wpAnyH_take (i := 32) (v := ?v32) rfl (by kernel_rfl) (by kernel_rfl) (by kernel_rfl) (fun _ _ _ h => h) (Or.inl ⟨by rfl, ?hy32⟩) (by assumption) ?rest32
      case hy32 => (intro w hSw; (try dsimp only at hSw); go_simp <;> (with_reducible rfl))
      (try simp only [Act.put, List.setIfInBounds_toArray, List.set_cons_zero, List.set_cons_succ, List.getElem_toArray, List.getElem_cons_zero, List.getElem_cons_succ])
      refine wpAnyH_take (i := 33) (v := ?v33) rfl (by kernel_rfl) (by kernel_rfl) (by kernel_rfl) (fun _ _ _ h => h) (Or.inl ⟨by rfl, ?hy33⟩) (by assumption) ?rest33
      case hy33 => (intro w hSw; (try dsimp only at hSw); go_simp <;> (with_reducible rfl))
      (try simp only [Act.put, List.setIfInBounds_toArray, List.set_cons_zero, List.set_cons_succ, List.getElem_toArray, List.getElem_cons_zero, List.getElem_cons_succ])
      refine wpAnyH_take (i := 34) (v := ?v34) rfl (by kernel_rfl) (by kernel_rfl) (by kernel_rfl) (fun _ _ _ h => h) (Or.inl ⟨by rfl, ?hy34⟩) (by assumption) ?rest34
      case hy34 => (intro w hSw; (try dsimp only at hSw); go_simp <;> (with_reducible rfl))
      (try simp only [Act.put, List.setIfInBounds_toArray, List.set_cons_zero, List.set_cons_succ, List.getElem_toArray, List.getElem_cons_zero, List.getElem_cons_succ])
      refine wpAnyH_take (i := 36) (v := ?v36) rfl (by kernel_rfl) (by kernel_rfl) (by kernel_rfl) (fun _ _ _ h => h) (Or.inl ⟨by rfl, ?hy36⟩) (by assumption) ?rest36
      case hy36 => (intro w hSw; (try dsimp only at hSw); go_simp <;> (with_reducible rfl))
      (try simp only [Act.put, List.setIfInBounds_toArray, List.set_cons_zero, List.set_cons_succ, List.getElem_toArray, List.getElem_cons_zero, List.getElem_cons_succ])
      refine wpAnyH_take (i := 37) (v := ?v37) rfl (by kernel_rfl) (by kernel_rfl) (by kernel_rfl) (fun _ _ _ h => h) (Or.inl ⟨by rfl, ?hy37⟩) (by assumption) ?rest37
      case hy37 => (intro w hSw; (try dsimp only at hSw); go_simp <;> (with_reducible rfl))
      (try simp only [Act.put, List.setIfInBounds_toArray, List.set_cons_zero, List.set_cons_succ, List.getElem_toArray, List.getElem_cons_zero, List.getElem_cons_succ])
      refine wpAnyH_take (i := 38) (v := ?v38) rfl (by kernel_rfl) (by kernel_rfl) (by kernel_rfl) (fun _ _ _ h => h) (Or.inl ⟨by rfl, ?hy38⟩) (by assumption) ?rest38
      case hy38 => (intro w hSw; (try dsimp only at hSw); go_simp <;> (with_reducible rfl))
      (try simp only [Act.put, List.setIfInBounds_toArray, List.set_cons_zero, List.set_cons_succ, List.getElem_toArray, List.getElem_cons_zero, List.getElem_cons_succ])
      refine wpAnyH_ready (rs := [35]) (by kernel_rfl) (by simp) ?_
      refine AllReadyH.cons rfl (fun K hK => ?_) AllReadyH.nil
      go_simp
      refine (C6.out _).mono ?_; rintro r w7 ⟨rfl, hb⟩
      have Q7 := Q6.call hb
      clear hb Q6
      (try go_simp)
      refine hK.out _ _ (Six.cells (w := w) (na := w.heap.size) (ne := ne) (n := n) (nx := nx) (ny := ny) (ng := ng) (a := a) (e := e) (g := g) (z := z) (x := x) (y := y') Q7 HTT.out) (fun hNew => ?_)
      clear hHeld hK K
      have hHeld := hNew
      clear hNew
      (try simp only [Act.put, List.setIfInBounds_toArray, List.set_cons_zero, List.set_cons_succ, List.getElem_toArray, List.getElem_cons_zero, List.getElem_cons_succ])
      refine wpAnyH_ready (rs := [39]) (by kernel_rfl) (by simp) ?_
      refine AllReadyH.cons rfl (fun K hK => ?_) AllReadyH.nil
      go_simp
      refine (C7.out _).mono ?_; rintro r w8 ⟨rfl, hb⟩
      have Q8 := Q7.call hb
      clear hb Q7
      (try go_simp)
      refine hK.out _ _ (Six.cells (w := w) (na := w.heap.size) (ne := ne) (n := n) (nx := nx) (ny := ny) (ng := ng) (a := a) (e := e) (g := g) (z := z) (x := x) (y := y') Q8 HTT.out) (fun hNew => ?_)
      clear hHeld hK K
      have hHeld := hNew
      clear hNew
      (try simp only [Act.put, List.setIfInBounds_toArray, List.set_cons_zero, List.set_cons_succ, List.getElem_toArray, List.getElem_cons_zero, List.getElem_cons_succ])
      refine wpAnyH_take (i := 40) (v := ?v40) rfl (by kernel_rfl) (by kernel_rfl) (by kernel_rfl) (fun _ _ _ h => h) (Or.inl ⟨by rfl, ?hy40⟩) (by assumption) ?rest40
      case hy40 => (intro w hSw; (try dsimp only at hSw); go_simp <;> (with_reducible rfl))
      (try simp only [Act.put, List.setIfInBounds_toArray, List.set_cons_zero, List.set_cons_succ, List.getElem_toArray, List.getElem_cons_zero, List.getElem_cons_succ])
      refine wpAnyH_take (i := 41) (v := ?v41) rfl (by kernel_rfl) (by kernel_rfl) (by kernel_rfl) (fun _ _ _ h => h) (Or.inl ⟨by rfl, ?hy41⟩) (by assumption) ?rest41
      case hy41 => (intro w hSw; (try dsimp only at hSw); go_simp <;> (with_reducible rfl))
      (try simp only [Act.put, List.setIfInBounds_toArray, List.set_cons_zero, List.set_cons_succ, List.getElem_toArray, List.getElem_cons_zero, List.getElem_cons_succ])
      refine wpAnyH_take (i := 42) (v := ?v42) rfl (by kernel_rfl) (by kernel_rfl) (by kernel_rfl) (fun _ _ _ h => h) (Or.inl ⟨by rfl, ?hy42⟩) (by assumption) ?rest42
      case hy42 => (intro w hSw; (try dsimp only at hSw); go_simp <;> (with_reducible rfl))
      (try simp only [Act.put, List.setIfInBounds_toArray, List.set_cons_zero, List.set_cons_succ, List.getElem_toArray, List.getElem_cons_zero, List.getElem_cons_succ])
      refine wpAnyH_take (i := 43) (v := ?v43) rfl (by kernel_rfl) (by kernel_rfl) (by kernel_rfl) (fun _ _ _ h => h) (Or.inl ⟨by rfl, ?hy43⟩) (by assumption) ?rest43
      case hy43 => (intro w hSw; (try dsimp only at hSw); go_simp <;> (with_reducible rfl))
      (try simp only [Act.put, List.setIfInBounds_toArray, List.set_cons_zero, List.set_cons_succ, List.getElem_toArray, List.getElem_cons_zero, List.getElem_cons_succ])
      refine wpAnyH_take (i := 44) (v := ?v44) rfl (by kernel_rfl) (by kernel_rfl) (by kernel_rfl) (fun _ _ _ h => h) (Or.inl ⟨by rfl, ?hy44⟩) (by assumption) ?rest44
      case hy44 => (intro w hSw; (try dsimp only at hSw); go_simp <;> (with_reducible rfl))
      (try simp only [Act.put, List.setIfInBounds_toArray, List.set_cons_zero, List.set_cons_succ, List.getElem_toArray, List.getElem_cons_zero, List.getElem_cons_succ])
      refine wpAnyH_take (i := 45) (v := ?v45) rfl (by kernel_rfl) (by kernel_rfl) (by kernel_rfl) (fun _ _ _ h => h) (Or.inl ⟨by rfl, ?hy45⟩) (by assumption) ?rest45
      case hy45 => (intro w hSw; (try dsimp only at hSw); go_simp <;> (with_reducible rfl))
      (try simp only [Act.put, List.setIfInBounds_toArray, List.set_cons_zero, List.set_cons_succ, List.getElem_toArray, List.getElem_cons_zero, List.getElem_cons_succ])
      refine wpAnyH_take (i := 46) (v := ?v46) rfl (by kernel_rfl) (by kernel_rfl) (by kernel_rfl) (fun _ _ _ h => h) (Or.inl ⟨by rfl, ?hy46⟩) (by assumption) ?rest46
      case hy46 => (intro w hSw; (try dsimp only at hSw); go_simp <;> (with_reducible rfl))
      (try simp only [Act.put, List.setIfInBounds_toArray, List.set_cons_zero, List.set_cons_succ, List.getElem_toArray, List.getElem_cons_zero, List.getElem_cons_succ])
      refine wpAnyH_take (i := 48) (v := ?v48) rfl (by kernel_rfl) (by kernel_rfl) (by kernel_rfl) (fun _ _ _ h => h) (Or.inl ⟨by rfl, ?hy48⟩) (by assumption) ?rest48
      case hy48 => (intro w hSw; (try dsimp only at hSw); go_simp <;> (with_reducible rfl))
      (try simp only [Act.put, List.setIfInBounds_toArray, List.set_cons_zero, List.set_cons_succ, List.getElem_toArray, List.getElem_cons_zero, List.getElem_cons_succ])
      refine wpAnyH_take (i := 49) (v := ?v49) rfl (by kernel_rfl) (by kernel_rfl) (by kernel_rfl) (fun _ _ _ h => h) (Or.inl ⟨by rfl, ?hy49⟩) (by assumption) ?rest49
      case hy49 => (intro w hSw; (try dsimp only at hSw); go_simp <;> (with_reducible rfl))
      (try simp only [Act.put, List.setIfInBounds_toArray, List.set_cons_zero, List.set_cons_succ, List.getElem_toArray, List.getElem_cons_zero, List.getElem_cons_succ])
      refine wpAnyH_take (i := 50) (v := ?v50) rfl (by kernel_rfl) (by kernel_rfl) (by kernel_rfl) (fun _ _ _ h => h) (Or.inl ⟨by rfl, ?hy50⟩) (by assumption) ?rest50
      case hy50 => (intro w hSw; (try dsimp only at hSw); go_simp <;> (with_reducible rfl))
      (try simp only [Act.put, List.setIfInBounds_toArray, List.set_cons_zero, List.set_cons_succ, List.getElem_toArray, List.getElem_cons_zero, List.getElem_cons_succ])
      refine wpAnyH_ready (rs := [47]) (by kernel_rfl) (by simp) ?_
      refine AllReadyH.cons rfl (fun K hK => ?_) AllReadyH.nil
      go_simp
      refine (C8.out _).mono ?_; rintro r w9 ⟨rfl, hb⟩
      have Q9 := Q8.call hb
      clear hb Q8
      (try go_simp)
      refine hK.out _ _ (Six.cells (w := w) (na := w.heap.size) (ne := ne) (n := n) (nx := nx) (ny := ny) (ng := ng) (a := a) (e := e) (g := g) (z := z) (x := x) (y := y') Q9 HTT.out) (fun hNew => ?_)
      clear hHeld hK K
      have hHeld := hNew
      clear hNew
      (try simp only [Act.put, List.setIfInBounds_toArray, List.set_cons_zero, List.set_cons_succ, List.getElem_toArray, List.getElem_cons_zero, List.getElem_cons_succ])
      refine wpAnyH_ready (rs := [51]) (by kernel_rfl) (by simp) ?_
      refine AllReadyH.cons rfl (fun K hK => ?_) AllReadyH.nil
      go_simp
      refine (C9.out _).mono ?_; rintro r w10 ⟨rfl, hb⟩
      have Q10 := Q9.call hb
      clear hb Q9
      (try go_simp)
      refine hK.out _ _ (Six.cells (w := w) (na := w.heap.size) (ne := ne) (n := n) (nx := nx) (ny := ny) (ng := ng) (a := a) (e := e) (g := g) (z := z) (x := x) (y := y') Q10 HTT.out) (fun hNew => ?_)
      clear hHeld hK K
      have hHeld := hNew
      clear hNew
      (try simp only [Act.put, List.setIfInBounds_toArray, List.set_cons_zero, List.set_cons_succ, List.getElem_toArray, List.getElem_cons_zero, List.getElem_cons_succ])
      refine wpAnyH_take (i := 52) (v := ?v52) rfl (by kernel_rfl) (by kernel_rfl) (by kernel_rfl) (fun _ _ _ h => h) (Or.inl ⟨by rfl, ?hy52⟩) (by assumption) ?rest52
      case hy52 => (intro w hSw; (try dsimp only at hSw); go_simp <;> (with_reducible rfl))
      (try simp only [Act.put, List.setIfInBounds_toArray, List.set_cons_zero, List.set_cons_succ, List.getElem_toArray, List.getElem_cons_zero, List.getElem_cons_succ])
      refine wpAnyH_take (i := 53) (v := ?v53) rfl (by kernel_rfl) (by kernel_rfl) (by kernel_rfl) (fun _ _ _ h => h) (Or.inl ⟨by rfl, ?hy53⟩) (by assumption) ?rest53
      case hy53 => (intro w hSw; (try dsimp only at hSw); go_simp <;> (with_reducible rfl))
      (try simp only [Act.put, List.setIfInBounds_toArray, List.set_cons_zero, List.set_cons_succ, List.getElem_toArray, List.getElem_cons_zero, List.getElem_cons_succ])
      refine wpAnyH_take (i := 54) (v := ?v54) rfl (by kernel_rfl) (by kernel_rfl) (by kernel_rfl) (fun _ _ _ h => h) (Or.inl ⟨by rfl, ?hy54⟩) (by assumption) ?rest54
      case hy54 => (intro w hSw; (try dsimp only at hSw); go_simp <;> (with_reducible rfl))
      (try simp only [Act.put, List.setIfInBounds_toArray, List.set_cons_zero, List.set_cons_succ, List.getElem_toArray, List.getElem_cons_zero, List.getElem_cons_succ])
      refine wpAnyH_ready (rs := [55]) (by kernel_rfl) (by simp) ?_
      refine AllReadyH.cons rfl (fun K hK => ?_) AllReadyH.nil
      go_simp
      refine (CL.out _ (And.left hHeld)).mono ?_; rintro r w11 ⟨rfl, hb⟩
      have Q11 := Q10.call hb
      clear hb Q10
      (try go_simp)
      refine hK.out _ _ (Six.cells (w := w) (na := w.heap.size) (ne := ne) (n := n) (nx := nx) (ny := ny) (ng := ng) (a := a) (e := e) (g := g) (z := z) (x := x) (y := y') Q11 HTT.out) (fun hNew => ?_)
      clear hHeld hK K
      have hHeld := hNew
      clear hNew
      (try simp only [Act.put, List.setIfInBounds_toArray, List.set_cons_zero, List.set_cons_succ, List.getElem_toArray, List.getElem_cons_zero, List.getElem_cons_succ])
      refine wpAnyH_take (i := 56) (v := ?v56) rfl (by kernel_rfl) (by kernel_rfl) (by kernel_rfl) (fun _ _ _ h => h) (Or.inl ⟨by rfl, ?hy56⟩) (by assumption) ?rest56
      case hy56 => (intro w hSw; (try dsimp only at hSw); go_simp <;> (with_reducible rfl))
      (try simp only [Act.put, List.setIfInBounds_toArray, List.set_cons_zero, List.set_cons_succ, List.getElem_toArray, List.getElem_cons_zero, List.getElem_cons_succ])
      refine wpAnyH_take (i := 57) (v := ?v57) rfl (by kernel_rfl) (by kernel_rfl) (by kernel_rfl) (fun _ _ _ h => h) (Or.inl ⟨by rfl, ?hy57⟩) (by assumption) ?rest57
      case hy57 => (intro w hSw; (try dsimp only at hSw); go_simp <;> (with_reducible rfl))
      (try simp only [Act.put, List.setIfInBounds_toArray, List.set_cons_zero, List.set_cons_succ, List.getElem_toArray, List.getElem_cons_zero, List.getElem_cons_succ])
      refine wpAnyH_done (by kernel_rfl) ?_ _
      go_wp2_with fail
      go_meet
      exact ⟨rfl, Q11⟩
  case rest =>
    obtain ⟨rfl, S7⟩ := hcut
    clear S6 hcs
    go_wp2_with fail
    go_ret
    exact ⟨rfl, S7.below⟩

/-! ### The row -/
theorem contract (H : Type) (enc : TypeId × Value → H) (W : World) (base : Nat) (args : Array Value) (ds gs : List (DataW H)) (before : List MemPlace)
    (hval : ∀ (j : Nat) t v, Tryd.f3.params[j]? = some t → args[j]? = some v → Value.okWide Tryd.prog W .any base t v)
    (hW : DataW.Whole enc Tryd.prog Tryd.f3.params.toList Rows.faultJudgesSpec.vars false W args.toList ds gs before) (hL : laidMetH Tryd.prog Rows.faultJudgesRow.laid W) :
    Calls Tryd.prog 3 args W fun e W' => ∃ v, e = .returned v ∧ Rows.faultJudgesSpec.post enc Tryd.prog Tryd.f3 false true false false W args v W' := by
  have hW' := hW
  obtain ⟨p, q, hA0, hV, rfl, hfz, hnd⟩ := hW
  have hA : DataW.TrodAll enc Tryd.prog W 0 (fun _ => true) true Tryd.f3.params.toList args.toList ds p := hA0
  rw [Tryd.params3] at hA hval
  obtain ⟨v0, vs0, d0, ds0, p0, q0, hargs, rfl, rfl, h0, r0⟩ := trodAll_cons hA
  obtain ⟨v1, vs1, d1, ds1, p1, q1, rfl, rfl, rfl, h1, r1⟩ := trodAll_cons r0
  obtain ⟨v2, vs2, d2, ds2, p2, q2, rfl, rfl, rfl, h2, r2⟩ := trodAll_cons r1
  obtain ⟨v3, vs3, d3, ds3, p3, q3, rfl, rfl, rfl, h3, r3⟩ := trodAll_cons r2
  obtain ⟨rfl, rfl, rfl⟩ := trodAll_nil r3
  obtain rfl : args = #[v0, v1, v2, v3] := by cases args; simp_all
  obtain ⟨rfl, rfl⟩ := trodVars_none hV
  obtain ⟨A0, rfl, rfl, rfl⟩ := open_attr (hval 0 23 v0 rfl rfl) h0
  obtain ⟨E1, rfl, rfl, rfl, l1⟩ := open_entry (hval 1 26 v1 rfl rfl) h1
  obtain ⟨a2, rfl, rfl, rfl, w2⟩ := open_int Tryd.underlying3 (hval 2 3 v2 rfl rfl) h2
  obtain ⟨X3, rfl, rfl, rfl, m3⟩ := open_acc (hval 3 28 v3 rfl rfl) h3
  clear hA0
  simp only [List.append_nil] at hW'
  refine (walk W (tab_of hL) A0 E1 l1 a2 w2 X3 m3).mono fun e W' ⟨he, hg⟩ => ?_
  subst he
  exact ⟨_, rfl, _, _, _, [], _, [], hW', trodAll_mk1 (shut_bool Tryd.underlying4 _), (trodAll_cons_mk (shut_attr A0) (trodAll_cons_mk (shut_entry l1) (trodAll_cons_mk (shut_int Tryd.underlying3 w2) (trodAll_cons_mk (shut_acc m3) trodAll_mk0)))), rfl, hg.frame _, fun h => by cases h⟩

/-- A world for the witness: the settled one, the table holding what its initialiser lays. -/
noncomputable def laidWorld (os : Os) : World :=
  { World.holding Tryd.prog os ⟨#[], #[], []⟩ with heap := (World.holding Tryd.prog os ⟨#[], #[], []⟩).heap.modify 0 fun
      | .cells _ t frozen => .cells #[.string ⟨#[110, 111, 110, 101]⟩, .int .i64 0, .int .i64 0, .int .i64 0, .string ⟨#[104, 111, 108, 101]⟩, .int .i64 48, .int .i64 8, .int .i64 32, .string ⟨#[110, 111, 116, 104, 105, 110, 103]⟩, .int .i64 104, .int .i64 100, .int .i64 0, .string ⟨#[112, 114, 105, 118]⟩, .int .i64 48, .int .i64 8, .int .i64 1, .string ⟨#[113, 117, 105, 101, 116]⟩, .int .i64 48, .int .i64 8, .int .i64 2, .string ⟨#[119, 114, 105, 116, 101]⟩, .int .i64 108, .int .i64 108, .int .i64 0, .string ⟨#[101, 120, 101, 99]⟩, .int .i64 48, .int .i64 8, .int .i64 16] t frozen
      | o => o }
theorem laid_met (os : Os) : laidMet Tryd.prog Rows.faultJudgesRow.laid ((laidWorld os).forCall (fun _ _ => 0) ⟨#[], #[.agg #[.bool false, .bool false, .bool false, .bool false, .bool false, .bool false], .agg #[.int .i64 0, .int .i64 0, .int .u64 0, .int .u64 0, .bool false, .bool false, .bool false, .bool false, .bool false, .bool false, .bool false], .int .i64 0, .agg #[.int .i64 0, .bool false, .int .u64 0]], []⟩).memory :=
  laidMet_of_run' 8 (by kernel_rfl) (by kernel_rfl)
theorem reads (os : Os) {H : Type} (enc : TypeId × Value → H) : ∃ places, DataW.whole enc Tryd.prog ((laidWorld os).forCall (fun _ _ => 0) ⟨#[], #[.agg #[.bool false, .bool false, .bool false, .bool false, .bool false, .bool false], .agg #[.int .i64 0, .int .i64 0, .int .u64 0, .int .u64 0, .bool false, .bool false, .bool false, .bool false, .bool false, .bool false, .bool false], .int .i64 0, .agg #[.int .i64 0, .bool false, .int .u64 0]], []⟩).memory Tryd.f3.params.toList Rows.faultJudgesSpec.vars false (#[.agg #[.bool false, .bool false, .bool false, .bool false, .bool false, .bool false], .agg #[.int .i64 0, .int .i64 0, .int .u64 0, .int .u64 0, .bool false, .bool false, .bool false, .bool false, .bool false, .bool false, .bool false], .int .i64 0, .agg #[.int .i64 0, .bool false, .int .u64 0]] : Array Value).toList 8 = some ([.agg [.lit (.bool false), .lit (.bool false), .lit (.bool false), .lit (.bool false), .lit (.bool false), .lit (.bool false)], .agg [.lit (.int .i64 0), .lit (.int .i64 0), .lit (.int .u64 0), .lit (.int .u64 0), .agg [.lit (.bool false), .lit (.bool false), .lit (.bool false), .lit (.bool false), .lit (.bool false), .lit (.bool false)], .lit (.bool false)], .lit (.int .i64 0), .agg [.lit (.int .i64 0), .lit (.bool false), .lit (.int .u64 0)]], [], places) :=
  ⟨[], by kernel_rfl⟩
set_option maxRecDepth 100000 in
theorem lifted (os : Os) (started : os.Started) (H : Type) (enc : TypeId × Value → H) (F : Stop.Interp) :
    ReturnsInHanded {} Tryd.checked os 3 .any ((OpenSpec.ofChange Rows.faultJudgesSpec).preRow enc Tryd.prog Tryd.f3 Rows.faultJudgesRow.domain false Rows.faultJudgesRow.laid) (((OpenSpec.ofChange Rows.faultJudgesSpec).at F).post enc Tryd.prog Tryd.f3 false true false false) := by
  obtain ⟨places, hx⟩ := reads os enc
  refine returnsInHanded_of_row (C := Tryd.checked) (s := OpenSpec.ofChange Rows.faultJudgesSpec) own started (by kernel_rfl) Tryd.func3
    (witness_row_at (enc := enc) (C := Tryd.checked) false (laidWorld os) #[.agg #[.bool false, .bool false, .bool false, .bool false, .bool false, .bool false], .agg #[.int .i64 0, .int .i64 0, .int .u64 0, .int .u64 0, .bool false, .bool false, .bool false, .bool false, .bool false, .bool false, .bool false], .int .i64 0, .agg #[.int .i64 0, .bool false, .int .u64 0]] rfl (by kernel_rfl) (by kernel_rfl) (by kernel_rfl)
      (OpenSpec.preRow_of_cond 8 hx (by kernel_rfl) (fun k hk => by cases hk) (by kernel_rfl) (laid_met os))) ?_
  intro W base args ds gs before hval hW _ _ _ hL _ _
  exact contract H enc W base args ds gs before hval hW hL
theorem said : Rows.FaultJudgesSaid :=
  OpenClaim.holds_of_cond 3 Tryd.f3 rfl rfl rfl rfl rfl rfl rfl ⟨rfl, rfl, rfl, rfl, rfl⟩ rfl rfl rfl rfl rfl (by kernel_rfl) Tryd.func3 (by kernel_rfl)
    (of_decide_eq_true (by kernel_rfl)) (by unfold Func.isWrapper; first | (rw [if_pos (by decide +kernel)]; kernel_rfl) | (rw [if_neg (by decide +kernel)]; exact ⟨rfl, rfl⟩))
    (fun os started H enc _ F => by rw [OpenClaim.pre_eq_preRow]; exact lifted os started H enc F)
theorem plain (f : FuncId) (fn : Func) (hf : Tryd.pinned.checked.prog.funcNamed "lookaside/lookasidelaw09.FaultJudges" = some f) (hfn : Tryd.pinned.checked.prog.funcs[f]? = some fn) :
    false = Tryd.pinned.checked.prog.looks [] ∧ ∀ (j : Nat) t, fn.params[j]? = some t → Tryd.pinned.checked.prog.wantsStandIn t = false := by
  obtain rfl : f = 3 := Option.some.inj ((show Tryd.prog.funcNamed "lookaside/lookasidelaw09.FaultJudges" = some 3 by kernel_rfl).symm.trans hf) |>.symm
  obtain rfl : fn = Tryd.f3 := (Option.some.inj (Tryd.func3.symm.trans hfn)).symm
  refine ⟨by kernel_rfl, fun j t ht => ?_⟩
  rw [Tryd.params3] at ht
  have hm : t ∈ [23, 26, 3, 28] := by simpa using Array.mem_of_getElem? ht
  have hall : ([23, 26, 3, 28].all fun u => !Tryd.prog.wantsStandIn u) = true := by kernel_rfl
  exact (show Tryd.prog.wantsStandIn t = false by simpa using List.all_eq_true.1 hall t hm)
theorem proved : Rows.FaultJudgesCardSaid :=
  Claim7.holds_tied_plain_at .later [] _ _ _ _ said (fun _ h => by cases h) (by kernel_rfl) (fun _ h => by cases h) faultJudges_row_tie rfl ⟨rfl, rfl⟩ (by kernel_rfl) rfl plain (by kernel_rfl)
#print axioms proved
end Go.Proofs.YtfkbloclogeacaaDoor.faultJudges
