/-
  Attributes and accesses that come in as arguments; the table, out of the row's list; the document's example. Conditions: none.
-/
import Derived.Test.YtfkbloclogeacaaDoorJLessR
import Derived.ShutString
import Derived.Deep.Slices
import Derived.Deep.Fields
import Derived.ChangeSame
import Derived.OpenShut
import Derived.LaidLaws
namespace Go.Proofs.YtfkbloclogeacaaDoor.Jd
open Fld
open Go.ChangeShapes Go.WideShapes Go.ChangeAt Go.RowKit Go.Deep
set_option maxHeartbeats 1000000
set_option maxRecDepth 100000
/-! ### The table -/
theorem cells_str : Tryd.prog.cellsOf 9 = 1 := by kernel_rfl
theorem cells_row : Tryd.prog.cellsOf 51 = 4 := by kernel_rfl
theorem cells_rows : Tryd.prog.cellsOf 60 = 28 := by kernel_rfl
theorem gTab : Tryd.prog.globalNamed "lookaside/fault.rows" = some 0 := by kernel_rfl
theorem gTabType : (Tryd.prog.globals[0]?).map (·.type) = some 60 := by kernel_rfl
theorem bytes_eq {s : ByteArray} {l : List UInt8} (h : s.data.toList = l) : s = ⟨l.toArray⟩ := by
  obtain ⟨⟨d⟩⟩ := s
  subst h; rfl
theorem trod_row {H : Type} {enc : TypeId × Value → H} {w : World} {base : Nat} {spare : Nat → Bool} {held : Bool} {n : Nat} {cs : List Value} {s : List UInt8} {a b c : Int} {p : List MemPlace} (hl : cs.length = 4)
    (h : DataW.trod enc Tryd.prog w base spare held n 51 cs = some (.agg [.lit (.string s), .lit (.int .i64 a), .lit (.int .i64 b), .lit (.int .i64 c)], p)) : cs = [.string ⟨s.toArray⟩, .int .i64 a, .int .i64 b, .int .i64 c] := by
  match cs, hl with
  | [c0, c1, c2, c3], _ =>
    obtain ⟨xs, n, _, hx, _, hlen, hg⟩ := DataW.trod_struct Tryd.underlying51 h
    match xs, hlen with
    | [y0, y1, y2, y3], _ =>
      have g0 : DataW.trod enc Tryd.prog w base spare held n 9 [c0] = some y0 := by simpa [cells_str] using hg 0 _ rfl
      have g1 : DataW.trod enc Tryd.prog w base spare held n 3 [c1] = some y1 := by simpa [cells_int] using hg 1 _ rfl
      have g2 : DataW.trod enc Tryd.prog w base spare held n 3 [c2] = some y2 := by simpa [cells_int] using hg 2 _ rfl
      have g3 : DataW.trod enc Tryd.prog w base spare held n 3 [c3] = some y3 := by simpa [cells_int] using hg 3 _ rfl
      obtain ⟨a0, q0, z0, w0⟩ := DataW.trod_string Tryd.underlying9 g0
      obtain ⟨a1, q1, z1, w1⟩ := DataW.trod_int Tryd.underlying3 g1
      obtain ⟨a2, q2, z2, w2⟩ := DataW.trod_int Tryd.underlying3 g2
      obtain ⟨a3, q3, z3, w3⟩ := DataW.trod_int Tryd.underlying3 g3
      simp only [List.cons.injEq, and_true] at q0 q1 q2 q3
      subst q0 q1 q2 q3
      rw [z0, z1, z2, z3] at hx
      simp at hx
      obtain ⟨⟨e0, e1, e2, e3⟩, _⟩ := hx
      subst e1 e2 e3
      rw [bytes_eq e0.symm]
theorem tab_of {W : World} (h0 : laidMetH Tryd.prog [("lookaside/fault.rows", Rows.laid_lookaside_fault_rows)] W) : Tab W := by
  have h : laidMet Tryd.prog [("lookaside/fault.rows", Rows.laid_lookaside_fault_rows)] W := h0
  obtain ⟨ps, ⟨g0, t0, cs0, f0, p0, q0, hg0, ht0, hv0, hd0, _, _⟩, _⟩ := h
  obtain rfl := Option.some.inj (gTab.symm.trans hg0)
  obtain rfl := Option.some.inj (gTabType.symm.trans ht0)
  have hc := World.var?_cell gTab hv0
  have key : cs0.toList = tabL := by
    generalize cs0.toList = cs at hd0
    clear hc hv0
    obtain ⟨xs, m, _, hx, hlen, hn, hg⟩ := DataW.trod_array Tryd.underlying60 hd0
    rw [cells_rows] at hlen
    rw [cells_row] at hg
    match cs, hlen, xs, hn with
    | [c0, c1, c2, c3, c4, c5, c6, c7, c8, c9, c10, c11, c12, c13, c14, c15, c16, c17, c18, c19, c20, c21, c22, c23, c24, c25, c26, c27], _, [y0, y1, y2, y3, y4, y5, y6], _ =>
      have hx1 := congrArg Prod.fst hx
      simp [Rows.laid_lookaside_fault_rows] at hx1
      obtain ⟨x0, x1, x2, x3, x4, x5, x6⟩ := hx1
      clear hx
      obtain ⟨z0, w0⟩ := y0
      obtain ⟨z1, w1⟩ := y1
      obtain ⟨z2, w2⟩ := y2
      obtain ⟨z3, w3⟩ := y3
      obtain ⟨z4, w4⟩ := y4
      obtain ⟨z5, w5⟩ := y5
      obtain ⟨z6, w6⟩ := y6
      simp only at x0 x1 x2 x3 x4 x5 x6
      subst x0 x1 x2 x3 x4 x5 x6
      have k0 := trod_row (p := w0) (cs := [c0, c1, c2, c3]) rfl (hg 0 (by decide))
      have k1 := trod_row (p := w1) (cs := [c4, c5, c6, c7]) rfl (hg 1 (by decide))
      have k2 := trod_row (p := w2) (cs := [c8, c9, c10, c11]) rfl (hg 2 (by decide))
      have k3 := trod_row (p := w3) (cs := [c12, c13, c14, c15]) rfl (hg 3 (by decide))
      have k4 := trod_row (p := w4) (cs := [c16, c17, c18, c19]) rfl (hg 4 (by decide))
      have k5 := trod_row (p := w5) (cs := [c20, c21, c22, c23]) rfl (hg 5 (by decide))
      have k6 := trod_row (p := w6) (cs := [c24, c25, c26, c27]) rfl (hg 6 (by decide))
      simp only [List.cons.injEq, and_true] at k0 k1 k2 k3 k4 k5 k6
      obtain ⟨rfl, rfl, rfl, rfl⟩ := k0
      obtain ⟨rfl, rfl, rfl, rfl⟩ := k1
      obtain ⟨rfl, rfl, rfl, rfl⟩ := k2
      obtain ⟨rfl, rfl, rfl, rfl⟩ := k3
      obtain ⟨rfl, rfl, rfl, rfl⟩ := k4
      obtain ⟨rfl, rfl, rfl, rfl⟩ := k5
      obtain ⟨rfl, rfl, rfl, rfl⟩ := k6
      rfl
  have hall : ∀ i, i < 28 → W.cell? ⟨0, i, none⟩ = some (tabL.getD i (.bool false)) := fun i hi => by
    rw [hc i, ← Array.getElem?_toList, key]
    rw [List.getD_eq_getElem?_getD, List.getElem?_eq_getElem (show i < tabL.length from hi)]; rfl
  exact ⟨World.block_lt_of_cell? W _ (hall 0 (by decide)), hall⟩
/-! ### Attributes and accesses that come in -/
def _root_.Go.Proofs.YtfkbloclogeacaaDoor.Fld.Att.datum {H : Type} (a : Att) : DataW H := .agg [.lit (.bool a.write), .lit (.bool a.priv), .lit (.bool a.exec), .lit (.bool a.lock), .lit (.bool a.global), .lit (.bool a.quiet)]
def Acc.lits (x : Acc) : Prop := (Lit.int .i64 x.kind).wf = true ∧ (Lit.int .u64 x.va).wf = true
def Acc.datum {H : Type} (x : Acc) : DataW H := .agg [.lit (.int .i64 x.kind), .lit (.bool x.priv), .lit (.int .u64 x.va)]
theorem Acc.lits_wf {x : Acc} (h : x.lits) : x.wf := ⟨bounds_i64 h.1, bounds_u64 h.2⟩
theorem cells_acc : Tryd.prog.cellsOf 28 = 3 := by kernel_rfl
section
variable {H : Type} {enc : TypeId × Value → H} {w : World} {base : Nat} {spare : Nat → Bool} {held : Bool}
theorem shut_attr (a : Att) : DataW.Trod enc Tryd.prog w base spare held 23 (.agg #[.bool a.write, .bool a.priv, .bool a.exec, .bool a.lock, .bool a.global, .bool a.quiet]) a.datum [] := by
  refine ⟨3, ?_⟩
  have := attr_at (enc := enc) (w := w) (base := base) (spare := spare) (held := held) a 1
  simpa [Value.cells, Att.datum] using this
theorem open_attr {r : Reach} {b0 : Nat} {v : Value} {d : DataW H} {p : List MemPlace} (hv : Value.okWide Tryd.prog w r b0 23 v) (h : DataW.Trod enc Tryd.prog w base spare held 23 v d p) :
    ∃ a : Att, v = .agg #[.bool a.write, .bool a.priv, .bool a.exec, .bool a.lock, .bool a.global, .bool a.quiet] ∧ d = a.datum ∧ p = [] := by
  obtain ⟨cs, rfl, hsz⟩ := okWide_struct Tryd.underlying23 hv
  obtain ⟨l⟩ := cs
  match l, hsz.trans cells_attr with
  | [c0, c1, c2, c3, c4, c5], _ =>
    obtain ⟨fuel, hf⟩ := h
    obtain ⟨us, m, _, hx, _, hul, hh⟩ := DataW.trod_struct Tryd.underlying23 hf
    match us, hul with
    | [u0, u1, u2, u3, u4, u5], _ =>
      have f0 : DataW.trod enc Tryd.prog w base spare held m 4 [c0] = some u0 := by simpa [Value.cells, cells_bool] using hh 0 _ rfl
      have f1 : DataW.trod enc Tryd.prog w base spare held m 4 [c1] = some u1 := by simpa [Value.cells, cells_bool] using hh 1 _ rfl
      have f2 : DataW.trod enc Tryd.prog w base spare held m 4 [c2] = some u2 := by simpa [Value.cells, cells_bool] using hh 2 _ rfl
      have f3 : DataW.trod enc Tryd.prog w base spare held m 4 [c3] = some u3 := by simpa [Value.cells, cells_bool] using hh 3 _ rfl
      have f4 : DataW.trod enc Tryd.prog w base spare held m 4 [c4] = some u4 := by simpa [Value.cells, cells_bool] using hh 4 _ rfl
      have f5 : DataW.trod enc Tryd.prog w base spare held m 4 [c5] = some u5 := by simpa [Value.cells, cells_bool] using hh 5 _ rfl
      obtain ⟨b0, r0, s0⟩ := DataW.trod_bool Tryd.underlying4 f0
      obtain ⟨b1, r1, s1⟩ := DataW.trod_bool Tryd.underlying4 f1
      obtain ⟨b2, r2, s2⟩ := DataW.trod_bool Tryd.underlying4 f2
      obtain ⟨b3, r3, s3⟩ := DataW.trod_bool Tryd.underlying4 f3
      obtain ⟨b4, r4, s4⟩ := DataW.trod_bool Tryd.underlying4 f4
      obtain ⟨b5, r5, s5⟩ := DataW.trod_bool Tryd.underlying4 f5
      simp only [List.cons.injEq, and_true] at r0 r1 r2 r3 r4 r5
      subst r0 r1 r2 r3 r4 r5 s0 s1 s2 s3 s4 s5
      refine ⟨⟨b0, b1, b2, b3, b4, b5⟩, rfl, ?_, ?_⟩
      · simp only [Prod.mk.injEq] at hx; rw [hx.1]; rfl
      · simp only [Prod.mk.injEq] at hx; rw [hx.2]; rfl
theorem shut_acc {x : Acc} (h : x.lits) : DataW.Trod enc Tryd.prog w base spare held 28 (.agg #[.int .i64 x.kind, .bool x.priv, .int .u64 x.va]) x.datum [] := by
  obtain ⟨h1, h2⟩ := h
  refine ⟨3, ?_⟩
  have := trod_struct_mk (enc := enc) (w := w) (base := base) (spare := spare) (held := held) (n := 2) (cs := [.int .i64 x.kind, .bool x.priv, .int .u64 x.va])
    (xs := [(.lit (.int .i64 x.kind), []), (.lit (.bool x.priv), []), (.lit (.int .u64 x.va), [])]) Tryd.underlying28 (by rw [cells_acc]; rfl)
    (by simp [cells_int, cells_u64, cells_bool, trod_bool_at Tryd.underlying4, trod_int_mk 1 Tryd.underlying3 h1, trod_int_mk 1 Tryd.underlying24 h2])
  simpa [Value.cells, Acc.datum] using this
theorem open_acc {r : Reach} {b0 : Nat} {v : Value} {d : DataW H} {p : List MemPlace} (hv : Value.okWide Tryd.prog w r b0 28 v) (h : DataW.Trod enc Tryd.prog w base spare held 28 v d p) :
    ∃ x : Acc, v = .agg #[.int .i64 x.kind, .bool x.priv, .int .u64 x.va] ∧ d = x.datum ∧ p = [] ∧ x.lits := by
  obtain ⟨cs, rfl, hsz⟩ := okWide_struct Tryd.underlying28 hv
  obtain ⟨l⟩ := cs
  match l, hsz.trans cells_acc with
  | [c0, c1, c2], _ =>
    obtain ⟨fuel, hf⟩ := h
    obtain ⟨us, m, _, hx, _, hul, hh⟩ := DataW.trod_struct Tryd.underlying28 hf
    match us, hul with
    | [u0, u1, u2], _ =>
      have f0 : DataW.trod enc Tryd.prog w base spare held m 3 [c0] = some u0 := by simpa [Value.cells, cells_int] using hh 0 _ rfl
      have f1 : DataW.trod enc Tryd.prog w base spare held m 4 [c1] = some u1 := by simpa [Value.cells, cells_bool] using hh 1 _ rfl
      have f2 : DataW.trod enc Tryd.prog w base spare held m 24 [c2] = some u2 := by simpa [Value.cells, cells_u64] using hh 2 _ rfl
      obtain ⟨b0, r0, s0, w0⟩ := DataW.trod_int Tryd.underlying3 f0
      obtain ⟨b1, r1, s1⟩ := DataW.trod_bool Tryd.underlying4 f1
      obtain ⟨b2, r2, s2, w2⟩ := DataW.trod_int Tryd.underlying24 f2
      simp only [List.cons.injEq, and_true] at r0 r1 r2
      subst r0 r1 r2 s0 s1 s2
      refine ⟨⟨b0, b1, b2⟩, rfl, ?_, ?_, ⟨w0, w2⟩⟩
      · simp only [Prod.mk.injEq] at hx; rw [hx.1]; rfl
      · simp only [Prod.mk.injEq] at hx; rw [hx.2]; rfl
end
/-! ### The document's example -/
theorem jlives_any (w : World) (h : Tab w) : Calls Tryd.prog 15 #[] w fun r w' => r = .returned (.bool true) ∧ Below w.heap.size w w' := by
  have C1 : Hid (∀ W, Calls Tryd.prog 11 #[.agg #[.bool false, .bool false, .bool true, .bool false, .bool false, .bool false], .agg #[.int .i64 1, .bool false, .int .u64 0]] W fun r w' => r = .returned (.int .i64 5) ∧ Below W.heap.size W w') := Lib.hid fun W => judge_any ⟨false, false, true, false, false, false⟩ ⟨1, false, 0⟩ W
  have C2 : Hid (∀ W, Tab W → Calls Tryd.prog 16 #[.int .i64 5, .agg #[.int .i64 1, .bool false, .int .u64 0]] W fun r w' => r = .returned (.int .i64 108) ∧ Below W.heap.size W w') := Lib.hid fun W hW => trap_any 5 ⟨1, false, 0⟩ W hW
  have C3 : Hid (∀ W, Calls Tryd.prog 10 #[.agg #[.int .i64 1, .bool false, .int .u64 0]] W fun r w' => r = .returned (.bool true) ∧ Below W.heap.size W w') := Lib.hid fun W => jmay_any ⟨1, false, 0⟩ W
  have h1 : Tab (w.alloc (.cells #[.int .i64 1, .bool false, .int .u64 0] 28)) := h.alloc _
  have X1 := heap_alloc_new w (.cells #[.int .i64 1, .bool false, .int .u64 0] 28)
  go_enter Tryd.func15, Tryd.ntmps15
  go_wp2_with fail
  refine (C1.out _).mono ?_; rintro r w1 ⟨rfl, hb1⟩
  obtain ⟨x0, x1, x2⟩ := three_cells ((hb1.block _ (row_lt X1)).trans X1)
  have T1 := h1.below hb1 (Nat.le_refl _)
  have X2 := (hb1.block _ (row_lt X1)).trans X1
  have B1 := Lib.hid (below_box hb1)
  clear hb1
  go_wp2_with fail
  refine (C2.out _ T1).mono ?_; rintro r w2 ⟨rfl, hb2⟩
  clear x0 x1 x2
  obtain ⟨x0, x1, x2⟩ := three_cells ((hb2.block _ (row_lt X2)).trans X2)
  have B2 := Lib.hid (B1.out.trans (hb2.mono B1.out.size))
  clear hb2
  go_wp2_with fail
  refine (C3.out _).mono ?_; rintro r w3 ⟨rfl, hb3⟩
  go_wp2_with fail
  go_ret
  exact ⟨rfl, B2.out.trans (hb3.mono B2.out.size)⟩
end Go.Proofs.YtfkbloclogeacaaDoor.Jd
