/-
  An entry that comes in as an argument: its value, its datum, and both read in another world. Conditions: none.
-/
import Derived.Test.YtfkbloclogeacaaDoorTRef
import Derived.ChangeSame
import Derived.Lib.SmallJoins
namespace Go.Proofs.YtfkbloclogeacaaDoor.Fld
open Go.ChangeShapes Go.WideShapes Go.ChangeAt Go.RowKit
set_option maxHeartbeats 1000000
set_option maxRecDepth 100000
def Ent.lits (e : Ent) : Prop := (Lit.int .i64 e.size).wf = true ∧ (Lit.int .i64 e.ctx).wf = true ∧ (Lit.int .u64 e.va).wf = true ∧ (Lit.int .u64 e.pa).wf = true
def Ent.datum {H : Type} (e : Ent) : DataW H :=
  .agg [.lit (.int .i64 e.size), .lit (.int .i64 e.ctx), .lit (.int .u64 e.va), .lit (.int .u64 e.pa), .agg [.lit (.bool e.att.write), .lit (.bool e.att.priv), .lit (.bool e.att.exec), .lit (.bool e.att.lock), .lit (.bool e.att.global), .lit (.bool e.att.quiet)], .lit (.bool e.valid)]
theorem Ent.lits_wf {e : Ent} (h : e.lits) : e.wf := by
  obtain ⟨h1, h2, h3, h4⟩ := h
  exact ⟨bounds_i64 h1, bounds_i64 h2, bounds_u64 h3, bounds_u64 h4⟩
section
variable {H : Type} {enc : TypeId × Value → H} {w : World} {base : Nat} {spare : Nat → Bool} {held : Bool}
theorem trod_bool_at {t : TypeId} {b : Bool} (ht : Tryd.prog.underlying t = some .bool) (n : Nat) : DataW.trod enc Tryd.prog w base spare held (n + 1) t [.bool b] = some (.lit (.bool b), []) := by
  unfold DataW.trod; rw [ht]
theorem cells_attr : Tryd.prog.cellsOf 23 = 6 := by kernel_rfl
theorem cells_entry : Tryd.prog.cellsOf 26 = 11 := by kernel_rfl
theorem cells_int : Tryd.prog.cellsOf 3 = 1 := by kernel_rfl
theorem cells_u64 : Tryd.prog.cellsOf 24 = 1 := by kernel_rfl
theorem cells_bool : Tryd.prog.cellsOf 4 = 1 := by kernel_rfl
theorem attr_at (a : Att) (n : Nat) : DataW.trod enc Tryd.prog w base spare held (n + 2) 23 [.bool a.write, .bool a.priv, .bool a.exec, .bool a.lock, .bool a.global, .bool a.quiet] = some (.agg [.lit (.bool a.write), .lit (.bool a.priv), .lit (.bool a.exec), .lit (.bool a.lock), .lit (.bool a.global), .lit (.bool a.quiet)], []) := by
  have := trod_struct_mk (enc := enc) (w := w) (base := base) (spare := spare) (held := held) (n := n + 1) (cs := [.bool a.write, .bool a.priv, .bool a.exec, .bool a.lock, .bool a.global, .bool a.quiet])
    (xs := [(.lit (.bool a.write), []), (.lit (.bool a.priv), []), (.lit (.bool a.exec), []), (.lit (.bool a.lock), []), (.lit (.bool a.global), []), (.lit (.bool a.quiet), [])]) Tryd.underlying23 (by rw [cells_attr]; rfl) (by simp [cells_bool, trod_bool_at Tryd.underlying4])
  simpa using this
theorem shut_entry {e : Ent} (h : e.lits) : DataW.Trod enc Tryd.prog w base spare held 26 (.agg #[.int .i64 e.size, .int .i64 e.ctx, .int .u64 e.va, .int .u64 e.pa, .bool e.att.write, .bool e.att.priv, .bool e.att.exec, .bool e.att.lock, .bool e.att.global, .bool e.att.quiet, .bool e.valid]) e.datum [] := by
  obtain ⟨h1, h2, h3, h4⟩ := h
  refine ⟨3, ?_⟩
  have := trod_struct_mk (enc := enc) (w := w) (base := base) (spare := spare) (held := held) (n := 2) (cs := [.int .i64 e.size, .int .i64 e.ctx, .int .u64 e.va, .int .u64 e.pa, .bool e.att.write, .bool e.att.priv, .bool e.att.exec, .bool e.att.lock, .bool e.att.global, .bool e.att.quiet, .bool e.valid])
    (xs := [(.lit (.int .i64 e.size), []), (.lit (.int .i64 e.ctx), []), (.lit (.int .u64 e.va), []), (.lit (.int .u64 e.pa), []), (.agg [.lit (.bool e.att.write), .lit (.bool e.att.priv), .lit (.bool e.att.exec), .lit (.bool e.att.lock), .lit (.bool e.att.global), .lit (.bool e.att.quiet)], []), (.lit (.bool e.valid), [])]) Tryd.underlying26 (by rw [cells_entry]; rfl)
    (by simp [cells_int, cells_u64, cells_bool, cells_attr, trod_bool_at Tryd.underlying4, trod_int_mk 1 Tryd.underlying3 h1, trod_int_mk 1 Tryd.underlying3 h2, trod_int_mk 1 Tryd.underlying24 h3, trod_int_mk 1 Tryd.underlying24 h4, attr_at e.att 0])
  simpa [Value.cells, Ent.datum] using this
theorem open_entry {r : Reach} {b0 : Nat} {v : Value} {d : DataW H} {p : List MemPlace} (hv : Value.okWide Tryd.prog w r b0 26 v) (h : DataW.Trod enc Tryd.prog w base spare held 26 v d p) :
    ∃ e : Ent, v = .agg #[.int .i64 e.size, .int .i64 e.ctx, .int .u64 e.va, .int .u64 e.pa, .bool e.att.write, .bool e.att.priv, .bool e.att.exec, .bool e.att.lock, .bool e.att.global, .bool e.att.quiet, .bool e.valid] ∧ d = e.datum ∧ p = [] ∧ e.lits := by
  obtain ⟨cs, rfl, hsz⟩ := okWide_struct Tryd.underlying26 hv
  obtain ⟨l⟩ := cs
  match l, hsz.trans cells_entry with
  | [c0, c1, c2, c3, c4, c5, c6, c7, c8, c9, c10], _ =>
    obtain ⟨fuel, hf⟩ := h
    obtain ⟨xs, n, _, hx, _, hlen, hg⟩ := DataW.trod_struct Tryd.underlying26 hf
    match xs, hlen with
    | [y0, y1, y2, y3, y4, y5], _ =>
      have g0 : DataW.trod enc Tryd.prog w base spare held n 3 [c0] = some y0 := by simpa [Value.cells, cells_int] using hg 0 _ rfl
      have g1 : DataW.trod enc Tryd.prog w base spare held n 3 [c1] = some y1 := by simpa [Value.cells, cells_int] using hg 1 _ rfl
      have g2 : DataW.trod enc Tryd.prog w base spare held n 24 [c2] = some y2 := by simpa [Value.cells, cells_u64] using hg 2 _ rfl
      have g3 : DataW.trod enc Tryd.prog w base spare held n 24 [c3] = some y3 := by simpa [Value.cells, cells_u64] using hg 3 _ rfl
      have g4 : DataW.trod enc Tryd.prog w base spare held n 23 [c4, c5, c6, c7, c8, c9] = some y4 := by simpa [Value.cells, cells_attr] using hg 4 _ rfl
      have g5 : DataW.trod enc Tryd.prog w base spare held n 4 [c10] = some y5 := by simpa [Value.cells, cells_bool] using hg 5 _ rfl
      obtain ⟨a0, q0, z0, w0⟩ := DataW.trod_int Tryd.underlying3 g0
      obtain ⟨a1, q1, z1, w1⟩ := DataW.trod_int Tryd.underlying3 g1
      obtain ⟨a2, q2, z2, w2⟩ := DataW.trod_int Tryd.underlying24 g2
      obtain ⟨a3, q3, z3, w3⟩ := DataW.trod_int Tryd.underlying24 g3
      obtain ⟨a5, q5, z5⟩ := DataW.trod_bool Tryd.underlying4 g5
      obtain ⟨us, m, _, hu, _, hul, hh⟩ := DataW.trod_struct Tryd.underlying23 g4
      match us, hul with
      | [u0, u1, u2, u3, u4, u5], _ =>
        have f0 : DataW.trod enc Tryd.prog w base spare held m 4 [c4] = some u0 := by simpa [cells_bool] using hh 0 _ rfl
        have f1 : DataW.trod enc Tryd.prog w base spare held m 4 [c5] = some u1 := by simpa [cells_bool] using hh 1 _ rfl
        have f2 : DataW.trod enc Tryd.prog w base spare held m 4 [c6] = some u2 := by simpa [cells_bool] using hh 2 _ rfl
        have f3 : DataW.trod enc Tryd.prog w base spare held m 4 [c7] = some u3 := by simpa [cells_bool] using hh 3 _ rfl
        have f4 : DataW.trod enc Tryd.prog w base spare held m 4 [c8] = some u4 := by simpa [cells_bool] using hh 4 _ rfl
        have f5 : DataW.trod enc Tryd.prog w base spare held m 4 [c9] = some u5 := by simpa [cells_bool] using hh 5 _ rfl
        obtain ⟨b0, r0, s0⟩ := DataW.trod_bool Tryd.underlying4 f0
        obtain ⟨b1, r1, s1⟩ := DataW.trod_bool Tryd.underlying4 f1
        obtain ⟨b2, r2, s2⟩ := DataW.trod_bool Tryd.underlying4 f2
        obtain ⟨b3, r3, s3⟩ := DataW.trod_bool Tryd.underlying4 f3
        obtain ⟨b4, r4, s4⟩ := DataW.trod_bool Tryd.underlying4 f4
        obtain ⟨b5, r5, s5⟩ := DataW.trod_bool Tryd.underlying4 f5
        simp only [List.cons.injEq, and_true] at q0 q1 q2 q3 q5 r0 r1 r2 r3 r4 r5
        subst q0 q1 q2 q3 q5 r0 r1 r2 r3 r4 r5 s0 s1 s2 s3 s4 s5 z0 z1 z2 z3 z5 hu
        refine ⟨⟨a0, a1, a2, a3, ⟨b0, b1, b2, b3, b4, b5⟩, a5⟩, rfl, ?_, ?_, ⟨w0, w1, w2, w3⟩⟩
        · simp only [Prod.mk.injEq] at hx; rw [hx.1]; rfl
        · simp only [Prod.mk.injEq] at hx; rw [hx.2]; rfl
end
end Go.Proofs.YtfkbloclogeacaaDoor.Fld
