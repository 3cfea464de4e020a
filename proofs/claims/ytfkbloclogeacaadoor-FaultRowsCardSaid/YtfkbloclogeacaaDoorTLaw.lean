/-
  Plain facts that the laws of layer 3 want, and an entry made such as may be. Conditions: none.
-/
import Derived.Test.YtfkbloclogeacaaDoorTLive
import Derived.Test.YtfkbloclogeacaaDoorTGood
namespace Go.Proofs.YtfkbloclogeacaaDoor.Fld
open Go.ChangeShapes Go.WideShapes Go.ChangeAt Go.RowKit
set_option maxHeartbeats 1000000
/-- What is known of an entry that may be. -/
structure Ent.Ok (g : Ent) : Prop where
  may : g.mayB = true
  fit : g.Fit
  size : sizeB g.size = true
  valid : g.valid = true
  v0 : 0 ≤ g.va
  v1 : g.va ≤ 18446744073709551615
  hole : holeB g.va = false
  vs : g.va % bytesI g.size = 0
  ps : g.pa % bytesI g.size = 0
  p1 : g.pa ≤ 18446744073709551615
  gc : g.att.global = true → g.ctx = 0
theorem Ent.ok_of {g : Ent} (h : g.mayB = true) (p0 : 0 ≤ g.pa) (v0 : 0 ≤ g.va) (v1 : g.va ≤ 18446744073709551615) : g.Ok := by
  have hf := Ent.fit h p0
  have h' := h
  unfold Ent.mayB at h'
  simp only [Bool.and_eq_true, decide_eq_true_eq, Bool.not_eq_true', Bool.and_eq_false_iff] at h'
  obtain ⟨⟨⟨⟨⟨⟨⟨hv, h1⟩, _⟩, h3⟩, h4⟩, h5⟩, h6⟩, _⟩ := h'
  refine ⟨h, hf, h1, hv, v0, v1, h3, h5, h6, ?_, fun hg => ?_⟩
  · have := hf.p1; omega
  · rcases h4 with h4 | h4
    · rw [hg] at h4; cases h4
    · simpa using h4
theorem Ent.good_ok (e : Ent) : e.good.Ok := Ent.ok_of (Ent.good_may e) (Ent.good_bd e).2.1 (Ent.good_bd e).1.1 (Ent.good_bd e).1.2
/-- Good, its answer under a name. -/
theorem good_some (e : Ent) (l : e.lits) : ∃ g : Ent, g.Ok ∧ Hid (∀ W, Calls Tryd.prog 9 #[.agg #[.int .i64 e.size, .int .i64 e.ctx, .int .u64 e.va, .int .u64 e.pa, .bool e.att.write, .bool e.att.priv, .bool e.att.exec, .bool e.att.lock, .bool e.att.global, .bool e.att.quiet, .bool e.valid]] W fun r w' => r = .returned (.agg #[.int .i64 g.size, .int .i64 g.ctx, .int .u64 g.va, .int .u64 g.pa, .bool g.att.write, .bool g.att.priv, .bool g.att.exec, .bool g.att.lock, .bool g.att.global, .bool g.att.quiet, .bool g.valid]) ∧ Below W.heap.size W w') :=
  ⟨e.good, Ent.good_ok e, fun W => good_any e (Ent.lits_wf l) W⟩
theorem off_lt {s : Int} (hs : sizeB s = true) (o : Int) : 0 ≤ offI o s ∧ offI o s < bytesI s := by
  unfold offI; rw [hs]
  rcases sizeB_true hs with rfl | rfl | rfl | rfl <;> (simp only [bytesI, if_true, Int.reduceEq, if_false]; clear hs; omega)
theorem tag_at {v s o : Int} (hs : sizeB s = true) (hv : v % bytesI s = 0) (o0 : 0 ≤ o) (o1 : o < bytesI s) : tagI (v + o) = tagI v := by
  unfold tagI
  rcases sizeB_true hs with rfl | rfl | rfl | rfl <;> (simp only [bytesI, if_true, Int.reduceEq, if_false] at *; clear hs; omega)
theorem at_bd {g : Ent} (h : g.Ok) {o : Int} (o0 : 0 ≤ o) (o1 : o < bytesI g.size) : 0 ≤ g.va + o ∧ g.va + o ≤ 18446744073709551615 := by
  have := page_top g.va g.size h.size h.vs h.v1; have := h.v0; omega
theorem at_in {g : Ent} (h : g.Ok) {o : Int} (o0 : 0 ≤ o) (o1 : o < bytesI g.size) : inB (g.va + o) g.va g.size = true ∧ offI (g.va + o) g.size = o ∧ baseI (g.va + o) g.size = g.va := by
  have hv := h.vs; have hs := h.size
  unfold inB offI baseI
  rw [hs]
  generalize g.size = s at *
  generalize g.va = v at *
  rcases sizeB_true hs with rfl | rfl | rfl | rfl <;> (simp only [bytesI, if_true, Int.reduceEq, if_false, Bool.true_and, decide_eq_true_eq] at *; clear hs; omega)
def Ent.bare (g : Ent) : Ent := { g with att := ⟨false, false, false, false, false, false⟩ }
theorem bare_data {g : Ent} (h : g.Ok) : g.bare.dataG = 9223372036854775808 + g.size * 2305843009213693952 + g.pa := by
  have hf : g.bare.Fit := ⟨h.fit.s0, h.fit.s1, h.fit.c0, h.fit.c1, h.fit.p0, h.fit.p1, h.fit.p2⟩
  rw [Ent.dataG_fit hf h.valid]
  show 9223372036854775808 + g.size * 2305843009213693952 + g.pa + 0 = _
  omega
theorem full_data {g : Ent} (h : g.Ok) : g.dataG = 9223372036854775808 + g.size * 2305843009213693952 + g.pa + (b2i g.att.write * 2 + b2i g.att.priv * 4 + b2i g.att.exec * 8 + b2i g.att.lock * 64 + b2i g.att.global) + b2i g.att.quiet * 1152921504606846976 := by
  rw [Ent.dataG_fit h.fit h.valid]
  unfold Ent.dataW Ent.attW
  omega
theorem b2i_cut (b : Bool) (k x : Int) : (if b = true then x + k else x) = x + b2i b * k := by cases b <;> simp [b2i]
def Ent.inval (g : Ent) : Ent := { g with valid := false }
end Go.Proofs.YtfkbloclogeacaaDoor.Fld
