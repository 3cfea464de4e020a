/-
  YtffpfceclhogoaaGreatGG: the contracts and plain facts of several texts, laid together. Conditions: those that each theorem names.
-/
import Derived.Test.YtffpfceclhogoaaGreatGF
namespace Go.Proofs.YtffpfceclhogoaaGreat.Hp
open Fld Hs
open Go.ChangeShapes Go.WideShapes Go.ChangeAt Go.RowKit Go.Maps
set_option maxHeartbeats 1000000
set_option maxRecDepth 100000
/-- A hat, a result's page, and two pages in boxes. -/
structure HV (u w : World) (hb sb n : Nat) (O : Nat → Prop) (ns bl : Int) (L : Nat → List Bk) (rb ob : Nat) (x : Pg) (pb : Nat) (y : Pg) : Prop where
  hx : HX w hb sb n O ns bl L
  r : RowP w rb Pg.zero
  og : RowP w ob x
  pg : RowP w pb y
  lo : Below u.heap.size u w
  ul : ∀ k, O k → k < u.heap.size
  rl : u.heap.size ≤ rb
  ol : u.heap.size ≤ ob
  pl : u.heap.size ≤ pb
  n1 : ob ≠ rb
  n2 : pb ≠ rb
  n3 : pb ≠ ob
  hl : hb < u.heap.size
section
variable {u w w' : World} {hb sb n rb ob pb : Nat} {x y : Pg} {O : Nat → Prop} {ns bl : Int} {L L' : Nat → List Bk}
theorem HV.low (h : HV u w hb sb n O ns bl L rb ob x pb y) (hb' : Below w.heap.size w w') : HV u w' hb sb n O ns bl L rb ob x pb y := ⟨h.hx.low hb', h.r.low hb', h.og.low hb', h.pg.low hb', lo_step h.lo hb', h.ul, h.rl, h.ol, h.pl, h.n1, h.n2, h.n3, h.hl⟩
theorem HV.cs (h : HV u w hb sb n O ns bl L rb ob x pb y) : w.cell? ⟨hb, 1, none⟩ = some (.pointer (some ⟨sb, 0, none⟩)) ∧ (w.cell? ⟨ob, 0, none⟩ = some (.int .u64 x.va) ∧ w.cell? ⟨ob, 1, none⟩ = some (.int .i64 x.sz) ∧ w.cell? ⟨ob, 2, none⟩ = some (.int .u64 x.pa) ∧ w.cell? ⟨ob, 3, none⟩ = some (.bool x.att.write) ∧ w.cell? ⟨ob, 4, none⟩ = some (.bool x.att.priv) ∧ w.cell? ⟨ob, 5, none⟩ = some (.bool x.att.exec) ∧ w.cell? ⟨ob, 6, none⟩ = some (.bool x.att.lock) ∧ w.cell? ⟨ob, 7, none⟩ = some (.bool x.att.global) ∧ w.cell? ⟨ob, 8, none⟩ = some (.bool x.att.quiet) ∧ w.cell? ⟨ob, 9, none⟩ = some (.bool x.ref) ∧ w.cell? ⟨ob, 10, none⟩ = some (.bool x.mod)) ∧ w.cell? ⟨pb, 0, none⟩ = some (.int .u64 y.va) ∧ w.cell? ⟨pb, 1, none⟩ = some (.int .i64 y.sz) ∧ w.cell? ⟨pb, 2, none⟩ = some (.int .u64 y.pa) ∧ w.cell? ⟨pb, 3, none⟩ = some (.bool y.att.write) ∧ w.cell? ⟨pb, 4, none⟩ = some (.bool y.att.priv) ∧ w.cell? ⟨pb, 5, none⟩ = some (.bool y.att.exec) ∧ w.cell? ⟨pb, 6, none⟩ = some (.bool y.att.lock) ∧ w.cell? ⟨pb, 7, none⟩ = some (.bool y.att.global) ∧ w.cell? ⟨pb, 8, none⟩ = some (.bool y.att.quiet) ∧ w.cell? ⟨pb, 9, none⟩ = some (.bool y.ref) ∧ w.cell? ⟨pb, 10, none⟩ = some (.bool y.mod) := ⟨h.hx.cells.2, h.og.cells, h.pg.cells⟩
/-- What a closure does to the page that it is handed. -/
theorem HV.did (h : HV u w hb sb n O ns bl L rb ob x pb y) {z : Pg} (hz : RowP w' pb z) (hg : w.grownBy w' (some pb)) : HV u w' hb sb n O ns bl L rb ob x pb z := by
  have e : ∀ k, k < w.heap.size → k ≠ pb → w'.heap[k]? = w.heap[k]? := fun k hk hn => hg.block k hk (fun e => hn (Option.some.inj e))
  have l1 := (Array.getElem?_eq_some_iff.1 h.r.row).1
  have l2 := (Array.getElem?_eq_some_iff.1 h.og.row).1
  have l3 := (Array.getElem?_eq_some_iff.1 h.hx.row).1
  obtain ⟨bm, V, t, hO⟩ := h.hx.tab
  refine ⟨⟨⟨bm, V, t.same (fun k hk => e k (t.lt hk) (fun e2 => ?_)), hO⟩, (e hb l3 (by have := h.pl; have := h.hl; omega)).trans h.hx.row, h.hx.no, h.hx.s0, h.hx.s1⟩, ⟨(e rb l1 (fun e2 => h.n2 e2.symm)).trans h.r.row⟩, ⟨(e ob l2 (fun e2 => h.n3 e2.symm)).trans h.og.row⟩, hz, h.lo.grown hg h.lo.size (fun k hk => by cases hk; exact h.pl), h.ul, h.rl, h.ol, h.pl, h.n1, h.n2, h.n3, h.hl⟩
  have := h.ul k ((hO k).2 hk); have := h.pl; omega
theorem HV.keep {n' : Nat} (h : HV u w hb sb n O ns bl L rb ob x pb y) (k : TabTo w w' sb O n' bl L') :
    (w'.cell? ⟨hb, 1, none⟩ = some (.pointer (some ⟨sb, 0, none⟩)) ∧ (w'.cell? ⟨ob, 0, none⟩ = some (.int .u64 x.va) ∧ w'.cell? ⟨ob, 1, none⟩ = some (.int .i64 x.sz) ∧ w'.cell? ⟨ob, 2, none⟩ = some (.int .u64 x.pa) ∧ w'.cell? ⟨ob, 3, none⟩ = some (.bool x.att.write) ∧ w'.cell? ⟨ob, 4, none⟩ = some (.bool x.att.priv) ∧ w'.cell? ⟨ob, 5, none⟩ = some (.bool x.att.exec) ∧ w'.cell? ⟨ob, 6, none⟩ = some (.bool x.att.lock) ∧ w'.cell? ⟨ob, 7, none⟩ = some (.bool x.att.global) ∧ w'.cell? ⟨ob, 8, none⟩ = some (.bool x.att.quiet) ∧ w'.cell? ⟨ob, 9, none⟩ = some (.bool x.ref) ∧ w'.cell? ⟨ob, 10, none⟩ = some (.bool x.mod)) ∧ w'.cell? ⟨pb, 0, none⟩ = some (.int .u64 y.va) ∧ w'.cell? ⟨pb, 1, none⟩ = some (.int .i64 y.sz) ∧ w'.cell? ⟨pb, 2, none⟩ = some (.int .u64 y.pa) ∧ w'.cell? ⟨pb, 3, none⟩ = some (.bool y.att.write) ∧ w'.cell? ⟨pb, 4, none⟩ = some (.bool y.att.priv) ∧ w'.cell? ⟨pb, 5, none⟩ = some (.bool y.att.exec) ∧ w'.cell? ⟨pb, 6, none⟩ = some (.bool y.att.lock) ∧ w'.cell? ⟨pb, 7, none⟩ = some (.bool y.att.global) ∧ w'.cell? ⟨pb, 8, none⟩ = some (.bool y.att.quiet) ∧ w'.cell? ⟨pb, 9, none⟩ = some (.bool y.ref) ∧ w'.cell? ⟨pb, 10, none⟩ = some (.bool y.mod)) ∧ ((w'.cell? ⟨rb, 0, none⟩ = some (.int .u64 Pg.zero.va) ∧ w'.cell? ⟨rb, 1, none⟩ = some (.int .i64 Pg.zero.sz) ∧ w'.cell? ⟨rb, 2, none⟩ = some (.int .u64 Pg.zero.pa) ∧ w'.cell? ⟨rb, 3, none⟩ = some (.bool Pg.zero.att.write) ∧ w'.cell? ⟨rb, 4, none⟩ = some (.bool Pg.zero.att.priv) ∧ w'.cell? ⟨rb, 5, none⟩ = some (.bool Pg.zero.att.exec) ∧ w'.cell? ⟨rb, 6, none⟩ = some (.bool Pg.zero.att.lock) ∧ w'.cell? ⟨rb, 7, none⟩ = some (.bool Pg.zero.att.global) ∧ w'.cell? ⟨rb, 8, none⟩ = some (.bool Pg.zero.att.quiet) ∧ w'.cell? ⟨rb, 9, none⟩ = some (.bool Pg.zero.ref) ∧ w'.cell? ⟨rb, 10, none⟩ = some (.bool Pg.zero.mod)) ∧ ∀ i, w'.frozen? ⟨rb, i, none⟩ = false) ∧ ∀ z : Pg, RowP (((((((((((w'.setCell ⟨rb, 0, none⟩ (.int .u64 z.va)).setCell ⟨rb, 1, none⟩ (.int .i64 z.sz)).setCell ⟨rb, 2, none⟩ (.int .u64 z.pa)).setCell ⟨rb, 3, none⟩ (.bool z.att.write)).setCell ⟨rb, 4, none⟩ (.bool z.att.priv)).setCell ⟨rb, 5, none⟩ (.bool z.att.exec)).setCell ⟨rb, 6, none⟩ (.bool z.att.lock)).setCell ⟨rb, 7, none⟩ (.bool z.att.global)).setCell ⟨rb, 8, none⟩ (.bool z.att.quiet)).setCell ⟨rb, 9, none⟩ (.bool z.ref)).setCell ⟨rb, 10, none⟩ (.bool z.mod)) rb z ∧ TabTo u (((((((((((w'.setCell ⟨rb, 0, none⟩ (.int .u64 z.va)).setCell ⟨rb, 1, none⟩ (.int .i64 z.sz)).setCell ⟨rb, 2, none⟩ (.int .u64 z.pa)).setCell ⟨rb, 3, none⟩ (.bool z.att.write)).setCell ⟨rb, 4, none⟩ (.bool z.att.priv)).setCell ⟨rb, 5, none⟩ (.bool z.att.exec)).setCell ⟨rb, 6, none⟩ (.bool z.att.lock)).setCell ⟨rb, 7, none⟩ (.bool z.att.global)).setCell ⟨rb, 8, none⟩ (.bool z.att.quiet)).setCell ⟨rb, 9, none⟩ (.bool z.ref)).setCell ⟨rb, 10, none⟩ (.bool z.mod)) sb O n' bl L' ∧ ((((((((((((w'.setCell ⟨rb, 0, none⟩ (.int .u64 z.va)).setCell ⟨rb, 1, none⟩ (.int .i64 z.sz)).setCell ⟨rb, 2, none⟩ (.int .u64 z.pa)).setCell ⟨rb, 3, none⟩ (.bool z.att.write)).setCell ⟨rb, 4, none⟩ (.bool z.att.priv)).setCell ⟨rb, 5, none⟩ (.bool z.att.exec)).setCell ⟨rb, 6, none⟩ (.bool z.att.lock)).setCell ⟨rb, 7, none⟩ (.bool z.att.global)).setCell ⟨rb, 8, none⟩ (.bool z.att.quiet)).setCell ⟨rb, 9, none⟩ (.bool z.ref)).setCell ⟨rb, 10, none⟩ (.bool z.mod)).cell? ⟨hb, 1, none⟩ = some (.pointer (some ⟨sb, 0, none⟩)) ∧ ((((((((((((w'.setCell ⟨rb, 0, none⟩ (.int .u64 z.va)).setCell ⟨rb, 1, none⟩ (.int .i64 z.sz)).setCell ⟨rb, 2, none⟩ (.int .u64 z.pa)).setCell ⟨rb, 3, none⟩ (.bool z.att.write)).setCell ⟨rb, 4, none⟩ (.bool z.att.priv)).setCell ⟨rb, 5, none⟩ (.bool z.att.exec)).setCell ⟨rb, 6, none⟩ (.bool z.att.lock)).setCell ⟨rb, 7, none⟩ (.bool z.att.global)).setCell ⟨rb, 8, none⟩ (.bool z.att.quiet)).setCell ⟨rb, 9, none⟩ (.bool z.ref)).setCell ⟨rb, 10, none⟩ (.bool z.mod)).cell? ⟨ob, 0, none⟩ = some (.int .u64 x.va) ∧ (((((((((((w'.setCell ⟨rb, 0, none⟩ (.int .u64 z.va)).setCell ⟨rb, 1, none⟩ (.int .i64 z.sz)).setCell ⟨rb, 2, none⟩ (.int .u64 z.pa)).setCell ⟨rb, 3, none⟩ (.bool z.att.write)).setCell ⟨rb, 4, none⟩ (.bool z.att.priv)).setCell ⟨rb, 5, none⟩ (.bool z.att.exec)).setCell ⟨rb, 6, none⟩ (.bool z.att.lock)).setCell ⟨rb, 7, none⟩ (.bool z.att.global)).setCell ⟨rb, 8, none⟩ (.bool z.att.quiet)).setCell ⟨rb, 9, none⟩ (.bool z.ref)).setCell ⟨rb, 10, none⟩ (.bool z.mod)).cell? ⟨ob, 1, none⟩ = some (.int .i64 x.sz) ∧ (((((((((((w'.setCell ⟨rb, 0, none⟩ (.int .u64 z.va)).setCell ⟨rb, 1, none⟩ (.int .i64 z.sz)).setCell ⟨rb, 2, none⟩ (.int .u64 z.pa)).setCell ⟨rb, 3, none⟩ (.bool z.att.write)).setCell ⟨rb, 4, none⟩ (.bool z.att.priv)).setCell ⟨rb, 5, none⟩ (.bool z.att.exec)).setCell ⟨rb, 6, none⟩ (.bool z.att.lock)).setCell ⟨rb, 7, none⟩ (.bool z.att.global)).setCell ⟨rb, 8, none⟩ (.bool z.att.quiet)).setCell ⟨rb, 9, none⟩ (.bool z.ref)).setCell ⟨rb, 10, none⟩ (.bool z.mod)).cell? ⟨ob, 2, none⟩ = some (.int .u64 x.pa) ∧ (((((((((((w'.setCell ⟨rb, 0, none⟩ (.int .u64 z.va)).setCell ⟨rb, 1, none⟩ (.int .i64 z.sz)).setCell ⟨rb, 2, none⟩ (.int .u64 z.pa)).setCell ⟨rb, 3, none⟩ (.bool z.att.write)).setCell ⟨rb, 4, none⟩ (.bool z.att.priv)).setCell ⟨rb, 5, none⟩ (.bool z.att.exec)).setCell ⟨rb, 6, none⟩ (.bool z.att.lock)).setCell ⟨rb, 7, none⟩ (.bool z.att.global)).setCell ⟨rb, 8, none⟩ (.bool z.att.quiet)).setCell ⟨rb, 9, none⟩ (.bool z.ref)).setCell ⟨rb, 10, none⟩ (.bool z.mod)).cell? ⟨ob, 3, none⟩ = some (.bool x.att.write) ∧ (((((((((((w'.setCell ⟨rb, 0, none⟩ (.int .u64 z.va)).setCell ⟨rb, 1, none⟩ (.int .i64 z.sz)).setCell ⟨rb, 2, none⟩ (.int .u64 z.pa)).setCell ⟨rb, 3, none⟩ (.bool z.att.write)).setCell ⟨rb, 4, none⟩ (.bool z.att.priv)).setCell ⟨rb, 5, none⟩ (.bool z.att.exec)).setCell ⟨rb, 6, none⟩ (.bool z.att.lock)).setCell ⟨rb, 7, none⟩ (.bool z.att.global)).setCell ⟨rb, 8, none⟩ (.bool z.att.quiet)).setCell ⟨rb, 9, none⟩ (.bool z.ref)).setCell ⟨rb, 10, none⟩ (.bool z.mod)).cell? ⟨ob, 4, none⟩ = some (.bool x.att.priv) ∧ (((((((((((w'.setCell ⟨rb, 0, none⟩ (.int .u64 z.va)).setCell ⟨rb, 1, none⟩ (.int .i64 z.sz)).setCell ⟨rb, 2, none⟩ (.int .u64 z.pa)).setCell ⟨rb, 3, none⟩ (.bool z.att.write)).setCell ⟨rb, 4, none⟩ (.bool z.att.priv)).setCell ⟨rb, 5, none⟩ (.bool z.att.exec)).setCell ⟨rb, 6, none⟩ (.bool z.att.lock)).setCell ⟨rb, 7, none⟩ (.bool z.att.global)).setCell ⟨rb, 8, none⟩ (.bool z.att.quiet)).setCell ⟨rb, 9, none⟩ (.bool z.ref)).setCell ⟨rb, 10, none⟩ (.bool z.mod)).cell? ⟨ob, 5, none⟩ = some (.bool x.att.exec) ∧ (((((((((((w'.setCell ⟨rb, 0, none⟩ (.int .u64 z.va)).setCell ⟨rb, 1, none⟩ (.int .i64 z.sz)).setCell ⟨rb, 2, none⟩ (.int .u64 z.pa)).setCell ⟨rb, 3, none⟩ (.bool z.att.write)).setCell ⟨rb, 4, none⟩ (.bool z.att.priv)).setCell ⟨rb, 5, none⟩ (.bool z.att.exec)).setCell ⟨rb, 6, none⟩ (.bool z.att.lock)).setCell ⟨rb, 7, none⟩ (.bool z.att.global)).setCell ⟨rb, 8, none⟩ (.bool z.att.quiet)).setCell ⟨rb, 9, none⟩ (.bool z.ref)).setCell ⟨rb, 10, none⟩ (.bool z.mod)).cell? ⟨ob, 6, none⟩ = some (.bool x.att.lock) ∧ (((((((((((w'.setCell ⟨rb, 0, none⟩ (.int .u64 z.va)).setCell ⟨rb, 1, none⟩ (.int .i64 z.sz)).setCell ⟨rb, 2, none⟩ (.int .u64 z.pa)).setCell ⟨rb, 3, none⟩ (.bool z.att.write)).setCell ⟨rb, 4, none⟩ (.bool z.att.priv)).setCell ⟨rb, 5, none⟩ (.bool z.att.exec)).setCell ⟨rb, 6, none⟩ (.bool z.att.lock)).setCell ⟨rb, 7, none⟩ (.bool z.att.global)).setCell ⟨rb, 8, none⟩ (.bool z.att.quiet)).setCell ⟨rb, 9, none⟩ (.bool z.ref)).setCell ⟨rb, 10, none⟩ (.bool z.mod)).cell? ⟨ob, 7, none⟩ = some (.bool x.att.global) ∧ (((((((((((w'.setCell ⟨rb, 0, none⟩ (.int .u64 z.va)).setCell ⟨rb, 1, none⟩ (.int .i64 z.sz)).setCell ⟨rb, 2, none⟩ (.int .u64 z.pa)).setCell ⟨rb, 3, none⟩ (.bool z.att.write)).setCell ⟨rb, 4, none⟩ (.bool z.att.priv)).setCell ⟨rb, 5, none⟩ (.bool z.att.exec)).setCell ⟨rb, 6, none⟩ (.bool z.att.lock)).setCell ⟨rb, 7, none⟩ (.bool z.att.global)).setCell ⟨rb, 8, none⟩ (.bool z.att.quiet)).setCell ⟨rb, 9, none⟩ (.bool z.ref)).setCell ⟨rb, 10, none⟩ (.bool z.mod)).cell? ⟨ob, 8, none⟩ = some (.bool x.att.quiet) ∧ (((((((((((w'.setCell ⟨rb, 0, none⟩ (.int .u64 z.va)).setCell ⟨rb, 1, none⟩ (.int .i64 z.sz)).setCell ⟨rb, 2, none⟩ (.int .u64 z.pa)).setCell ⟨rb, 3, none⟩ (.bool z.att.write)).setCell ⟨rb, 4, none⟩ (.bool z.att.priv)).setCell ⟨rb, 5, none⟩ (.bool z.att.exec)).setCell ⟨rb, 6, none⟩ (.bool z.att.lock)).setCell ⟨rb, 7, none⟩ (.bool z.att.global)).setCell ⟨rb, 8, none⟩ (.bool z.att.quiet)).setCell ⟨rb, 9, none⟩ (.bool z.ref)).setCell ⟨rb, 10, none⟩ (.bool z.mod)).cell? ⟨ob, 9, none⟩ = some (.bool x.ref) ∧ (((((((((((w'.setCell ⟨rb, 0, none⟩ (.int .u64 z.va)).setCell ⟨rb, 1, none⟩ (.int .i64 z.sz)).setCell ⟨rb, 2, none⟩ (.int .u64 z.pa)).setCell ⟨rb, 3, none⟩ (.bool z.att.write)).setCell ⟨rb, 4, none⟩ (.bool z.att.priv)).setCell ⟨rb, 5, none⟩ (.bool z.att.exec)).setCell ⟨rb, 6, none⟩ (.bool z.att.lock)).setCell ⟨rb, 7, none⟩ (.bool z.att.global)).setCell ⟨rb, 8, none⟩ (.bool z.att.quiet)).setCell ⟨rb, 9, none⟩ (.bool z.ref)).setCell ⟨rb, 10, none⟩ (.bool z.mod)).cell? ⟨ob, 10, none⟩ = some (.bool x.mod)) ∧ (((((((((((w'.setCell ⟨rb, 0, none⟩ (.int .u64 z.va)).setCell ⟨rb, 1, none⟩ (.int .i64 z.sz)).setCell ⟨rb, 2, none⟩ (.int .u64 z.pa)).setCell ⟨rb, 3, none⟩ (.bool z.att.write)).setCell ⟨rb, 4, none⟩ (.bool z.att.priv)).setCell ⟨rb, 5, none⟩ (.bool z.att.exec)).setCell ⟨rb, 6, none⟩ (.bool z.att.lock)).setCell ⟨rb, 7, none⟩ (.bool z.att.global)).setCell ⟨rb, 8, none⟩ (.bool z.att.quiet)).setCell ⟨rb, 9, none⟩ (.bool z.ref)).setCell ⟨rb, 10, none⟩ (.bool z.mod)).cell? ⟨pb, 0, none⟩ = some (.int .u64 y.va) ∧ (((((((((((w'.setCell ⟨rb, 0, none⟩ (.int .u64 z.va)).setCell ⟨rb, 1, none⟩ (.int .i64 z.sz)).setCell ⟨rb, 2, none⟩ (.int .u64 z.pa)).setCell ⟨rb, 3, none⟩ (.bool z.att.write)).setCell ⟨rb, 4, none⟩ (.bool z.att.priv)).setCell ⟨rb, 5, none⟩ (.bool z.att.exec)).setCell ⟨rb, 6, none⟩ (.bool z.att.lock)).setCell ⟨rb, 7, none⟩ (.bool z.att.global)).setCell ⟨rb, 8, none⟩ (.bool z.att.quiet)).setCell ⟨rb, 9, none⟩ (.bool z.ref)).setCell ⟨rb, 10, none⟩ (.bool z.mod)).cell? ⟨pb, 1, none⟩ = some (.int .i64 y.sz) ∧ (((((((((((w'.setCell ⟨rb, 0, none⟩ (.int .u64 z.va)).setCell ⟨rb, 1, none⟩ (.int .i64 z.sz)).setCell ⟨rb, 2, none⟩ (.int .u64 z.pa)).setCell ⟨rb, 3, none⟩ (.bool z.att.write)).setCell ⟨rb, 4, none⟩ (.bool z.att.priv)).setCell ⟨rb, 5, none⟩ (.bool z.att.exec)).setCell ⟨rb, 6, none⟩ (.bool z.att.lock)).setCell ⟨rb, 7, none⟩ (.bool z.att.global)).setCell ⟨rb, 8, none⟩ (.bool z.att.quiet)).setCell ⟨rb, 9, none⟩ (.bool z.ref)).setCell ⟨rb, 10, none⟩ (.bool z.mod)).cell? ⟨pb, 2, none⟩ = some (.int .u64 y.pa) ∧ (((((((((((w'.setCell ⟨rb, 0, none⟩ (.int .u64 z.va)).setCell ⟨rb, 1, none⟩ (.int .i64 z.sz)).setCell ⟨rb, 2, none⟩ (.int .u64 z.pa)).setCell ⟨rb, 3, none⟩ (.bool z.att.write)).setCell ⟨rb, 4, none⟩ (.bool z.att.priv)).setCell ⟨rb, 5, none⟩ (.bool z.att.exec)).setCell ⟨rb, 6, none⟩ (.bool z.att.lock)).setCell ⟨rb, 7, none⟩ (.bool z.att.global)).setCell ⟨rb, 8, none⟩ (.bool z.att.quiet)).setCell ⟨rb, 9, none⟩ (.bool z.ref)).setCell ⟨rb, 10, none⟩ (.bool z.mod)).cell? ⟨pb, 3, none⟩ = some (.bool y.att.write) ∧ (((((((((((w'.setCell ⟨rb, 0, none⟩ (.int .u64 z.va)).setCell ⟨rb, 1, none⟩ (.int .i64 z.sz)).setCell ⟨rb, 2, none⟩ (.int .u64 z.pa)).setCell ⟨rb, 3, none⟩ (.bool z.att.write)).setCell ⟨rb, 4, none⟩ (.bool z.att.priv)).setCell ⟨rb, 5, none⟩ (.bool z.att.exec)).setCell ⟨rb, 6, none⟩ (.bool z.att.lock)).setCell ⟨rb, 7, none⟩ (.bool z.att.global)).setCell ⟨rb, 8, none⟩ (.bool z.att.quiet)).setCell ⟨rb, 9, none⟩ (.bool z.ref)).setCell ⟨rb, 10, none⟩ (.bool z.mod)).cell? ⟨pb, 4, none⟩ = some (.bool y.att.priv) ∧ (((((((((((w'.setCell ⟨rb, 0, none⟩ (.int .u64 z.va)).setCell ⟨rb, 1, none⟩ (.int .i64 z.sz)).setCell ⟨rb, 2, none⟩ (.int .u64 z.pa)).setCell ⟨rb, 3, none⟩ (.bool z.att.write)).setCell ⟨rb, 4, none⟩ (.bool z.att.priv)).setCell ⟨rb, 5, none⟩ (.bool z.att.exec)).setCell ⟨rb, 6, none⟩ (.bool z.att.lock)).setCell ⟨rb, 7, none⟩ (.bool z.att.global)).setCell ⟨rb, 8, none⟩ (.bool z.att.quiet)).setCell ⟨rb, 9, none⟩ (.bool z.ref)).setCell ⟨rb, 10, none⟩ (.bool z.mod)).cell? ⟨pb, 5, none⟩ = some (.bool y.att.exec) ∧ (((((((((((w'.setCell ⟨rb, 0, none⟩ (.int .u64 z.va)).setCell ⟨rb, 1, none⟩ (.int .i64 z.sz)).setCell ⟨rb, 2, none⟩ (.int .u64 z.pa)).setCell ⟨rb, 3, none⟩ (.bool z.att.write)).setCell ⟨rb, 4, none⟩ (.bool z.att.priv)).setCell ⟨rb, 5, none⟩ (.bool z.att.exec)).setCell ⟨rb, 6, none⟩ (.bool z.att.lock)).setCell ⟨rb, 7, none⟩ (.bool z.att.global)).setCell ⟨rb, 8, none⟩ (.bool z.att.quiet)).setCell ⟨rb, 9, none⟩ (.bool z.ref)).setCell ⟨rb, 10, none⟩ (.bool z.mod)).cell? ⟨pb, 6, none⟩ = some (.bool y.att.lock) ∧ (((((((((((w'.setCell ⟨rb, 0, none⟩ (.int .u64 z.va)).setCell ⟨rb, 1, none⟩ (.int .i64 z.sz)).setCell ⟨rb, 2, none⟩ (.int .u64 z.pa)).setCell ⟨rb, 3, none⟩ (.bool z.att.write)).setCell ⟨rb, 4, none⟩ (.bool z.att.priv)).setCell ⟨rb, 5, none⟩ (.bool z.att.exec)).setCell ⟨rb, 6, none⟩ (.bool z.att.lock)).setCell ⟨rb, 7, none⟩ (.bool z.att.global)).setCell ⟨rb, 8, none⟩ (.bool z.att.quiet)).setCell ⟨rb, 9, none⟩ (.bool z.ref)).setCell ⟨rb, 10, none⟩ (.bool z.mod)).cell? ⟨pb, 7, none⟩ = some (.bool y.att.global) ∧ (((((((((((w'.setCell ⟨rb, 0, none⟩ (.int .u64 z.va)).setCell ⟨rb, 1, none⟩ (.int .i64 z.sz)).setCell ⟨rb, 2, none⟩ (.int .u64 z.pa)).setCell ⟨rb, 3, none⟩ (.bool z.att.write)).setCell ⟨rb, 4, none⟩ (.bool z.att.priv)).setCell ⟨rb, 5, none⟩ (.bool z.att.exec)).setCell ⟨rb, 6, none⟩ (.bool z.att.lock)).setCell ⟨rb, 7, none⟩ (.bool z.att.global)).setCell ⟨rb, 8, none⟩ (.bool z.att.quiet)).setCell ⟨rb, 9, none⟩ (.bool z.ref)).setCell ⟨rb, 10, none⟩ (.bool z.mod)).cell? ⟨pb, 8, none⟩ = some (.bool y.att.quiet) ∧ (((((((((((w'.setCell ⟨rb, 0, none⟩ (.int .u64 z.va)).setCell ⟨rb, 1, none⟩ (.int .i64 z.sz)).setCell ⟨rb, 2, none⟩ (.int .u64 z.pa)).setCell ⟨rb, 3, none⟩ (.bool z.att.write)).setCell ⟨rb, 4, none⟩ (.bool z.att.priv)).setCell ⟨rb, 5, none⟩ (.bool z.att.exec)).setCell ⟨rb, 6, none⟩ (.bool z.att.lock)).setCell ⟨rb, 7, none⟩ (.bool z.att.global)).setCell ⟨rb, 8, none⟩ (.bool z.att.quiet)).setCell ⟨rb, 9, none⟩ (.bool z.ref)).setCell ⟨rb, 10, none⟩ (.bool z.mod)).cell? ⟨pb, 9, none⟩ = some (.bool y.ref) ∧ (((((((((((w'.setCell ⟨rb, 0, none⟩ (.int .u64 z.va)).setCell ⟨rb, 1, none⟩ (.int .i64 z.sz)).setCell ⟨rb, 2, none⟩ (.int .u64 z.pa)).setCell ⟨rb, 3, none⟩ (.bool z.att.write)).setCell ⟨rb, 4, none⟩ (.bool z.att.priv)).setCell ⟨rb, 5, none⟩ (.bool z.att.exec)).setCell ⟨rb, 6, none⟩ (.bool z.att.lock)).setCell ⟨rb, 7, none⟩ (.bool z.att.global)).setCell ⟨rb, 8, none⟩ (.bool z.att.quiet)).setCell ⟨rb, 9, none⟩ (.bool z.ref)).setCell ⟨rb, 10, none⟩ (.bool z.mod)).cell? ⟨pb, 10, none⟩ = some (.bool y.mod)) := by
  have k0 := k
  obtain ⟨O', hx', hT, _⟩ := h.hx.turned k
  have l1 := (Array.getElem?_eq_some_iff.1 h.og.row).1
  have l2 := (Array.getElem?_eq_some_iff.1 h.r.row).1
  have l3 := (Array.getElem?_eq_some_iff.1 h.pg.row).1
  have ho : RowP w' ob x := ⟨(hT.block ob l1 (fun e => by have := h.ul ob e; have := h.ol; omega)).trans h.og.row⟩
  have hr : RowP w' rb Pg.zero := ⟨(hT.block rb l2 (fun e => by have := h.ul rb e; have := h.rl; omega)).trans h.r.row⟩
  have hp : RowP w' pb y := ⟨(hT.block pb l3 (fun e => by have := h.ul pb e; have := h.pl; omega)).trans h.pg.row⟩
  refine ⟨⟨hx'.cells.2, ho.cells, hp.cells⟩, ⟨hr.cells, set_one_page hr⟩, fun z => ?_⟩
  obtain ⟨q1, q2⟩ := TabTo.put11 h.lo k0 h.rl l2 h.ul hr z
  have hn : hb ≠ rb := by have := h.rl; have := h.hl; omega
  have q3 : RowP (((((((((((w'.setCell ⟨rb, 0, none⟩ (.int .u64 z.va)).setCell ⟨rb, 1, none⟩ (.int .i64 z.sz)).setCell ⟨rb, 2, none⟩ (.int .u64 z.pa)).setCell ⟨rb, 3, none⟩ (.bool z.att.write)).setCell ⟨rb, 4, none⟩ (.bool z.att.priv)).setCell ⟨rb, 5, none⟩ (.bool z.att.exec)).setCell ⟨rb, 6, none⟩ (.bool z.att.lock)).setCell ⟨rb, 7, none⟩ (.bool z.att.global)).setCell ⟨rb, 8, none⟩ (.bool z.att.quiet)).setCell ⟨rb, 9, none⟩ (.bool z.ref)).setCell ⟨rb, 10, none⟩ (.bool z.mod)) ob x := ⟨(row_far z h.n1).trans ho.row⟩
  have q5 : RowP (((((((((((w'.setCell ⟨rb, 0, none⟩ (.int .u64 z.va)).setCell ⟨rb, 1, none⟩ (.int .i64 z.sz)).setCell ⟨rb, 2, none⟩ (.int .u64 z.pa)).setCell ⟨rb, 3, none⟩ (.bool z.att.write)).setCell ⟨rb, 4, none⟩ (.bool z.att.priv)).setCell ⟨rb, 5, none⟩ (.bool z.att.exec)).setCell ⟨rb, 6, none⟩ (.bool z.att.lock)).setCell ⟨rb, 7, none⟩ (.bool z.att.global)).setCell ⟨rb, 8, none⟩ (.bool z.att.quiet)).setCell ⟨rb, 9, none⟩ (.bool z.ref)).setCell ⟨rb, 10, none⟩ (.bool z.mod)) pb y := ⟨(row_far z h.n2).trans hp.row⟩
  have q4 : (((((((((((w'.setCell ⟨rb, 0, none⟩ (.int .u64 z.va)).setCell ⟨rb, 1, none⟩ (.int .i64 z.sz)).setCell ⟨rb, 2, none⟩ (.int .u64 z.pa)).setCell ⟨rb, 3, none⟩ (.bool z.att.write)).setCell ⟨rb, 4, none⟩ (.bool z.att.priv)).setCell ⟨rb, 5, none⟩ (.bool z.att.exec)).setCell ⟨rb, 6, none⟩ (.bool z.att.lock)).setCell ⟨rb, 7, none⟩ (.bool z.att.global)).setCell ⟨rb, 8, none⟩ (.bool z.att.quiet)).setCell ⟨rb, 9, none⟩ (.bool z.ref)).setCell ⟨rb, 10, none⟩ (.bool z.mod)).heap[hb]? = some (.cells #[.int .i64 ns, .pointer (some ⟨sb, 0, none⟩)] 67 (0, 0)) := (row_far z hn).trans hx'.row
  exact ⟨q1, q2, by simp only [World.cell?, q4]; rfl, q3.cells, q5.cells⟩
end
def chE (ns : Int) (n : Nat) (L : Nat → List Bk) (s va : Int) : Int := if atE ns n L s va = 0 then setE n L (keyP s (findV ns n L s va)) else atE ns n L s va
def chT (ns : Int) (n : Nat) (L : Nat → List Bk) (s va : Int) (f : Pg → Pg) : Nat → List Bk := if atE ns n L s va = 0 then setT n L (keyP s (findV ns n L s va)) (f (findV ns n L s va)) else L
theorem change_clear {hb sb n : Nat} {O : Nat → Prop} {ns bl : Int} {L : Nat → List Bk} (s va : Int) (s0 : -9223372036854775808 ≤ s) (s1 : s ≤ 9223372036854775807) (v0 : 0 ≤ va) (v1 : va ≤ 18446744073709551615) (hx : (findV ns n L s va).wf) (w : World) (h : HX w hb sb n O ns bl L) :
    Calls Tryz.prog 55 #[.pointer (some ⟨hb, 0, none⟩), .int .i64 s, .int .u64 va, .func (.func 57) #[] #[]] w fun e w' => e = .returned (.tuple #[.agg #[.int .u64 (findV ns n L s va).va, .int .i64 (findV ns n L s va).sz, .int .u64 (findV ns n L s va).pa, .bool (findV ns n L s va).att.write, .bool (findV ns n L s va).att.priv, .bool (findV ns n L s va).att.exec, .bool (findV ns n L s va).att.lock, .bool (findV ns n L s va).att.global, .bool (findV ns n L s va).att.quiet, .bool (findV ns n L s va).ref, .bool (findV ns n L s va).mod], .int .i64 (chE ns n L s va)]) ∧ TabTo w w' sb O n bl (chT ns n L s va (fun y => { y with ref := false, mod := false })) := by
  have hul : ∀ k, O k → k < w.heap.size := fun k hk => h.tab.lt hk
  have H1 : HX (w.alloc (.cells #[.int .u64 Pg.zero.va, .int .i64 Pg.zero.sz, .int .u64 Pg.zero.pa, .bool Pg.zero.att.write, .bool Pg.zero.att.priv, .bool Pg.zero.att.exec, .bool Pg.zero.att.lock, .bool Pg.zero.att.global, .bool Pg.zero.att.quiet, .bool Pg.zero.ref, .bool Pg.zero.mod] 38)) hb sb n O ns bl L := h.low (by (repeat (first | (with_reducible assumption) | (with_reducible exact Below.refl _ _) | (with_reducible refine lo_step ?_ (by assumption)) | (with_reducible refine lo_drew ?_) | (with_reducible refine lo_drewN ?_ _) | (with_reducible refine lo_alloc ?_ _))) )
  have R1 := RowP.new w Pg.zero
  have B1 : Below w.heap.size w (w.alloc (.cells #[.int .u64 Pg.zero.va, .int .i64 Pg.zero.sz, .int .u64 Pg.zero.pa, .bool Pg.zero.att.write, .bool Pg.zero.att.priv, .bool Pg.zero.att.exec, .bool Pg.zero.att.lock, .bool Pg.zero.att.global, .bool Pg.zero.att.quiet, .bool Pg.zero.ref, .bool Pg.zero.mod] 38)) := by (repeat (first | (with_reducible assumption) | (with_reducible exact Below.refl _ _) | (with_reducible refine lo_step ?_ (by assumption)) | (with_reducible refine lo_drew ?_) | (with_reducible refine lo_drewN ?_ _) | (with_reducible refine lo_alloc ?_ _))) 
  have CA := Lib.hid (fun (W : World) (h : HX W hb sb n O ns bl L) => (by
    obtain ⟨bm, V, h1⟩ := h.read
    exact at_any s va s0 s1 v0 v1 W h1 : Calls Tryz.prog 72 #[.pointer (some ⟨hb, 0, none⟩), .int .i64 s, .int .u64 va] W fun e w' => e = .returned (.tuple #[.agg #[.int .u64 (findV ns n L s va).va, .int .i64 (findV ns n L s va).sz, .int .u64 (findV ns n L s va).pa, .bool (findV ns n L s va).att.write, .bool (findV ns n L s va).att.priv, .bool (findV ns n L s va).att.exec, .bool (findV ns n L s va).att.lock, .bool (findV ns n L s va).att.global, .bool (findV ns n L s va).att.quiet, .bool (findV ns n L s va).ref, .bool (findV ns n L s va).mod], .int .i64 (atE ns n L s va)]) ∧ Below W.heap.size W w'))
  have hE := Lib.hid (show chE ns n L s va = if atE ns n L s va = 0 then setE n L (keyP s (findV ns n L s va)) else atE ns n L s va from rfl)
  have hT := Lib.hid (show chT ns n L s va (fun y => { y with ref := false, mod := false }) = if atE ns n L s va = 0 then setT n L (keyP s (findV ns n L s va)) { (findV ns n L s va) with ref := false, mod := false } else L from rfl)
  have hZ := Lib.hid (show atE ns n L s va ≠ 0 → findV ns n L s va = Pg.zero from at_zero)
  generalize findV ns n L s va = x at *
  generalize atE ns n L s va = E at *
  obtain ⟨y, hy⟩ : ∃ y : Pg, y = { x with ref := false, mod := false } := ⟨_, rfl⟩
  rw [← hy] at hT
  have HY := Lib.hid hy
  have C2 := Lib.hid (fun (W : World) => hkey_any s x W)
  have C3 := Lib.hid (fun (W : World) (h : HX W hb sb n O ns bl L) => set_any (keyP s x) (keyP_wf s0 s1 hx) y W h.tab)
  have HB1 := Lib.hid (show (w.alloc (.cells #[.int .u64 Pg.zero.va, .int .i64 Pg.zero.sz, .int .u64 Pg.zero.pa, .bool Pg.zero.att.write, .bool Pg.zero.att.priv, .bool Pg.zero.att.exec, .bool Pg.zero.att.lock, .bool Pg.zero.att.global, .bool Pg.zero.att.quiet, .bool Pg.zero.ref, .bool Pg.zero.mod] 38)).heap.size = w.heap.size + 1 by simp)
  have HB0 := Lib.hid (Array.getElem?_eq_some_iff.1 h.row).1
  unfold Pg.zero at H1 R1 B1 HB1
  clear hx hy
  by_cases h0 : E = 0
  · subst h0
    rw [if_pos rfl] at hE hT
    go_enter Tryz.func55, Tryz.ntmps55
    go_wp2_with fail
    generalize World.alloc w _ = W at *
    refine (CA.out _ H1).mono ?_; rintro e w1 ⟨rfl, hb1⟩
    have NB : Below w1.heap.size w1 ((w1.alloc (.cells #[.int .u64 x.va, .int .i64 x.sz, .int .u64 x.pa, .bool x.att.write, .bool x.att.priv, .bool x.att.exec, .bool x.att.lock, .bool x.att.global, .bool x.att.quiet, .bool x.ref, .bool x.mod] 38)).alloc (.cells #[.int .u64 x.va, .int .i64 x.sz, .int .u64 x.pa, .bool x.att.write, .bool x.att.priv, .bool x.att.exec, .bool x.att.lock, .bool x.att.global, .bool x.att.quiet, .bool x.ref, .bool x.mod] 38)) := by
      refine ((Below.refl _ _).alloc (Nat.le_refl _) _).alloc ?_ _
      simp
    have RO : RowP ((w1.alloc (.cells #[.int .u64 x.va, .int .i64 x.sz, .int .u64 x.pa, .bool x.att.write, .bool x.att.priv, .bool x.att.exec, .bool x.att.lock, .bool x.att.global, .bool x.att.quiet, .bool x.ref, .bool x.mod] 38)).alloc (.cells #[.int .u64 x.va, .int .i64 x.sz, .int .u64 x.pa, .bool x.att.write, .bool x.att.priv, .bool x.att.exec, .bool x.att.lock, .bool x.att.global, .bool x.att.quiet, .bool x.ref, .bool x.mod] 38)) w1.heap.size x := (RowP.new w1 x).alloc _
    have RP : RowP ((w1.alloc (.cells #[.int .u64 x.va, .int .i64 x.sz, .int .u64 x.pa, .bool x.att.write, .bool x.att.priv, .bool x.att.exec, .bool x.att.lock, .bool x.att.global, .bool x.att.quiet, .bool x.ref, .bool x.mod] 38)).alloc (.cells #[.int .u64 x.va, .int .i64 x.sz, .int .u64 x.pa, .bool x.att.write, .bool x.att.priv, .bool x.att.exec, .bool x.att.lock, .bool x.att.global, .bool x.att.quiet, .bool x.ref, .bool x.mod] 38)) (w1.heap.size + 1) x := by have := RowP.new (w1.alloc (.cells #[.int .u64 x.va, .int .i64 x.sz, .int .u64 x.pa, .bool x.att.write, .bool x.att.priv, .bool x.att.exec, .bool x.att.lock, .bool x.att.global, .bool x.att.quiet, .bool x.ref, .bool x.mod] 38)) x; rwa [World.size_alloc] at this
    have U : HV w ((w1.alloc (.cells #[.int .u64 x.va, .int .i64 x.sz, .int .u64 x.pa, .bool x.att.write, .bool x.att.priv, .bool x.att.exec, .bool x.att.lock, .bool x.att.global, .bool x.att.quiet, .bool x.ref, .bool x.mod] 38)).alloc (.cells #[.int .u64 x.va, .int .i64 x.sz, .int .u64 x.pa, .bool x.att.write, .bool x.att.priv, .bool x.att.exec, .bool x.att.lock, .bool x.att.global, .bool x.att.quiet, .bool x.ref, .bool x.mod] 38)) hb sb n O ns bl L w.heap.size w1.heap.size x (w1.heap.size + 1) x := ⟨(H1.low hb1).low NB, (RowP.low R1 hb1).low NB, RO, RP, lo_step (lo_step B1 hb1) NB, hul, Nat.le_refl _, Nat.le_trans B1.size hb1.size, Nat.le_succ_of_le (Nat.le_trans B1.size hb1.size), by have h6 := hb1.size; have h7 := HB1.out; omega, by have h6 := hb1.size; have h7 := HB1.out; omega, by omega, HB0.out⟩
    have BL := lo_step (lo_step B1 hb1) NB
    clear H1 R1 B1 hb1 CA RO RP NB BL
    go_wp2_with fail
    generalize World.alloc (World.alloc w1 _) _ = W2 at *
    generalize w1.heap.size = ob at *
    refine (clear1_any (ob + 1) x _ U.pg).mono ?_; rintro e w3 ⟨rfl, hz3, hg3⟩
    have U3 := U.did hz3 hg3
    rw [← HY.out] at U3
    have hS := U3.cs
    clear U hz3 hg3
    go_wp2_with fail
    go_region_held3 (fun w1 => w1.cell? ⟨hb, 1, none⟩ = some (.pointer (some ⟨sb, 0, none⟩)) ∧ (w1.cell? ⟨ob, 0, none⟩ = some (.int .u64 x.va) ∧ w1.cell? ⟨ob, 1, none⟩ = some (.int .i64 x.sz) ∧ w1.cell? ⟨ob, 2, none⟩ = some (.int .u64 x.pa) ∧ w1.cell? ⟨ob, 3, none⟩ = some (.bool x.att.write) ∧ w1.cell? ⟨ob, 4, none⟩ = some (.bool x.att.priv) ∧ w1.cell? ⟨ob, 5, none⟩ = some (.bool x.att.exec) ∧ w1.cell? ⟨ob, 6, none⟩ = some (.bool x.att.lock) ∧ w1.cell? ⟨ob, 7, none⟩ = some (.bool x.att.global) ∧ w1.cell? ⟨ob, 8, none⟩ = some (.bool x.att.quiet) ∧ w1.cell? ⟨ob, 9, none⟩ = some (.bool x.ref) ∧ w1.cell? ⟨ob, 10, none⟩ = some (.bool x.mod)) ∧ w1.cell? ⟨(ob + 1), 0, none⟩ = some (.int .u64 y.va) ∧ w1.cell? ⟨(ob + 1), 1, none⟩ = some (.int .i64 y.sz) ∧ w1.cell? ⟨(ob + 1), 2, none⟩ = some (.int .u64 y.pa) ∧ w1.cell? ⟨(ob + 1), 3, none⟩ = some (.bool y.att.write) ∧ w1.cell? ⟨(ob + 1), 4, none⟩ = some (.bool y.att.priv) ∧ w1.cell? ⟨(ob + 1), 5, none⟩ = some (.bool y.att.exec) ∧ w1.cell? ⟨(ob + 1), 6, none⟩ = some (.bool y.att.lock) ∧ w1.cell? ⟨(ob + 1), 7, none⟩ = some (.bool y.att.global) ∧ w1.cell? ⟨(ob + 1), 8, none⟩ = some (.bool y.att.quiet) ∧ w1.cell? ⟨(ob + 1), 9, none⟩ = some (.bool y.ref) ∧ w1.cell? ⟨(ob + 1), 10, none⟩ = some (.bool y.mod))
      (first | (with_reducible assumption) | (with_reducible exact (KK.out.2.2 _).2.2) | (refine (HV.cs (HV.low U3 ?_)); (repeat (first | (with_reducible assumption) | (with_reducible exact Below.refl _ _) | (with_reducible refine lo_step ?_ (by assumption)) | (with_reducible refine lo_drew ?_) | (with_reducible refine lo_drewN ?_ _) | (with_reducible refine lo_alloc ?_ _) | (with_reducible refine lo_set ?_ ?_ _) | (exact Nat.le_refl _) | (exact hs2 _ (Nat.le_refl _)) | (exact hb'.size))) ))
      (first
        | (go_at_call 65; (with_reducible refine (C2.out _).mono ?_); rintro e w' ⟨rfl, hb'⟩)
        | (go_at_call 91; (with_reducible refine (C3.out _ (HV.hx (HV.low U3 (by (repeat (first | (with_reducible assumption) | (with_reducible exact Below.refl _ _) | (with_reducible refine lo_step ?_ (by assumption)) | (with_reducible refine lo_drew ?_) | (with_reducible refine lo_drewN ?_ _) | (with_reducible refine lo_alloc ?_ _) | (with_reducible refine lo_set ?_ ?_ _) | (exact Nat.le_refl _) | (exact hs2 _ (Nat.le_refl _)) | (exact hb'.size))) )))).mono ?_); rintro e w5 ⟨rfl, hTT⟩; have KK := Lib.hid (HV.keep (HV.low U3 (by (repeat (first | (with_reducible assumption) | (with_reducible exact Below.refl _ _) | (with_reducible refine lo_step ?_ (by assumption)) | (with_reducible refine lo_drew ?_) | (with_reducible refine lo_drewN ?_ _) | (with_reducible refine lo_alloc ?_ _) | (with_reducible refine lo_set ?_ ?_ _) | (exact Nat.le_refl _) | (exact hs2 _ (Nat.le_refl _)) | (exact hb'.size))) )) hTT); have Q5 := KK.out.1; obtain ⟨⟨r0, r1, r2, r3, r4, r5, r6, r7, r8, r9, r10⟩, fr⟩ := KK.out.2.1))
    all_goals
      clear Q5 hTT hS
      go_wp2_with fail
      refine bodyPost_ret (res_P2 rfl _ _ _ _ rfl (KK.out.2.2 x).1.row) rfl ?_
      exact ⟨ret_pe rfl hE.out, by rw [hT.out]; exact (KK.out.2.2 x).2.1⟩
  · rw [if_neg h0] at hE hT
    have hxz := Lib.hid (hZ.out h0)
    go_enter Tryz.func55, Tryz.ntmps55
    go_wp2_with fail
    generalize World.alloc w _ = W at *
    refine (CA.out _ H1).mono ?_; rintro e w1 ⟨rfl, hb1⟩
    have NB : Below w1.heap.size w1 (w1.alloc (.cells #[.int .u64 x.va, .int .i64 x.sz, .int .u64 x.pa, .bool x.att.write, .bool x.att.priv, .bool x.att.exec, .bool x.att.lock, .bool x.att.global, .bool x.att.quiet, .bool x.ref, .bool x.mod] 38)) := (Below.refl _ _).alloc (Nat.le_refl _) _
    have R2 := (RowP.low R1 hb1).low NB
    have BL := lo_step (lo_step B1 hb1) NB
    obtain ⟨r0, r1, r2, r3, r4, r5, r6, r7, r8, r9, r10⟩ := R2.cells
    have fr := set_one_page R2
    have KK := Lib.hid (And.intro (R2.setAll Pg.zero).1 (BL.trans ((R2.setAll Pg.zero).2 _ (Nat.le_refl _))))
    clear R2 BL NB hb1 R1 B1 H1 CA HB1
    go_wp2_with fail
    refine bodyPost_ret (res_P2 rfl _ _ _ _ rfl KK.out.1.row) rfl ?_
    exact ⟨ret_pe hxz.out hE.out, by rw [hT.out]; exact TabTo.low h.tab KK.out.2⟩
theorem change_mark {hb sb n : Nat} {O : Nat → Prop} {ns bl : Int} {L : Nat → List Bk} (s va : Int) (s0 : -9223372036854775808 ≤ s) (s1 : s ≤ 9223372036854775807) (v0 : 0 ≤ va) (v1 : va ≤ 18446744073709551615) (hx : (findV ns n L s va).wf) (mb : Nat) (md : Bool) (w : World) (h : HX w hb sb n O ns bl L) (hm : w.heap[mb]? = some (.cells #[.bool md] 4 (0, 0))) :
    Calls Tryz.prog 55 #[.pointer (some ⟨hb, 0, none⟩), .int .i64 s, .int .u64 va, .func (.func 56) #[] #[.pointer (some ⟨mb, 0, none⟩)]] w fun e w' => e = .returned (.tuple #[.agg #[.int .u64 (findV ns n L s va).va, .int .i64 (findV ns n L s va).sz, .int .u64 (findV ns n L s va).pa, .bool (findV ns n L s va).att.write, .bool (findV ns n L s va).att.priv, .bool (findV ns n L s va).att.exec, .bool (findV ns n L s va).att.lock, .bool (findV ns n L s va).att.global, .bool (findV ns n L s va).att.quiet, .bool (findV ns n L s va).ref, .bool (findV ns n L s va).mod], .int .i64 (chE ns n L s va)]) ∧ TabTo w w' sb O n bl (chT ns n L s va (fun y => { y with ref := true, mod := Pg.mod y || md })) := by
  have hul : ∀ k, O k → k < w.heap.size := fun k hk => h.tab.lt hk
  have H1 : HX (w.alloc (.cells #[.int .u64 Pg.zero.va, .int .i64 Pg.zero.sz, .int .u64 Pg.zero.pa, .bool Pg.zero.att.write, .bool Pg.zero.att.priv, .bool Pg.zero.att.exec, .bool Pg.zero.att.lock, .bool Pg.zero.att.global, .bool Pg.zero.att.quiet, .bool Pg.zero.ref, .bool Pg.zero.mod] 38)) hb sb n O ns bl L := h.low (by (repeat (first | (with_reducible assumption) | (with_reducible exact Below.refl _ _) | (with_reducible refine lo_step ?_ (by assumption)) | (with_reducible refine lo_drew ?_) | (with_reducible refine lo_drewN ?_ _) | (with_reducible refine lo_alloc ?_ _))) )
  have R1 := RowP.new w Pg.zero
  have B1 : Below w.heap.size w (w.alloc (.cells #[.int .u64 Pg.zero.va, .int .i64 Pg.zero.sz, .int .u64 Pg.zero.pa, .bool Pg.zero.att.write, .bool Pg.zero.att.priv, .bool Pg.zero.att.exec, .bool Pg.zero.att.lock, .bool Pg.zero.att.global, .bool Pg.zero.att.quiet, .bool Pg.zero.ref, .bool Pg.zero.mod] 38)) := by (repeat (first | (with_reducible assumption) | (with_reducible exact Below.refl _ _) | (with_reducible refine lo_step ?_ (by assumption)) | (with_reducible refine lo_drew ?_) | (with_reducible refine lo_drewN ?_ _) | (with_reducible refine lo_alloc ?_ _))) 
  have CA := Lib.hid (fun (W : World) (h : HX W hb sb n O ns bl L) => (by
    obtain ⟨bm, V, h1⟩ := h.read
    exact at_any s va s0 s1 v0 v1 W h1 : Calls Tryz.prog 72 #[.pointer (some ⟨hb, 0, none⟩), .int .i64 s, .int .u64 va] W fun e w' => e = .returned (.tuple #[.agg #[.int .u64 (findV ns n L s va).va, .int .i64 (findV ns n L s va).sz, .int .u64 (findV ns n L s va).pa, .bool (findV ns n L s va).att.write, .bool (findV ns n L s va).att.priv, .bool (findV ns n L s va).att.exec, .bool (findV ns n L s va).att.lock, .bool (findV ns n L s va).att.global, .bool (findV ns n L s va).att.quiet, .bool (findV ns n L s va).ref, .bool (findV ns n L s va).mod], .int .i64 (atE ns n L s va)]) ∧ Below W.heap.size W w'))
  have hE := Lib.hid (show chE ns n L s va = if atE ns n L s va = 0 then setE n L (keyP s (findV ns n L s va)) else atE ns n L s va from rfl)
  have hT := Lib.hid (show chT ns n L s va (fun y => { y with ref := true, mod := Pg.mod y || md }) = if atE ns n L s va = 0 then setT n L (keyP s (findV ns n L s va)) { (findV ns n L s va) with ref := true, mod := Pg.mod (findV ns n L s va) || md } else L from rfl)
  have hZ := Lib.hid (show atE ns n L s va ≠ 0 → findV ns n L s va = Pg.zero from at_zero)
  generalize findV ns n L s va = x at *
  generalize atE ns n L s va = E at *
  obtain ⟨y, hy⟩ : ∃ y : Pg, y = { x with ref := true, mod := Pg.mod x || md } := ⟨_, rfl⟩
  rw [← hy] at hT
  have HY := Lib.hid hy
  have C2 := Lib.hid (fun (W : World) => hkey_any s x W)
  have C3 := Lib.hid (fun (W : World) (h : HX W hb sb n O ns bl L) => set_any (keyP s x) (keyP_wf s0 s1 hx) y W h.tab)
  have HB1 := Lib.hid (show (w.alloc (.cells #[.int .u64 Pg.zero.va, .int .i64 Pg.zero.sz, .int .u64 Pg.zero.pa, .bool Pg.zero.att.write, .bool Pg.zero.att.priv, .bool Pg.zero.att.exec, .bool Pg.zero.att.lock, .bool Pg.zero.att.global, .bool Pg.zero.att.quiet, .bool Pg.zero.ref, .bool Pg.zero.mod] 38)).heap.size = w.heap.size + 1 by simp)
  have HB0 := Lib.hid (Array.getElem?_eq_some_iff.1 h.row).1
  unfold Pg.zero at H1 R1 B1 HB1
  clear hx hy
  by_cases h0 : E = 0
  · subst h0
    rw [if_pos rfl] at hE hT
    go_enter Tryz.func55, Tryz.ntmps55
    go_wp2_with fail
    generalize World.alloc w _ = W at *
    refine (CA.out _ H1).mono ?_; rintro e w1 ⟨rfl, hb1⟩
    have NB : Below w1.heap.size w1 ((w1.alloc (.cells #[.int .u64 x.va, .int .i64 x.sz, .int .u64 x.pa, .bool x.att.write, .bool x.att.priv, .bool x.att.exec, .bool x.att.lock, .bool x.att.global, .bool x.att.quiet, .bool x.ref, .bool x.mod] 38)).alloc (.cells #[.int .u64 x.va, .int .i64 x.sz, .int .u64 x.pa, .bool x.att.write, .bool x.att.priv, .bool x.att.exec, .bool x.att.lock, .bool x.att.global, .bool x.att.quiet, .bool x.ref, .bool x.mod] 38)) := by
      refine ((Below.refl _ _).alloc (Nat.le_refl _) _).alloc ?_ _
      simp
    have RO : RowP ((w1.alloc (.cells #[.int .u64 x.va, .int .i64 x.sz, .int .u64 x.pa, .bool x.att.write, .bool x.att.priv, .bool x.att.exec, .bool x.att.lock, .bool x.att.global, .bool x.att.quiet, .bool x.ref, .bool x.mod] 38)).alloc (.cells #[.int .u64 x.va, .int .i64 x.sz, .int .u64 x.pa, .bool x.att.write, .bool x.att.priv, .bool x.att.exec, .bool x.att.lock, .bool x.att.global, .bool x.att.quiet, .bool x.ref, .bool x.mod] 38)) w1.heap.size x := (RowP.new w1 x).alloc _
    have RP : RowP ((w1.alloc (.cells #[.int .u64 x.va, .int .i64 x.sz, .int .u64 x.pa, .bool x.att.write, .bool x.att.priv, .bool x.att.exec, .bool x.att.lock, .bool x.att.global, .bool x.att.quiet, .bool x.ref, .bool x.mod] 38)).alloc (.cells #[.int .u64 x.va, .int .i64 x.sz, .int .u64 x.pa, .bool x.att.write, .bool x.att.priv, .bool x.att.exec, .bool x.att.lock, .bool x.att.global, .bool x.att.quiet, .bool x.ref, .bool x.mod] 38)) (w1.heap.size + 1) x := by have := RowP.new (w1.alloc (.cells #[.int .u64 x.va, .int .i64 x.sz, .int .u64 x.pa, .bool x.att.write, .bool x.att.priv, .bool x.att.exec, .bool x.att.lock, .bool x.att.global, .bool x.att.quiet, .bool x.ref, .bool x.mod] 38)) x; rwa [World.size_alloc] at this
    have U : HV w ((w1.alloc (.cells #[.int .u64 x.va, .int .i64 x.sz, .int .u64 x.pa, .bool x.att.write, .bool x.att.priv, .bool x.att.exec, .bool x.att.lock, .bool x.att.global, .bool x.att.quiet, .bool x.ref, .bool x.mod] 38)).alloc (.cells #[.int .u64 x.va, .int .i64 x.sz, .int .u64 x.pa, .bool x.att.write, .bool x.att.priv, .bool x.att.exec, .bool x.att.lock, .bool x.att.global, .bool x.att.quiet, .bool x.ref, .bool x.mod] 38)) hb sb n O ns bl L w.heap.size w1.heap.size x (w1.heap.size + 1) x := ⟨(H1.low hb1).low NB, (RowP.low R1 hb1).low NB, RO, RP, lo_step (lo_step B1 hb1) NB, hul, Nat.le_refl _, Nat.le_trans B1.size hb1.size, Nat.le_succ_of_le (Nat.le_trans B1.size hb1.size), by have h6 := hb1.size; have h7 := HB1.out; omega, by have h6 := hb1.size; have h7 := HB1.out; omega, by omega, HB0.out⟩
    have BL := lo_step (lo_step B1 hb1) NB
    have hm2 := blk_low hm BL
    clear H1 R1 B1 hb1 CA RO RP NB BL
    go_wp2_with fail
    generalize World.alloc (World.alloc w1 _) _ = W2 at *
    generalize w1.heap.size = ob at *
    refine (mark1_any (ob + 1) mb x md _ U.pg hm2).mono ?_; rintro e w3 ⟨rfl, hz3, hg3⟩
    have U3 := U.did hz3 hg3
    rw [← HY.out] at U3
    have hS := U3.cs
    clear U hz3 hg3 hm2
    go_wp2_with fail
    go_region_held3 (fun w1 => w1.cell? ⟨hb, 1, none⟩ = some (.pointer (some ⟨sb, 0, none⟩)) ∧ (w1.cell? ⟨ob, 0, none⟩ = some (.int .u64 x.va) ∧ w1.cell? ⟨ob, 1, none⟩ = some (.int .i64 x.sz) ∧ w1.cell? ⟨ob, 2, none⟩ = some (.int .u64 x.pa) ∧ w1.cell? ⟨ob, 3, none⟩ = some (.bool x.att.write) ∧ w1.cell? ⟨ob, 4, none⟩ = some (.bool x.att.priv) ∧ w1.cell? ⟨ob, 5, none⟩ = some (.bool x.att.exec) ∧ w1.cell? ⟨ob, 6, none⟩ = some (.bool x.att.lock) ∧ w1.cell? ⟨ob, 7, none⟩ = some (.bool x.att.global) ∧ w1.cell? ⟨ob, 8, none⟩ = some (.bool x.att.quiet) ∧ w1.cell? ⟨ob, 9, none⟩ = some (.bool x.ref) ∧ w1.cell? ⟨ob, 10, none⟩ = some (.bool x.mod)) ∧ w1.cell? ⟨(ob + 1), 0, none⟩ = some (.int .u64 y.va) ∧ w1.cell? ⟨(ob + 1), 1, none⟩ = some (.int .i64 y.sz) ∧ w1.cell? ⟨(ob + 1), 2, none⟩ = some (.int .u64 y.pa) ∧ w1.cell? ⟨(ob + 1), 3, none⟩ = some (.bool y.att.write) ∧ w1.cell? ⟨(ob + 1), 4, none⟩ = some (.bool y.att.priv) ∧ w1.cell? ⟨(ob + 1), 5, none⟩ = some (.bool y.att.exec) ∧ w1.cell? ⟨(ob + 1), 6, none⟩ = some (.bool y.att.lock) ∧ w1.cell? ⟨(ob + 1), 7, none⟩ = some (.bool y.att.global) ∧ w1.cell? ⟨(ob + 1), 8, none⟩ = some (.bool y.att.quiet) ∧ w1.cell? ⟨(ob + 1), 9, none⟩ = some (.bool y.ref) ∧ w1.cell? ⟨(ob + 1), 10, none⟩ = some (.bool y.mod))
      (first | (with_reducible assumption) | (with_reducible exact (KK.out.2.2 _).2.2) | (refine (HV.cs (HV.low U3 ?_)); (repeat (first | (with_reducible assumption) | (with_reducible exact Below.refl _ _) | (with_reducible refine lo_step ?_ (by assumption)) | (with_reducible refine lo_drew ?_) | (with_reducible refine lo_drewN ?_ _) | (with_reducible refine lo_alloc ?_ _) | (with_reducible refine lo_set ?_ ?_ _) | (exact Nat.le_refl _) | (exact hs2 _ (Nat.le_refl _)) | (exact hb'.size))) ))
      (first
        | (go_at_call 65; (with_reducible refine (C2.out _).mono ?_); rintro e w' ⟨rfl, hb'⟩)
        | (go_at_call 91; (with_reducible refine (C3.out _ (HV.hx (HV.low U3 (by (repeat (first | (with_reducible assumption) | (with_reducible exact Below.refl _ _) | (with_reducible refine lo_step ?_ (by assumption)) | (with_reducible refine lo_drew ?_) | (with_reducible refine lo_drewN ?_ _) | (with_reducible refine lo_alloc ?_ _) | (with_reducible refine lo_set ?_ ?_ _) | (exact Nat.le_refl _) | (exact hs2 _ (Nat.le_refl _)) | (exact hb'.size))) )))).mono ?_); rintro e w5 ⟨rfl, hTT⟩; have KK := Lib.hid (HV.keep (HV.low U3 (by (repeat (first | (with_reducible assumption) | (with_reducible exact Below.refl _ _) | (with_reducible refine lo_step ?_ (by assumption)) | (with_reducible refine lo_drew ?_) | (with_reducible refine lo_drewN ?_ _) | (with_reducible refine lo_alloc ?_ _) | (with_reducible refine lo_set ?_ ?_ _) | (exact Nat.le_refl _) | (exact hs2 _ (Nat.le_refl _)) | (exact hb'.size))) )) hTT); have Q5 := KK.out.1; obtain ⟨⟨r0, r1, r2, r3, r4, r5, r6, r7, r8, r9, r10⟩, fr⟩ := KK.out.2.1))
    all_goals
      clear Q5 hTT hS
      go_wp2_with fail
      refine bodyPost_ret (res_P2 rfl _ _ _ _ rfl (KK.out.2.2 x).1.row) rfl ?_
      exact ⟨ret_pe rfl hE.out, by rw [hT.out]; exact (KK.out.2.2 x).2.1⟩
  · rw [if_neg h0] at hE hT
    have hxz := Lib.hid (hZ.out h0)
    go_enter Tryz.func55, Tryz.ntmps55
    go_wp2_with fail
    generalize World.alloc w _ = W at *
    refine (CA.out _ H1).mono ?_; rintro e w1 ⟨rfl, hb1⟩
    have NB : Below w1.heap.size w1 (w1.alloc (.cells #[.int .u64 x.va, .int .i64 x.sz, .int .u64 x.pa, .bool x.att.write, .bool x.att.priv, .bool x.att.exec, .bool x.att.lock, .bool x.att.global, .bool x.att.quiet, .bool x.ref, .bool x.mod] 38)) := (Below.refl _ _).alloc (Nat.le_refl _) _
    have R2 := (RowP.low R1 hb1).low NB
    have BL := lo_step (lo_step B1 hb1) NB
    obtain ⟨r0, r1, r2, r3, r4, r5, r6, r7, r8, r9, r10⟩ := R2.cells
    have fr := set_one_page R2
    have KK := Lib.hid (And.intro (R2.setAll Pg.zero).1 (BL.trans ((R2.setAll Pg.zero).2 _ (Nat.le_refl _))))
    clear R2 BL NB hb1 R1 B1 H1 CA HB1
    go_wp2_with fail
    refine bodyPost_ret (res_P2 rfl _ _ _ _ rfl KK.out.1.row) rfl ?_
    exact ⟨ret_pe hxz.out hE.out, by rw [hT.out]; exact TabTo.low h.tab KK.out.2⟩
theorem change_prot {hb sb n : Nat} {O : Nat → Prop} {ns bl : Int} {L : Nat → List Bk} (s va : Int) (s0 : -9223372036854775808 ≤ s) (s1 : s ≤ 9223372036854775807) (v0 : 0 ≤ va) (v1 : va ≤ 18446744073709551615) (hx : (findV ns n L s va).wf) (ab : Nat) (a : Att) (w : World) (h : HX w hb sb n O ns bl L) (hm : w.heap[ab]? = some (.cells #[.bool a.write, .bool a.priv, .bool a.exec, .bool a.lock, .bool a.global, .bool a.quiet] 36 (0, 0))) :
    Calls Tryz.prog 55 #[.pointer (some ⟨hb, 0, none⟩), .int .i64 s, .int .u64 va, .func (.func 107) #[] #[.pointer (some ⟨ab, 0, none⟩)]] w fun e w' => e = .returned (.tuple #[.agg #[.int .u64 (findV ns n L s va).va, .int .i64 (findV ns n L s va).sz, .int .u64 (findV ns n L s va).pa, .bool (findV ns n L s va).att.write, .bool (findV ns n L s va).att.priv, .bool (findV ns n L s va).att.exec, .bool (findV ns n L s va).att.lock, .bool (findV ns n L s va).att.global, .bool (findV ns n L s va).att.quiet, .bool (findV ns n L s va).ref, .bool (findV ns n L s va).mod], .int .i64 (chE ns n L s va)]) ∧ TabTo w w' sb O n bl (chT ns n L s va (fun y => { y with att := a })) := by
  have hul : ∀ k, O k → k < w.heap.size := fun k hk => h.tab.lt hk
  have H1 : HX (w.alloc (.cells #[.int .u64 Pg.zero.va, .int .i64 Pg.zero.sz, .int .u64 Pg.zero.pa, .bool Pg.zero.att.write, .bool Pg.zero.att.priv, .bool Pg.zero.att.exec, .bool Pg.zero.att.lock, .bool Pg.zero.att.global, .bool Pg.zero.att.quiet, .bool Pg.zero.ref, .bool Pg.zero.mod] 38)) hb sb n O ns bl L := h.low (by (repeat (first | (with_reducible assumption) | (with_reducible exact Below.refl _ _) | (with_reducible refine lo_step ?_ (by assumption)) | (with_reducible refine lo_drew ?_) | (with_reducible refine lo_drewN ?_ _) | (with_reducible refine lo_alloc ?_ _))) )
  have R1 := RowP.new w Pg.zero
  have B1 : Below w.heap.size w (w.alloc (.cells #[.int .u64 Pg.zero.va, .int .i64 Pg.zero.sz, .int .u64 Pg.zero.pa, .bool Pg.zero.att.write, .bool Pg.zero.att.priv, .bool Pg.zero.att.exec, .bool Pg.zero.att.lock, .bool Pg.zero.att.global, .bool Pg.zero.att.quiet, .bool Pg.zero.ref, .bool Pg.zero.mod] 38)) := by (repeat (first | (with_reducible assumption) | (with_reducible exact Below.refl _ _) | (with_reducible refine lo_step ?_ (by assumption)) | (with_reducible refine lo_drew ?_) | (with_reducible refine lo_drewN ?_ _) | (with_reducible refine lo_alloc ?_ _))) 
  have CA := Lib.hid (fun (W : World) (h : HX W hb sb n O ns bl L) => (by
    obtain ⟨bm, V, h1⟩ := h.read
    exact at_any s va s0 s1 v0 v1 W h1 : Calls Tryz.prog 72 #[.pointer (some ⟨hb, 0, none⟩), .int .i64 s, .int .u64 va] W fun e w' => e = .returned (.tuple #[.agg #[.int .u64 (findV ns n L s va).va, .int .i64 (findV ns n L s va).sz, .int .u64 (findV ns n L s va).pa, .bool (findV ns n L s va).att.write, .bool (findV ns n L s va).att.priv, .bool (findV ns n L s va).att.exec, .bool (findV ns n L s va).att.lock, .bool (findV ns n L s va).att.global, .bool (findV ns n L s va).att.quiet, .bool (findV ns n L s va).ref, .bool (findV ns n L s va).mod], .int .i64 (atE ns n L s va)]) ∧ Below W.heap.size W w'))
  have hE := Lib.hid (show chE ns n L s va = if atE ns n L s va = 0 then setE n L (keyP s (findV ns n L s va)) else atE ns n L s va from rfl)
  have hT := Lib.hid (show chT ns n L s va (fun y => { y with att := a }) = if atE ns n L s va = 0 then setT n L (keyP s (findV ns n L s va)) { (findV ns n L s va) with att := a } else L from rfl)
  have hZ := Lib.hid (show atE ns n L s va ≠ 0 → findV ns n L s va = Pg.zero from at_zero)
  generalize findV ns n L s va = x at *
  generalize atE ns n L s va = E at *
  obtain ⟨y, hy⟩ : ∃ y : Pg, y = { x with att := a } := ⟨_, rfl⟩
  rw [← hy] at hT
  have HY := Lib.hid hy
  have C2 := Lib.hid (fun (W : World) => hkey_any s x W)
  have C3 := Lib.hid (fun (W : World) (h : HX W hb sb n O ns bl L) => set_any (keyP s x) (keyP_wf s0 s1 hx) y W h.tab)
  have HB1 := Lib.hid (show (w.alloc (.cells #[.int .u64 Pg.zero.va, .int .i64 Pg.zero.sz, .int .u64 Pg.zero.pa, .bool Pg.zero.att.write, .bool Pg.zero.att.priv, .bool Pg.zero.att.exec, .bool Pg.zero.att.lock, .bool Pg.zero.att.global, .bool Pg.zero.att.quiet, .bool Pg.zero.ref, .bool Pg.zero.mod] 38)).heap.size = w.heap.size + 1 by simp)
  have HB0 := Lib.hid (Array.getElem?_eq_some_iff.1 h.row).1
  unfold Pg.zero at H1 R1 B1 HB1
  clear hx hy
  by_cases h0 : E = 0
  · subst h0
    rw [if_pos rfl] at hE hT
    go_enter Tryz.func55, Tryz.ntmps55
    go_wp2_with fail
    generalize World.alloc w _ = W at *
    refine (CA.out _ H1).mono ?_; rintro e w1 ⟨rfl, hb1⟩
    have NB : Below w1.heap.size w1 ((w1.alloc (.cells #[.int .u64 x.va, .int .i64 x.sz, .int .u64 x.pa, .bool x.att.write, .bool x.att.priv, .bool x.att.exec, .bool x.att.lock, .bool x.att.global, .bool x.att.quiet, .bool x.ref, .bool x.mod] 38)).alloc (.cells #[.int .u64 x.va, .int .i64 x.sz, .int .u64 x.pa, .bool x.att.write, .bool x.att.priv, .bool x.att.exec, .bool x.att.lock, .bool x.att.global, .bool x.att.quiet, .bool x.ref, .bool x.mod] 38)) := by
      refine ((Below.refl _ _).alloc (Nat.le_refl _) _).alloc ?_ _
      simp
    have RO : RowP ((w1.alloc (.cells #[.int .u64 x.va, .int .i64 x.sz, .int .u64 x.pa, .bool x.att.write, .bool x.att.priv, .bool x.att.exec, .bool x.att.lock, .bool x.att.global, .bool x.att.quiet, .bool x.ref, .bool x.mod] 38)).alloc (.cells #[.int .u64 x.va, .int .i64 x.sz, .int .u64 x.pa, .bool x.att.write, .bool x.att.priv, .bool x.att.exec, .bool x.att.lock, .bool x.att.global, .bool x.att.quiet, .bool x.ref, .bool x.mod] 38)) w1.heap.size x := (RowP.new w1 x).alloc _
    have RP : RowP ((w1.alloc (.cells #[.int .u64 x.va, .int .i64 x.sz, .int .u64 x.pa, .bool x.att.write, .bool x.att.priv, .bool x.att.exec, .bool x.att.lock, .bool x.att.global, .bool x.att.quiet, .bool x.ref, .bool x.mod] 38)).alloc (.cells #[.int .u64 x.va, .int .i64 x.sz, .int .u64 x.pa, .bool x.att.write, .bool x.att.priv, .bool x.att.exec, .bool x.att.lock, .bool x.att.global, .bool x.att.quiet, .bool x.ref, .bool x.mod] 38)) (w1.heap.size + 1) x := by have := RowP.new (w1.alloc (.cells #[.int .u64 x.va, .int .i64 x.sz, .int .u64 x.pa, .bool x.att.write, .bool x.att.priv, .bool x.att.exec, .bool x.att.lock, .bool x.att.global, .bool x.att.quiet, .bool x.ref, .bool x.mod] 38)) x; rwa [World.size_alloc] at this
    have U : HV w ((w1.alloc (.cells #[.int .u64 x.va, .int .i64 x.sz, .int .u64 x.pa, .bool x.att.write, .bool x.att.priv, .bool x.att.exec, .bool x.att.lock, .bool x.att.global, .bool x.att.quiet, .bool x.ref, .bool x.mod] 38)).alloc (.cells #[.int .u64 x.va, .int .i64 x.sz, .int .u64 x.pa, .bool x.att.write, .bool x.att.priv, .bool x.att.exec, .bool x.att.lock, .bool x.att.global, .bool x.att.quiet, .bool x.ref, .bool x.mod] 38)) hb sb n O ns bl L w.heap.size w1.heap.size x (w1.heap.size + 1) x := ⟨(H1.low hb1).low NB, (RowP.low R1 hb1).low NB, RO, RP, lo_step (lo_step B1 hb1) NB, hul, Nat.le_refl _, Nat.le_trans B1.size hb1.size, Nat.le_succ_of_le (Nat.le_trans B1.size hb1.size), by have h6 := hb1.size; have h7 := HB1.out; omega, by have h6 := hb1.size; have h7 := HB1.out; omega, by omega, HB0.out⟩
    have BL := lo_step (lo_step B1 hb1) NB
    have hm2 := blk_low hm BL
    clear H1 R1 B1 hb1 CA RO RP NB BL
    go_wp2_with fail
    generalize World.alloc (World.alloc w1 _) _ = W2 at *
    generalize w1.heap.size = ob at *
    refine (prot1_any (ob + 1) ab x a _ U.pg hm2).mono ?_; rintro e w3 ⟨rfl, hz3, hg3⟩
    have U3 := U.did hz3 hg3
    rw [← HY.out] at U3
    have hS := U3.cs
    clear U hz3 hg3 hm2
    go_wp2_with fail
    go_region_held3 (fun w1 => w1.cell? ⟨hb, 1, none⟩ = some (.pointer (some ⟨sb, 0, none⟩)) ∧ (w1.cell? ⟨ob, 0, none⟩ = some (.int .u64 x.va) ∧ w1.cell? ⟨ob, 1, none⟩ = some (.int .i64 x.sz) ∧ w1.cell? ⟨ob, 2, none⟩ = some (.int .u64 x.pa) ∧ w1.cell? ⟨ob, 3, none⟩ = some (.bool x.att.write) ∧ w1.cell? ⟨ob, 4, none⟩ = some (.bool x.att.priv) ∧ w1.cell? ⟨ob, 5, none⟩ = some (.bool x.att.exec) ∧ w1.cell? ⟨ob, 6, none⟩ = some (.bool x.att.lock) ∧ w1.cell? ⟨ob, 7, none⟩ = some (.bool x.att.global) ∧ w1.cell? ⟨ob, 8, none⟩ = some (.bool x.att.quiet) ∧ w1.cell? ⟨ob, 9, none⟩ = some (.bool x.ref) ∧ w1.cell? ⟨ob, 10, none⟩ = some (.bool x.mod)) ∧ w1.cell? ⟨(ob + 1), 0, none⟩ = some (.int .u64 y.va) ∧ w1.cell? ⟨(ob + 1), 1, none⟩ = some (.int .i64 y.sz) ∧ w1.cell? ⟨(ob + 1), 2, none⟩ = some (.int .u64 y.pa) ∧ w1.cell? ⟨(ob + 1), 3, none⟩ = some (.bool y.att.write) ∧ w1.cell? ⟨(ob + 1), 4, none⟩ = some (.bool y.att.priv) ∧ w1.cell? ⟨(ob + 1), 5, none⟩ = some (.bool y.att.exec) ∧ w1.cell? ⟨(ob + 1), 6, none⟩ = some (.bool y.att.lock) ∧ w1.cell? ⟨(ob + 1), 7, none⟩ = some (.bool y.att.global) ∧ w1.cell? ⟨(ob + 1), 8, none⟩ = some (.bool y.att.quiet) ∧ w1.cell? ⟨(ob + 1), 9, none⟩ = some (.bool y.ref) ∧ w1.cell? ⟨(ob + 1), 10, none⟩ = some (.bool y.mod))
      (first | (with_reducible assumption) | (with_reducible exact (KK.out.2.2 _).2.2) | (refine (HV.cs (HV.low U3 ?_)); (repeat (first | (with_reducible assumption) | (with_reducible exact Below.refl _ _) | (with_reducible refine lo_step ?_ (by assumption)) | (with_reducible refine lo_drew ?_) | (with_reducible refine lo_drewN ?_ _) | (with_reducible refine lo_alloc ?_ _) | (with_reducible refine lo_set ?_ ?_ _) | (exact Nat.le_refl _) | (exact hs2 _ (Nat.le_refl _)) | (exact hb'.size))) ))
      (first
        | (go_at_call 65; (with_reducible refine (C2.out _).mono ?_); rintro e w' ⟨rfl, hb'⟩)
        | (go_at_call 91; (with_reducible refine (C3.out _ (HV.hx (HV.low U3 (by (repeat (first | (with_reducible assumption) | (with_reducible exact Below.refl _ _) | (with_reducible refine lo_step ?_ (by assumption)) | (with_reducible refine lo_drew ?_) | (with_reducible refine lo_drewN ?_ _) | (with_reducible refine lo_alloc ?_ _) | (with_reducible refine lo_set ?_ ?_ _) | (exact Nat.le_refl _) | (exact hs2 _ (Nat.le_refl _)) | (exact hb'.size))) )))).mono ?_); rintro e w5 ⟨rfl, hTT⟩; have KK := Lib.hid (HV.keep (HV.low U3 (by (repeat (first | (with_reducible assumption) | (with_reducible exact Below.refl _ _) | (with_reducible refine lo_step ?_ (by assumption)) | (with_reducible refine lo_drew ?_) | (with_reducible refine lo_drewN ?_ _) | (with_reducible refine lo_alloc ?_ _) | (with_reducible refine lo_set ?_ ?_ _) | (exact Nat.le_refl _) | (exact hs2 _ (Nat.le_refl _)) | (exact hb'.size))) )) hTT); have Q5 := KK.out.1; obtain ⟨⟨r0, r1, r2, r3, r4, r5, r6, r7, r8, r9, r10⟩, fr⟩ := KK.out.2.1))
    all_goals
      clear Q5 hTT hS
      go_wp2_with fail
      refine bodyPost_ret (res_P2 rfl _ _ _ _ rfl (KK.out.2.2 x).1.row) rfl ?_
      exact ⟨ret_pe rfl hE.out, by rw [hT.out]; exact (KK.out.2.2 x).2.1⟩
  · rw [if_neg h0] at hE hT
    have hxz := Lib.hid (hZ.out h0)
    go_enter Tryz.func55, Tryz.ntmps55
    go_wp2_with fail
    generalize World.alloc w _ = W at *
    refine (CA.out _ H1).mono ?_; rintro e w1 ⟨rfl, hb1⟩
    have NB : Below w1.heap.size w1 (w1.alloc (.cells #[.int .u64 x.va, .int .i64 x.sz, .int .u64 x.pa, .bool x.att.write, .bool x.att.priv, .bool x.att.exec, .bool x.att.lock, .bool x.att.global, .bool x.att.quiet, .bool x.ref, .bool x.mod] 38)) := (Below.refl _ _).alloc (Nat.le_refl _) _
    have R2 := (RowP.low R1 hb1).low NB
    have BL := lo_step (lo_step B1 hb1) NB
    obtain ⟨r0, r1, r2, r3, r4, r5, r6, r7, r8, r9, r10⟩ := R2.cells
    have fr := set_one_page R2
    have KK := Lib.hid (And.intro (R2.setAll Pg.zero).1 (BL.trans ((R2.setAll Pg.zero).2 _ (Nat.le_refl _))))
    clear R2 BL NB hb1 R1 B1 H1 CA HB1
    go_wp2_with fail
    refine bodyPost_ret (res_P2 rfl _ _ _ _ rfl KK.out.1.row) rfl ?_
    exact ⟨ret_pe hxz.out hE.out, by rw [hT.out]; exact TabTo.low h.tab KK.out.2⟩
end Go.Proofs.YtffpfceclhogoaaGreat.Hp
namespace Go.Proofs.YtffpfceclhogoaaGreat.Hp
open Fld Hs
open Go.ChangeShapes Go.WideShapes Go.ChangeAt Go.RowKit Go.Maps
set_option maxHeartbeats 1000000
set_option maxRecDepth 100000
section
variable {hb sb n : Nat} {O : Nat → Prop} {ns bl : Int} {L : Nat → List Bk}
theorem hresize_no (m : Int) (hm : m < 1) (w : World) (h : HX w hb sb n O ns bl L) : Calls Tryz.prog 37 #[.pointer (some ⟨hb, 0, none⟩), .int .i64 m] w fun e w' => e = .returned (.int .i64 1) ∧ TabTo w w' sb O n bl L := by
  obtain ⟨c0, c1⟩ := h.cells
  have C := Lib.hid (fun W => resize_no (sb := sb) m hm W)
  have hT := Lib.hid h.tab
  clear h
  go_enter Tryz.func37, Tryz.ntmps37
  go_wp2_with fail
  refine (C.out _).mono ?_; rintro e w1 ⟨rfl, hb1⟩
  go_wp2_with fail
  go_ret
  exact ⟨rfl, TabTo.low hT.out hb1⟩
theorem hresize_yes (m : Nat) (hm : 1 ≤ m) (m1 : m ≤ 9223372036854775807) (w : World) (h : HX w hb sb n O ns bl L) : Calls Tryz.prog 37 #[.pointer (some ⟨hb, 0, none⟩), .int .i64 (m : Int)] w fun e w' => e = .returned (.int .i64 0) ∧ TabTo w w' sb O m bl (resT L n m) := by
  obtain ⟨c0, c1⟩ := h.cells
  have C := Lib.hid (fun (W : World) (h : HX W hb sb n O ns bl L) => resize_yes m hm m1 W h.tab)
  go_enter Tryz.func37, Tryz.ntmps37
  go_wp2_with fail
  refine (C.out _ h).mono ?_; rintro e w1 ⟨rfl, hT⟩
  go_wp2_with fail
  go_ret
  exact ⟨rfl, hT⟩
theorem hmark_any (s va : Int) (s0 : -9223372036854775808 ≤ s) (s1 : s ≤ 9223372036854775807) (v0 : 0 ≤ va) (v1 : va ≤ 18446744073709551615) (hx : (findV ns n L s va).wf) (md : Bool) (w : World) (h : HX w hb sb n O ns bl L) :
    Calls Tryz.prog 21 #[.pointer (some ⟨hb, 0, none⟩), .int .i64 s, .int .u64 va, .bool md] w fun e w' => e = .returned (.int .i64 (chE ns n L s va)) ∧ TabTo w w' sb O n bl (chT ns n L s va (fun y => { y with ref := true, mod := y.mod || md })) := by
  have B1 : Below w.heap.size w (w.alloc (.cells #[.bool md] 4)) := by (repeat (first | (with_reducible assumption) | (with_reducible exact Below.refl _ _) | (with_reducible refine lo_step ?_ (by assumption)) | (with_reducible refine lo_drew ?_) | (with_reducible refine lo_drewN ?_ _) | (with_reducible refine lo_alloc ?_ _))) 
  have C := Lib.hid (change_mark s va s0 s1 v0 v1 hx w.heap.size md _ (h.low B1) (heap_alloc_new w _))
  generalize findV ns n L s va = x at *
  clear h
  go_enter Tryz.func21, Tryz.ntmps21
  go_wp2_with fail
  refine C.out.mono ?_; rintro e w1 ⟨rfl, hT⟩
  have TT := TabTo.from_ B1 hT
  have T2 := TT.on (w' := w1.alloc (.cells #[.int .u64 x.va, .int .i64 x.sz, .int .u64 x.pa, .bool x.att.write, .bool x.att.priv, .bool x.att.exec, .bool x.att.lock, .bool x.att.global, .bool x.att.quiet, .bool x.ref, .bool x.mod] 38)) (by (repeat (first | (with_reducible assumption) | (with_reducible exact Below.refl _ _) | (with_reducible refine lo_step ?_ (by assumption)) | (with_reducible refine lo_drew ?_) | (with_reducible refine lo_drewN ?_ _) | (with_reducible refine lo_alloc ?_ _))) )
  clear hT TT B1 C
  go_wp2_with fail
  go_ret
  exact ⟨rfl, T2⟩
theorem hclear_any (s va : Int) (s0 : -9223372036854775808 ≤ s) (s1 : s ≤ 9223372036854775807) (v0 : 0 ≤ va) (v1 : va ≤ 18446744073709551615) (hx : (findV ns n L s va).wf) (w : World) (h : HX w hb sb n O ns bl L) :
    Calls Tryz.prog 22 #[.pointer (some ⟨hb, 0, none⟩), .int .i64 s, .int .u64 va] w fun e w' => e = .returned (.tuple #[.agg #[.int .u64 (findV ns n L s va).va, .int .i64 (findV ns n L s va).sz, .int .u64 (findV ns n L s va).pa, .bool (findV ns n L s va).att.write, .bool (findV ns n L s va).att.priv, .bool (findV ns n L s va).att.exec, .bool (findV ns n L s va).att.lock, .bool (findV ns n L s va).att.global, .bool (findV ns n L s va).att.quiet, .bool (findV ns n L s va).ref, .bool (findV ns n L s va).mod], .int .i64 (chE ns n L s va)]) ∧ TabTo w w' sb O n bl (chT ns n L s va (fun y => { y with ref := false, mod := false })) := by
  have hul : ∀ k, O k → k < w.heap.size := fun k hk => h.tab.lt hk
  have B1 : Below w.heap.size w (w.alloc (.cells #[.int .u64 Pg.zero.va, .int .i64 Pg.zero.sz, .int .u64 Pg.zero.pa, .bool Pg.zero.att.write, .bool Pg.zero.att.priv, .bool Pg.zero.att.exec, .bool Pg.zero.att.lock, .bool Pg.zero.att.global, .bool Pg.zero.att.quiet, .bool Pg.zero.ref, .bool Pg.zero.mod] 38)) := by (repeat (first | (with_reducible assumption) | (with_reducible exact Below.refl _ _) | (with_reducible refine lo_step ?_ (by assumption)) | (with_reducible refine lo_drew ?_) | (with_reducible refine lo_drewN ?_ _) | (with_reducible refine lo_alloc ?_ _))) 
  have R1 := RowP.new w Pg.zero
  have H1 := h.low B1
  have C := Lib.hid (change_clear s va s0 s1 v0 v1 hx _ H1)
  have HZ := Lib.hid (show w.heap.size < (w.alloc (.cells #[.int .u64 Pg.zero.va, .int .i64 Pg.zero.sz, .int .u64 Pg.zero.pa, .bool Pg.zero.att.write, .bool Pg.zero.att.priv, .bool Pg.zero.att.exec, .bool Pg.zero.att.lock, .bool Pg.zero.att.global, .bool Pg.zero.att.quiet, .bool Pg.zero.ref, .bool Pg.zero.mod] 38)).heap.size by simp)
  generalize findV ns n L s va = x at *
  unfold Pg.zero at B1 R1 H1 C HZ
  clear h
  go_enter Tryz.func22, Tryz.ntmps22
  go_wp2_with fail
  generalize World.alloc w _ = W at *
  refine C.out.mono ?_; rintro e w1 ⟨rfl, hT⟩
  have R2 : RowP w1 w.heap.size Pg.zero := by
    obtain ⟨O', _, k2, _⟩ := hT
    exact ⟨(k2.block _ HZ.out (fun e => by have := hul _ e; omega)).trans R1.row⟩
  obtain ⟨r0, r1, r2, r3, r4, r5, r6, r7, r8, r9, r10⟩ := R2.cells
  have fr := set_one_page R2
  have K := Lib.hid (TabTo.put11 B1 hT (Nat.le_refl _) HZ.out hul R2 x)
  clear hT R1 R2 B1 H1 C HZ
  go_wp2_with fail
  refine bodyPost_ret (res_P2 rfl _ _ _ _ rfl K.out.1.row) rfl ?_
  exact ⟨rfl, K.out.2⟩
theorem hprot_any (s va : Int) (s0 : -9223372036854775808 ≤ s) (s1 : s ≤ 9223372036854775807) (v0 : 0 ≤ va) (v1 : va ≤ 18446744073709551615) (hx : (findV ns n L s va).wf) (a : Att) (w : World) (h : HX w hb sb n O ns bl L) :
    Calls Tryz.prog 78 #[.pointer (some ⟨hb, 0, none⟩), .int .i64 s, .int .u64 va, .agg #[.bool a.write, .bool a.priv, .bool a.exec, .bool a.lock, .bool a.global, .bool a.quiet]] w fun e w' => e = .returned (.tuple #[.agg #[.int .u64 (findV ns n L s va).va, .int .i64 (findV ns n L s va).sz, .int .u64 (findV ns n L s va).pa, .bool (findV ns n L s va).att.write, .bool (findV ns n L s va).att.priv, .bool (findV ns n L s va).att.exec, .bool (findV ns n L s va).att.lock, .bool (findV ns n L s va).att.global, .bool (findV ns n L s va).att.quiet, .bool (findV ns n L s va).ref, .bool (findV ns n L s va).mod], .int .i64 (chE ns n L s va)]) ∧ TabTo w w' sb O n bl (chT ns n L s va (fun y => { y with att := a })) := by
  have hul : ∀ k, O k → k < w.heap.size := fun k hk => h.tab.lt hk
  have B0 : Below w.heap.size w (w.alloc (.cells #[.bool a.write, .bool a.priv, .bool a.exec, .bool a.lock, .bool a.global, .bool a.quiet] 36)) := (Below.refl _ _).alloc (Nat.le_refl _) _
  have B1 : Below w.heap.size w ((w.alloc (.cells #[.bool a.write, .bool a.priv, .bool a.exec, .bool a.lock, .bool a.global, .bool a.quiet] 36)).alloc (.cells #[.int .u64 Pg.zero.va, .int .i64 Pg.zero.sz, .int .u64 Pg.zero.pa, .bool Pg.zero.att.write, .bool Pg.zero.att.priv, .bool Pg.zero.att.exec, .bool Pg.zero.att.lock, .bool Pg.zero.att.global, .bool Pg.zero.att.quiet, .bool Pg.zero.ref, .bool Pg.zero.mod] 38)) := B0.alloc B0.size _
  have R1 : RowP ((w.alloc (.cells #[.bool a.write, .bool a.priv, .bool a.exec, .bool a.lock, .bool a.global, .bool a.quiet] 36)).alloc (.cells #[.int .u64 Pg.zero.va, .int .i64 Pg.zero.sz, .int .u64 Pg.zero.pa, .bool Pg.zero.att.write, .bool Pg.zero.att.priv, .bool Pg.zero.att.exec, .bool Pg.zero.att.lock, .bool Pg.zero.att.global, .bool Pg.zero.att.quiet, .bool Pg.zero.ref, .bool Pg.zero.mod] 38)) (w.heap.size + 1) Pg.zero := by have := RowP.new (w.alloc (.cells #[.bool a.write, .bool a.priv, .bool a.exec, .bool a.lock, .bool a.global, .bool a.quiet] 36)) Pg.zero; rwa [World.size_alloc] at this
  have H1 := h.low B1
  have hA := blk_low (heap_alloc_new w (.cells #[.bool a.write, .bool a.priv, .bool a.exec, .bool a.lock, .bool a.global, .bool a.quiet] 36)) ((Below.refl _ _).alloc (Nat.le_refl _) (.cells #[.int .u64 Pg.zero.va, .int .i64 Pg.zero.sz, .int .u64 Pg.zero.pa, .bool Pg.zero.att.write, .bool Pg.zero.att.priv, .bool Pg.zero.att.exec, .bool Pg.zero.att.lock, .bool Pg.zero.att.global, .bool Pg.zero.att.quiet, .bool Pg.zero.ref, .bool Pg.zero.mod] 38))
  have C := Lib.hid (change_prot s va s0 s1 v0 v1 hx w.heap.size a _ H1 hA)
  have HZ := Lib.hid (show w.heap.size + 1 < ((w.alloc (.cells #[.bool a.write, .bool a.priv, .bool a.exec, .bool a.lock, .bool a.global, .bool a.quiet] 36)).alloc (.cells #[.int .u64 Pg.zero.va, .int .i64 Pg.zero.sz, .int .u64 Pg.zero.pa, .bool Pg.zero.att.write, .bool Pg.zero.att.priv, .bool Pg.zero.att.exec, .bool Pg.zero.att.lock, .bool Pg.zero.att.global, .bool Pg.zero.att.quiet, .bool Pg.zero.ref, .bool Pg.zero.mod] 38)).heap.size by simp)
  generalize findV ns n L s va = x at *
  unfold Pg.zero at B1 R1 H1 C HZ
  clear h hA B0
  go_enter Tryz.func78, Tryz.ntmps78
  go_wp2_with fail
  generalize World.alloc (World.alloc w _) _ = W at *
  refine C.out.mono ?_; rintro e w1 ⟨rfl, hT⟩
  have R2 : RowP w1 (w.heap.size + 1) Pg.zero := by
    obtain ⟨O', _, k2, _⟩ := hT
    exact ⟨(k2.block _ HZ.out (fun e => by have := hul _ e; omega)).trans R1.row⟩
  obtain ⟨r0, r1, r2, r3, r4, r5, r6, r7, r8, r9, r10⟩ := R2.cells
  have fr := set_one_page R2
  have K := Lib.hid (TabTo.put11 B1 hT (Nat.le_succ _) HZ.out hul R2 x)
  clear hT R1 R2 B1 H1 C HZ
  go_wp2_with fail
  refine bodyPost_ret (res_P2 rfl _ _ _ _ rfl K.out.1.row) rfl ?_
  exact ⟨rfl, K.out.2⟩
end
end Go.Proofs.YtffpfceclhogoaaGreat.Hp
