/-
  YtffpfceclhogoaaGreatGQ: the contracts and plain facts of several texts, laid together. Conditions: those that each theorem names.
-/
import Derived.Test.YtffpfceclhogoaaGreatGP
import Derived.ChangeSame
import Derived.Lib.SmallJoins
import Derived.ShutString
import Derived.Deep.Slices
import Derived.Deep.Fields
import Derived.OpenShut
import Derived.Deep.RegionHeld3
import Derived.Deep.MidRow
import Derived.Deep.CutBlock
import Derived.Deep.DeepCutAuto
namespace Go.Proofs.YtffpfceclhogoaaGreat.Hp
open Fld Hs
open Go.ChangeShapes Go.WideShapes Go.ChangeAt Go.RowKit Go.Deep
set_option maxHeartbeats 2000000
set_option maxRecDepth 100000
theorem laidOut : laidOutB Tryz.prog = true := by kernel_rfl
def Pg.lits (p : Pg) : Prop := (Lit.int .u64 p.va).wf = true ∧ (Lit.int .i64 p.sz).wf = true ∧ (Lit.int .u64 p.pa).wf = true
def adatum {H : Type} (a : Att) : DataW H := .agg [.lit (.bool a.write), .lit (.bool a.priv), .lit (.bool a.exec), .lit (.bool a.lock), .lit (.bool a.global), .lit (.bool a.quiet)]
def Pg.datum {H : Type} (p : Pg) : DataW H := .agg [.lit (.int .u64 p.va), .lit (.int .i64 p.sz), .lit (.int .u64 p.pa), adatum p.att, .lit (.bool p.ref), .lit (.bool p.mod)]
theorem Pg.lits_wf {p : Pg} (h : p.lits) : p.wf := by
  obtain ⟨h1, h2, h3⟩ := h
  exact ⟨(bounds_u64 h1).1, (bounds_u64 h1).2, (bounds_i64 h2).1, (bounds_i64 h2).2, (bounds_u64 h3).1, (bounds_u64 h3).2⟩
structure DeedV where
  kind : Int
  sp : Int
  n : Int
  p : Pg
  va : Int
  att : Att
  mod : Bool
  raw : Bool
  near : Bool
structure DeedV.wf (d : DeedV) : Prop where
  k0 : -9223372036854775808 ≤ d.kind
  k1 : d.kind ≤ 9223372036854775807
  s0 : -9223372036854775808 ≤ d.sp
  s1 : d.sp ≤ 9223372036854775807
  n0 : -9223372036854775808 ≤ d.n
  n1 : d.n ≤ 9223372036854775807
  p : d.p.wf
  v0 : 0 ≤ d.va
  v1 : d.va ≤ 18446744073709551615
def attC (a : Att) : List Value := [.bool a.write, .bool a.priv, .bool a.exec, .bool a.lock, .bool a.global, .bool a.quiet]
section
variable {H : Type} {enc : TypeId × Value → H} {w : World} {base : Nat} {spare : Nat → Bool} {held : Bool}
theorem pcells_attr : Tryz.prog.cellsOf 36 = 6 := by kernel_rfl
theorem pcells_page : Tryz.prog.cellsOf 38 = 11 := by kernel_rfl
theorem pcells_int : Tryz.prog.cellsOf 3 = 1 := by kernel_rfl
theorem pcells_u64 : Tryz.prog.cellsOf 34 = 1 := by kernel_rfl
theorem pcells_bool : Tryz.prog.cellsOf 4 = 1 := by kernel_rfl
theorem ptrod_bool {t : TypeId} {b : Bool} (ht : Tryz.prog.underlying t = some .bool) (n : Nat) : DataW.trod enc Tryz.prog w base spare held (n + 1) t [.bool b] = some (.lit (.bool b), []) := by
  unfold DataW.trod; rw [ht]
theorem pattr_at (a : Att) (n : Nat) : DataW.trod enc Tryz.prog w base spare held (n + 2) 36 [.bool a.write, .bool a.priv, .bool a.exec, .bool a.lock, .bool a.global, .bool a.quiet] = some (adatum a, []) := by
  have := trod_struct_mk (enc := enc) (w := w) (base := base) (spare := spare) (held := held) (n := n + 1) (cs := [.bool a.write, .bool a.priv, .bool a.exec, .bool a.lock, .bool a.global, .bool a.quiet])
    (xs := [(.lit (.bool a.write), []), (.lit (.bool a.priv), []), (.lit (.bool a.exec), []), (.lit (.bool a.lock), []), (.lit (.bool a.global), []), (.lit (.bool a.quiet), [])]) Tryz.underlying36 (by rw [pcells_attr]; rfl) (by simp [pcells_bool, ptrod_bool Tryz.underlying4])
  simpa [adatum] using this
theorem shut_page {p : Pg} (h : p.lits) : DataW.Trod enc Tryz.prog w base spare held 38 (.agg #[.int .u64 p.va, .int .i64 p.sz, .int .u64 p.pa, .bool p.att.write, .bool p.att.priv, .bool p.att.exec, .bool p.att.lock, .bool p.att.global, .bool p.att.quiet, .bool p.ref, .bool p.mod]) p.datum [] := by
  obtain ⟨h1, h2, h3⟩ := h
  refine ⟨3, ?_⟩
  have := trod_struct_mk (enc := enc) (w := w) (base := base) (spare := spare) (held := held) (n := 2) (cs := [.int .u64 p.va, .int .i64 p.sz, .int .u64 p.pa, .bool p.att.write, .bool p.att.priv, .bool p.att.exec, .bool p.att.lock, .bool p.att.global, .bool p.att.quiet, .bool p.ref, .bool p.mod])
    (xs := [(.lit (.int .u64 p.va), []), (.lit (.int .i64 p.sz), []), (.lit (.int .u64 p.pa), []), (adatum p.att, []), (.lit (.bool p.ref), []), (.lit (.bool p.mod), [])]) Tryz.underlying38 (by rw [pcells_page]; rfl)
    (by simp [pcells_int, pcells_u64, pcells_bool, pcells_attr, ptrod_bool Tryz.underlying4, trod_int_mk 1 Tryz.underlying34 h1, trod_int_mk 1 Tryz.underlying3 h2, trod_int_mk 1 Tryz.underlying34 h3, pattr_at p.att 0])
  simpa [Value.cells, Pg.datum] using this
theorem trod_att {n : Nat} {cs : List Value} {y : DataW H × List MemPlace} (hl : cs.length = 6) (h : DataW.trod enc Tryz.prog w base spare held n 36 cs = some y) : ∃ a : Att, cs = attC a ∧ y = (adatum a, []) := by
  match cs, hl with
  | [c0, c1, c2, c3, c4, c5], _ =>
    obtain ⟨xs, m, _, hx, _, hlen, hh⟩ := DataW.trod_struct Tryz.underlying36 h
    match xs, hlen with
    | [u0, u1, u2, u3, u4, u5], _ =>
      have f0 : DataW.trod enc Tryz.prog w base spare held m 4 [c0] = some u0 := by simpa [pcells_bool] using hh 0 _ rfl
      obtain ⟨b0, r0, s0⟩ := DataW.trod_bool Tryz.underlying4 f0
      have f1 : DataW.trod enc Tryz.prog w base spare held m 4 [c1] = some u1 := by simpa [pcells_bool] using hh 1 _ rfl
      obtain ⟨b1, r1, s1⟩ := DataW.trod_bool Tryz.underlying4 f1
      have f2 : DataW.trod enc Tryz.prog w base spare held m 4 [c2] = some u2 := by simpa [pcells_bool] using hh 2 _ rfl
      obtain ⟨b2, r2, s2⟩ := DataW.trod_bool Tryz.underlying4 f2
      have f3 : DataW.trod enc Tryz.prog w base spare held m 4 [c3] = some u3 := by simpa [pcells_bool] using hh 3 _ rfl
      obtain ⟨b3, r3, s3⟩ := DataW.trod_bool Tryz.underlying4 f3
      have f4 : DataW.trod enc Tryz.prog w base spare held m 4 [c4] = some u4 := by simpa [pcells_bool] using hh 4 _ rfl
      obtain ⟨b4, r4, s4⟩ := DataW.trod_bool Tryz.underlying4 f4
      have f5 : DataW.trod enc Tryz.prog w base spare held m 4 [c5] = some u5 := by simpa [pcells_bool] using hh 5 _ rfl
      obtain ⟨b5, r5, s5⟩ := DataW.trod_bool Tryz.underlying4 f5
      simp only [List.cons.injEq, and_true] at r0 r1 r2 r3 r4 r5
      subst r0 r1 r2 r3 r4 r5 s0 s1 s2 s3 s4 s5
      refine ⟨⟨b0, b1, b2, b3, b4, b5⟩, rfl, ?_⟩
      rw [hx]; rfl
theorem trod_page {n : Nat} {cs : List Value} {y : DataW H × List MemPlace} (hl : cs.length = 11) (h : DataW.trod enc Tryz.prog w base spare held n 38 cs = some y) : ∃ p : Pg, cs = pgC p ∧ p.lits ∧ y = (p.datum, []) := by
  match cs, hl with
  | [c0, c1, c2, c3, c4, c5, c6, c7, c8, c9, c10], _ =>
    obtain ⟨xs, n, _, hx, _, hlen, hg⟩ := DataW.trod_struct Tryz.underlying38 h
    match xs, hlen with
    | [y0, y1, y2, y3, y4, y5], _ =>
      have g0 : DataW.trod enc Tryz.prog w base spare held n 34 [c0] = some y0 := by simpa [pcells_u64] using hg 0 _ rfl
      have g1 : DataW.trod enc Tryz.prog w base spare held n 3 [c1] = some y1 := by simpa [pcells_int, pcells_u64] using hg 1 _ rfl
      have g2 : DataW.trod enc Tryz.prog w base spare held n 34 [c2] = some y2 := by simpa [pcells_int, pcells_u64] using hg 2 _ rfl
      have g3 : DataW.trod enc Tryz.prog w base spare held n 36 [c3, c4, c5, c6, c7, c8] = some y3 := by simpa [pcells_int, pcells_u64, pcells_attr] using hg 3 _ rfl
      have g4 : DataW.trod enc Tryz.prog w base spare held n 4 [c9] = some y4 := by simpa [pcells_int, pcells_u64, pcells_attr, pcells_bool] using hg 4 _ rfl
      have g5 : DataW.trod enc Tryz.prog w base spare held n 4 [c10] = some y5 := by simpa [pcells_int, pcells_u64, pcells_attr, pcells_bool] using hg 5 _ rfl
      obtain ⟨a0, q0, z0, w0⟩ := DataW.trod_int Tryz.underlying34 g0
      obtain ⟨a1, q1, z1, w1⟩ := DataW.trod_int Tryz.underlying3 g1
      obtain ⟨a2, q2, z2, w2⟩ := DataW.trod_int Tryz.underlying34 g2
      obtain ⟨a, ha, hy⟩ := trod_att rfl g3
      obtain ⟨a4, q4, z4⟩ := DataW.trod_bool Tryz.underlying4 g4
      obtain ⟨a5, q5, z5⟩ := DataW.trod_bool Tryz.underlying4 g5
      simp only [attC, List.cons.injEq, and_true] at q0 q1 q2 q4 q5 ha
      obtain ⟨r0, r1, r2, r3, r4, r5⟩ := ha
      subst q0 q1 q2 q4 q5 r0 r1 r2 r3 r4 r5 z0 z1 z2 z4 z5 hy
      refine ⟨⟨a0, a1, a2, a, a4, a5⟩, rfl, ⟨w0, w1, w2⟩, ?_⟩
      rw [hx]; rfl
theorem open_page {r : Reach} {b0 : Nat} {v : Value} {d : DataW H} {p : List MemPlace} (hv : Value.okWide Tryz.prog w r b0 38 v) (h : DataW.Trod enc Tryz.prog w base spare held 38 v d p) :
    ∃ q : Pg, v = .agg #[.int .u64 q.va, .int .i64 q.sz, .int .u64 q.pa, .bool q.att.write, .bool q.att.priv, .bool q.att.exec, .bool q.att.lock, .bool q.att.global, .bool q.att.quiet, .bool q.ref, .bool q.mod] ∧ d = q.datum ∧ p = [] ∧ q.lits := by
  obtain ⟨cs, rfl, hsz⟩ := okWide_struct Tryz.underlying38 hv
  obtain ⟨l⟩ := cs
  obtain ⟨fuel, hf⟩ := h
  match l, hsz.trans pcells_page with
  | [c0, c1, c2, c3, c4, c5, c6, c7, c8, c9, c10], _ =>
    obtain ⟨k, hc, hk, he⟩ := trod_page (cs := [c0, c1, c2, c3, c4, c5, c6, c7, c8, c9, c10]) rfl hf
    injection he with h1 h2
    exact ⟨k, by rw [hc]; rfl, h1, h2, hk⟩
def deedL (d : DeedV) : List Value := [.int .i64 d.kind, .int .i64 d.sp, .int .i64 d.n, .int .u64 d.p.va, .int .i64 d.p.sz, .int .u64 d.p.pa, .bool d.p.att.write, .bool d.p.att.priv, .bool d.p.att.exec, .bool d.p.att.lock, .bool d.p.att.global, .bool d.p.att.quiet, .bool d.p.ref, .bool d.p.mod, .int .u64 d.va, .bool d.att.write, .bool d.att.priv, .bool d.att.exec, .bool d.att.lock, .bool d.att.global, .bool d.att.quiet, .bool d.mod, .bool d.raw, .bool d.near]
/-- What the walk is told of deeds that came in. -/
def IsDeeds (w : World) (a : Option Addr) (len cap : Nat) : Prop :=
  (a = none ∧ len = 0) ∨
  ∃ x : Addr, a = some x ∧ len ≤ cap ∧ cap ≤ maxLen ∧ ∀ i, i < len → ∃ d : DeedV, d.wf ∧ ∀ k v, (deedL d)[k]? = some v → w.cell? (x.add (i * 24 + k)) = some v
theorem cells_deed : Tryz.prog.cellsOf 40 = 24 := by kernel_rfl
theorem trod_deed {n : Nat} {cs : List Value} {y : DataW H × List MemPlace} (hl : cs.length = 24) (h : DataW.trod enc Tryz.prog w base spare held n 40 cs = some y) : ∃ d : DeedV, cs = deedL d ∧ d.wf := by
  match cs, hl with
  | [c0, c1, c2, d0, d1, d2, d3, d4, d5, d6, d7, d8, d9, d10, c4, e0, e1, e2, e3, e4, e5, c6, c7, c8], _ =>
    obtain ⟨xs, n, _, hx, _, hlen, hg⟩ := DataW.trod_struct Tryz.underlying40 h
    match xs, hlen with
    | [y0, y1, y2, y3, y4, y5, y6, y7, y8], _ =>
      have g0 : DataW.trod enc Tryz.prog w base spare held n 3 [c0] = some y0 := by simpa [pcells_int] using hg 0 _ rfl
      have g1 : DataW.trod enc Tryz.prog w base spare held n 3 [c1] = some y1 := by simpa [pcells_int] using hg 1 _ rfl
      have g2 : DataW.trod enc Tryz.prog w base spare held n 3 [c2] = some y2 := by simpa [pcells_int] using hg 2 _ rfl
      have g3 : DataW.trod enc Tryz.prog w base spare held n 38 [d0, d1, d2, d3, d4, d5, d6, d7, d8, d9, d10] = some y3 := by simpa [pcells_int, pcells_page] using hg 3 _ rfl
      have g4 : DataW.trod enc Tryz.prog w base spare held n 34 [c4] = some y4 := by simpa [pcells_int, pcells_page, pcells_u64] using hg 4 _ rfl
      have g5 : DataW.trod enc Tryz.prog w base spare held n 36 [e0, e1, e2, e3, e4, e5] = some y5 := by simpa [pcells_int, pcells_page, pcells_u64, pcells_attr] using hg 5 _ rfl
      have g6 : DataW.trod enc Tryz.prog w base spare held n 4 [c6] = some y6 := by simpa [pcells_int, pcells_page, pcells_u64, pcells_attr, pcells_bool] using hg 6 _ rfl
      have g7 : DataW.trod enc Tryz.prog w base spare held n 4 [c7] = some y7 := by simpa [pcells_int, pcells_page, pcells_u64, pcells_attr, pcells_bool] using hg 7 _ rfl
      have g8 : DataW.trod enc Tryz.prog w base spare held n 4 [c8] = some y8 := by simpa [pcells_int, pcells_page, pcells_u64, pcells_attr, pcells_bool] using hg 8 _ rfl
      obtain ⟨a0, q0, z0, w0⟩ := DataW.trod_int Tryz.underlying3 g0
      obtain ⟨a1, q1, z1, w1⟩ := DataW.trod_int Tryz.underlying3 g1
      obtain ⟨a2, q2, z2, w2⟩ := DataW.trod_int Tryz.underlying3 g2
      obtain ⟨p, hp, hpl, _⟩ := trod_page rfl g3
      obtain ⟨a4, q4, z4, w4⟩ := DataW.trod_int Tryz.underlying34 g4
      obtain ⟨a, ha, _⟩ := trod_att rfl g5
      obtain ⟨a6, q6, z6⟩ := DataW.trod_bool Tryz.underlying4 g6
      obtain ⟨a7, q7, z7⟩ := DataW.trod_bool Tryz.underlying4 g7
      obtain ⟨a8, q8, z8⟩ := DataW.trod_bool Tryz.underlying4 g8
      simp only [attC, pgC, List.cons.injEq, and_true] at q0 q1 q2 q4 q6 q7 q8 ha hp
      obtain ⟨r0, r1, r2, r3, r4, r5⟩ := ha
      obtain ⟨p0, p1, p2, p3, p4, p5, p6, p7, p8, p9, p10⟩ := hp
      subst q0 q1 q2 q4 q6 q7 q8 r0 r1 r2 r3 r4 r5 p0 p1 p2 p3 p4 p5 p6 p7 p8 p9 p10
      exact ⟨⟨a0, a1, a2, p, a4, a, a6, a7, a8⟩, rfl, ⟨(bounds_i64 w0).1, (bounds_i64 w0).2, (bounds_i64 w1).1, (bounds_i64 w1).2, (bounds_i64 w2).1, (bounds_i64 w2).2, Pg.lits_wf hpl, (bounds_u64 w4).1, (bounds_u64 w4).2⟩⟩
theorem open_deeds {fuel : Nat} {ao : Option Addr} {len cap : Nat} {x : DataW H × List MemPlace} (h : DataW.trod enc Tryz.prog w base (fun _ => true) true fuel 22 [.slice ao len cap] = some x) : IsDeeds w ao len cap := by
  rcases open_slice Tryz.underlying22 h with ⟨hcs, _⟩ | ⟨a, l, c, m, n, D, Pl, hcs, hb, hl, hm, hmm, hx, hi⟩
  · simp at hcs; exact .inl ⟨hcs.1, hcs.2.1⟩
  · simp at hcs
    obtain ⟨rfl, rfl, rfl⟩ := hcs
    refine .inr ⟨a, rfl, hl, hm, fun i him => ?_⟩
    obtain ⟨cs', hc, ht'⟩ := hi i (by simp at hmm; omega)
    rw [cells_deed] at hc
    obtain ⟨_, hcl, hat⟩ := World.cells?_some hc
    obtain ⟨e, rfl, he⟩ := trod_deed hcl ht'
    refine ⟨e, he, fun k v hv => ?_⟩
    have hk : k < 24 := (List.getElem?_eq_some_iff.1 hv).1
    have := hat k hk
    rw [Go.Deep.add_add] at this
    rw [this]; exact hv
theorem deeds_at {a : Option Addr} {len cap : Nat} (h : IsDeeds w a len cap) (i : Nat) (hi : i < len) :
    ∃ b o, ∃ off, ∃ d : DeedV, a = some ⟨b, off, none⟩ ∧ off + i * 24 = o ∧ len ≤ cap ∧ cap ≤ maxLen ∧ d.wf ∧ w.cell? ⟨b, o, none⟩ = some (.int .i64 d.kind) ∧ w.cell? ⟨b, o + 1, none⟩ = some (.int .i64 d.sp) ∧ w.cell? ⟨b, o + 2, none⟩ = some (.int .i64 d.n) ∧ w.cell? ⟨b, o + 3, none⟩ = some (.int .u64 d.p.va) ∧ w.cell? ⟨b, o + 4, none⟩ = some (.int .i64 d.p.sz) ∧ w.cell? ⟨b, o + 5, none⟩ = some (.int .u64 d.p.pa) ∧ w.cell? ⟨b, o + 6, none⟩ = some (.bool d.p.att.write) ∧ w.cell? ⟨b, o + 7, none⟩ = some (.bool d.p.att.priv) ∧ w.cell? ⟨b, o + 8, none⟩ = some (.bool d.p.att.exec) ∧ w.cell? ⟨b, o + 9, none⟩ = some (.bool d.p.att.lock) ∧ w.cell? ⟨b, o + 10, none⟩ = some (.bool d.p.att.global) ∧ w.cell? ⟨b, o + 11, none⟩ = some (.bool d.p.att.quiet) ∧ w.cell? ⟨b, o + 12, none⟩ = some (.bool d.p.ref) ∧ w.cell? ⟨b, o + 13, none⟩ = some (.bool d.p.mod) ∧ w.cell? ⟨b, o + 14, none⟩ = some (.int .u64 d.va) ∧ w.cell? ⟨b, o + 15, none⟩ = some (.bool d.att.write) ∧ w.cell? ⟨b, o + 16, none⟩ = some (.bool d.att.priv) ∧ w.cell? ⟨b, o + 17, none⟩ = some (.bool d.att.exec) ∧ w.cell? ⟨b, o + 18, none⟩ = some (.bool d.att.lock) ∧ w.cell? ⟨b, o + 19, none⟩ = some (.bool d.att.global) ∧ w.cell? ⟨b, o + 20, none⟩ = some (.bool d.att.quiet) ∧ w.cell? ⟨b, o + 21, none⟩ = some (.bool d.mod) ∧ w.cell? ⟨b, o + 22, none⟩ = some (.bool d.raw) ∧ w.cell? ⟨b, o + 23, none⟩ = some (.bool d.near) := by
  rcases h with ⟨_, h0⟩ | ⟨x, rfl, h1, h2, h3⟩
  · omega
  · obtain ⟨d, hd, hc⟩ := h3 i hi
    obtain ⟨b, off, spot⟩ := x
    have hs : spot = none := by
      obtain ⟨e0, _, hc0⟩ := h3 0 (by omega)
      have z0 := hc0 0 _ rfl
      simpa [Addr.add] using World.cell?_spot z0
    subst hs
    have ad : ∀ j, (⟨b, off, none⟩ : Addr).add j = ⟨b, off + j, none⟩ := fun j => by simp [Addr.add]
    have hc' : ∀ k v, (deedL d)[k]? = some v → w.cell? ⟨b, off + i * 24 + k, none⟩ = some v := fun k v hv => by
      have := hc k v hv; rwa [ad, ← Nat.add_assoc] at this
    exact ⟨b, _, off, d, rfl, rfl, h1, h2, hd, hc' 0 _ rfl, hc' 1 _ rfl, hc' 2 _ rfl, hc' 3 _ rfl, hc' 4 _ rfl, hc' 5 _ rfl, hc' 6 _ rfl, hc' 7 _ rfl, hc' 8 _ rfl, hc' 9 _ rfl, hc' 10 _ rfl, hc' 11 _ rfl, hc' 12 _ rfl, hc' 13 _ rfl, hc' 14 _ rfl, hc' 15 _ rfl, hc' 16 _ rfl, hc' 17 _ rfl, hc' 18 _ rfl, hc' 19 _ rfl, hc' 20 _ rfl, hc' 21 _ rfl, hc' 22 _ rfl, hc' 23 _ rfl⟩
end
end Go.Proofs.YtffpfceclhogoaaGreat.Hp
namespace Go.Proofs.YtffpfceclhogoaaGreat.Hp
open Fld Hs
open Go.ChangeShapes Go.WideShapes Go.ChangeAt Go.RowKit Go.Maps
set_option maxHeartbeats 2000000
set_option maxRecDepth 100000
theorem cell_low {w w' : World} {b o : Nat} {v : Value} (h : w.cell? ⟨b, o, none⟩ = some v) (hb : Below w.heap.size w w') : w'.cell? ⟨b, o, none⟩ = some v := by
  have hl : b < w.heap.size := by
    rcases Nat.lt_or_ge b w.heap.size with h1 | h1
    · exact h1
    · simp [World.cell?, Array.getElem?_eq_none h1] at h
  exact (hb.cell (p := ⟨b, o, none⟩) hl).trans h
def pgD (d : DeedV) : Pg := if d.raw = true then d.p else goodP d.p
def atD (d : DeedV) (l : List SPg) : Int := if d.near = true ∧ (dpgs l d.sp).length ≠ 0 then (pat (dpgs l d.sp) (absI d.n % ((dpgs l d.sp).length : Int)).toNat).va + d.va % bytesI (pat (dpgs l d.sp) (absI d.n % ((dpgs l d.sp).length : Int)).toNat).sz else d.va
theorem ldpage_any (d : DeedV) (h : d.wf) (w : World) :
    Calls Tryz.prog 29 #[.agg #[.int .i64 d.kind, .int .i64 d.sp, .int .i64 d.n, .int .u64 d.p.va, .int .i64 d.p.sz, .int .u64 d.p.pa, .bool d.p.att.write, .bool d.p.att.priv, .bool d.p.att.exec, .bool d.p.att.lock, .bool d.p.att.global, .bool d.p.att.quiet, .bool d.p.ref, .bool d.p.mod, .int .u64 d.va, .bool d.att.write, .bool d.att.priv, .bool d.att.exec, .bool d.att.lock, .bool d.att.global, .bool d.att.quiet, .bool d.mod, .bool d.raw, .bool d.near]] w fun e w' => e = .returned (.agg #[.int .u64 (pgD d).va, .int .i64 (pgD d).sz, .int .u64 (pgD d).pa, .bool (pgD d).att.write, .bool (pgD d).att.priv, .bool (pgD d).att.exec, .bool (pgD d).att.lock, .bool (pgD d).att.global, .bool (pgD d).att.quiet, .bool (pgD d).ref, .bool (pgD d).mod]) ∧ Below w.heap.size w w' := by
  have CG := Lib.hid (fun w => dgood_any d.p h.p w)
  have HO := Lib.hid (show pgD d = if d.raw = true then d.p else goodP d.p from rfl)
  have b1 : Below w.heap.size w ((w.alloc (.cells #[.int .i64 d.kind, .int .i64 d.sp, .int .i64 d.n, .int .u64 d.p.va, .int .i64 d.p.sz, .int .u64 d.p.pa, .bool d.p.att.write, .bool d.p.att.priv, .bool d.p.att.exec, .bool d.p.att.lock, .bool d.p.att.global, .bool d.p.att.quiet, .bool d.p.ref, .bool d.p.mod, .int .u64 d.va, .bool d.att.write, .bool d.att.priv, .bool d.att.exec, .bool d.att.lock, .bool d.att.global, .bool d.att.quiet, .bool d.mod, .bool d.raw, .bool d.near] 40)).alloc (.cells #[.int .u64 Pg.zero.va, .int .i64 Pg.zero.sz, .int .u64 Pg.zero.pa, .bool Pg.zero.att.write, .bool Pg.zero.att.priv, .bool Pg.zero.att.exec, .bool Pg.zero.att.lock, .bool Pg.zero.att.global, .bool Pg.zero.att.quiet, .bool Pg.zero.ref, .bool Pg.zero.mod] 38)) := by (repeat (first | (with_reducible assumption) | (with_reducible exact Below.refl _ _) | (with_reducible refine lo_step ?_ (by assumption)) | (with_reducible refine lo_drew ?_) | (with_reducible refine lo_drewN ?_ _) | (with_reducible refine lo_alloc ?_ _))) 
  clear h
  cases hr : d.raw
  · rw [hr] at HO
    have e1 : pgD d = goodP d.p := by rw [HO.out]; rfl
    rw [e1]
    clear e1 HO
    go_enter Tryz.func29, Tryz.ntmps29
    go_wp2_with fail
    have x0 := heap_alloc_new (w.alloc (.cells #[.int .i64 d.kind, .int .i64 d.sp, .int .i64 d.n, .int .u64 d.p.va, .int .i64 d.p.sz, .int .u64 d.p.pa, .bool d.p.att.write, .bool d.p.att.priv, .bool d.p.att.exec, .bool d.p.att.lock, .bool d.p.att.global, .bool d.p.att.quiet, .bool d.p.ref, .bool d.p.mod, .int .u64 d.va, .bool d.att.write, .bool d.att.priv, .bool d.att.exec, .bool d.att.lock, .bool d.att.global, .bool d.att.quiet, .bool d.mod, .bool false, .bool d.near] 40)) (.cells #[.int .u64 0, .int .i64 0, .int .u64 0, .bool false, .bool false, .bool false, .bool false, .bool false, .bool false, .bool false, .bool false] 38)
    rw [World.size_alloc] at x0
    have b2 : Below w.heap.size w ((w.alloc (.cells #[.int .i64 d.kind, .int .i64 d.sp, .int .i64 d.n, .int .u64 d.p.va, .int .i64 d.p.sz, .int .u64 d.p.pa, .bool d.p.att.write, .bool d.p.att.priv, .bool d.p.att.exec, .bool d.p.att.lock, .bool d.p.att.global, .bool d.p.att.quiet, .bool d.p.ref, .bool d.p.mod, .int .u64 d.va, .bool d.att.write, .bool d.att.priv, .bool d.att.exec, .bool d.att.lock, .bool d.att.global, .bool d.att.quiet, .bool d.mod, .bool false, .bool d.near] 40)).alloc (.cells #[.int .u64 0, .int .i64 0, .int .u64 0, .bool false, .bool false, .bool false, .bool false, .bool false, .bool false, .bool false, .bool false] 38)) := by (repeat (first | (with_reducible assumption) | (with_reducible exact Below.refl _ _) | (with_reducible refine lo_step ?_ (by assumption)) | (with_reducible refine lo_drew ?_) | (with_reducible refine lo_drewN ?_ _) | (with_reducible refine lo_alloc ?_ _))) 
    clear b1
    refine (CG.out _).mono ?_; rintro e w2 ⟨rfl, hb⟩
    have Z : RowP w2 (w.heap.size + 1) Pg.zero := ⟨blk_low x0 hb⟩
    have hf := Z.setAll (goodP d.p)
    have HF := Lib.hid (And.intro hf.1 ((lo_step b2 hb).trans (hf.2 _ (by omega))))
    obtain ⟨z0, z1, z2, z3, z4, z5, z6, z7, z8, z9, z10⟩ := Z.cells
    have zf := set_one_page Z
    clear Z hf x0 b2 CG hb
    go_wp2_with fail
    refine bodyPost_ret (results_cell_row rfl _ _ _ _ _ (0, 0) _ rfl HF.out.1.row Tryz.underlying38 (by kernel_rfl) (by kernel_rfl)) rfl ⟨rfl, HF.out.2⟩
  · rw [hr] at HO
    have e1 : pgD d = d.p := by rw [HO.out]; rfl
    rw [e1]
    clear e1 HO CG
    go_enter Tryz.func29, Tryz.ntmps29
    go_wp2_with fail
    have x9 := RowP.new (w.alloc (.cells #[.int .i64 d.kind, .int .i64 d.sp, .int .i64 d.n, .int .u64 d.p.va, .int .i64 d.p.sz, .int .u64 d.p.pa, .bool d.p.att.write, .bool d.p.att.priv, .bool d.p.att.exec, .bool d.p.att.lock, .bool d.p.att.global, .bool d.p.att.quiet, .bool d.p.ref, .bool d.p.mod, .int .u64 d.va, .bool d.att.write, .bool d.att.priv, .bool d.att.exec, .bool d.att.lock, .bool d.att.global, .bool d.att.quiet, .bool d.mod, .bool true, .bool d.near] 40)) d.p
    rw [World.size_alloc] at x9
    refine bodyPost_ret (results_cell_row rfl _ _ _ _ _ (0, 0) _ rfl x9.row Tryz.underlying38 (by kernel_rfl) (by kernel_rfl)) rfl ⟨rfl, ?_⟩
    (repeat (first | (with_reducible assumption) | (with_reducible exact Below.refl _ _) | (with_reducible refine lo_step ?_ (by assumption)) | (with_reducible refine lo_drew ?_) | (with_reducible refine lo_drewN ?_ _) | (with_reducible refine lo_alloc ?_ _))) 
theorem ldat_any {v : Value} {l : List SPg} {t : Value} {n : Nat} {LT : Nat → List Hs.Bk} {U : Nat → Value} (ns bl : Int) (d : DeedV) (hd : d.wf) (hl : ∀ x ∈ l, Val x.p) (w : World) (h : DH w v l t n LT U) :
    Calls Tryz.prog 32 #[.agg #[.int .i64 d.kind, .int .i64 d.sp, .int .i64 d.n, .int .u64 d.p.va, .int .i64 d.p.sz, .int .u64 d.p.pa, .bool d.p.att.write, .bool d.p.att.priv, .bool d.p.att.exec, .bool d.p.att.lock, .bool d.p.att.global, .bool d.p.att.quiet, .bool d.p.ref, .bool d.p.mod, .int .u64 d.va, .bool d.att.write, .bool d.att.priv, .bool d.att.exec, .bool d.att.lock, .bool d.att.global, .bool d.att.quiet, .bool d.mod, .bool d.raw, .bool d.near], .agg #[.int .i64 ns, v, .int .i64 bl, t]] w fun e w' => e = .returned (.int .u64 (atD d l)) ∧ Below w.heap.size w w' := by
  obtain ⟨⟨ao, cap, rfl⟩, g2, cap2, rfl⟩ := h.shape
  have CP := Lib.hid (fun (W : World) (h : DH W (.slice ao l.length cap) l (.slice (some ⟨g2, 0, none⟩) n cap2) n LT U) => dpages_any ns bl d.sp W h)
  have N1 : Below w.heap.size w (w.alloc (.cells #[.int .i64 d.kind, .int .i64 d.sp, .int .i64 d.n, .int .u64 d.p.va, .int .i64 d.p.sz, .int .u64 d.p.pa, .bool d.p.att.write, .bool d.p.att.priv, .bool d.p.att.exec, .bool d.p.att.lock, .bool d.p.att.global, .bool d.p.att.quiet, .bool d.p.ref, .bool d.p.mod, .int .u64 d.va, .bool d.att.write, .bool d.att.priv, .bool d.att.exec, .bool d.att.lock, .bool d.att.global, .bool d.att.quiet, .bool d.mod, .bool d.raw, .bool d.near] 40)) := (Below.refl _ _).alloc (Nat.le_refl _) _
  have H1 := h.low N1
  go_enter Tryz.func32, Tryz.ntmps32
  have HA := Lib.hid (show atD d l = if d.near = true ∧ (dpgs l d.sp).length ≠ 0 then (pat (dpgs l d.sp) (absI d.n % ((dpgs l d.sp).length : Int)).toNat).va + d.va % bytesI (pat (dpgs l d.sp) (absI d.n % ((dpgs l d.sp).length : Int)).toNat).sz else d.va from rfl)
  have hPv : ∀ x ∈ dpgs l d.sp, Val x := fun x hx => by
    obtain ⟨y, hy, rfl⟩ := dpgs_mem l d.sp l.length (Nat.le_refl _) x (by rwa [List.take_length])
    exact hl y hy
  have hPl := dpgs_len l d.sp l.length (Nat.le_refl _)
  rw [List.take_length] at hPl
  have hfew := h.few
  have X0 := H1.low ((Below.refl _ _).alloc (Nat.le_refl _) (.cells #[.int .i64 ns, .slice ao l.length cap, .int .i64 bl, .slice (some ⟨g2, 0, none⟩) n cap2] 30))
  have b2 : Below w.heap.size w ((w.alloc (.cells #[.int .i64 d.kind, .int .i64 d.sp, .int .i64 d.n, .int .u64 d.p.va, .int .i64 d.p.sz, .int .u64 d.p.pa, .bool d.p.att.write, .bool d.p.att.priv, .bool d.p.att.exec, .bool d.p.att.lock, .bool d.p.att.global, .bool d.p.att.quiet, .bool d.p.ref, .bool d.p.mod, .int .u64 d.va, .bool d.att.write, .bool d.att.priv, .bool d.att.exec, .bool d.att.lock, .bool d.att.global, .bool d.att.quiet, .bool d.mod, .bool d.raw, .bool d.near] 40)).alloc (.cells #[.int .i64 ns, .slice ao l.length cap, .int .i64 bl, .slice (some ⟨g2, 0, none⟩) n cap2] 30)) := by (repeat (first | (with_reducible assumption) | (with_reducible exact Below.refl _ _) | (with_reducible refine lo_step ?_ (by assumption)) | (with_reducible refine lo_drew ?_) | (with_reducible refine lo_drewN ?_ _) | (with_reducible refine lo_alloc ?_ _))) 
  have dr : ((w.alloc (.cells #[.int .i64 d.kind, .int .i64 d.sp, .int .i64 d.n, .int .u64 d.p.va, .int .i64 d.p.sz, .int .u64 d.p.pa, .bool d.p.att.write, .bool d.p.att.priv, .bool d.p.att.exec, .bool d.p.att.lock, .bool d.p.att.global, .bool d.p.att.quiet, .bool d.p.ref, .bool d.p.mod, .int .u64 d.va, .bool d.att.write, .bool d.att.priv, .bool d.att.exec, .bool d.att.lock, .bool d.att.global, .bool d.att.quiet, .bool d.mod, .bool d.raw, .bool d.near] 40)).alloc (.cells #[.int .i64 ns, .slice ao l.length cap, .int .i64 bl, .slice (some ⟨g2, 0, none⟩) n cap2] 30)).heap[w.heap.size]? = some (.cells #[.int .i64 d.kind, .int .i64 d.sp, .int .i64 d.n, .int .u64 d.p.va, .int .i64 d.p.sz, .int .u64 d.p.pa, .bool d.p.att.write, .bool d.p.att.priv, .bool d.p.att.exec, .bool d.p.att.lock, .bool d.p.att.global, .bool d.p.att.quiet, .bool d.p.ref, .bool d.p.mod, .int .u64 d.va, .bool d.att.write, .bool d.att.priv, .bool d.att.exec, .bool d.att.lock, .bool d.att.global, .bool d.att.quiet, .bool d.mod, .bool d.raw, .bool d.near] 40 (0, 0)) := blk_low (heap_alloc_new w _) ((Below.refl _ _).alloc (Nat.le_refl _) _)
  obtain ⟨hk0, hk1, hs0, hs1, hn0, hn1, hp, hv0, hv1⟩ := hd
  generalize dpgs l d.sp = P at *
  clear H1 N1 h hl hp
  go_wp2_with fail
  generalize World.alloc (World.alloc w _) _ = W0 at *
  refine (CP.out _ X0).mono ?_; rintro e w1 ⟨o, rfl, ho, hb1⟩
  have b3 := lo_step b2 hb1
  have dr1 := blk_low dr hb1
  have d2 : w1.cell? ⟨w.heap.size, 2, none⟩ = some (.int .i64 d.n) := by simp [World.cell?, dr1]
  have d14 : w1.cell? ⟨w.heap.size, 14, none⟩ = some (.int .u64 d.va) := by simp [World.cell?, dr1]
  have d23 : w1.cell? ⟨w.heap.size, 23, none⟩ = some (.bool d.near) := by simp [World.cell?, dr1]
  obtain ⟨oo, oc, rfl⟩ := own_shape3 ho
  have HB := Lib.hid b3
  clear X0 CP b2 dr dr1 hb1 b3
  cases hr : d.near
  · have e1 : atD d l = d.va := by rw [HA.out, hr, if_neg (by simp)]
    rw [hr] at d23
    have E1 := Lib.hid e1
    clear e1 HA ho
    go_wp2_with fail
    go_ret
    exact ⟨by rw [E1.out]; rfl, HB.out⟩
  · rw [hr] at d23
    by_cases hP : P.length = 0
    · have e1 : atD d l = d.va := by rw [HA.out, if_neg (fun h => h.2 hP)]
      have E1 := Lib.hid e1
      clear e1 HA
      rw [hP]
      go_wp2_with fail
      go_ret
      exact ⟨by rw [E1.out]; rfl, HB.out⟩
    · obtain ⟨k, hk⟩ : ∃ k : Nat, k = (absI d.n % (P.length : Int)).toNat := ⟨_, rfl⟩
      have e1 : atD d l = (pat P k).va + d.va % bytesI (pat P k).sz := by rw [HA.out, if_pos ⟨hr, hP⟩, hk]
      have E1 := Lib.hid e1
      have ab := absI_bd d.n hn0 hn1
      have hk1 : (k : Int) = absI d.n % (P.length : Int) := by have := Int.emod_nonneg (absI d.n) (show (P.length : Int) ≠ 0 by omega); omega
      have hk2 : k < P.length := by have := Int.emod_lt_of_pos (absI d.n) (show (0 : Int) < (P.length : Int) by omega); omega
      have hP1 : ((P.length : Int) == 0) = false := by simpa using hP
      have HK := Lib.hid hk1
      clear e1 HA hk hk1
      go_upto_if 25 with (fail)
      go_cut [6] (fun t wx => t = .int .i64 (absI d.n) ∧ w1 = wx)
      case first =>
        by_cases h : d.n < 0
        · have H := Lib.hid (absI_neg h)
          go_wp2_with fail
          go_meet
          exact ⟨by rw [H.out], rfl⟩
        · have H := Lib.hid (absI_pos h)
          go_wp2_with fail
          go_meet
          exact ⟨by rw [← H.out], rfl⟩
      case rest =>
        obtain ⟨rfl, rfl⟩ := hcut
        have hm := HK.out.symm
        rcases own_form ho with ⟨_, h0⟩ | ⟨g4, cap4, hv4, hgb4, hnc4, hcm4⟩
        · omega
        obtain ⟨z0, z1, z2, z3, z4, z5, z6, z7, z8, z9, z10⟩ := own_page ho hgb4 hk2
        simp only [Value.slice.injEq, true_and] at hv4
        obtain ⟨rfl, rfl⟩ := hv4
        unfold maxLen at hcm4
        have hVk := hPv (pat P k) (by simp [pat, hk2])
        have hk0' : (0 : Int) ≤ (k : Int) := by omega
        have hk3' : (k : Int) < (P.length : Int) := by omega
        clear ho HK
        generalize pat P k = q at *
        have hbp := bytes_pos hVk.z
        have htop := base_top q.va q.sz hVk.w.v0 hVk.w.v1
        rw [hVk.base] at htop
        have hr0 := Int.emod_nonneg d.va (show bytesI q.sz ≠ 0 by omega)
        have hr1 := Int.emod_lt_of_pos d.va (show 0 < bytesI q.sz by omega)
        have hq0 := hVk.w.v0
        have hsum := Lib.hid (show IntKind.u64.wrap (q.va + d.va.tmod (bytesI q.sz)) = q.va + d.va % bytesI q.sz by rw [Int.tmod_eq_emod_of_nonneg hv0, IntKind.wrap_u64]; omega)
        have CB := Lib.hid (fun w => rbytes_any q.sz w)
        have hbne : ¬ bytesI q.sz = 0 := by omega
        clear hVk hPv
        go_wp2_with fail
        have NB := heap_alloc_new w1 (.cells #[.int .u64 q.va, .int .i64 q.sz, .int .u64 q.pa, .bool q.att.write, .bool q.att.priv, .bool q.att.exec, .bool q.att.lock, .bool q.att.global, .bool q.att.quiet, .bool q.ref, .bool q.mod] 38)
        have NL := Below.alloc (Below.refl w1.heap.size w1) (Nat.le_refl _) (.cells #[.int .u64 q.va, .int .i64 q.sz, .int .u64 q.pa, .bool q.att.write, .bool q.att.priv, .bool q.att.exec, .bool q.att.lock, .bool q.att.global, .bool q.att.quiet, .bool q.ref, .bool q.mod] 38)
        have e14 := cell_low d14 NL
        have HB2 := Lib.hid (lo_step HB.out NL)
        generalize World.alloc w1 _ = W3 at *
        have c0 : W3.cell? ⟨w1.heap.size, 0, none⟩ = some (.int .u64 q.va) := by simp [World.cell?, NB]
        have c1 : W3.cell? ⟨w1.heap.size, 1, none⟩ = some (.int .i64 q.sz) := by simp [World.cell?, NB]
        generalize w1.heap.size = qb at *
        have hS : (W3.cell? ⟨qb, 0, none⟩ = some (.int .u64 q.va) ∧ W3.cell? ⟨qb, 1, none⟩ = some (.int .i64 q.sz)) ∧ W3.cell? ⟨w.heap.size, 14, none⟩ = some (.int .u64 d.va) := ⟨⟨c0, c1⟩, e14⟩
        clear z0 z1 z2 z3 z4 z5 z6 z7 z8 z9 z10 d2 d14 d23 NB NL c0 c1 e14
        go_region_held3 (fun w1 => (w1.cell? ⟨qb, 0, none⟩ = some (.int .u64 q.va) ∧ w1.cell? ⟨qb, 1, none⟩ = some (.int .i64 q.sz)) ∧ w1.cell? ⟨w.heap.size, 14, none⟩ = some (.int .u64 d.va))
          (exact hS)
          (first
            | (go_at_call 17; (with_reducible refine (CB.out _).mono ?_); rintro r w2 ⟨rfl, rfl⟩))
        all_goals
          go_wp2_with fail
          go_ret
          exact ⟨by rw [E1.out, ← hsum.out]; rfl, lo_drew HB2.out⟩
end Go.Proofs.YtffpfceclhogoaaGreat.Hp
namespace Go.Proofs.YtffpfceclhogoaaGreat.Hp
open Fld Hs
open Go.ChangeShapes Go.WideShapes Go.ChangeAt Go.RowKit Go.Maps
set_option maxHeartbeats 1000000
set_option maxRecDepth 100000
/-- A hat made since w0; the blocks F are none of its own. -/
structure KY (w0 w : World) (hb sb : Nat) (ns bl : Int) (n : Nat) (L : Nat → List Bk) (F : Nat → Prop) : Prop where
  ex : ∃ O, HX w hb sb n O ns bl L ∧ (∀ k, O k → w0.heap.size ≤ k) ∧ ∀ k, F k → ¬ O k ∧ k < w.heap.size
  low : Below w0.heap.size w0 w
def Kept (F : Nat → Prop) (w w' : World) : Prop := (∀ k, F k → w'.heap[k]? = w.heap[k]?) ∧ w.heap.size ≤ w'.heap.size
/-- The blocks of a hat of the document's. -/
def DB (v : Value) (t : Value) (n : Nat) (U : Nat → Value) (k : Nat) : Prop := v.ownBlock = some k ∨ Hs.DocB t n U k
section
variable {w0 w w' : World} {hb sb n : Nat} {ns bl : Int} {L : Nat → List Bk} {F : Nat → Prop} {v t : Value} {l : List SPg} {LT : Nat → List Hs.Bk} {U : Nat → Value}
theorem DH.same (h : DH w v l t n LT U) (hk : ∀ k, DB v t n U k → w'.heap[k]? = w.heap[k]?) : DH w' v l t n LT U :=
  ⟨own_same h.own (fun g hg => hk g (.inl hg)), h.ch.same (fun k hkk => hk k (.inr hkk)), h.few, h.wf⟩
theorem DH.lt (h : DH w v l t n LT U) {k : Nat} (hk : DB v t n U k) : k < w.heap.size := by
  rcases hk with hk | hk
  · exact (h.own.lt k hk).2
  · exact h.ch.lt hk
theorem KY.below (h : KY w0 w hb sb ns bl n L F) (hb' : Below w.heap.size w w') : KY w0 w' hb sb ns bl n L F := by
  obtain ⟨O, h1, h2, h3⟩ := h.ex
  exact ⟨⟨O, h1.low hb', h2, fun k hk => ⟨(h3 k hk).1, Nat.lt_of_lt_of_le (h3 k hk).2 hb'.size⟩⟩, h.low.trans (hb'.mono h.low.size)⟩
theorem KY.sub (h : KY w0 w hb sb ns bl n L F) {G : Nat → Prop} (hG : ∀ k, G k → F k) : KY w0 w hb sb ns bl n L G := by
  obtain ⟨O, h1, h2, h3⟩ := h.ex
  exact ⟨⟨O, h1, h2, fun k hk => h3 k (hG k hk)⟩, h.low⟩
/-- A block that is new in w' is none of the hat's. -/
theorem KY.add (h : KY w0 w hb sb ns bl n L F) (hb' : Below w.heap.size w w') {G : Nat → Prop} (hG : ∀ k, G k → F k ∨ (w.heap.size ≤ k ∧ k < w'.heap.size)) : KY w0 w' hb sb ns bl n L G := by
  obtain ⟨O, h1, h2, h3⟩ := h.ex
  refine ⟨⟨O, h1.low hb', h2, fun k hk => ?_⟩, h.low.trans (hb'.mono h.low.size)⟩
  rcases hG k hk with hk | hk
  · exact ⟨(h3 k hk).1, Nat.lt_of_lt_of_le (h3 k hk).2 hb'.size⟩
  · exact ⟨fun ho => by have := h1.tab.lt ho; omega, hk.2⟩
theorem KY.lt (h : KY w0 w hb sb ns bl n L F) {k : Nat} (hk : F k) : k < w.heap.size := by
  obtain ⟨O, _, _, h3⟩ := h.ex; exact (h3 k hk).2
theorem KY.hbl (h : KY w0 w hb sb ns bl n L F) : hb < w.heap.size := by
  obtain ⟨O, h1, _, _⟩ := h.ex; exact (Array.getElem?_eq_some_iff.1 h1.row).1
theorem KY.read (h : KY w0 w hb sb ns bl n L F) : ∃ bm V, HR w hb sb bm n ns bl L V := by
  obtain ⟨O, h1, _, _⟩ := h.ex; exact h1.read
theorem KY.facts (h : KY w0 w hb sb ns bl n L F) : 0 ≤ ns ∧ ns ≤ 64 ∧ 1 ≤ n ∧ n ≤ 9223372036854775807 ∧ (lenL L n : Int) ≤ bl ∧ bl ≤ 1073741824 := by
  obtain ⟨O, h1, _, _⟩ := h.ex; exact ⟨h1.s0, h1.s1, h1.facts.2⟩
theorem KY.one {O : Nat → Prop} {n' : Nat} {L' : Nat → List Bk} (h1 : HX w hb sb n O ns bl L) (h2 : ∀ k, O k → w0.heap.size ≤ k) (h3 : ∀ k, F k → ¬ O k ∧ k < w.heap.size) (low : Below w0.heap.size w0 w) (k : TabTo w w' sb O n' bl L') : KY w0 w' hb sb ns bl n' L' F ∧ Kept F w w' := by
  obtain ⟨O', k1, k2, k3⟩ := h1.turned k
  refine ⟨⟨⟨O', k1, fun q hq => (k3 q hq).elim (h2 q) (Nat.le_trans low.size), fun q hq => ⟨fun ho => (k3 q ho).elim (h3 q hq).1 (fun e => by have := (h3 q hq).2; omega), Nat.lt_of_lt_of_le (h3 q hq).2 k2.size⟩⟩, ?_⟩, fun q hq => k2.block q (h3 q hq).2 (h3 q hq).1, k2.size⟩
  exact ⟨k2.os.trans low.os, k2.tape.trans low.tape, k2.output.trans low.output, Nat.le_trans low.size k2.size, fun q hq => (k2.block q (Nat.lt_of_lt_of_le hq low.size) (fun ho => by have := h2 q ho; omega)).trans (low.block q hq)⟩
end
section
variable {w0 w : World} {hb sb n : Nat} {ns bl : Int} {L : Nat → List Bk} {F : Nat → Prop}
theorem KY.find (h : KY w0 w hb sb ns bl n L F) (s va : Int) (s0 : -9223372036854775808 ≤ s) (s1 : s ≤ 9223372036854775807) (v0 : 0 ≤ va) (v1 : va ≤ 18446744073709551615) :
    Calls Tryz.prog 16 #[.pointer (some ⟨hb, 0, none⟩), .int .i64 s, .int .u64 va] w fun e w' => e = .returned (.tuple #[.agg #[.int .u64 (findV ns n L s va).va, .int .i64 (findV ns n L s va).sz, .int .u64 (findV ns n L s va).pa, .bool (findV ns n L s va).att.write, .bool (findV ns n L s va).att.priv, .bool (findV ns n L s va).att.exec, .bool (findV ns n L s va).att.lock, .bool (findV ns n L s va).att.global, .bool (findV ns n L s va).att.quiet, .bool (findV ns n L s va).ref, .bool (findV ns n L s va).mod], .int .i64 (findN ns n L s va), .bool (findB ns n L s va)]) ∧ Below w.heap.size w w' := by
  obtain ⟨bm, V, hr⟩ := h.read
  exact hfind_any s va s0 s1 v0 v1 w hr
theorem KY.may (h : KY w0 w hb sb ns bl n L F) (s : Int) (p : Pg) (s0 : -9223372036854775808 ≤ s) (s1 : s ≤ 9223372036854775807) (hp : p.wf) :
    Calls Tryz.prog 24 #[.pointer (some ⟨hb, 0, none⟩), .int .i64 s, .agg #[.int .u64 p.va, .int .i64 p.sz, .int .u64 p.pa, .bool p.att.write, .bool p.att.priv, .bool p.att.exec, .bool p.att.lock, .bool p.att.global, .bool p.att.quiet, .bool p.ref, .bool p.mod]] w fun e w' => e = .returned (.int .i64 (mayE ns bl n L s p)) ∧ Below w.heap.size w w' := by
  obtain ⟨bm, V, hr⟩ := h.read
  exact hmay_any s p s0 s1 hp w hr
theorem KY.pages (h : KY w0 w hb sb ns bl n L F) {l : List SPg} {LT : Nat → List Hs.Bk} (ht : HT ns bl n L l LT) (s : Int) :
    Calls Tryz.prog 14 #[.pointer (some ⟨hb, 0, none⟩), .int .i64 s] w fun e w' => ∃ o, e = .returned o ∧ w'.ownsRow w.heap.size 38 11 o (dpgs l s).length (pgL (dpgs l s)) ∧ Below w.heap.size w w' := by
  obtain ⟨O, h1, _, _⟩ := h.ex
  refine (pages_any s w h1).mono ?_
  rintro e w' ⟨o, ps, rfl, a, b, c, d⟩
  rw [ht.pages a b] at c
  exact ⟨o, rfl, c, d⟩
theorem KY.map (h : KY w0 w hb sb ns bl n L F) (s : Int) (p : Pg) (s0 : -9223372036854775808 ≤ s) (s1 : s ≤ 9223372036854775807) (hp : p.wf) :
    Calls Tryz.prog 25 #[.pointer (some ⟨hb, 0, none⟩), .int .i64 s, .agg #[.int .u64 p.va, .int .i64 p.sz, .int .u64 p.pa, .bool p.att.write, .bool p.att.priv, .bool p.att.exec, .bool p.att.lock, .bool p.att.global, .bool p.att.quiet, .bool p.ref, .bool p.mod]] w fun e w' => e = .returned (.int .i64 (mapE ns bl n L s p)) ∧ KY w0 w' hb sb ns bl n (mapT ns bl n L s p) F ∧ Kept F w w' := by
  obtain ⟨O, h1, h2, h3⟩ := h.ex
  refine (map_any s p s0 s1 hp w h1).mono ?_
  rintro e w' ⟨rfl, k⟩
  exact ⟨rfl, KY.one h1 h2 h3 h.low k⟩
theorem KY.unmap (h : KY w0 w hb sb ns bl n L F) (s va : Int) (s0 : -9223372036854775808 ≤ s) (s1 : s ≤ 9223372036854775807) (v0 : 0 ≤ va) (v1 : va ≤ 18446744073709551615) (hx : (findV ns n L s va).wf) :
    Calls Tryz.prog 33 #[.pointer (some ⟨hb, 0, none⟩), .int .i64 s, .int .u64 va] w fun e w' => e = .returned (.tuple #[.agg #[.int .u64 (findV ns n L s va).va, .int .i64 (findV ns n L s va).sz, .int .u64 (findV ns n L s va).pa, .bool (findV ns n L s va).att.write, .bool (findV ns n L s va).att.priv, .bool (findV ns n L s va).att.exec, .bool (findV ns n L s va).att.lock, .bool (findV ns n L s va).att.global, .bool (findV ns n L s va).att.quiet, .bool (findV ns n L s va).ref, .bool (findV ns n L s va).mod], .int .i64 (unmE ns n L s va)]) ∧ KY w0 w' hb sb ns bl n (unmT ns n L s va) F ∧ Kept F w w' := by
  obtain ⟨O, h1, h2, h3⟩ := h.ex
  refine (unmap_any s va s0 s1 v0 v1 hx w h1).mono ?_
  rintro e w' ⟨rfl, k⟩
  exact ⟨rfl, KY.one h1 h2 h3 h.low k⟩
theorem KY.mark (h : KY w0 w hb sb ns bl n L F) (s va : Int) (s0 : -9223372036854775808 ≤ s) (s1 : s ≤ 9223372036854775807) (v0 : 0 ≤ va) (v1 : va ≤ 18446744073709551615) (hx : (findV ns n L s va).wf) (md : Bool) :
    Calls Tryz.prog 21 #[.pointer (some ⟨hb, 0, none⟩), .int .i64 s, .int .u64 va, .bool md] w fun e w' => e = .returned (.int .i64 (chE ns n L s va)) ∧ KY w0 w' hb sb ns bl n (chT ns n L s va (fun y => { y with ref := true, mod := y.mod || md })) F ∧ Kept F w w' := by
  obtain ⟨O, h1, h2, h3⟩ := h.ex
  refine (hmark_any s va s0 s1 v0 v1 hx md w h1).mono ?_
  rintro e w' ⟨rfl, k⟩
  exact ⟨rfl, KY.one h1 h2 h3 h.low k⟩
theorem KY.clear (h : KY w0 w hb sb ns bl n L F) (s va : Int) (s0 : -9223372036854775808 ≤ s) (s1 : s ≤ 9223372036854775807) (v0 : 0 ≤ va) (v1 : va ≤ 18446744073709551615) (hx : (findV ns n L s va).wf) :
    Calls Tryz.prog 22 #[.pointer (some ⟨hb, 0, none⟩), .int .i64 s, .int .u64 va] w fun e w' => e = .returned (.tuple #[.agg #[.int .u64 (findV ns n L s va).va, .int .i64 (findV ns n L s va).sz, .int .u64 (findV ns n L s va).pa, .bool (findV ns n L s va).att.write, .bool (findV ns n L s va).att.priv, .bool (findV ns n L s va).att.exec, .bool (findV ns n L s va).att.lock, .bool (findV ns n L s va).att.global, .bool (findV ns n L s va).att.quiet, .bool (findV ns n L s va).ref, .bool (findV ns n L s va).mod], .int .i64 (chE ns n L s va)]) ∧ KY w0 w' hb sb ns bl n (chT ns n L s va (fun y => { y with ref := false, mod := false })) F ∧ Kept F w w' := by
  obtain ⟨O, h1, h2, h3⟩ := h.ex
  refine (hclear_any s va s0 s1 v0 v1 hx w h1).mono ?_
  rintro e w' ⟨rfl, k⟩
  exact ⟨rfl, KY.one h1 h2 h3 h.low k⟩
theorem KY.prot (h : KY w0 w hb sb ns bl n L F) (s va : Int) (s0 : -9223372036854775808 ≤ s) (s1 : s ≤ 9223372036854775807) (v0 : 0 ≤ va) (v1 : va ≤ 18446744073709551615) (hx : (findV ns n L s va).wf) (a : Att) :
    Calls Tryz.prog 78 #[.pointer (some ⟨hb, 0, none⟩), .int .i64 s, .int .u64 va, .agg #[.bool a.write, .bool a.priv, .bool a.exec, .bool a.lock, .bool a.global, .bool a.quiet]] w fun e w' => e = .returned (.tuple #[.agg #[.int .u64 (findV ns n L s va).va, .int .i64 (findV ns n L s va).sz, .int .u64 (findV ns n L s va).pa, .bool (findV ns n L s va).att.write, .bool (findV ns n L s va).att.priv, .bool (findV ns n L s va).att.exec, .bool (findV ns n L s va).att.lock, .bool (findV ns n L s va).att.global, .bool (findV ns n L s va).att.quiet, .bool (findV ns n L s va).ref, .bool (findV ns n L s va).mod], .int .i64 (chE ns n L s va)]) ∧ KY w0 w' hb sb ns bl n (chT ns n L s va (fun y => { y with att := a })) F ∧ Kept F w w' := by
  obtain ⟨O, h1, h2, h3⟩ := h.ex
  refine (hprot_any s va s0 s1 v0 v1 hx a w h1).mono ?_
  rintro e w' ⟨rfl, k⟩
  exact ⟨rfl, KY.one h1 h2 h3 h.low k⟩
def rszL (n : Nat) (L : Nat → List Bk) (m : Int) : Nat → List Bk := if m < 1 then L else resT L n m.toNat
theorem KY.resize (h : KY w0 w hb sb ns bl n L F) (m : Int) (m1 : m ≤ 9223372036854775807) :
    Calls Tryz.prog 37 #[.pointer (some ⟨hb, 0, none⟩), .int .i64 m] w fun e w' => e = .returned (.int .i64 (rszE m)) ∧ KY w0 w' hb sb ns bl (rszN n m) (rszL n L m) F ∧ Kept F w w' := by
  obtain ⟨O, h1, h2, h3⟩ := h.ex
  by_cases hm : m < 1
  · unfold rszE rszN rszL
    rw [if_pos hm, if_pos hm, if_pos hm]
    refine (hresize_no m hm w h1).mono ?_
    rintro e w' ⟨rfl, k⟩
    exact ⟨rfl, KY.one h1 h2 h3 h.low k⟩
  · unfold rszE rszN rszL
    rw [if_neg hm, if_neg hm, if_neg hm]
    have := hresize_yes m.toNat (by omega) (by omega) w h1
    rw [show ((m.toNat : Nat) : Int) = m by omega] at this
    refine this.mono ?_
    rintro e w' ⟨rfl, k⟩
    exact ⟨rfl, KY.one h1 h2 h3 h.low k⟩
def desL (ns : Int) (n : Nat) (L : Nat → List Bk) (l : List SPg) (s : Int) : Nat → List Bk := if isB ns s = true then cutsT n L s (dpgs l s) else L
theorem KY.destroy (h : KY w0 w hb sb ns bl n L F) {l : List SPg} {LT : Nat → List Hs.Bk} (ht : HT ns bl n L l LT) (s : Int) (s0 : -9223372036854775808 ≤ s) (s1 : s ≤ 9223372036854775807) :
    Calls Tryz.prog 35 #[.pointer (some ⟨hb, 0, none⟩), .int .i64 s] w fun e w' => ∃ o, e = .returned (.tuple #[o, .int .i64 (ddE ns s)]) ∧ w'.ownsRow w.heap.size 38 11 o (ddP ns l s).length (pgL (ddP ns l s)) ∧ KY w0 w' hb sb ns bl n (desL ns n L l s) (fun k => F k ∨ o.ownBlock = some k) ∧ Kept F w w' := by
  obtain ⟨O, h1, h2, h3⟩ := h.ex
  have hw : ∀ b ∈ allL L n, b.v.wf := fun b hb => by
    obtain ⟨x, hx, _, e⟩ := ht.all_mem.1 hb
    rw [e]; exact (ht.val x hx).w
  refine (destroy_any s s0 s1 hw w h1).mono ?_
  rintro e w' (⟨hs, rfl, k⟩ | ⟨hs, o, ps, rfl, a, b, c, O', k1, k2, k3, k4⟩)
  · unfold ddE ddP desL
    rw [hs, if_neg (by decide), if_neg (by decide), if_neg (by decide)]
    obtain ⟨q1, q2⟩ := KY.one h1 h2 h3 h.low k
    exact ⟨_, rfl, World.ownsRow_nil _ _ _ 11, q1.sub (fun k hk => hk.elim id (fun e => by cases e)), q2⟩
  · have e := ht.pages a b
    subst e
    unfold ddE ddP desL
    rw [hs, if_pos rfl, if_pos rfl, if_pos rfl]
    obtain ⟨⟨⟨O2, y1, y2, y3⟩, ylow⟩, q2⟩ := KY.one h1 h2 h3 h.low ⟨O', k1, k2, k3⟩
    have hx2 : HX w' hb sb n O' ns bl (cutsT n L s (dpgs l s)) := by
      have hl := (Array.getElem?_eq_some_iff.1 h1.row).1
      exact ⟨k1, (k2.block hb hl h1.no).trans h1.row, fun e => (k3 hb e).elim h1.no (by omega), h1.s0, h1.s1⟩
    refine ⟨o, rfl, c, ⟨⟨O', hx2, fun k hk => (k3 k hk).elim (h2 k) (Nat.le_trans h.low.size), fun k hk => ?_⟩, ylow⟩, q2⟩
    rcases hk with hk | hk
    · exact ⟨fun ho => (k3 k ho).elim (h3 k hk).1 (fun e => by have := (h3 k hk).2; omega), Nat.lt_of_lt_of_le (h3 k hk).2 k2.size⟩
    · exact ⟨k4 k hk, (c.lt k hk).2⟩
end
end Go.Proofs.YtffpfceclhogoaaGreat.Hp
namespace Go.Proofs.YtffpfceclhogoaaGreat.Hp
open Fld Hs
open Go.ChangeShapes Go.WideShapes Go.ChangeAt Go.RowKit Go.Maps
set_option maxHeartbeats 1000000
set_option maxRecDepth 100000
theorem RowP.setAtt {w : World} {pb : Nat} {y : Pg} (h : RowP w pb y) (a : Att) : RowP ((((((w.setCell ⟨pb, 3, none⟩ (.bool a.write)).setCell ⟨pb, 4, none⟩ (.bool a.priv)).setCell ⟨pb, 5, none⟩ (.bool a.exec)).setCell ⟨pb, 6, none⟩ (.bool a.lock)).setCell ⟨pb, 7, none⟩ (.bool a.global)).setCell ⟨pb, 8, none⟩ (.bool a.quiet)) pb { y with att := a } := (h.six a).1
theorem RowP.rm {w : World} {pb : Nat} {y : Pg} (h : RowP w pb y) (r m : Bool) : RowP ((w.setCell ⟨pb, 9, none⟩ (.bool r)).setCell ⟨pb, 10, none⟩ (.bool m)) pb { y with ref := r, mod := m } := (h.two r m).1
theorem below_att {W W6 : World} {n mb : Nat} (hb : Below n W W6) (h : n ≤ mb) (a : Att) : Below n W ((((((W6.setCell ⟨mb, 3, none⟩ (.bool a.write)).setCell ⟨mb, 4, none⟩ (.bool a.priv)).setCell ⟨mb, 5, none⟩ (.bool a.exec)).setCell ⟨mb, 6, none⟩ (.bool a.lock)).setCell ⟨mb, 7, none⟩ (.bool a.global)).setCell ⟨mb, 8, none⟩ (.bool a.quiet)) :=
  (((((hb.setCell (p := ⟨mb, 3, none⟩) h _).setCell (p := ⟨mb, 4, none⟩) h _).setCell (p := ⟨mb, 5, none⟩) h _).setCell (p := ⟨mb, 6, none⟩) h _).setCell (p := ⟨mb, 7, none⟩) h _).setCell (p := ⟨mb, 8, none⟩) h _
theorem below_rm {W W6 : World} {n mb : Nat} (hb : Below n W W6) (h : n ≤ mb) (r m : Bool) : Below n W ((W6.setCell ⟨mb, 9, none⟩ (.bool r)).setCell ⟨mb, 10, none⟩ (.bool m)) :=
  (hb.setCell (p := ⟨mb, 9, none⟩) h _).setCell (p := ⟨mb, 10, none⟩) h _
theorem own_ty {w : World} {B e s n : Nat} {v : Value} {xs : List Value} (h : w.ownsRow B e s v n xs) {g : Nat} (hg : v.ownBlock = some g) : ∃ cs, w.heap[g]? = some (.cells cs e (0, 0)) := by
  rcases h with ⟨_, ⟨rfl, _⟩ | ⟨g', cap, cur, rfl, _, hx, _⟩⟩
  · cases hg
  · injection hg with e
    dsimp only at e
    subst e
    exact ⟨cur, hx⟩
/-- No block of the document's hat is one of the program's. -/
theorem KY.doc {w0 w : World} {hb sb n m : Nat} {ns bl : Int} {L : Nat → List Bk} {F : Nat → Prop} {v t : Value} {l : List SPg} {LT : Nat → List Hs.Bk} {U : Nat → Value} (h : KY w0 w hb sb ns bl n L F) (D : DH w v l t m LT U) : KY w0 w hb sb ns bl n L (fun k => F k ∨ DB v t m U k) := by
  obtain ⟨O, h1, h2, h3⟩ := h.ex
  refine ⟨⟨O, h1, h2, fun k hk => hk.elim (h3 k) (fun hk => ⟨fun ho => ?_, D.lt hk⟩)⟩, h.low⟩
  obtain ⟨bm, V, ht, hO⟩ := h1.tab
  have hc : ∃ e cs, w.heap[k]? = some (.cells cs e (0, 0)) ∧ (e = 97 ∨ e = 124 ∨ e = 151) := by
    rcases hk with hk | hk | ⟨i, hi, hk⟩
    · obtain ⟨cs, hx⟩ := own_ty D.own hk; exact ⟨_, cs, hx, .inl rfl⟩
    · obtain ⟨cs, hx⟩ := own_ty D.ch.outer hk; exact ⟨_, cs, hx, .inr (.inl rfl)⟩
    · obtain ⟨cs, hx⟩ := own_ty (D.ch.rows i hi) hk; exact ⟨_, cs, hx, .inr (.inr rfl)⟩
  obtain ⟨e, cs, hx, he⟩ := hc
  rcases (hO k).1 ho with rfl | rfl | ⟨i, hi, hv⟩
  · rw [ht.row] at hx
    injection hx with hx
    injection hx with _ hx _
    subst hx
    revert he; decide
  · obtain ⟨D', ⟨es, clock, h2, _⟩, _⟩ := ht.map
    rw [hx] at h2
    cases h2
  · obtain ⟨cs', hy⟩ := own_ty (ht.rows i hi) hv
    rw [hy] at hx
    injection hx with hx
    injection hx with _ hx _
    subst hx
    revert he; decide
end Go.Proofs.YtffpfceclhogoaaGreat.Hp
namespace Go.Proofs.YtffpfceclhogoaaGreat.Hp
open Fld Hs
open Go.ChangeShapes Go.WideShapes Go.ChangeAt Go.RowKit Go.Maps
set_option maxHeartbeats 8000000
set_option maxRecDepth 100000
def chF (d : DeedV) (q : Pg) : Pg := if d.kind = 2 then { q with att := d.att } else if d.kind = 3 then { q with ref := true, mod := q.mod || d.mod } else { q with ref := false, mod := false }
theorem chF_val (d : DeedV) (q : Pg) (h : Val q) : Val (chF d q) ∧ (chF d q).va = q.va ∧ (chF d q).sz = q.sz := by
  unfold chF
  split
  · exact ⟨⟨⟨h.w.v0, h.w.v1, h.w.z0, h.w.z1, h.w.p0, h.w.p1⟩, h.z, h.a⟩, rfl, rfl⟩
  · split
    · exact ⟨⟨⟨h.w.v0, h.w.v1, h.w.z0, h.w.z1, h.w.p0, h.w.p1⟩, h.z, h.a⟩, rfl, rfl⟩
    · exact ⟨⟨⟨h.w.v0, h.w.v1, h.w.z0, h.w.z1, h.w.p0, h.w.p1⟩, h.z, h.a⟩, rfl, rfl⟩
/-- The boxes of a call of turns or does: the hat, the deed, the result. -/
structure TX (w W : World) (ns bl : Int) (v : Value) (l : List SPg) (t : Value) (n : Nat) (LT : Nat → List Hs.Bk) (U : Nat → Value) (d : DeedV) : Prop where
  dh : DH W v l t n LT U
  hx : W.heap[w.heap.size]? = some (.cells #[.int .i64 ns, v, .int .i64 bl, t] 30 (0, 0))
  dx : W.heap[w.heap.size + 1]? = some (.cells #[.int .i64 d.kind, .int .i64 d.sp, .int .i64 d.n, .int .u64 d.p.va, .int .i64 d.p.sz, .int .u64 d.p.pa, .bool d.p.att.write, .bool d.p.att.priv, .bool d.p.att.exec, .bool d.p.att.lock, .bool d.p.att.global, .bool d.p.att.quiet, .bool d.p.ref, .bool d.p.mod, .int .u64 d.va, .bool d.att.write, .bool d.att.priv, .bool d.att.exec, .bool d.att.lock, .bool d.att.global, .bool d.att.quiet, .bool d.mod, .bool d.raw, .bool d.near] 40 (0, 0))
  rx : W.heap[w.heap.size + 1 + 1]? = some (.cells #[.int .i64 0, .slice none 0 0, .int .i64 0, .slice none 0 0] 30 (0, 0))
  lo : Below w.heap.size w W
section
variable {w W W' : World} {ns bl : Int} {v : Value} {l : List SPg} {t : Value} {n : Nat} {LT : Nat → List Hs.Bk} {U : Nat → Value} {d : DeedV}
theorem TX.low (h : TX w W ns bl v l t n LT U d) (hb : Below W.heap.size W W') : TX w W' ns bl v l t n LT U d := ⟨h.dh.low hb, blk_low h.hx hb, blk_low h.dx hb, blk_low h.rx hb, lo_step h.lo hb⟩
theorem TX.new (h : DH w v l t n LT U) (ns bl : Int) (d : DeedV) : TX w (((w.alloc (.cells #[.int .i64 ns, v, .int .i64 bl, t] 30)).alloc (.cells #[.int .i64 d.kind, .int .i64 d.sp, .int .i64 d.n, .int .u64 d.p.va, .int .i64 d.p.sz, .int .u64 d.p.pa, .bool d.p.att.write, .bool d.p.att.priv, .bool d.p.att.exec, .bool d.p.att.lock, .bool d.p.att.global, .bool d.p.att.quiet, .bool d.p.ref, .bool d.p.mod, .int .u64 d.va, .bool d.att.write, .bool d.att.priv, .bool d.att.exec, .bool d.att.lock, .bool d.att.global, .bool d.att.quiet, .bool d.mod, .bool d.raw, .bool d.near] 40)).alloc (.cells #[.int .i64 0, .slice none 0 0, .int .i64 0, .slice none 0 0] 30)) ns bl v l t n LT U d := by
  have b1 : Below (w.alloc (.cells #[.int .i64 ns, v, .int .i64 bl, t] 30)).heap.size (w.alloc (.cells #[.int .i64 ns, v, .int .i64 bl, t] 30)) ((w.alloc (.cells #[.int .i64 ns, v, .int .i64 bl, t] 30)).alloc (.cells #[.int .i64 d.kind, .int .i64 d.sp, .int .i64 d.n, .int .u64 d.p.va, .int .i64 d.p.sz, .int .u64 d.p.pa, .bool d.p.att.write, .bool d.p.att.priv, .bool d.p.att.exec, .bool d.p.att.lock, .bool d.p.att.global, .bool d.p.att.quiet, .bool d.p.ref, .bool d.p.mod, .int .u64 d.va, .bool d.att.write, .bool d.att.priv, .bool d.att.exec, .bool d.att.lock, .bool d.att.global, .bool d.att.quiet, .bool d.mod, .bool d.raw, .bool d.near] 40)) := (Below.refl _ _).alloc (Nat.le_refl _) _
  have b2 : Below ((w.alloc (.cells #[.int .i64 ns, v, .int .i64 bl, t] 30)).alloc (.cells #[.int .i64 d.kind, .int .i64 d.sp, .int .i64 d.n, .int .u64 d.p.va, .int .i64 d.p.sz, .int .u64 d.p.pa, .bool d.p.att.write, .bool d.p.att.priv, .bool d.p.att.exec, .bool d.p.att.lock, .bool d.p.att.global, .bool d.p.att.quiet, .bool d.p.ref, .bool d.p.mod, .int .u64 d.va, .bool d.att.write, .bool d.att.priv, .bool d.att.exec, .bool d.att.lock, .bool d.att.global, .bool d.att.quiet, .bool d.mod, .bool d.raw, .bool d.near] 40)).heap.size ((w.alloc (.cells #[.int .i64 ns, v, .int .i64 bl, t] 30)).alloc (.cells #[.int .i64 d.kind, .int .i64 d.sp, .int .i64 d.n, .int .u64 d.p.va, .int .i64 d.p.sz, .int .u64 d.p.pa, .bool d.p.att.write, .bool d.p.att.priv, .bool d.p.att.exec, .bool d.p.att.lock, .bool d.p.att.global, .bool d.p.att.quiet, .bool d.p.ref, .bool d.p.mod, .int .u64 d.va, .bool d.att.write, .bool d.att.priv, .bool d.att.exec, .bool d.att.lock, .bool d.att.global, .bool d.att.quiet, .bool d.mod, .bool d.raw, .bool d.near] 40)) (((w.alloc (.cells #[.int .i64 ns, v, .int .i64 bl, t] 30)).alloc (.cells #[.int .i64 d.kind, .int .i64 d.sp, .int .i64 d.n, .int .u64 d.p.va, .int .i64 d.p.sz, .int .u64 d.p.pa, .bool d.p.att.write, .bool d.p.att.priv, .bool d.p.att.exec, .bool d.p.att.lock, .bool d.p.att.global, .bool d.p.att.quiet, .bool d.p.ref, .bool d.p.mod, .int .u64 d.va, .bool d.att.write, .bool d.att.priv, .bool d.att.exec, .bool d.att.lock, .bool d.att.global, .bool d.att.quiet, .bool d.mod, .bool d.raw, .bool d.near] 40)).alloc (.cells #[.int .i64 0, .slice none 0 0, .int .i64 0, .slice none 0 0] 30)) := (Below.refl _ _).alloc (Nat.le_refl _) _
  have x0 := heap_alloc_new w (.cells #[.int .i64 ns, v, .int .i64 bl, t] 30)
  have x1 := heap_alloc_new (w.alloc (.cells #[.int .i64 ns, v, .int .i64 bl, t] 30)) (.cells #[.int .i64 d.kind, .int .i64 d.sp, .int .i64 d.n, .int .u64 d.p.va, .int .i64 d.p.sz, .int .u64 d.p.pa, .bool d.p.att.write, .bool d.p.att.priv, .bool d.p.att.exec, .bool d.p.att.lock, .bool d.p.att.global, .bool d.p.att.quiet, .bool d.p.ref, .bool d.p.mod, .int .u64 d.va, .bool d.att.write, .bool d.att.priv, .bool d.att.exec, .bool d.att.lock, .bool d.att.global, .bool d.att.quiet, .bool d.mod, .bool d.raw, .bool d.near] 40)
  have x2 := heap_alloc_new ((w.alloc (.cells #[.int .i64 ns, v, .int .i64 bl, t] 30)).alloc (.cells #[.int .i64 d.kind, .int .i64 d.sp, .int .i64 d.n, .int .u64 d.p.va, .int .i64 d.p.sz, .int .u64 d.p.pa, .bool d.p.att.write, .bool d.p.att.priv, .bool d.p.att.exec, .bool d.p.att.lock, .bool d.p.att.global, .bool d.p.att.quiet, .bool d.p.ref, .bool d.p.mod, .int .u64 d.va, .bool d.att.write, .bool d.att.priv, .bool d.att.exec, .bool d.att.lock, .bool d.att.global, .bool d.att.quiet, .bool d.mod, .bool d.raw, .bool d.near] 40)) (.cells #[.int .i64 0, .slice none 0 0, .int .i64 0, .slice none 0 0] 30)
  rw [World.size_alloc] at x1
  rw [World.size_alloc, World.size_alloc] at x2
  have lo : Below w.heap.size w (((w.alloc (.cells #[.int .i64 ns, v, .int .i64 bl, t] 30)).alloc (.cells #[.int .i64 d.kind, .int .i64 d.sp, .int .i64 d.n, .int .u64 d.p.va, .int .i64 d.p.sz, .int .u64 d.p.pa, .bool d.p.att.write, .bool d.p.att.priv, .bool d.p.att.exec, .bool d.p.att.lock, .bool d.p.att.global, .bool d.p.att.quiet, .bool d.p.ref, .bool d.p.mod, .int .u64 d.va, .bool d.att.write, .bool d.att.priv, .bool d.att.exec, .bool d.att.lock, .bool d.att.global, .bool d.att.quiet, .bool d.mod, .bool d.raw, .bool d.near] 40)).alloc (.cells #[.int .i64 0, .slice none 0 0, .int .i64 0, .slice none 0 0] 30)) := by (repeat (first | (with_reducible assumption) | (with_reducible exact Below.refl _ _) | (with_reducible refine lo_step ?_ (by assumption)) | (with_reducible refine lo_drew ?_) | (with_reducible refine lo_drewN ?_ _) | (with_reducible refine lo_alloc ?_ _))) 
  exact ⟨h.low lo, blk_low (blk_low x0 b1) b2, blk_low x1 b2, x2, lo⟩
theorem TX.dcell (h : TX w W ns bl v l t n LT U d) {i : Nat} {x : Value} (hx : (#[.int .i64 d.kind, .int .i64 d.sp, .int .i64 d.n, .int .u64 d.p.va, .int .i64 d.p.sz, .int .u64 d.p.pa, .bool d.p.att.write, .bool d.p.att.priv, .bool d.p.att.exec, .bool d.p.att.lock, .bool d.p.att.global, .bool d.p.att.quiet, .bool d.p.ref, .bool d.p.mod, .int .u64 d.va, .bool d.att.write, .bool d.att.priv, .bool d.att.exec, .bool d.att.lock, .bool d.att.global, .bool d.att.quiet, .bool d.mod, .bool d.raw, .bool d.near])[i]? = some x) : W.cell? ⟨w.heap.size + 1, i, none⟩ = some x := by
  have := h.dx
  simp only [World.cell?, this]; exact hx
theorem TX.dcells (h : TX w W ns bl v l t n LT U d) : W.cell? ⟨(w.heap.size + 1), 0, none⟩ = some (.int .i64 d.kind) ∧ W.cell? ⟨(w.heap.size + 1), 1, none⟩ = some (.int .i64 d.sp) ∧ W.cell? ⟨(w.heap.size + 1), 2, none⟩ = some (.int .i64 d.n) ∧ W.cell? ⟨(w.heap.size + 1), 3, none⟩ = some (.int .u64 d.p.va) ∧ W.cell? ⟨(w.heap.size + 1), 4, none⟩ = some (.int .i64 d.p.sz) ∧ W.cell? ⟨(w.heap.size + 1), 5, none⟩ = some (.int .u64 d.p.pa) ∧ W.cell? ⟨(w.heap.size + 1), 6, none⟩ = some (.bool d.p.att.write) ∧ W.cell? ⟨(w.heap.size + 1), 7, none⟩ = some (.bool d.p.att.priv) ∧ W.cell? ⟨(w.heap.size + 1), 8, none⟩ = some (.bool d.p.att.exec) ∧ W.cell? ⟨(w.heap.size + 1), 9, none⟩ = some (.bool d.p.att.lock) ∧ W.cell? ⟨(w.heap.size + 1), 10, none⟩ = some (.bool d.p.att.global) ∧ W.cell? ⟨(w.heap.size + 1), 11, none⟩ = some (.bool d.p.att.quiet) ∧ W.cell? ⟨(w.heap.size + 1), 12, none⟩ = some (.bool d.p.ref) ∧ W.cell? ⟨(w.heap.size + 1), 13, none⟩ = some (.bool d.p.mod) ∧ W.cell? ⟨(w.heap.size + 1), 14, none⟩ = some (.int .u64 d.va) ∧ W.cell? ⟨(w.heap.size + 1), 15, none⟩ = some (.bool d.att.write) ∧ W.cell? ⟨(w.heap.size + 1), 16, none⟩ = some (.bool d.att.priv) ∧ W.cell? ⟨(w.heap.size + 1), 17, none⟩ = some (.bool d.att.exec) ∧ W.cell? ⟨(w.heap.size + 1), 18, none⟩ = some (.bool d.att.lock) ∧ W.cell? ⟨(w.heap.size + 1), 19, none⟩ = some (.bool d.att.global) ∧ W.cell? ⟨(w.heap.size + 1), 20, none⟩ = some (.bool d.att.quiet) ∧ W.cell? ⟨(w.heap.size + 1), 21, none⟩ = some (.bool d.mod) ∧ W.cell? ⟨(w.heap.size + 1), 22, none⟩ = some (.bool d.raw) ∧ W.cell? ⟨(w.heap.size + 1), 23, none⟩ = some (.bool d.near) :=
  ⟨h.dcell rfl, h.dcell rfl, h.dcell rfl, h.dcell rfl, h.dcell rfl, h.dcell rfl, h.dcell rfl, h.dcell rfl, h.dcell rfl, h.dcell rfl, h.dcell rfl, h.dcell rfl, h.dcell rfl, h.dcell rfl, h.dcell rfl, h.dcell rfl, h.dcell rfl, h.dcell rfl, h.dcell rfl, h.dcell rfl, h.dcell rfl, h.dcell rfl, h.dcell rfl, h.dcell rfl⟩
end
/-- .. and a page as it was, and the hat that is next. -/
structure TC (w W : World) (wb nb : Nat) (ns bl : Int) (v : Value) (l : List SPg) (t : Value) (n : Nat) (LT : Nat → List Hs.Bk) (U : Nat → Value) (d : DeedV) (p : Pg) (v' : Value) (l' : List SPg) : Prop where
  x : TX w W ns bl v l t n LT U d
  px : RowP W wb p
  nx : W.heap[nb]? = some (.cells #[.int .i64 ns, v', .int .i64 bl, t] 30 (0, 0))
  nd : DH W v' l' t n LT U
theorem TC.low {w W W' : World} {wb nb : Nat} {ns bl : Int} {v : Value} {l : List SPg} {t : Value} {n : Nat} {LT : Nat → List Hs.Bk} {U : Nat → Value} {d : DeedV} {p : Pg} {v' : Value} {l' : List SPg} (h : TC w W wb nb ns bl v l t n LT U d p v' l') (hb : Below W.heap.size W W') : TC w W' wb nb ns bl v l t n LT U d p v' l' := ⟨h.x.low hb, h.px.low hb, blk_low h.nx hb, h.nd.low hb⟩
theorem TC.set {w W : World} {wb nb : Nat} {ns bl : Int} {v : Value} {l : List SPg} {t : Value} {n : Nat} {LT : Nat → List Hs.Bk} {U : Nat → Value} {d : DeedV} {p : Pg} {v' : Value} {l' : List SPg} (h : TC w W wb nb ns bl v l t n LT U d p v' l') (h1 : w.heap.size + 3 ≤ wb) (h2 : wb ≠ nb) (q : Pg) : TC w (((((((((((W.setCell ⟨wb, 0, none⟩ (.int .u64 q.va)).setCell ⟨wb, 1, none⟩ (.int .i64 q.sz)).setCell ⟨wb, 2, none⟩ (.int .u64 q.pa)).setCell ⟨wb, 3, none⟩ (.bool q.att.write)).setCell ⟨wb, 4, none⟩ (.bool q.att.priv)).setCell ⟨wb, 5, none⟩ (.bool q.att.exec)).setCell ⟨wb, 6, none⟩ (.bool q.att.lock)).setCell ⟨wb, 7, none⟩ (.bool q.att.global)).setCell ⟨wb, 8, none⟩ (.bool q.att.quiet)).setCell ⟨wb, 9, none⟩ (.bool q.ref)).setCell ⟨wb, 10, none⟩ (.bool q.mod)) wb nb ns bl v l t n LT U d q v' l' := by
  have hs := h.px.setAll q
  refine ⟨⟨h.x.dh.far2 h.px.row (fun _ hk => row_far q hk), (row_far q (by omega)).trans h.x.hx, (row_far q (by omega)).trans h.x.dx, (row_far q (by omega)).trans h.x.rx, h.x.lo.trans (hs.2 _ (by omega))⟩, hs.1, (row_far q (fun e => h2 e.symm)).trans h.nx, h.nd.far2 h.px.row (fun _ hk => row_far q hk)⟩
theorem TC.next {w W : World} {wb nb : Nat} {ns bl : Int} {v : Value} {l : List SPg} {t : Value} {n : Nat} {LT : Nat → List Hs.Bk} {U : Nat → Value} {d : DeedV} {p : Pg} {v1 v2 : Value} {l1 l2 : List SPg} (h : TC w W wb nb ns bl v l t n LT U d p v1 l1) (h1 : w.heap.size + 3 ≤ wb) (h2 : nb = wb + 1) (D : DH W v2 l2 t n LT U) :
    TC w ((((W.setCell ⟨nb, 0, none⟩ (.int .i64 ns)).setCell ⟨nb, 1, none⟩ v2).setCell ⟨nb, 2, none⟩ (.int .i64 bl)).setCell ⟨nb, 3, none⟩ t) wb nb ns bl v l t n LT U d p v2 l2 := by
  have f := fill_H (ns := ns) (bl := bl) D h.x.lo (by omega : w.heap.size ≤ nb) h.nx rfl
  have hk : ∀ k, k ≠ nb → ((((W.setCell ⟨nb, 0, none⟩ (.int .i64 ns)).setCell ⟨nb, 1, none⟩ v2).setCell ⟨nb, 2, none⟩ (.int .i64 bl)).setCell ⟨nb, 3, none⟩ t).heap[k]? = W.heap[k]? := fun k hk => by
    rw [Below.heap_setCell _ _ _ _ hk, Below.heap_setCell _ _ _ _ hk, Below.heap_setCell _ _ _ _ hk, Below.heap_setCell _ _ _ _ hk]
  exact ⟨⟨h.x.dh.far h.nx (.inl rfl) hk, (hk _ (by omega)).trans h.x.hx, (hk _ (by omega)).trans h.x.dx, (hk _ (by omega)).trans h.x.rx, f.2.2⟩, ⟨(hk _ (by omega)).trans h.px.row⟩, f.1, f.2.1⟩
theorem TC.reads {w W : World} {wb nb : Nat} {ns bl : Int} {l : List SPg} {t : Value} {n : Nat} {LT : Nat → List Hs.Bk} {U : Nat → Value} {d : DeedV} {p : Pg} {v' : Value} {l' : List SPg} {g c : Nat} (h : TC w W wb nb ns bl (.slice (some ⟨g, 0, none⟩) l.length c) l t n LT U d p v' l') {j : Nat} {q : Pg} (hj : Hid (j < l.length ∧ q = (sat l j).p)) :
    ((W.cell? ⟨w.heap.size, 0, none⟩ = some (.int .i64 ns) ∧ W.cell? ⟨w.heap.size, 1, none⟩ = some (.slice (some ⟨g, 0, none⟩) l.length c) ∧ W.cell? ⟨w.heap.size, 2, none⟩ = some (.int .i64 bl) ∧ W.cell? ⟨w.heap.size, 3, none⟩ = some t) ∧ W.cell? ⟨w.heap.size + 1, 1, none⟩ = some (.int .i64 d.sp)) ∧ W.cell? ⟨g, j * 12 + 1, none⟩ = some (.int .u64 q.va) ∧ W.cell? ⟨g, j * 12 + 1 + 1, none⟩ = some (.int .i64 q.sz) ∧ W.cell? ⟨g, j * 12 + 1 + 2, none⟩ = some (.int .u64 q.pa) ∧ W.cell? ⟨g, j * 12 + 1 + 3, none⟩ = some (.bool q.att.write) ∧ W.cell? ⟨g, j * 12 + 1 + 4, none⟩ = some (.bool q.att.priv) ∧ W.cell? ⟨g, j * 12 + 1 + 5, none⟩ = some (.bool q.att.exec) ∧ W.cell? ⟨g, j * 12 + 1 + 6, none⟩ = some (.bool q.att.lock) ∧ W.cell? ⟨g, j * 12 + 1 + 7, none⟩ = some (.bool q.att.global) ∧ W.cell? ⟨g, j * 12 + 1 + 8, none⟩ = some (.bool q.att.quiet) ∧ W.cell? ⟨g, j * 12 + 1 + 9, none⟩ = some (.bool q.ref) ∧ W.cell? ⟨g, j * 12 + 1 + 10, none⟩ = some (.bool q.mod) := by
  obtain ⟨hjl, rfl⟩ := hj.out
  obtain ⟨y0, y1, y2, y3, y4, y5, y6, y7, y8, y9, y10, y11⟩ := own_sp h.x.dh.own rfl hjl
  obtain ⟨x0, x1, x2, x3, _⟩ := four_H h.x.hx
  exact ⟨⟨⟨x0, x1, x2, x3⟩, h.x.dcells.2.1⟩, y1, y2, y3, y4, y5, y6, y7, y8, y9, y10, y11⟩
section
variable {w0 w : World} {hb sb n : Nat} {ns bl : Int} {L : Nat → List Bk} {F : Nat → Prop} {v t : Value} {l : List SPg} {LT : Nat → List Hs.Bk} {U : Nat → Value}
theorem atD_bd {d : DeedV} (hd : d.wf) {l : List SPg} (hl : ∀ x ∈ l, Val x.p) : 0 ≤ atD d l ∧ atD d l ≤ 18446744073709551615 := by
  unfold atD
  split
  · rename_i h
    have hP := h.2
    obtain ⟨k, hk⟩ : ∃ k : Nat, k = (absI d.n % ((dpgs l d.sp).length : Int)).toNat := ⟨_, rfl⟩
    rw [← hk]
    have hk2 : k < (dpgs l d.sp).length := by
      have h0 := Int.emod_nonneg (absI d.n) (show ((dpgs l d.sp).length : Int) ≠ 0 by omega)
      have := Int.emod_lt_of_pos (absI d.n) (show (0 : Int) < ((dpgs l d.sp).length : Int) by omega); omega
    have hm : pat (dpgs l d.sp) k ∈ dpgs l d.sp := by simp [pat, hk2]
    obtain ⟨y, hy, e⟩ := dpgs_mem l d.sp l.length (Nat.le_refl _) _ (by rwa [List.take_length])
    have hV := hl y hy
    rw [e] at hV
    generalize pat (dpgs l d.sp) k = q at *
    have hbp := bytes_pos hV.z
    have htop := base_top q.va q.sz hV.w.v0 hV.w.v1
    rw [hV.base] at htop
    have hr0 := Int.emod_nonneg d.va (show bytesI q.sz ≠ 0 by omega)
    have hr1 := Int.emod_lt_of_pos d.va (show 0 < bytesI q.sz by omega)
    have := hV.w.v0
    omega
  · exact ⟨hd.v0, hd.v1⟩
end
theorem goodP_val (p : Pg) : Val (goodP p) := by
  have b1 := nrm_bd p.sz 4 (by omega)
  have vb := vaI_bd p.va
  have hz : sizeB (nrm p.sz 4) = true := by unfold sizeB; simp; omega
  have c1 := base_bd (vaI p.va) (nrm p.sz 4) vb.1 vb.2
  have c2 := base_bd (p.pa % 2199023255552) (nrm p.sz 4) (by omega) (by omega)
  have hb := bytes_pos hz
  unfold goodP
  refine ⟨⟨?_, ?_, ?_, ?_, ?_, ?_⟩, hz, ?_⟩ <;> dsimp only <;> (try omega)
  unfold baseI
  rw [hz, if_pos rfl]
  exact Int.mul_emod_left _ _
theorem pgD_wf {d : DeedV} (hd : d.wf) : (pgD d).wf := by
  unfold pgD; split
  · exact hd.p
  · exact (goodP_val _).w
/-- A deed in a box. -/
structure DeedB (w : World) (b : Nat) (d : DeedV) : Prop where
  row : w.heap[b]? = some (.cells #[.int .i64 d.kind, .int .i64 d.sp, .int .i64 d.n, .int .u64 d.p.va, .int .i64 d.p.sz, .int .u64 d.p.pa, .bool d.p.att.write, .bool d.p.att.priv, .bool d.p.att.exec, .bool d.p.att.lock, .bool d.p.att.global, .bool d.p.att.quiet, .bool d.p.ref, .bool d.p.mod, .int .u64 d.va, .bool d.att.write, .bool d.att.priv, .bool d.att.exec, .bool d.att.lock, .bool d.att.global, .bool d.att.quiet, .bool d.mod, .bool d.raw, .bool d.near] 40 (0, 0))
theorem DeedB.run {w : World} {b : Nat} {d : DeedV} (h : DeedB w b d) : (Instr.loadAt 40 (.pointer (some ⟨b, 0, none⟩))).run Tryz.prog w = .ok (.agg #[.int .i64 d.kind, .int .i64 d.sp, .int .i64 d.n, .int .u64 d.p.va, .int .i64 d.p.sz, .int .u64 d.p.pa, .bool d.p.att.write, .bool d.p.att.priv, .bool d.p.att.exec, .bool d.p.att.lock, .bool d.p.att.global, .bool d.p.att.quiet, .bool d.p.ref, .bool d.p.mod, .int .u64 d.va, .bool d.att.write, .bool d.att.priv, .bool d.att.exec, .bool d.att.lock, .bool d.att.global, .bool d.att.quiet, .bool d.mod, .bool d.raw, .bool d.near]) w := by
  have hl := run_loadVar_row (P := Tryz.prog) w b 40 40 #[.int .i64 d.kind, .int .i64 d.sp, .int .i64 d.n, .int .u64 d.p.va, .int .i64 d.p.sz, .int .u64 d.p.pa, .bool d.p.att.write, .bool d.p.att.priv, .bool d.p.att.exec, .bool d.p.att.lock, .bool d.p.att.global, .bool d.p.att.quiet, .bool d.p.ref, .bool d.p.mod, .int .u64 d.va, .bool d.att.write, .bool d.att.priv, .bool d.att.exec, .bool d.att.lock, .bool d.att.global, .bool d.att.quiet, .bool d.mod, .bool d.raw, .bool d.near] (0, 0) _ h.row Tryz.underlying40 rfl (by kernel_rfl)
  simp only [Instr.loadAt, Instr.sureAddr, Sem.run_bind, Sem.run_pure, Result.andThen_ok, hl]
theorem DeedB.cell {w : World} {b : Nat} {d : DeedV} (h : DeedB w b d) {i : Nat} {x : Value} (hx : (#[.int .i64 d.kind, .int .i64 d.sp, .int .i64 d.n, .int .u64 d.p.va, .int .i64 d.p.sz, .int .u64 d.p.pa, .bool d.p.att.write, .bool d.p.att.priv, .bool d.p.att.exec, .bool d.p.att.lock, .bool d.p.att.global, .bool d.p.att.quiet, .bool d.p.ref, .bool d.p.mod, .int .u64 d.va, .bool d.att.write, .bool d.att.priv, .bool d.att.exec, .bool d.att.lock, .bool d.att.global, .bool d.att.quiet, .bool d.mod, .bool d.raw, .bool d.near])[i]? = some x) : w.cell? ⟨b, i, none⟩ = some x := by
  have := h.row
  simp only [World.cell?, this]; exact hx
theorem DeedB.all {w : World} {b : Nat} {d : DeedV} (h : DeedB w b d) : w.cell? ⟨b, 0, none⟩ = some (.int .i64 d.kind) ∧ w.cell? ⟨b, 1, none⟩ = some (.int .i64 d.sp) ∧ w.cell? ⟨b, 2, none⟩ = some (.int .i64 d.n) ∧ w.cell? ⟨b, 3, none⟩ = some (.int .u64 d.p.va) ∧ w.cell? ⟨b, 4, none⟩ = some (.int .i64 d.p.sz) ∧ w.cell? ⟨b, 5, none⟩ = some (.int .u64 d.p.pa) ∧ w.cell? ⟨b, 6, none⟩ = some (.bool d.p.att.write) ∧ w.cell? ⟨b, 7, none⟩ = some (.bool d.p.att.priv) ∧ w.cell? ⟨b, 8, none⟩ = some (.bool d.p.att.exec) ∧ w.cell? ⟨b, 9, none⟩ = some (.bool d.p.att.lock) ∧ w.cell? ⟨b, 10, none⟩ = some (.bool d.p.att.global) ∧ w.cell? ⟨b, 11, none⟩ = some (.bool d.p.att.quiet) ∧ w.cell? ⟨b, 12, none⟩ = some (.bool d.p.ref) ∧ w.cell? ⟨b, 13, none⟩ = some (.bool d.p.mod) ∧ w.cell? ⟨b, 14, none⟩ = some (.int .u64 d.va) ∧ w.cell? ⟨b, 15, none⟩ = some (.bool d.att.write) ∧ w.cell? ⟨b, 16, none⟩ = some (.bool d.att.priv) ∧ w.cell? ⟨b, 17, none⟩ = some (.bool d.att.exec) ∧ w.cell? ⟨b, 18, none⟩ = some (.bool d.att.lock) ∧ w.cell? ⟨b, 19, none⟩ = some (.bool d.att.global) ∧ w.cell? ⟨b, 20, none⟩ = some (.bool d.att.quiet) ∧ w.cell? ⟨b, 21, none⟩ = some (.bool d.mod) ∧ w.cell? ⟨b, 22, none⟩ = some (.bool d.raw) ∧ w.cell? ⟨b, 23, none⟩ = some (.bool d.near) :=
  ⟨h.cell rfl, h.cell rfl, h.cell rfl, h.cell rfl, h.cell rfl, h.cell rfl, h.cell rfl, h.cell rfl, h.cell rfl, h.cell rfl, h.cell rfl, h.cell rfl, h.cell rfl, h.cell rfl, h.cell rfl, h.cell rfl, h.cell rfl, h.cell rfl, h.cell rfl, h.cell rfl, h.cell rfl, h.cell rfl, h.cell rfl, h.cell rfl⟩
theorem DeedB.range {w : World} {b : Nat} {d : DeedV} (h : DeedB w b d) : w.rangeAt b 0 [.int .i64 d.kind, .int .i64 d.sp, .int .i64 d.n, .int .u64 d.p.va, .int .i64 d.p.sz, .int .u64 d.p.pa, .bool d.p.att.write, .bool d.p.att.priv, .bool d.p.att.exec, .bool d.p.att.lock, .bool d.p.att.global, .bool d.p.att.quiet, .bool d.p.ref, .bool d.p.mod, .int .u64 d.va, .bool d.att.write, .bool d.att.priv, .bool d.att.exec, .bool d.att.lock, .bool d.att.global, .bool d.att.quiet, .bool d.mod, .bool d.raw, .bool d.near] := fun j v hv => by
  rw [Nat.zero_add]
  exact h.cell (by rw [← hv]; exact (List.getElem?_toArray))
theorem DeedB.cells {w : World} {b : Nat} {d : DeedV} (h : DeedB w b d) : w.cell? ⟨b, 0, none⟩ = some (.int .i64 d.kind) ∧ w.cell? ⟨b, 1, none⟩ = some (.int .i64 d.sp) ∧ w.cell? ⟨b, 2, none⟩ = some (.int .i64 d.n) := by
  have := h.row
  exact ⟨by simp [World.cell?, this], by simp [World.cell?, this], by simp [World.cell?, this]⟩
theorem KY.far {w0 w w' : World} {hb sb n b : Nat} {ns bl : Int} {L : Nat → List Bk} {F : Nat → Prop} (h : KY w0 w hb sb ns bl n L F) (hF : F b) (hn : b ≠ hb) (low : Below w0.heap.size w0 w') (hz : w'.heap.size = w.heap.size) (hk : ∀ k, k ≠ b → w'.heap[k]? = w.heap[k]?) : KY w0 w' hb sb ns bl n L F := by
  obtain ⟨O, h1, h2, h3⟩ := h.ex
  obtain ⟨bm, V, t, e⟩ := h1.tab
  refine ⟨⟨O, ⟨⟨bm, V, t.same (fun k ho => hk k (fun e' => (h3 b hF).1 (e' ▸ (e k).2 ho))), e⟩, (hk hb (fun e => hn e.symm)).trans h1.row, h1.no, h1.s0, h1.s1⟩, h2, fun k hkk => ⟨(h3 k hkk).1, by rw [hz]; exact (h3 k hkk).2⟩⟩, low⟩
/-- What a deed leaves. -/
def DoneX (w0 w w' : World) (hb sb : Nat) (ns bl : Int) (F : Nat → Prop) (l : List SPg) (sp : Int) (e : Ending) : Prop :=
  ∃ n' L' v' l' t' LT' U', e = .returned (.tuple #[.agg #[.int .i64 ns, v', .int .i64 bl, t'], .bool true]) ∧ KY w0 w' hb sb ns bl n' L' F ∧ DH w' v' l' t' n' LT' U' ∧ HT ns bl n' L' l' LT' ∧ Kept F w w' ∧ ∀ x : SPg, x.sp ≠ sp → (x ∈ l' ↔ x ∈ l)
/-- Behind all that a deed does: the boxes, the hat that is next. -/
structure TZ (w0 w W : World) (hb sb : Nat) (ns bl : Int) (n' : Nat) (L' : Nat → List Bk) (F : Nat → Prop) (d : DeedV) (a0 a1 a2 a3 : Value) (nb : Nat) (G : Nat → Prop) (v' : Value) (l' : List SPg) (t' : Value) (LT' : Nat → List Hs.Bk) (U' : Nat → Value) : Prop where
  ky : KY w0 W hb sb ns bl n' L' G
  gF : ∀ k, F k → G k
  g2 : G (w.heap.size + 1 + 1)
  nd : DH W v' l' t' n' LT' U'
  hx : W.heap[w.heap.size]? = some (.cells #[a0, a1, a2, a3] 30 (0, 0))
  dx : W.heap[w.heap.size + 1]? = some (.cells #[.int .i64 d.kind, .int .i64 d.sp, .int .i64 d.n, .int .u64 d.p.va, .int .i64 d.p.sz, .int .u64 d.p.pa, .bool d.p.att.write, .bool d.p.att.priv, .bool d.p.att.exec, .bool d.p.att.lock, .bool d.p.att.global, .bool d.p.att.quiet, .bool d.p.ref, .bool d.p.mod, .int .u64 d.va, .bool d.att.write, .bool d.att.priv, .bool d.att.exec, .bool d.att.lock, .bool d.att.global, .bool d.att.quiet, .bool d.mod, .bool d.raw, .bool d.near] 40 (0, 0))
  rx : W.heap[w.heap.size + 1 + 1]? = some (.cells #[.int .i64 0, .slice none 0 0, .int .i64 0, .slice none 0 0] 30 (0, 0))
  nx : W.heap[nb]? = some (.cells #[.int .i64 ns, v', .int .i64 bl, t'] 30 (0, 0))
  kp : Kept F w W
  fl : ∀ k, F k → k < w.heap.size
  hl : hb < w.heap.size
  lo : w0.heap.size ≤ w.heap.size
  nl : w.heap.size + 3 ≤ nb
theorem TZ.low {w0 w W W' : World} {hb sb : Nat} {ns bl : Int} {n' : Nat} {L' : Nat → List Bk} {F : Nat → Prop} {d : DeedV} {a0 a1 a2 a3 : Value} {nb : Nat} {G : Nat → Prop} {v' : Value} {l' : List SPg} {t' : Value} {LT' : Nat → List Hs.Bk} {U' : Nat → Value} (h : TZ w0 w W hb sb ns bl n' L' F d a0 a1 a2 a3 nb G v' l' t' LT' U') (b : Below W.heap.size W W') : TZ w0 w W' hb sb ns bl n' L' F d a0 a1 a2 a3 nb G v' l' t' LT' U' :=
  ⟨h.ky.below b, h.gF, h.g2, h.nd.low b, blk_low h.hx b, blk_low h.dx b, blk_low h.rx b, blk_low h.nx b, ⟨fun k hk => (b.block k (Nat.lt_of_lt_of_le (h.fl k hk) h.kp.2)).trans (h.kp.1 k hk), Nat.le_trans h.kp.2 b.size⟩, h.fl, h.hl, h.lo, h.nl⟩
theorem TZ.add {w0 w W W' : World} {hb sb : Nat} {ns bl : Int} {n' : Nat} {L' : Nat → List Bk} {F : Nat → Prop} {d : DeedV} {a0 a1 a2 a3 : Value} {nb : Nat} {G G' : Nat → Prop} {v' : Value} {l' : List SPg} {t' : Value} {LT' : Nat → List Hs.Bk} {U' : Nat → Value} (h : TZ w0 w W hb sb ns bl n' L' F d a0 a1 a2 a3 nb G v' l' t' LT' U') (b : Below W.heap.size W W') (h1 : ∀ k, G k → G' k) (h2 : ∀ k, G' k → G k ∨ (W.heap.size ≤ k ∧ k < W'.heap.size)) : TZ w0 w W' hb sb ns bl n' L' F d a0 a1 a2 a3 nb G' v' l' t' LT' U' :=
  ⟨h.ky.add b h2, fun k hk => h1 k (h.gF k hk), h1 _ h.g2, h.nd.low b, blk_low h.hx b, blk_low h.dx b, blk_low h.rx b, blk_low h.nx b, ⟨fun k hk => (b.block k (Nat.lt_of_lt_of_le (h.fl k hk) h.kp.2)).trans (h.kp.1 k hk), Nat.le_trans h.kp.2 b.size⟩, h.fl, h.hl, h.lo, h.nl⟩
theorem TZ.fin {w0 w W : World} {hb sb : Nat} {ns bl : Int} {n' : Nat} {L' : Nat → List Bk} {F : Nat → Prop} {d : DeedV} {a0 a1 a2 a3 : Value} {nb : Nat} {G : Nat → Prop} {v' : Value} {l' : List SPg} {t' : Value} {LT' : Nat → List Hs.Bk} {U' : Nat → Value} (h : TZ w0 w W hb sb ns bl n' L' F d a0 a1 a2 a3 nb G v' l' t' LT' U') :
    let W8 := ((((W.setCell ⟨w.heap.size + 1 + 1, 0, none⟩ (.int .i64 ns)).setCell ⟨w.heap.size + 1 + 1, 1, none⟩ v').setCell ⟨w.heap.size + 1 + 1, 2, none⟩ (.int .i64 bl)).setCell ⟨w.heap.size + 1 + 1, 3, none⟩ t')
    W8.heap[w.heap.size + 1 + 1]? = some (.cells #[.int .i64 ns, v', .int .i64 bl, t'] 30 (0, 0)) ∧ KY w0 W8 hb sb ns bl n' L' F ∧ DH W8 v' l' t' n' LT' U' ∧ Kept F w W8 := by
  intro W8
  have nl := h.nl
  have f := fill_H (ns := ns) (bl := bl) h.nd h.ky.low (by have := h.lo; omega : w0.heap.size ≤ w.heap.size + 1 + 1) h.rx rfl
  have hk : ∀ k, k ≠ w.heap.size + 1 + 1 → W8.heap[k]? = W.heap[k]? := fun k hk => by
    show ((((W.setCell _ _).setCell _ _).setCell _ _).setCell _ _).heap[k]? = _
    rw [Below.heap_setCell _ _ _ _ hk, Below.heap_setCell _ _ _ _ hk, Below.heap_setCell _ _ _ _ hk, Below.heap_setCell _ _ _ _ hk]
  have hz : W8.heap.size = W.heap.size := by
    show ((((W.setCell _ _).setCell _ _).setCell _ _).setCell _ _).heap.size = _
    simp only [setCell_size]
  refine ⟨f.1, (h.ky.far (b := w.heap.size + 1 + 1) h.g2 (by have := h.hl; omega) f.2.2 hz hk).sub h.gF, f.2.1, fun k hk' => (hk k (by have := h.fl k hk'; omega)).trans (h.kp.1 k hk'), by rw [hz]; exact h.kp.2⟩
/-- Both hats, and the boxes, before the program's hat is turned. -/
structure TE (w0 w W : World) (hb sb : Nat) (ns bl : Int) (L : Nat → List Bk) (F : Nat → Prop) (v : Value) (l : List SPg) (t : Value) (n : Nat) (LT : Nat → List Hs.Bk) (U : Nat → Value) (d : DeedV) : Prop where
  x : TX w W ns bl v l t n LT U d
  ky : KY w0 W hb sb ns bl n L (fun k => F k ∨ (w.heap.size ≤ k ∧ k < W.heap.size))
  fl : ∀ k, F k → k < w.heap.size
  hl : hb < w.heap.size
  w0l : w0.heap.size ≤ w.heap.size
section
variable {w0 w W W' : World} {hb sb : Nat} {ns bl : Int} {n : Nat} {L : Nat → List Bk} {F : Nat → Prop} {v : Value} {l : List SPg} {t : Value} {LT : Nat → List Hs.Bk} {U : Nat → Value} {d : DeedV}
theorem TE.of (K : KY w0 w hb sb ns bl n L F) (x : TX w W ns bl v l t n LT U d) : TE w0 w W hb sb ns bl L F v l t n LT U d :=
  ⟨x, K.add x.lo (fun _ hk => hk), fun _ hk => K.lt hk, K.hbl, K.low.size⟩
theorem TE.low (h : TE w0 w W hb sb ns bl L F v l t n LT U d) (b : Below W.heap.size W W') : TE w0 w W' hb sb ns bl L F v l t n LT U d :=
  ⟨h.x.low b, h.ky.add b (fun k hk => by
    rcases hk with hk | ⟨h1, h2⟩
    · exact .inl (.inl hk)
    · by_cases hw : k < W.heap.size
      · exact .inl (.inr ⟨h1, hw⟩)
      · exact .inr ⟨by omega, h2⟩), h.fl, h.hl, h.w0l⟩
theorem TE.deed (h : TE w0 w W hb sb ns bl L F v l t n LT U d) : DeedB W (w.heap.size + 1) d := ⟨h.x.dx⟩
theorem TE.size (h : TE w0 w W hb sb ns bl L F v l t n LT U d) : w.heap.size + 3 ≤ W.heap.size := by have := (Array.getElem?_eq_some_iff.1 h.x.rx).1; omega
theorem TE.reads (h : TE w0 w W hb sb ns bl L F v l t n LT U d) : ((W.cell? ⟨w.heap.size, 0, none⟩ = some (.int .i64 ns) ∧ W.cell? ⟨w.heap.size, 1, none⟩ = some v ∧ W.cell? ⟨w.heap.size, 2, none⟩ = some (.int .i64 bl) ∧ W.cell? ⟨w.heap.size, 3, none⟩ = some t) ∧ W.cell? ⟨(w.heap.size + 1), 0, none⟩ = some (.int .i64 d.kind) ∧ W.cell? ⟨(w.heap.size + 1), 1, none⟩ = some (.int .i64 d.sp) ∧ W.cell? ⟨(w.heap.size + 1), 2, none⟩ = some (.int .i64 d.n) ∧ W.cell? ⟨(w.heap.size + 1), 3, none⟩ = some (.int .u64 d.p.va) ∧ W.cell? ⟨(w.heap.size + 1), 4, none⟩ = some (.int .i64 d.p.sz) ∧ W.cell? ⟨(w.heap.size + 1), 5, none⟩ = some (.int .u64 d.p.pa) ∧ W.cell? ⟨(w.heap.size + 1), 6, none⟩ = some (.bool d.p.att.write) ∧ W.cell? ⟨(w.heap.size + 1), 7, none⟩ = some (.bool d.p.att.priv) ∧ W.cell? ⟨(w.heap.size + 1), 8, none⟩ = some (.bool d.p.att.exec) ∧ W.cell? ⟨(w.heap.size + 1), 9, none⟩ = some (.bool d.p.att.lock) ∧ W.cell? ⟨(w.heap.size + 1), 10, none⟩ = some (.bool d.p.att.global) ∧ W.cell? ⟨(w.heap.size + 1), 11, none⟩ = some (.bool d.p.att.quiet) ∧ W.cell? ⟨(w.heap.size + 1), 12, none⟩ = some (.bool d.p.ref) ∧ W.cell? ⟨(w.heap.size + 1), 13, none⟩ = some (.bool d.p.mod) ∧ W.cell? ⟨(w.heap.size + 1), 14, none⟩ = some (.int .u64 d.va) ∧ W.cell? ⟨(w.heap.size + 1), 15, none⟩ = some (.bool d.att.write) ∧ W.cell? ⟨(w.heap.size + 1), 16, none⟩ = some (.bool d.att.priv) ∧ W.cell? ⟨(w.heap.size + 1), 17, none⟩ = some (.bool d.att.exec) ∧ W.cell? ⟨(w.heap.size + 1), 18, none⟩ = some (.bool d.att.lock) ∧ W.cell? ⟨(w.heap.size + 1), 19, none⟩ = some (.bool d.att.global) ∧ W.cell? ⟨(w.heap.size + 1), 20, none⟩ = some (.bool d.att.quiet) ∧ W.cell? ⟨(w.heap.size + 1), 21, none⟩ = some (.bool d.mod) ∧ W.cell? ⟨(w.heap.size + 1), 22, none⟩ = some (.bool d.raw) ∧ W.cell? ⟨(w.heap.size + 1), 23, none⟩ = some (.bool d.near)) := by
  obtain ⟨x0, x1, x2, x3, _⟩ := four_H h.x.hx
  exact ⟨⟨x0, x1, x2, x3⟩, h.x.dcells⟩
end
theorem TE.fin {w0 w W : World} {hb sb : Nat} {ns bl : Int} {n : Nat} {L : Nat → List Bk} {F : Nat → Prop} {v : Value} {l : List SPg} {t : Value} {LT : Nat → List Hs.Bk} {U : Nat → Value} {d : DeedV} (h : TE w0 w W hb sb ns bl L F v l t n LT U d) :
    let W8 := ((((W.setCell ⟨w.heap.size + 1 + 1, 0, none⟩ (.int .i64 ns)).setCell ⟨w.heap.size + 1 + 1, 1, none⟩ v).setCell ⟨w.heap.size + 1 + 1, 2, none⟩ (.int .i64 bl)).setCell ⟨w.heap.size + 1 + 1, 3, none⟩ t)
    W8.heap[w.heap.size + 1 + 1]? = some (.cells #[.int .i64 ns, v, .int .i64 bl, t] 30 (0, 0)) ∧ KY w0 W8 hb sb ns bl n L F ∧ DH W8 v l t n LT U ∧ Kept F w W8 := by
  intro W8
  have z := h.size
  have f := fill_H (ns := ns) (bl := bl) h.x.dh h.ky.low (by have := h.w0l; omega : w0.heap.size ≤ w.heap.size + 1 + 1) h.x.rx rfl
  have hk : ∀ k, k ≠ w.heap.size + 1 + 1 → W8.heap[k]? = W.heap[k]? := fun k hk => by
    show ((((W.setCell _ _).setCell _ _).setCell _ _).setCell _ _).heap[k]? = _
    rw [Below.heap_setCell _ _ _ _ hk, Below.heap_setCell _ _ _ _ hk, Below.heap_setCell _ _ _ _ hk, Below.heap_setCell _ _ _ _ hk]
  have hz : W8.heap.size = W.heap.size := by
    show ((((W.setCell _ _).setCell _ _).setCell _ _).setCell _ _).heap.size = _
    simp only [setCell_size]
  refine ⟨f.1, (h.ky.far (b := w.heap.size + 1 + 1) (.inr ⟨by omega, by omega⟩) (by have := h.hl; omega) f.2.2 hz hk).sub (fun k hk => .inl hk), f.2.1, fun k hk' => (hk k (by have := h.fl k hk'; omega)).trans (h.x.lo.block k (h.fl k hk')), by rw [hz]; exact h.x.lo.size⟩
/-- .. and the hat that is next. -/
structure TN (w0 w W : World) (hb sb : Nat) (ns bl : Int) (L : Nat → List Bk) (F : Nat → Prop) (v : Value) (l : List SPg) (t : Value) (n : Nat) (LT : Nat → List Hs.Bk) (U : Nat → Value) (d : DeedV) (nb m : Nat) (v' : Value) (l' : List SPg) (t' : Value) (n' : Nat) (LT' : Nat → List Hs.Bk) (U' : Nat → Value) : Prop where
  x : TX w W ns bl v l t n LT U d
  ky : KY w0 W hb sb ns bl n L (fun k => F k ∨ (w.heap.size ≤ k ∧ k < m))
  nx : W.heap[nb]? = some (.cells #[.int .i64 ns, v', .int .i64 bl, t'] 30 (0, 0))
  nd : DH W v' l' t' n' LT' U'
  fl : ∀ k, F k → k < w.heap.size
  hl : hb < w.heap.size
  w0l : w0.heap.size ≤ w.heap.size
  nl : w.heap.size + 3 ≤ nb
  nm : nb < m
  ml : m ≤ W.heap.size
section
variable {w0 w W W' : World} {hb sb : Nat} {ns bl : Int} {n n' nb m : Nat} {L L' : Nat → List Bk} {F : Nat → Prop} {v v' : Value} {l l' : List SPg} {t t' : Value} {LT LT' : Nat → List Hs.Bk} {U U' : Nat → Value} {d : DeedV}
theorem TN.low (h : TN w0 w W hb sb ns bl L F v l t n LT U d nb m v' l' t' n' LT' U') (b : Below W.heap.size W W') : TN w0 w W' hb sb ns bl L F v l t n LT U d nb m v' l' t' n' LT' U' :=
  ⟨h.x.low b, h.ky.below b, blk_low h.nx b, h.nd.low b, h.fl, h.hl, h.w0l, h.nl, h.nm, Nat.le_trans h.ml b.size⟩
theorem TN.deed (h : TN w0 w W hb sb ns bl L F v l t n LT U d nb m v' l' t' n' LT' U') : DeedB W (w.heap.size + 1) d := ⟨h.x.dx⟩
/-- The hat that is next is laid into its box. -/
theorem TE.next (h : TE w0 w W hb sb ns bl L F v l t n LT U d) (b : Below W.heap.size W W') (D : DH W' v' l' t' n' LT' U') (h0 : W.heap.size ≤ nb) (hm : nb < m) (hm2 : m ≤ W'.heap.size) {x0 x1 x2 x3 : Value} (hx : W'.heap[nb]? = some (.cells #[x0, x1, x2, x3] 30 (0, 0))) :
    TN w0 w ((((W'.setCell ⟨nb, 0, none⟩ (.int .i64 ns)).setCell ⟨nb, 1, none⟩ v').setCell ⟨nb, 2, none⟩ (.int .i64 bl)).setCell ⟨nb, 3, none⟩ t') hb sb ns bl L F v l t n LT U d nb m v' l' t' n' LT' U' := by
  have hb1 : Below W.heap.size W ((((W'.setCell ⟨nb, 0, none⟩ (.int .i64 ns)).setCell ⟨nb, 1, none⟩ v').setCell ⟨nb, 2, none⟩ (.int .i64 bl)).setCell ⟨nb, 3, none⟩ t') := (((b.setCell h0 _).setCell h0 _).setCell h0 _).setCell h0 _
  have E := h.low hb1
  have f := fill_H (ns := ns) (bl := bl) D b h0 hx rfl
  have hz := h.size
  exact ⟨E.x, E.ky.sub (fun k hk => hk.imp id (fun hk => ⟨hk.1, by have := hk.2; simp only [setCell_size]; omega⟩)), f.1, f.2.1, h.fl, h.hl, h.w0l, by omega, hm, by simp only [setCell_size]; exact hm2⟩
/-- .. and a page into one of its own. -/
theorem TN.page (h : TN w0 w W hb sb ns bl L F v l t n LT U d nb m v' l' t' n' LT' U') {pb : Nat} {y : Pg} (hp : RowP W pb y) (h1 : w.heap.size + 3 ≤ pb) (h2 : pb < m) (q : Pg) :
    TN w0 w (((((((((((W.setCell ⟨pb, 0, none⟩ (.int .u64 q.va)).setCell ⟨pb, 1, none⟩ (.int .i64 q.sz)).setCell ⟨pb, 2, none⟩ (.int .u64 q.pa)).setCell ⟨pb, 3, none⟩ (.bool q.att.write)).setCell ⟨pb, 4, none⟩ (.bool q.att.priv)).setCell ⟨pb, 5, none⟩ (.bool q.att.exec)).setCell ⟨pb, 6, none⟩ (.bool q.att.lock)).setCell ⟨pb, 7, none⟩ (.bool q.att.global)).setCell ⟨pb, 8, none⟩ (.bool q.att.quiet)).setCell ⟨pb, 9, none⟩ (.bool q.ref)).setCell ⟨pb, 10, none⟩ (.bool q.mod)) hb sb ns bl L F v l t n LT U d nb m v' l' t' n' LT' U' ∧
    RowP (((((((((((W.setCell ⟨pb, 0, none⟩ (.int .u64 q.va)).setCell ⟨pb, 1, none⟩ (.int .i64 q.sz)).setCell ⟨pb, 2, none⟩ (.int .u64 q.pa)).setCell ⟨pb, 3, none⟩ (.bool q.att.write)).setCell ⟨pb, 4, none⟩ (.bool q.att.priv)).setCell ⟨pb, 5, none⟩ (.bool q.att.exec)).setCell ⟨pb, 6, none⟩ (.bool q.att.lock)).setCell ⟨pb, 7, none⟩ (.bool q.att.global)).setCell ⟨pb, 8, none⟩ (.bool q.att.quiet)).setCell ⟨pb, 9, none⟩ (.bool q.ref)).setCell ⟨pb, 10, none⟩ (.bool q.mod)) pb q := by
  have hs := hp.setAll q
  have hne : nb ≠ pb := fun e => by
    have h3 := h.nx
    rw [e, hp.row] at h3
    injection h3 with h3; injection h3 with _ h3 _; exact absurd h3 (by decide)
  have w0l := h.w0l
  have hl := h.hl
  have hk : ∀ k, k ≠ pb → (((((((((((W.setCell ⟨pb, 0, none⟩ (.int .u64 q.va)).setCell ⟨pb, 1, none⟩ (.int .i64 q.sz)).setCell ⟨pb, 2, none⟩ (.int .u64 q.pa)).setCell ⟨pb, 3, none⟩ (.bool q.att.write)).setCell ⟨pb, 4, none⟩ (.bool q.att.priv)).setCell ⟨pb, 5, none⟩ (.bool q.att.exec)).setCell ⟨pb, 6, none⟩ (.bool q.att.lock)).setCell ⟨pb, 7, none⟩ (.bool q.att.global)).setCell ⟨pb, 8, none⟩ (.bool q.att.quiet)).setCell ⟨pb, 9, none⟩ (.bool q.ref)).setCell ⟨pb, 10, none⟩ (.bool q.mod)).heap[k]? = W.heap[k]? := fun k hk => row_far q hk
  refine ⟨⟨⟨h.x.dh.far2 hp.row hk, (hk _ (by omega)).trans h.x.hx, (hk _ (by omega)).trans h.x.dx, (hk _ (by omega)).trans h.x.rx, h.x.lo.trans (hs.2 _ (by omega))⟩, h.ky.far (b := pb) (.inr ⟨by omega, h2⟩) (by omega) (h.ky.low.trans (hs.2 _ (by omega))) (by simp only [setCell_size]) hk, (hk nb hne).trans h.nx, h.nd.far2 hp.row hk, h.fl, h.hl, h.w0l, h.nl, h.nm, by simp only [setCell_size]; exact h.ml⟩, hs.1⟩
theorem TN.kyd (h : TN w0 w W hb sb ns bl L F v l t n LT U d nb m v' l' t' n' LT' U') : KY w0 W hb sb ns bl n L (fun k => (F k ∨ (w.heap.size ≤ k ∧ k < m)) ∨ DB v' t' n' U' k) := h.ky.doc h.nd
/-- Behind the program's own call. -/
theorem TN.up (h : TN w0 w W hb sb ns bl L F v l t n LT U d nb m v' l' t' n' LT' U') (e : m = W.heap.size) (b : Below W.heap.size W W') : TN w0 w W' hb sb ns bl L F v l t n LT U d nb W'.heap.size v' l' t' n' LT' U' :=
  ⟨h.x.low b, h.ky.add b (fun k hk => by
    rcases hk with hk | ⟨h1, h2⟩
    · exact .inl (.inl hk)
    · by_cases hw : k < m
      · exact .inl (.inr ⟨h1, hw⟩)
      · exact .inr ⟨by omega, h2⟩), blk_low h.nx b, h.nd.low b, h.fl, h.hl, h.w0l, h.nl, by have := h.nm; have := b.size; omega, Nat.le_refl _⟩
theorem TN.done (h : TN w0 w W hb sb ns bl L F v l t n LT U d nb m v' l' t' n' LT' U') {F' : Nat → Prop} (hF : ∀ k, ((F k ∨ (w.heap.size ≤ k ∧ k < m)) ∨ DB v' t' n' U' k) → F' k) (K : KY w0 W' hb sb ns bl n' L' F') (kp : Kept F' W W') : TZ w0 w W' hb sb ns bl n' L' F d (.int .i64 ns) v (.int .i64 bl) t nb (fun k => F k ∨ (w.heap.size ≤ k ∧ k < m)) v' l' t' LT' U' := by
  have nl := h.nl
  have nm := h.nm
  have hr : ∀ k, w.heap.size ≤ k → k < m → W'.heap[k]? = W.heap[k]? := fun k h1 h2 => kp.1 k (hF k (.inl (.inr ⟨h1, h2⟩)))
  exact ⟨K.sub (fun k hk => hF k (.inl hk)), fun _ hk => .inl hk, .inr ⟨by omega, by omega⟩, h.nd.same (fun k hk => kp.1 k (hF k (.inr hk))), (hr _ (by omega) (by omega)).trans h.x.hx, (hr _ (by omega) (by omega)).trans h.x.dx, (hr _ (by omega) (by omega)).trans h.x.rx, (hr _ (by omega) (by omega)).trans h.nx, ⟨fun k hk => (kp.1 k (hF k (.inl (.inl hk)))).trans (h.x.lo.block k (h.fl k hk)), Nat.le_trans h.x.lo.size kp.2⟩, h.fl, h.hl, h.w0l, nl⟩
end
theorem TZ.after {w0 w W : World} {hb sb : Nat} {ns bl : Int} {n' : Nat} {L' : Nat → List Bk} {F : Nat → Prop} {d : DeedV} {a0 a1 a2 a3 : Value} {nb : Nat} {G : Nat → Prop} {v' : Value} {l' : List SPg} {t' : Value} {LT' : Nat → List Hs.Bk} {U' : Nat → Value} (h : TZ w0 w W hb sb ns bl n' L' F d a0 a1 a2 a3 nb G v' l' t' LT' U') (b0 b1 b2 b3 : Value) {k : Nat} (hk : k ≠ w.heap.size + 1 + 1) :
    ((((W.setCell ⟨w.heap.size + 1 + 1, 0, none⟩ b0).setCell ⟨w.heap.size + 1 + 1, 1, none⟩ b1).setCell ⟨w.heap.size + 1 + 1, 2, none⟩ b2).setCell ⟨w.heap.size + 1 + 1, 3, none⟩ b3).heap[k]? = W.heap[k]? := by
  have _ := h.nl
  rw [Below.heap_setCell _ _ _ _ hk, Below.heap_setCell _ _ _ _ hk, Below.heap_setCell _ _ _ _ hk, Below.heap_setCell _ _ _ _ hk]
theorem ne_HP {W : World} {a b : Nat} {x y : Array Value} (h1 : W.heap[a]? = some (.cells x 30 (0, 0))) (h2 : W.heap[b]? = some (.cells y 38 (0, 0))) : a ≠ b := by
  rintro rfl
  rw [h1] at h2
  injection h2 with h2; injection h2 with _ h2 _; exact absurd h2 (by decide)
theorem TZ.page {w0 w W : World} {hb sb : Nat} {ns bl : Int} {n' : Nat} {L' : Nat → List Bk} {F : Nat → Prop} {d : DeedV} {a0 a1 a2 a3 : Value} {nb : Nat} {G : Nat → Prop} {v' : Value} {l' : List SPg} {t' : Value} {LT' : Nat → List Hs.Bk} {U' : Nat → Value} (h : TZ w0 w W hb sb ns bl n' L' F d a0 a1 a2 a3 nb G v' l' t' LT' U') {pb : Nat} {y : Pg} (hp : RowP W pb y) (h1 : w.heap.size + 3 ≤ pb) (h2 : G pb) (q : Pg) :
    TZ w0 w (((((((((((W.setCell ⟨pb, 0, none⟩ (.int .u64 q.va)).setCell ⟨pb, 1, none⟩ (.int .i64 q.sz)).setCell ⟨pb, 2, none⟩ (.int .u64 q.pa)).setCell ⟨pb, 3, none⟩ (.bool q.att.write)).setCell ⟨pb, 4, none⟩ (.bool q.att.priv)).setCell ⟨pb, 5, none⟩ (.bool q.att.exec)).setCell ⟨pb, 6, none⟩ (.bool q.att.lock)).setCell ⟨pb, 7, none⟩ (.bool q.att.global)).setCell ⟨pb, 8, none⟩ (.bool q.att.quiet)).setCell ⟨pb, 9, none⟩ (.bool q.ref)).setCell ⟨pb, 10, none⟩ (.bool q.mod)) hb sb ns bl n' L' F d a0 a1 a2 a3 nb G v' l' t' LT' U' ∧
    RowP (((((((((((W.setCell ⟨pb, 0, none⟩ (.int .u64 q.va)).setCell ⟨pb, 1, none⟩ (.int .i64 q.sz)).setCell ⟨pb, 2, none⟩ (.int .u64 q.pa)).setCell ⟨pb, 3, none⟩ (.bool q.att.write)).setCell ⟨pb, 4, none⟩ (.bool q.att.priv)).setCell ⟨pb, 5, none⟩ (.bool q.att.exec)).setCell ⟨pb, 6, none⟩ (.bool q.att.lock)).setCell ⟨pb, 7, none⟩ (.bool q.att.global)).setCell ⟨pb, 8, none⟩ (.bool q.att.quiet)).setCell ⟨pb, 9, none⟩ (.bool q.ref)).setCell ⟨pb, 10, none⟩ (.bool q.mod)) pb q ∧
    ∀ k, k ≠ pb → (((((((((((W.setCell ⟨pb, 0, none⟩ (.int .u64 q.va)).setCell ⟨pb, 1, none⟩ (.int .i64 q.sz)).setCell ⟨pb, 2, none⟩ (.int .u64 q.pa)).setCell ⟨pb, 3, none⟩ (.bool q.att.write)).setCell ⟨pb, 4, none⟩ (.bool q.att.priv)).setCell ⟨pb, 5, none⟩ (.bool q.att.exec)).setCell ⟨pb, 6, none⟩ (.bool q.att.lock)).setCell ⟨pb, 7, none⟩ (.bool q.att.global)).setCell ⟨pb, 8, none⟩ (.bool q.att.quiet)).setCell ⟨pb, 9, none⟩ (.bool q.ref)).setCell ⟨pb, 10, none⟩ (.bool q.mod)).heap[k]? = W.heap[k]? := by
  have hs := hp.setAll q
  have hne : nb ≠ pb := ne_HP h.nx hp.row
  have lo := h.lo
  have hl := h.hl
  have hk : ∀ k, k ≠ pb → (((((((((((W.setCell ⟨pb, 0, none⟩ (.int .u64 q.va)).setCell ⟨pb, 1, none⟩ (.int .i64 q.sz)).setCell ⟨pb, 2, none⟩ (.int .u64 q.pa)).setCell ⟨pb, 3, none⟩ (.bool q.att.write)).setCell ⟨pb, 4, none⟩ (.bool q.att.priv)).setCell ⟨pb, 5, none⟩ (.bool q.att.exec)).setCell ⟨pb, 6, none⟩ (.bool q.att.lock)).setCell ⟨pb, 7, none⟩ (.bool q.att.global)).setCell ⟨pb, 8, none⟩ (.bool q.att.quiet)).setCell ⟨pb, 9, none⟩ (.bool q.ref)).setCell ⟨pb, 10, none⟩ (.bool q.mod)).heap[k]? = W.heap[k]? := fun k hk => row_far q hk
  exact ⟨⟨h.ky.far (b := pb) h2 (by omega) (h.ky.low.trans (hs.2 _ (by omega))) (by simp only [setCell_size]) hk, h.gF, h.g2, h.nd.far2 hp.row hk, (hk _ (by omega)).trans h.hx, (hk _ (by omega)).trans h.dx, (hk _ (by omega)).trans h.rx, (hk nb hne).trans h.nx, ⟨fun k hk' => (hk k (by have := h.fl k hk'; omega)).trans (h.kp.1 k hk'), by simp only [setCell_size]; exact h.kp.2⟩, h.fl, h.hl, h.lo, h.nl⟩, hs.1, hk⟩
theorem RowP.kept {W W' : World} {b : Nat} {p : Pg} (h : RowP W b p) (e : W'.heap[b]? = W.heap[b]?) : RowP W' b p := ⟨e.trans h.row⟩
/-! ### What is not of the space stays -/
theorem erase_other {l : List SPg} {i : Nat} {e x : SPg} (h : l[i]? = some e) (hx : x ≠ e) : x ∈ l.eraseIdx i ↔ x ∈ l := by
  have hp := parts h
  rw [List.eraseIdx_eq_take_drop_succ]
  conv => rhs; rw [hp]
  simp [hx]
theorem set_other {l : List SPg} {i : Nat} {e x z : SPg} (h : l[i]? = some e) (hx : x ≠ e) (hz : x ≠ z) : x ∈ l.set i z ↔ x ∈ l := by
  have hp := parts h
  have hi := (List.getElem?_eq_some_iff.1 h).1
  rw [List.set_eq_take_append_cons_drop, if_pos hi]
  conv => rhs; rw [hp]
  simp [hx, hz]
theorem dmapL_other {ns bl : Int} {l : List SPg} {s : Int} {p : Pg} {x : SPg} (hx : x.sp ≠ s) : x ∈ dmapL ns bl l s p ↔ x ∈ l := by
  unfold dmapL; split
  · rw [List.mem_append, List.mem_singleton]
    exact ⟨fun h => h.elim id (fun e => absurd (by rw [e]) hx), .inl⟩
  · rfl
theorem dunL_other {ns : Int} {l : List SPg} {s va : Int} {x : SPg} (hx : x.sp ≠ s) : x ∈ dunL ns l s va ↔ x ∈ l := by
  unfold dunL; split
  · rename_i e
    have hp := why_pos e
    have hs : (sat l (posS l s va)).sp = s := (isAt_iff.1 (first_yes _ _ hp)).1
    exact erase_other (sat_eq l _ hp) (fun e' => hx (by rw [e', hs]))
  · rfl
theorem chL_other {ns : Int} {l : List SPg} {s va : Int} {f : Pg → Pg} {x : SPg} (hx : x.sp ≠ s) : x ∈ chL ns l s va f ↔ x ∈ l := by
  unfold chL; split
  · rename_i e
    have hp := why_pos e
    have hs : (sat l (posS l s va)).sp = s := (isAt_iff.1 (first_yes _ _ hp)).1
    exact set_other (sat_eq l _ hp) (fun e' => hx (by rw [e', hs])) (fun e' => hx (by rw [e']))
  · rfl
theorem ddS_other {ns : Int} {n : Nat} {s : Int} {x : SPg} (hx : x.sp ≠ s) : ∀ (P : List Pg) (st : List SPg × (Nat → List Hs.Bk)), x ∈ (ddS ns n s P st).1 ↔ x ∈ st.1
  | [], _ => Iff.rfl
  | p :: P, st => by
    have h := ddS_other (ns := ns) (n := n) hx P (dunL ns st.1 s p.va, dunT ns st.1 n st.2 s p.va)
    exact h.trans (dunL_other hx)
theorem ddR_other {ns : Int} {n : Nat} {l : List SPg} {LT : Nat → List Hs.Bk} {s : Int} {x : SPg} (hx : x.sp ≠ s) : x ∈ (ddR ns n l LT s).1 ↔ x ∈ l := by
  unfold ddR; split
  · exact ddS_other hx _ _
  · rfl
end Go.Proofs.YtffpfceclhogoaaGreat.Hp
