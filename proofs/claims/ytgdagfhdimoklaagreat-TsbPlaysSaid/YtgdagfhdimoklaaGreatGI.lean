/-
  YtgdagfhdimoklaaGreatGI: the contracts and plain facts of several texts, laid together. Conditions: those that each theorem names.
-/
import Derived.Test.YtgdagfhdimoklaaGreatGD
import Derived.Test.YtgdagfhdimoklaaGreatGF
import Derived.Test.YtgdagfhdimoklaaGreatGH
import Derived.Deep.CutBlock
import Derived.Deep.DeepCutAuto
import Derived.Deep.RegionHeld3
/-
  Slices of deeds of the laws of layer 10 that come in as arguments. Conditions: none.
-/
namespace Go.Proofs.YtgdagfhdimoklaaGreat.Ts
open Fld
open Tl (eleven trod_ent)
open Go.ChangeShapes Go.WideShapes Go.ChangeAt Go.RowKit Go.Deep
set_option maxHeartbeats 1000000
set_option maxRecDepth 100000
def deedL (d : DeedV) : List Value := [.int .i64 d.kind, .int .i64 d.ctx, .int .u64 d.va] ++ (eleven d.e ++ [.bool d.raw])
/-- What the walk is told of deeds that came in. -/
def IsDeeds (w : World) (a : Option Addr) (len cap : Nat) : Prop :=
  (a = none ∧ len = 0) ∨
  ∃ x : Addr, a = some x ∧ len ≤ cap ∧ cap ≤ maxLen ∧ ∀ i, i < len → ∃ d : DeedV, d.wf ∧ ∀ k v, (deedL d)[k]? = some v → w.cell? (x.add (i * 15 + k)) = some v
theorem cells_deed : Tryz.prog.cellsOf 37 = 15 := by kernel_rfl
theorem trod_deed {H : Type} {enc : TypeId × Value → H} {w : World} {base : Nat} {spare : Nat → Bool} {held : Bool} {n : Nat} {cs : List Value} {y : DataW H × List MemPlace} (hl : cs.length = 15) (h : DataW.trod enc Tryz.prog w base spare held n 37 cs = some y) : ∃ d : DeedV, cs = deedL d ∧ d.wf := by
  match cs, hl with
  | [c0, c1, c2, d0, d1, d2, d3, d4, d5, d6, d7, d8, d9, d10, c5], _ =>
    obtain ⟨xs, n, _, hx, _, hlen, hg⟩ := DataW.trod_struct Tryz.underlying37 h
    match xs, hlen with
    | [y0, y1, y2, y4, y5], _ =>
      have g0 : DataW.trod enc Tryz.prog w base spare held n 3 [c0] = some y0 := by simpa [cells_int] using hg 0 _ rfl
      have g1 : DataW.trod enc Tryz.prog w base spare held n 3 [c1] = some y1 := by simpa [cells_int] using hg 1 _ rfl
      have g2 : DataW.trod enc Tryz.prog w base spare held n 31 [c2] = some y2 := by simpa [cells_int, cells_u64] using hg 2 _ rfl
      have g4 : DataW.trod enc Tryz.prog w base spare held n 35 [d0, d1, d2, d3, d4, d5, d6, d7, d8, d9, d10] = some y4 := by simpa [cells_int, cells_u64, cells_entry] using hg 3 _ rfl
      have g5 : DataW.trod enc Tryz.prog w base spare held n 4 [c5] = some y5 := by simpa [cells_int, cells_u64, cells_entry, cells_bool] using hg 4 _ rfl
      obtain ⟨a0, q0, z0, w0⟩ := DataW.trod_int Tryz.underlying3 g0
      obtain ⟨a1, q1, z1, w1⟩ := DataW.trod_int Tryz.underlying3 g1
      obtain ⟨a2, q2, z2, w2⟩ := DataW.trod_int Tryz.underlying31 g2
      obtain ⟨a5, q5, z5⟩ := DataW.trod_bool Tryz.underlying4 g5
      obtain ⟨e, he, hw⟩ := trod_ent rfl g4
      simp only [List.cons.injEq, and_true] at q0 q1 q2 q5
      subst q0 q1 q2 q5
      refine ⟨⟨a0, a1, a2, e, a5⟩, ?_, ⟨(bounds_i64 w1).1, (bounds_i64 w1).2, (bounds_u64 w2).1, (bounds_u64 w2).2, Ent.lits_wf hw⟩⟩
      unfold deedL
      rw [← he]; rfl
theorem open_deeds {H : Type} {enc : TypeId × Value → H} {w : World} {base : Nat} {fuel : Nat} {ao : Option Addr} {len cap : Nat} {x : DataW H × List MemPlace} (h : DataW.trod enc Tryz.prog w base (fun _ => true) true fuel 22 [.slice ao len cap] = some x) : IsDeeds w ao len cap := by
  rcases open_slice Tryz.underlying22 h with ⟨hcs, _⟩ | ⟨a, l, c, m, n, D, Pl, hcs, hb, hl, hm, hmm, hx, hi⟩
  · simp at hcs; exact .inl ⟨hcs.1, hcs.2.1⟩
  · simp at hcs
    obtain ⟨rfl, rfl, rfl⟩ := hcs
    refine .inr ⟨a, rfl, hl, hm, fun i him => ?_⟩
    obtain ⟨cs', hc, ht'⟩ := hi i (by simp at hmm; omega)
    rw [cells_deed] at hc
    obtain ⟨_, hcl, hat⟩ := World.cells?_some hc
    obtain ⟨e, rfl, he⟩ := trod_deed hcl ht'
    refine ⟨e, he, fun k v hv => ?_⟩
    have hk : k < 15 := (List.getElem?_eq_some_iff.1 hv).1
    have := hat k hk
    rw [Go.Deep.add_add] at this
    rw [this]; exact hv
theorem deeds_at {w : World} {a : Option Addr} {len cap : Nat} (h : IsDeeds w a len cap) (i : Nat) (hi : i < len) :
    ∃ b o, ∃ off, ∃ d : DeedV, a = some ⟨b, off, none⟩ ∧ off + i * 15 = o ∧ len ≤ cap ∧ cap ≤ maxLen ∧ d.wf ∧ w.cell? ⟨b, o, none⟩ = some (.int .i64 d.kind) ∧ w.cell? ⟨b, o + 1, none⟩ = some (.int .i64 d.ctx) ∧ w.cell? ⟨b, o + 2, none⟩ = some (.int .u64 d.va) ∧ w.cell? ⟨b, o + 3, none⟩ = some (.int .i64 d.e.size) ∧ w.cell? ⟨b, o + 4, none⟩ = some (.int .i64 d.e.ctx) ∧ w.cell? ⟨b, o + 5, none⟩ = some (.int .u64 d.e.va) ∧ w.cell? ⟨b, o + 6, none⟩ = some (.int .u64 d.e.pa) ∧ w.cell? ⟨b, o + 7, none⟩ = some (.bool d.e.att.write) ∧ w.cell? ⟨b, o + 8, none⟩ = some (.bool d.e.att.priv) ∧ w.cell? ⟨b, o + 9, none⟩ = some (.bool d.e.att.exec) ∧ w.cell? ⟨b, o + 10, none⟩ = some (.bool d.e.att.lock) ∧ w.cell? ⟨b, o + 11, none⟩ = some (.bool d.e.att.global) ∧ w.cell? ⟨b, o + 12, none⟩ = some (.bool d.e.att.quiet) ∧ w.cell? ⟨b, o + 13, none⟩ = some (.bool d.e.valid) ∧ w.cell? ⟨b, o + 14, none⟩ = some (.bool d.raw) := by
  rcases h with ⟨_, h0⟩ | ⟨x, rfl, h1, h2, h3⟩
  · omega
  · obtain ⟨d, hd, hc⟩ := h3 i hi
    obtain ⟨b, off, spot⟩ := x
    have hs : spot = none := by
      obtain ⟨e0, _, hc0⟩ := h3 0 (by omega)
      have z0 := hc0 0 _ rfl
      simpa [Addr.add] using World.cell?_spot z0
    subst hs
    have ad : ∀ j, (⟨b, off, none⟩ : Addr).add j = ⟨b, off + j, none⟩ := fun j => by simp [Addr.add]
    have hc' : ∀ k v, (deedL d)[k]? = some v → w.cell? ⟨b, off + i * 15 + k, none⟩ = some v := fun k v hv => by
      have := hc k v hv; rwa [ad, ← Nat.add_assoc] at this
    exact ⟨b, _, off, d, rfl, rfl, h1, h2, hd, hc' 0 _ rfl, hc' 1 _ rfl, hc' 2 _ rfl, hc' 3 _ rfl, hc' 4 _ rfl, hc' 5 _ rfl, hc' 6 _ rfl, hc' 7 _ rfl, hc' 8 _ rfl, hc' 9 _ rfl, hc' 10 _ rfl, hc' 11 _ rfl, hc' 12 _ rfl, hc' 13 _ rfl, hc' 14 _ rfl⟩
end Go.Proofs.YtgdagfhdimoklaaGreat.Ts
/-
  What the deeds of the law TsbPlays carry: a TSB, boxes, and the document's list. Conditions: a TSB and the document's list that tells the same; numbers are what Go's types hold.
-/
namespace Go.Proofs.YtgdagfhdimoklaaGreat.Ts
open Fld
open Pt (idxI idx_bd)
open Tl (ListAt DocAt nthE list_nil)
open Go.ChangeShapes Go.WideShapes Go.ChangeAt Go.RowKit Go.Shelf
set_option maxRecDepth 100000
set_option maxHeartbeats 4000000
theorem PL.push {W wr : World} {st sb bm C : Nat} {p : Par} {T : Nat → Pl} {L : List Bx} {v : Value} {l : List Ent} (h : PL W wr st sb bm p T L C v l) (c : Array Value) (t : TypeId) (ht : okT t) : PL W (wr.alloc (.cells c t)) st sb bm p T ((wr.heap.size, c, t) :: L) C v l := by
  have q := h.alloc (.cells c t)
  exact ⟨q.f1, q.f2, q.f3, q.bel, q.tsb, q.rows.add (World.alloc_heap_new _ _) ht h.bel.size, q.own, q.base⟩
/-- The boxes of a call with a list and a deed: what is answered, the list's, the deed's. -/
abbrev L3 (b : Nat) (p : Par) (rv : Value) (Dc : Array Value) (L : List Bx) : List Bx := (b + 1 + 1, #[.int .i64 0, .int .i64 0, .slice none 0 0], 26) :: (b, tcell p rv, 26) :: (b + 1, Dc, 37) :: L
/-- What is carried. -/
structure DP (W w wr : World) (st sb bm : Nat) (p : Par) (T : Nat → Pl) (M L : List Bx) (C D : Nat) (rv : Value) (ws : List Wd) : Prop where
  pl : PL W wr st sb bm p T (M ++ L) C (.slice none 0 0) []
  ws : WsAt wr D rv ws
  far : ∀ q ∈ L, q.1 < w.heap.size
  bel : w.heap.size ≤ wr.heap.size
theorem DP.low {W w wr w' : World} {st sb bm C D : Nat} {p : Par} {T : Nat → Pl} {M L : List Bx} {rv : Value} {ws : List Wd} (h : DP W w wr st sb bm p T M L C D rv ws) (hb : Below wr.heap.size wr w') : DP W w w' st sb bm p T M L C D rv ws := ⟨h.pl.low hb, ws_low h.ws hb, h.far, Nat.le_trans h.bel hb.size⟩
theorem DP.drewN {W w wr : World} {st sb bm C D : Nat} {p : Par} {T : Nat → Pl} {M L : List Bx} {rv : Value} {ws : List Wd} (h : DP W w wr st sb bm p T M L C D rv ws) (n : Nat) : DP W w (wr.drewN n) st sb bm p T M L C D rv ws := h.low (drewN_low wr n)
theorem DP.drew {W w wr : World} {st sb bm C D : Nat} {p : Par} {T : Nat → Pl} {M L : List Bx} {rv : Value} {ws : List Wd} (h : DP W w wr st sb bm p T M L C D rv ws) : DP W w wr.drew st sb bm p T M L C D rv ws := h.drewN 1
theorem DP.alloc {W w wr : World} {st sb bm C D : Nat} {p : Par} {T : Nat → Pl} {M L : List Bx} {rv : Value} {ws : List Wd} (h : DP W w wr st sb bm p T M L C D rv ws) (o : Obj) : DP W w (wr.alloc o) st sb bm p T M L C D rv ws := h.low ((Below.refl _ _).alloc (Nat.le_refl _) _)
theorem DP.push {W w wr : World} {st sb bm C D : Nat} {p : Par} {T : Nat → Pl} {M L : List Bx} {rv : Value} {ws : List Wd} (h : DP W w wr st sb bm p T M L C D rv ws) (c : Array Value) (t : TypeId) (ht : okT t) : DP W w (wr.alloc (.cells c t)) st sb bm p T ((wr.heap.size, c, t) :: M) L C D rv ws := ⟨h.pl.push c t ht, (h.alloc _).ws, h.far, (h.alloc (.cells c t)).bel⟩
theorem DP.sub {W w wr : World} {st sb bm C D : Nat} {p : Par} {T : Nat → Pl} {M M' L : List Bx} {rv : Value} {ws : List Wd} (h : DP W w wr st sb bm p T M L C D rv ws) (hM : ∀ q ∈ M', q ∈ M) : DP W w wr st sb bm p T M' L C D rv ws :=
  ⟨h.pl.sub fun q hq => by
    rcases List.mem_append.1 hq with hq | hq
    · exact List.mem_append_left _ (hM q hq)
    · exact List.mem_append_right _ hq, h.ws, h.far, h.bel⟩
theorem DP.list {W w wr : World} {st sb bm C D : Nat} {p : Par} {T : Nat → Pl} {M L : List Bx} {rv v : Value} {ws us : List Wd} (h : DP W w wr st sb bm p T M L C D rv ws) (hv : WsAt wr D v us) : DP W w wr st sb bm p T M L C D v us := ⟨h.pl, hv, h.far, h.bel⟩
/-- The TSB turns. -/
theorem DP.to {W w wr w' : World} {st sb bm C D : Nat} {p : Par} {T U : Nat → Pl} {M L : List Bx} {rv : Value} {ws : List Wd} (h : DP W w wr st sb bm p T M L C D rv ws) (k : TsbTo wr w' st sb bm p U) : ∃ b', DP W w w' st sb b' p U M L C D rv ws := by
  obtain ⟨b', q⟩ := h.pl.to k
  exact ⟨b', q, ws_turn h.ws h.pl.tsb k, h.far, Nat.le_trans h.bel (by obtain ⟨_, _, _, u⟩ := k; exact u.size)⟩
theorem DP.start {W w : World} {st sb bm C D : Nat} {p : Par} {T : Nat → Pl} {L : List Bx} {rv : Value} {ws : List Wd} (P : PL W w st sb bm p T L C (.slice none 0 0) []) (hw : WsAt w D rv ws) : DP W w w st sb bm p T [] L C D rv ws :=
  ⟨P, hw, fun q hq => (Array.getElem?_eq_some_iff.1 (P.rows q hq).1).1, Nat.le_refl _⟩
/-- The boxes are laid. -/
theorem DP.three {W w : World} {st sb bm C D : Nat} {p : Par} {T : Nat → Pl} {L : List Bx} {rv : Value} {ws : List Wd} (P : PL W w st sb bm p T L C (.slice none 0 0) []) (hw : WsAt w D rv ws) (Dc : Array Value) :
    DP W w (((w.alloc (.cells #[.int .i64 p.s, .int .i64 (p.n : Int), rv] 26)).alloc (.cells Dc 37)).alloc (.cells #[.int .i64 0, .int .i64 0, .slice none 0 0] 26)) st sb bm p T (L3 w.heap.size p rv Dc []) L C D rv ws := by
  have h := (((DP.start P hw).push #[.int .i64 p.s, .int .i64 (p.n : Int), rv] 26 ⟨by decide, by decide⟩).push Dc 37 ⟨by decide, by decide⟩).push #[.int .i64 0, .int .i64 0, .slice none 0 0] 26 ⟨by decide, by decide⟩
  simp only [World.size_alloc] at h
  refine h.sub fun q hq => ?_
  simp only [List.mem_cons, List.not_mem_nil, or_false] at hq ⊢
  rcases hq with h | h | h
  · exact .inl h
  · exact .inr (.inr h)
  · exact .inr (.inl h)
theorem DP.row {W w wr : World} {st sb bm C D b : Nat} {p : Par} {T : Nat → Pl} {M L : List Bx} {rv : Value} {ws : List Wd} {c : Array Value} {t : TypeId} (h : DP W w wr st sb bm p T M L C D rv ws) (hm : (b, c, t) ∈ M) : wr.heap[b]? = some (.cells c t (0, 0)) := (h.pl.rows _ (List.mem_append_left _ hm)).1
/-- Three stores into the first box. -/
theorem DP.put3 {W w wr : World} {st sb bm C D b : Nat} {p : Par} {T : Nat → Pl} {M L : List Bx} {rv x y u x' y' u' : Value} {ws : List Wd} (h : DP W w wr st sb bm p T ((b, #[x, y, u], 26) :: M) L C D rv ws) (hM : ∀ q ∈ M, q.1 ≠ b) (hb : w.heap.size ≤ b) :
    DP W w (((wr.setCell ⟨b, 0, none⟩ x').setCell ⟨b, 1, none⟩ y').setCell ⟨b, 2, none⟩ u') st sb bm p T ((b, #[x', y', u'], 26) :: M) L C D rv ws := by
  have q : ∀ q ∈ M ++ L, q.1 ≠ b := fun q hq => by
    rcases List.mem_append.1 hq with hq | hq
    · exact hM q hq
    · have := h.far q hq; omega
  exact ⟨PL.put3 (L := M ++ L) h.pl q, ws_put3 (L := M ++ L) h.pl h.ws, h.far, by simp; exact h.bel⟩
/-- What a deed does. -/
def DoneD (W : World) (st sb : Nat) (p : Par) (L : List Bx) (C D : Nat) (r : Ending) (w' : World) : Prop := ∃ (bm : Nat) (T : Nat → Pl) (v : Value) (ws : List Wd), r = .returned (.tuple #[.agg #[.int .i64 p.s, .int .i64 (p.n : Int), v], .bool true]) ∧ PL W w' st sb bm p T L C (.slice none 0 0) [] ∧ WsAt w' D v ws ∧ Tie p ws T
theorem DP.done {W w wr : World} {st sb bm C D b : Nat} {p : Par} {T : Nat → Pl} {M L : List Bx} {rv x y u : Value} {ws : List Wd} (h : DP W w wr st sb bm p T ((b, #[x, y, u], 26) :: M) L C D rv ws) (hM : ∀ q ∈ M, q.1 ≠ b) (hb : w.heap.size ≤ b) (ht : Tie p ws T) :
    (((wr.setCell ⟨b, 0, none⟩ (.int .i64 p.s)).setCell ⟨b, 1, none⟩ (.int .i64 (p.n : Int))).setCell ⟨b, 2, none⟩ rv).heap[b]? = some (.cells #[.int .i64 p.s, .int .i64 (p.n : Int), rv] 26 (0, 0)) ∧
    DoneD W st sb p L C D (.returned (.tuple #[.agg #[.int .i64 p.s, .int .i64 (p.n : Int), rv], .bool true])) (((wr.setCell ⟨b, 0, none⟩ (.int .i64 p.s)).setCell ⟨b, 1, none⟩ (.int .i64 (p.n : Int))).setCell ⟨b, 2, none⟩ rv) := by
  have q := h.put3 (x' := .int .i64 p.s) (y' := .int .i64 (p.n : Int)) (u' := rv) hM hb
  exact ⟨q.row (List.mem_cons_self ..), bm, T, rv, ws, rfl, q.pl.sub fun z hz => List.mem_append_right _ hz, q.ws, ht⟩
end Go.Proofs.YtgdagfhdimoklaaGreat.Ts
/-
  Contract of puts of the law TsbPlays. Conditions: a TSB and the document's list that tells the same; numbers are what Go's types hold.
-/
namespace Go.Proofs.YtgdagfhdimoklaaGreat.Ts
open Fld
open Pt (idxI idx_bd)
open Tl (ListAt DocAt nthE list_nil)
open Go.ChangeShapes Go.WideShapes Go.ChangeAt Go.RowKit Go.Shelf
set_option maxRecDepth 100000
set_option maxHeartbeats 8000000
theorem no_ins {p : Par} {T : Nat → Pl} {e : Ent} (h : mayT p e = false) : insT p T e = T ∧ datT p T e = T ∧ tagT p T e = T ∧ errP p e = 1 := by
  unfold insT datT tagT errP
  rw [h]
  exact ⟨rfl, rfl, rfl, rfl⟩
theorem yes_err {p : Par} {e : Ent} (h : mayT p e = true) : errP p e = 0 := by unfold errP; rw [h]; rfl
theorem puts_any {W w : World} {st sb bm C D : Nat} {p : Par} {T : Nat → Pl} {L : List Bx} {rv : Value} {ws : List Wd} (P : PL W w st sb bm p T L C (.slice none 0 0) []) (hw : WsAt w D rv ws) (hD : D ≤ w.heap.size) (ht : Tie p ws T) (d : DeedV) (hd : d.wf) :
    Calls Tryz.prog 32 #[.pointer (some ⟨st, 0, none⟩), .agg #[.int .i64 p.s, .int .i64 (p.n : Int), rv], .agg #[.int .i64 d.kind, .int .i64 d.ctx, .int .u64 d.va, .int .i64 d.e.size, .int .i64 d.e.ctx, .int .u64 d.e.va, .int .u64 d.e.pa, .bool d.e.att.write, .bool d.e.att.priv, .bool d.e.att.exec, .bool d.e.att.lock, .bool d.e.att.global, .bool d.e.att.quiet, .bool d.e.valid, .bool d.raw]] w (DoneD W st sb p L C D) := by
  obtain ⟨ao, cap, rfl⟩ := own_shape hw
  have hok := P.tsb.ok
  have hnb := hok.n_bd
  have hs4 : 0 ≤ p.s ∧ p.s < 4 := by rcases sizeB_true hok.hs with h | h | h | h <;> omega
  have hlen := tie_len ht
  have P1 := DP.three P hw #[.int .i64 d.kind, .int .i64 d.ctx, .int .u64 d.va, .int .i64 d.e.size, .int .i64 d.e.ctx, .int .u64 d.e.va, .int .u64 d.e.pa, .bool d.e.att.write, .bool d.e.att.priv, .bool d.e.att.exec, .bool d.e.att.lock, .bool d.e.att.global, .bool d.e.att.quiet, .bool d.e.valid, .bool d.raw]
  generalize hm : ws.length = m at *
  have HM := Lib.hid hm
  clear hm
  have CE := Lib.hid (fun X => dentry_any d hd p.s hs4 X)
  have hEw := hd.ent p.s
  generalize d.ent p.s = E at *
  have uE := wf_u hEw
  have CM := Lib.hid (fun X => omay_any (p := p) ao m cap E uE X)
  have hFit := Lib.hid (fun h : mayT p E = true => (mayT_ok h uE.v0 uE.v1 uE.p0).1.fit)
  have hNo := Lib.hid (fun h => no_ins (p := p) (T := T) (e := E) h)
  have hYes := Lib.hid (fun h => yes_err (p := p) (e := E) h)
  have hTi := Lib.hid (fun h => tie_ins hok ht (e := E) h)
  have hTd := Lib.hid (fun h => tie_dat hok ht (e := E) h)
  have hTt := Lib.hid (fun h => tie_tag hok ht (e := E) h)
  clear P hw hEw
  go_enter Tryz.func32, Tryz.ntmps32
  go_wp2_with fail
  generalize World.alloc (World.alloc (World.alloc w _) _) _ = W1 at *
  have qr := P1.row (b := w.heap.size) (c := #[.int .i64 p.s, .int .i64 (p.n : Int), .slice ao m cap]) (t := 26) (by simp)
  have qd := P1.row (b := w.heap.size + 1) (c := #[.int .i64 d.kind, .int .i64 d.ctx, .int .u64 d.va, .int .i64 d.e.size, .int .i64 d.e.ctx, .int .u64 d.e.va, .int .u64 d.e.pa, .bool d.e.att.write, .bool d.e.att.priv, .bool d.e.att.exec, .bool d.e.att.lock, .bool d.e.att.global, .bool d.e.att.quiet, .bool d.e.valid, .bool d.raw]) (t := 37) (by simp)
  have t0 := cell_row 0 qr rfl
  have t1 := cell_row 1 qr rfl
  have t2 := cell_row 2 qr rfl
  have k0 := cell_row 0 qd rfl
  have k1 := cell_row 1 qd rfl
  have k2 := cell_row 2 qd rfl
  have k3 := cell_row 3 qd rfl
  have k4 := cell_row 4 qd rfl
  have k5 := cell_row 5 qd rfl
  have k6 := cell_row 6 qd rfl
  have k7 := cell_row 7 qd rfl
  have k8 := cell_row 8 qd rfl
  have k9 := cell_row 9 qd rfl
  have k10 := cell_row 10 qd rfl
  have k11 := cell_row 11 qd rfl
  have k12 := cell_row 12 qd rfl
  have k13 := cell_row 13 qd rfl
  have k14 := cell_row 14 qd rfl
  go_wp2_with fail
  refine (CE.out _).mono ?_; rintro r w1 ⟨rfl, hb1⟩
  have P2 := (P1.low hb1).push #[.int .i64 E.size, .int .i64 E.ctx, .int .u64 E.va, .int .u64 E.pa, .bool E.att.write, .bool E.att.priv, .bool E.att.exec, .bool E.att.lock, .bool E.att.global, .bool E.att.quiet, .bool E.valid] 35 ⟨by decide, by decide⟩
  clear P1 CE hb1 qr qd t0 t1 t2 k0 k1 k2 k3 k4 k5 k6 k7 k8 k9 k10 k11 k12 k13 k14
  have qr := P2.row (b := w.heap.size) (c := #[.int .i64 p.s, .int .i64 (p.n : Int), .slice ao m cap]) (t := 26) (by simp)
  have t0 := cell_row 0 qr rfl
  have t1 := cell_row 1 qr rfl
  have t2 := cell_row 2 qr rfl
  have hRE := RowE.new w1 E
  obtain ⟨d0, d1, d2, d3, d4, d5, d6, d7, d8, d9, d10⟩ := hRE.cells
  go_wp2_with fail
  refine (CM.out _).mono ?_; rintro r w2 ⟨rfl, hb2⟩
  have hlt1 := P2.row (b := w1.heap.size) (c := #[.int .i64 E.size, .int .i64 E.ctx, .int .u64 E.va, .int .u64 E.pa, .bool E.att.write, .bool E.att.priv, .bool E.att.exec, .bool E.att.lock, .bool E.att.global, .bool E.att.quiet, .bool E.valid]) (t := 35) (by simp)
  have P3 := P2.low hb2
  generalize w1.heap.size = eb at *
  clear P2 CM hb2 qr t0 t1 t2 hRE d0 d1 d2 d3 d4 d5 d6 d7 d8 d9 d10 hlt1
  have hr2 := (Array.getElem?_eq_some_iff.1 (P3.row (b := w.heap.size + 1 + 1) (c := #[.int .i64 0, .int .i64 0, .slice none 0 0]) (t := 26) (by simp))).1
  have P4 := P3.push #[.int .i64 p.s, .int .i64 (p.n : Int), .slice ao m cap] 26 ⟨by decide, by decide⟩
  have qr := P3.row (b := w.heap.size) (c := #[.int .i64 p.s, .int .i64 (p.n : Int), .slice ao m cap]) (t := 26) (by simp)
  have t0 := cell_row 0 qr rfl
  have t1 := cell_row 1 qr rfl
  have t2 := cell_row 2 qr rfl
  have qr := P4.row (b := w.heap.size) (c := #[.int .i64 p.s, .int .i64 (p.n : Int), .slice ao m cap]) (t := 26) (by simp)
  have qd := P4.row (b := w.heap.size + 1) (c := #[.int .i64 d.kind, .int .i64 d.ctx, .int .u64 d.va, .int .i64 d.e.size, .int .i64 d.e.ctx, .int .u64 d.e.va, .int .u64 d.e.pa, .bool d.e.att.write, .bool d.e.att.priv, .bool d.e.att.exec, .bool d.e.att.lock, .bool d.e.att.global, .bool d.e.att.quiet, .bool d.e.valid, .bool d.raw]) (t := 37) (by simp)
  have qe := P4.row (b := eb) (c := #[.int .i64 E.size, .int .i64 E.ctx, .int .u64 E.va, .int .u64 E.pa, .bool E.att.write, .bool E.att.priv, .bool E.att.exec, .bool E.att.lock, .bool E.att.global, .bool E.att.quiet, .bool E.valid]) (t := 35) (by simp)
  have qn := P4.row (b := w2.heap.size) (c := #[.int .i64 p.s, .int .i64 (p.n : Int), .slice ao m cap]) (t := 26) (by simp)
  have qz := P4.row (b := w.heap.size + 1 + 1) (c := #[.int .i64 0, .int .i64 0, .slice none 0 0]) (t := 26) (by simp)
  have t0 := cell_row 0 qr rfl
  have t1 := cell_row 1 qr rfl
  have t2 := cell_row 2 qr rfl
  have k0 := cell_row 0 qd rfl
  obtain ⟨d0, d1, d2, d3, d4, d5, d6, d7, d8, d9, d10⟩ := RowE.cells (⟨qe⟩ : RowE (w2.alloc (.cells #[.int .i64 p.s, .int .i64 (p.n : Int), .slice ao m cap] 26)) eb E)
  have n0 := cell_row 0 qn rfl
  have n1 := cell_row 1 qn rfl
  have n2 := cell_row 2 qn rfl
  have z0 := cell_row 0 qz rfl
  have z1 := cell_row 1 qz rfl
  have z2 := cell_row 2 qz rfl
  have fn : ∀ i, World.frozen? (w2.alloc (.cells #[.int .i64 p.s, .int .i64 (p.n : Int), .slice ao m cap] 26)) ⟨w2.heap.size, i, none⟩ = false := fun i => by simp only [World.frozen?, qn]; rfl
  have fz : ∀ i, World.frozen? (w2.alloc (.cells #[.int .i64 p.s, .int .i64 (p.n : Int), .slice ao m cap] 26)) ⟨w.heap.size + 1 + 1, i, none⟩ = false := fun i => by simp only [World.frozen?, qz]; rfl
  cases hmB : mayT p E
  · by_cases hk0 : d.kind = 0
    · go_wp2_with fail
      refine (insert_any E uE _ P4.pl.tsb).mono ?_; rintro r w4 ⟨rfl, kt⟩
      obtain ⟨b4, P5⟩ := P4.to kt
      clear P4 P3 kt qr qd qe qn qz t0 t1 t2 k0 d0 d1 d2 d3 d4 d5 d6 d7 d8 d9 d10 n0 n1 n2 z0 z1 z2 fn fz
      generalize w2.heap.size = nb at *
      rw [(hNo.out hmB).1] at P5
      rw [(hNo.out hmB).2.2.2]
      have qr := P5.row (b := w.heap.size) (c := #[.int .i64 p.s, .int .i64 (p.n : Int), .slice ao m cap]) (t := 26) (by simp)
      have qd := P5.row (b := w.heap.size + 1) (c := #[.int .i64 d.kind, .int .i64 d.ctx, .int .u64 d.va, .int .i64 d.e.size, .int .i64 d.e.ctx, .int .u64 d.e.va, .int .u64 d.e.pa, .bool d.e.att.write, .bool d.e.att.priv, .bool d.e.att.exec, .bool d.e.att.lock, .bool d.e.att.global, .bool d.e.att.quiet, .bool d.e.valid, .bool d.raw]) (t := 37) (by simp)
      have qe := P5.row (b := eb) (c := #[.int .i64 E.size, .int .i64 E.ctx, .int .u64 E.va, .int .u64 E.pa, .bool E.att.write, .bool E.att.priv, .bool E.att.exec, .bool E.att.lock, .bool E.att.global, .bool E.att.quiet, .bool E.valid]) (t := 35) (by simp)
      have qn := P5.row (b := nb) (c := #[.int .i64 p.s, .int .i64 (p.n : Int), .slice ao m cap]) (t := 26) (by simp)
      have qz := P5.row (b := w.heap.size + 1 + 1) (c := #[.int .i64 0, .int .i64 0, .slice none 0 0]) (t := 26) (by simp)
      have t0 := cell_row 0 qr rfl
      have t1 := cell_row 1 qr rfl
      have t2 := cell_row 2 qr rfl
      have k0 := cell_row 0 qd rfl
      obtain ⟨d0, d1, d2, d3, d4, d5, d6, d7, d8, d9, d10⟩ := RowE.cells (⟨qe⟩ : RowE w4 eb E)
      have n0 := cell_row 0 qn rfl
      have n1 := cell_row 1 qn rfl
      have n2 := cell_row 2 qn rfl
      have z0 := cell_row 0 qz rfl
      have z1 := cell_row 1 qz rfl
      have z2 := cell_row 2 qz rfl
      have fn : ∀ i, World.frozen? w4 ⟨nb, i, none⟩ = false := fun i => by simp only [World.frozen?, qn]; rfl
      have fz : ∀ i, World.frozen? w4 ⟨w.heap.size + 1 + 1, i, none⟩ = false := fun i => by simp only [World.frozen?, qz]; rfl
      obtain ⟨y1, y2⟩ := DP.done (b := w.heap.size + 1 + 1) (M := []) (x := .int .i64 0) (y := .int .i64 0) (u := .slice none 0 0) (P5.sub (by intro q hq; rw [List.mem_singleton.1 hq]; simp)) (fun _ h => absurd h (by simp)) (by omega) ht
      go_wp2_with fail
      (try simp only [Exit.inBlock, Exit.then])
      refine bodyPost_ret (res_Tt rfl _ _ _ _ _ _ rfl y1) rfl ?_
      exact y2
    · by_cases hk5 : d.kind = 5
      · go_wp2_with fail
        refine (putData_any E uE _ P4.pl.tsb).mono ?_; rintro r w4 ⟨rfl, kt⟩
        obtain ⟨b4, P5⟩ := P4.to kt
        clear P4 P3 kt qr qd qe qn qz t0 t1 t2 k0 d0 d1 d2 d3 d4 d5 d6 d7 d8 d9 d10 n0 n1 n2 z0 z1 z2 fn fz
        generalize w2.heap.size = nb at *
        rw [(hNo.out hmB).2.1] at P5
        rw [(hNo.out hmB).2.2.2]
        have qr := P5.row (b := w.heap.size) (c := #[.int .i64 p.s, .int .i64 (p.n : Int), .slice ao m cap]) (t := 26) (by simp)
        have qd := P5.row (b := w.heap.size + 1) (c := #[.int .i64 d.kind, .int .i64 d.ctx, .int .u64 d.va, .int .i64 d.e.size, .int .i64 d.e.ctx, .int .u64 d.e.va, .int .u64 d.e.pa, .bool d.e.att.write, .bool d.e.att.priv, .bool d.e.att.exec, .bool d.e.att.lock, .bool d.e.att.global, .bool d.e.att.quiet, .bool d.e.valid, .bool d.raw]) (t := 37) (by simp)
        have qe := P5.row (b := eb) (c := #[.int .i64 E.size, .int .i64 E.ctx, .int .u64 E.va, .int .u64 E.pa, .bool E.att.write, .bool E.att.priv, .bool E.att.exec, .bool E.att.lock, .bool E.att.global, .bool E.att.quiet, .bool E.valid]) (t := 35) (by simp)
        have qn := P5.row (b := nb) (c := #[.int .i64 p.s, .int .i64 (p.n : Int), .slice ao m cap]) (t := 26) (by simp)
        have qz := P5.row (b := w.heap.size + 1 + 1) (c := #[.int .i64 0, .int .i64 0, .slice none 0 0]) (t := 26) (by simp)
        have t0 := cell_row 0 qr rfl
        have t1 := cell_row 1 qr rfl
        have t2 := cell_row 2 qr rfl
        have k0 := cell_row 0 qd rfl
        obtain ⟨d0, d1, d2, d3, d4, d5, d6, d7, d8, d9, d10⟩ := RowE.cells (⟨qe⟩ : RowE w4 eb E)
        have n0 := cell_row 0 qn rfl
        have n1 := cell_row 1 qn rfl
        have n2 := cell_row 2 qn rfl
        have z0 := cell_row 0 qz rfl
        have z1 := cell_row 1 qz rfl
        have z2 := cell_row 2 qz rfl
        have fn : ∀ i, World.frozen? w4 ⟨nb, i, none⟩ = false := fun i => by simp only [World.frozen?, qn]; rfl
        have fz : ∀ i, World.frozen? w4 ⟨w.heap.size + 1 + 1, i, none⟩ = false := fun i => by simp only [World.frozen?, qz]; rfl
        obtain ⟨y1, y2⟩ := DP.done (b := w.heap.size + 1 + 1) (M := []) (x := .int .i64 0) (y := .int .i64 0) (u := .slice none 0 0) (P5.sub (by intro q hq; rw [List.mem_singleton.1 hq]; simp)) (fun _ h => absurd h (by simp)) (by omega) ht
        go_wp2_with fail
        (try simp only [Exit.inBlock, Exit.then])
        refine bodyPost_ret (res_Tt rfl _ _ _ _ _ _ rfl y1) rfl ?_
        exact y2
      · go_wp2_with fail
        refine (putTag_any E uE _ P4.pl.tsb).mono ?_; rintro r w4 ⟨rfl, kt⟩
        obtain ⟨b4, P5⟩ := P4.to kt
        clear P4 P3 kt qr qd qe qn qz t0 t1 t2 k0 d0 d1 d2 d3 d4 d5 d6 d7 d8 d9 d10 n0 n1 n2 z0 z1 z2 fn fz
        generalize w2.heap.size = nb at *
        rw [(hNo.out hmB).2.2.1] at P5
        rw [(hNo.out hmB).2.2.2]
        have qr := P5.row (b := w.heap.size) (c := #[.int .i64 p.s, .int .i64 (p.n : Int), .slice ao m cap]) (t := 26) (by simp)
        have qd := P5.row (b := w.heap.size + 1) (c := #[.int .i64 d.kind, .int .i64 d.ctx, .int .u64 d.va, .int .i64 d.e.size, .int .i64 d.e.ctx, .int .u64 d.e.va, .int .u64 d.e.pa, .bool d.e.att.write, .bool d.e.att.priv, .bool d.e.att.exec, .bool d.e.att.lock, .bool d.e.att.global, .bool d.e.att.quiet, .bool d.e.valid, .bool d.raw]) (t := 37) (by simp)
        have qe := P5.row (b := eb) (c := #[.int .i64 E.size, .int .i64 E.ctx, .int .u64 E.va, .int .u64 E.pa, .bool E.att.write, .bool E.att.priv, .bool E.att.exec, .bool E.att.lock, .bool E.att.global, .bool E.att.quiet, .bool E.valid]) (t := 35) (by simp)
        have qn := P5.row (b := nb) (c := #[.int .i64 p.s, .int .i64 (p.n : Int), .slice ao m cap]) (t := 26) (by simp)
        have qz := P5.row (b := w.heap.size + 1 + 1) (c := #[.int .i64 0, .int .i64 0, .slice none 0 0]) (t := 26) (by simp)
        have t0 := cell_row 0 qr rfl
        have t1 := cell_row 1 qr rfl
        have t2 := cell_row 2 qr rfl
        have k0 := cell_row 0 qd rfl
        obtain ⟨d0, d1, d2, d3, d4, d5, d6, d7, d8, d9, d10⟩ := RowE.cells (⟨qe⟩ : RowE w4 eb E)
        have n0 := cell_row 0 qn rfl
        have n1 := cell_row 1 qn rfl
        have n2 := cell_row 2 qn rfl
        have z0 := cell_row 0 qz rfl
        have z1 := cell_row 1 qz rfl
        have z2 := cell_row 2 qz rfl
        have fn : ∀ i, World.frozen? w4 ⟨nb, i, none⟩ = false := fun i => by simp only [World.frozen?, qn]; rfl
        have fz : ∀ i, World.frozen? w4 ⟨w.heap.size + 1 + 1, i, none⟩ = false := fun i => by simp only [World.frozen?, qz]; rfl
        obtain ⟨y1, y2⟩ := DP.done (b := w.heap.size + 1 + 1) (M := []) (x := .int .i64 0) (y := .int .i64 0) (u := .slice none 0 0) (P5.sub (by intro q hq; rw [List.mem_singleton.1 hq]; simp)) (fun _ h => absurd h (by simp)) (by omega) ht
        go_wp2_with fail
        (try simp only [Exit.inBlock, Exit.then])
        refine bodyPost_ret (res_Tt rfl _ _ _ _ _ _ rfl y1) rfl ?_
        exact y2
  · by_cases hk0 : d.kind = 0
    · go_wp2_with fail
      refine (insert_any E uE _ P4.pl.tsb).mono ?_; rintro r w4 ⟨rfl, kt⟩
      obtain ⟨b4, P5⟩ := P4.to kt
      clear P4 P3 kt qr qd qe qn qz t0 t1 t2 k0 d0 d1 d2 d3 d4 d5 d6 d7 d8 d9 d10 n0 n1 n2 z0 z1 z2 fn fz
      generalize w2.heap.size = nb at *
      rw [hYes.out hmB]
      have hz5 := P5.bel
      have qr := P5.row (b := w.heap.size) (c := #[.int .i64 p.s, .int .i64 (p.n : Int), .slice ao m cap]) (t := 26) (by simp)
      have qd := P5.row (b := w.heap.size + 1) (c := #[.int .i64 d.kind, .int .i64 d.ctx, .int .u64 d.va, .int .i64 d.e.size, .int .i64 d.e.ctx, .int .u64 d.e.va, .int .u64 d.e.pa, .bool d.e.att.write, .bool d.e.att.priv, .bool d.e.att.exec, .bool d.e.att.lock, .bool d.e.att.global, .bool d.e.att.quiet, .bool d.e.valid, .bool d.raw]) (t := 37) (by simp)
      have qe := P5.row (b := eb) (c := #[.int .i64 E.size, .int .i64 E.ctx, .int .u64 E.va, .int .u64 E.pa, .bool E.att.write, .bool E.att.priv, .bool E.att.exec, .bool E.att.lock, .bool E.att.global, .bool E.att.quiet, .bool E.valid]) (t := 35) (by simp)
      have qn := P5.row (b := nb) (c := #[.int .i64 p.s, .int .i64 (p.n : Int), .slice ao m cap]) (t := 26) (by simp)
      have qz := P5.row (b := w.heap.size + 1 + 1) (c := #[.int .i64 0, .int .i64 0, .slice none 0 0]) (t := 26) (by simp)
      have t0 := cell_row 0 qr rfl
      have t1 := cell_row 1 qr rfl
      have t2 := cell_row 2 qr rfl
      have k0 := cell_row 0 qd rfl
      obtain ⟨d0, d1, d2, d3, d4, d5, d6, d7, d8, d9, d10⟩ := RowE.cells (⟨qe⟩ : RowE w4 eb E)
      have n0 := cell_row 0 qn rfl
      have n1 := cell_row 1 qn rfl
      have n2 := cell_row 2 qn rfl
      have z0 := cell_row 0 qz rfl
      have z1 := cell_row 1 qz rfl
      have z2 := cell_row 2 qz rfl
      have fn : ∀ i, World.frozen? w4 ⟨nb, i, none⟩ = false := fun i => by simp only [World.frozen?, qn]; rfl
      have fz : ∀ i, World.frozen? w4 ⟨w.heap.size + 1 + 1, i, none⟩ = false := fun i => by simp only [World.frozen?, qz]; rfl
      have CD := Lib.hid (rinsert_any hok ws D _ E (hFit.out hmB) uE (by rw [HM.out]; omega) w4 P5.ws (by omega))
      have hti := hTi.out hmB
      generalize insW p ws E = ws5 at *
      go_wp2_with fail
      refine CD.out.mono ?_; rintro r w5 ⟨v5, rfl, hw5, hb5⟩
      obtain ⟨ao5, cap5, rfl⟩ := own_shape hw5
      have P6 := (P5.low hb5).list (ws_base hw5 (by omega))
      clear P5 CD hw5 hb5 qr qd qe qn qz t0 t1 t2 k0 d0 d1 d2 d3 d4 d5 d6 d7 d8 d9 d10 n0 n1 n2 z0 z1 z2 fn fz
      have P7 := (P6.sub (M' := [(nb, #[.int .i64 p.s, .int .i64 (p.n : Int), .slice ao m cap], 26), (w.heap.size + 1 + 1, #[.int .i64 0, .int .i64 0, .slice none 0 0], 26)]) (by intro q hq; simp only [List.mem_cons, List.not_mem_nil, or_false] at hq; rcases hq with rfl | rfl <;> simp)).put3 (x' := .int .i64 p.s) (y' := .int .i64 (p.n : Int)) (u' := .slice ao5 ws5.length cap5) (fun q hq => by rw [List.mem_singleton.1 hq]; show w.heap.size + 1 + 1 ≠ nb; omega) (by omega)
      have qr := P6.row (b := w.heap.size) (c := #[.int .i64 p.s, .int .i64 (p.n : Int), .slice ao m cap]) (t := 26) (by simp)
      have qd := P6.row (b := w.heap.size + 1) (c := #[.int .i64 d.kind, .int .i64 d.ctx, .int .u64 d.va, .int .i64 d.e.size, .int .i64 d.e.ctx, .int .u64 d.e.va, .int .u64 d.e.pa, .bool d.e.att.write, .bool d.e.att.priv, .bool d.e.att.exec, .bool d.e.att.lock, .bool d.e.att.global, .bool d.e.att.quiet, .bool d.e.valid, .bool d.raw]) (t := 37) (by simp)
      have qe := P6.row (b := eb) (c := #[.int .i64 E.size, .int .i64 E.ctx, .int .u64 E.va, .int .u64 E.pa, .bool E.att.write, .bool E.att.priv, .bool E.att.exec, .bool E.att.lock, .bool E.att.global, .bool E.att.quiet, .bool E.valid]) (t := 35) (by simp)
      have qn := P6.row (b := nb) (c := #[.int .i64 p.s, .int .i64 (p.n : Int), .slice ao m cap]) (t := 26) (by simp)
      have qz := P6.row (b := w.heap.size + 1 + 1) (c := #[.int .i64 0, .int .i64 0, .slice none 0 0]) (t := 26) (by simp)
      have t0 := cell_row 0 qr rfl
      have t1 := cell_row 1 qr rfl
      have t2 := cell_row 2 qr rfl
      have k0 := cell_row 0 qd rfl
      obtain ⟨d0, d1, d2, d3, d4, d5, d6, d7, d8, d9, d10⟩ := RowE.cells (⟨qe⟩ : RowE w5 eb E)
      have n0 := cell_row 0 qn rfl
      have n1 := cell_row 1 qn rfl
      have n2 := cell_row 2 qn rfl
      have z0 := cell_row 0 qz rfl
      have z1 := cell_row 1 qz rfl
      have z2 := cell_row 2 qz rfl
      have fn : ∀ i, World.frozen? w5 ⟨nb, i, none⟩ = false := fun i => by simp only [World.frozen?, qn]; rfl
      have fz : ∀ i, World.frozen? w5 ⟨w.heap.size + 1 + 1, i, none⟩ = false := fun i => by simp only [World.frozen?, qz]; rfl
      have qn7 := P7.row (List.mem_cons_self ..)
      have qz7 := P7.row (List.mem_cons_of_mem _ (List.mem_cons_self ..))
      obtain ⟨y1, y2⟩ := DP.done (b := w.heap.size + 1 + 1) (M := []) (x := .int .i64 0) (y := .int .i64 0) (u := .slice none 0 0) (P7.sub (by intro q hq; rw [List.mem_singleton.1 hq]; simp)) (fun _ h => absurd h (by simp)) (by omega) hti
      clear P6 P7
      have hne : nb ≠ w.heap.size + 1 + 1 := by omega
      go_wp2_with fail
      (try simp only [Exit.inBlock, Exit.then])
      refine bodyPost_ret (res_Tt rfl _ _ _ _ _ _ rfl y1) rfl ?_
      exact y2
    · by_cases hk5 : d.kind = 5
      · go_wp2_with fail
        refine (putData_any E uE _ P4.pl.tsb).mono ?_; rintro r w4 ⟨rfl, kt⟩
        obtain ⟨b4, P5⟩ := P4.to kt
        clear P4 P3 kt qr qd qe qn qz t0 t1 t2 k0 d0 d1 d2 d3 d4 d5 d6 d7 d8 d9 d10 n0 n1 n2 z0 z1 z2 fn fz
        generalize w2.heap.size = nb at *
        rw [hYes.out hmB]
        have hz5 := P5.bel
        have qr := P5.row (b := w.heap.size) (c := #[.int .i64 p.s, .int .i64 (p.n : Int), .slice ao m cap]) (t := 26) (by simp)
        have qd := P5.row (b := w.heap.size + 1) (c := #[.int .i64 d.kind, .int .i64 d.ctx, .int .u64 d.va, .int .i64 d.e.size, .int .i64 d.e.ctx, .int .u64 d.e.va, .int .u64 d.e.pa, .bool d.e.att.write, .bool d.e.att.priv, .bool d.e.att.exec, .bool d.e.att.lock, .bool d.e.att.global, .bool d.e.att.quiet, .bool d.e.valid, .bool d.raw]) (t := 37) (by simp)
        have qe := P5.row (b := eb) (c := #[.int .i64 E.size, .int .i64 E.ctx, .int .u64 E.va, .int .u64 E.pa, .bool E.att.write, .bool E.att.priv, .bool E.att.exec, .bool E.att.lock, .bool E.att.global, .bool E.att.quiet, .bool E.valid]) (t := 35) (by simp)
        have qn := P5.row (b := nb) (c := #[.int .i64 p.s, .int .i64 (p.n : Int), .slice ao m cap]) (t := 26) (by simp)
        have qz := P5.row (b := w.heap.size + 1 + 1) (c := #[.int .i64 0, .int .i64 0, .slice none 0 0]) (t := 26) (by simp)
        have t0 := cell_row 0 qr rfl
        have t1 := cell_row 1 qr rfl
        have t2 := cell_row 2 qr rfl
        have k0 := cell_row 0 qd rfl
        obtain ⟨d0, d1, d2, d3, d4, d5, d6, d7, d8, d9, d10⟩ := RowE.cells (⟨qe⟩ : RowE w4 eb E)
        have n0 := cell_row 0 qn rfl
        have n1 := cell_row 1 qn rfl
        have n2 := cell_row 2 qn rfl
        have z0 := cell_row 0 qz rfl
        have z1 := cell_row 1 qz rfl
        have z2 := cell_row 2 qz rfl
        have fn : ∀ i, World.frozen? w4 ⟨nb, i, none⟩ = false := fun i => by simp only [World.frozen?, qn]; rfl
        have fz : ∀ i, World.frozen? w4 ⟨w.heap.size + 1 + 1, i, none⟩ = false := fun i => by simp only [World.frozen?, qz]; rfl
        have CD := Lib.hid (rputData_any hok ws D _ E (hFit.out hmB) uE (by rw [HM.out]; omega) w4 P5.ws (by omega))
        have hti := hTd.out hmB
        generalize datW p ws E = ws5 at *
        go_wp2_with fail
        refine CD.out.mono ?_; rintro r w5 ⟨v5, rfl, hw5, hb5⟩
        obtain ⟨ao5, cap5, rfl⟩ := own_shape hw5
        have P6 := (P5.low hb5).list (ws_base hw5 (by omega))
        clear P5 CD hw5 hb5 qr qd qe qn qz t0 t1 t2 k0 d0 d1 d2 d3 d4 d5 d6 d7 d8 d9 d10 n0 n1 n2 z0 z1 z2 fn fz
        have P7 := (P6.sub (M' := [(nb, #[.int .i64 p.s, .int .i64 (p.n : Int), .slice ao m cap], 26), (w.heap.size + 1 + 1, #[.int .i64 0, .int .i64 0, .slice none 0 0], 26)]) (by intro q hq; simp only [List.mem_cons, List.not_mem_nil, or_false] at hq; rcases hq with rfl | rfl <;> simp)).put3 (x' := .int .i64 p.s) (y' := .int .i64 (p.n : Int)) (u' := .slice ao5 ws5.length cap5) (fun q hq => by rw [List.mem_singleton.1 hq]; show w.heap.size + 1 + 1 ≠ nb; omega) (by omega)
        have qr := P6.row (b := w.heap.size) (c := #[.int .i64 p.s, .int .i64 (p.n : Int), .slice ao m cap]) (t := 26) (by simp)
        have qd := P6.row (b := w.heap.size + 1) (c := #[.int .i64 d.kind, .int .i64 d.ctx, .int .u64 d.va, .int .i64 d.e.size, .int .i64 d.e.ctx, .int .u64 d.e.va, .int .u64 d.e.pa, .bool d.e.att.write, .bool d.e.att.priv, .bool d.e.att.exec, .bool d.e.att.lock, .bool d.e.att.global, .bool d.e.att.quiet, .bool d.e.valid, .bool d.raw]) (t := 37) (by simp)
        have qe := P6.row (b := eb) (c := #[.int .i64 E.size, .int .i64 E.ctx, .int .u64 E.va, .int .u64 E.pa, .bool E.att.write, .bool E.att.priv, .bool E.att.exec, .bool E.att.lock, .bool E.att.global, .bool E.att.quiet, .bool E.valid]) (t := 35) (by simp)
        have qn := P6.row (b := nb) (c := #[.int .i64 p.s, .int .i64 (p.n : Int), .slice ao m cap]) (t := 26) (by simp)
        have qz := P6.row (b := w.heap.size + 1 + 1) (c := #[.int .i64 0, .int .i64 0, .slice none 0 0]) (t := 26) (by simp)
        have t0 := cell_row 0 qr rfl
        have t1 := cell_row 1 qr rfl
        have t2 := cell_row 2 qr rfl
        have k0 := cell_row 0 qd rfl
        obtain ⟨d0, d1, d2, d3, d4, d5, d6, d7, d8, d9, d10⟩ := RowE.cells (⟨qe⟩ : RowE w5 eb E)
        have n0 := cell_row 0 qn rfl
        have n1 := cell_row 1 qn rfl
        have n2 := cell_row 2 qn rfl
        have z0 := cell_row 0 qz rfl
        have z1 := cell_row 1 qz rfl
        have z2 := cell_row 2 qz rfl
        have fn : ∀ i, World.frozen? w5 ⟨nb, i, none⟩ = false := fun i => by simp only [World.frozen?, qn]; rfl
        have fz : ∀ i, World.frozen? w5 ⟨w.heap.size + 1 + 1, i, none⟩ = false := fun i => by simp only [World.frozen?, qz]; rfl
        have qn7 := P7.row (List.mem_cons_self ..)
        have qz7 := P7.row (List.mem_cons_of_mem _ (List.mem_cons_self ..))
        obtain ⟨y1, y2⟩ := DP.done (b := w.heap.size + 1 + 1) (M := []) (x := .int .i64 0) (y := .int .i64 0) (u := .slice none 0 0) (P7.sub (by intro q hq; rw [List.mem_singleton.1 hq]; simp)) (fun _ h => absurd h (by simp)) (by omega) hti
        clear P6 P7
        have hne : nb ≠ w.heap.size + 1 + 1 := by omega
        go_wp2_with fail
        (try simp only [Exit.inBlock, Exit.then])
        refine bodyPost_ret (res_Tt rfl _ _ _ _ _ _ rfl y1) rfl ?_
        exact y2
      · go_wp2_with fail
        refine (putTag_any E uE _ P4.pl.tsb).mono ?_; rintro r w4 ⟨rfl, kt⟩
        obtain ⟨b4, P5⟩ := P4.to kt
        clear P4 P3 kt qr qd qe qn qz t0 t1 t2 k0 d0 d1 d2 d3 d4 d5 d6 d7 d8 d9 d10 n0 n1 n2 z0 z1 z2 fn fz
        generalize w2.heap.size = nb at *
        rw [hYes.out hmB]
        have hz5 := P5.bel
        have qr := P5.row (b := w.heap.size) (c := #[.int .i64 p.s, .int .i64 (p.n : Int), .slice ao m cap]) (t := 26) (by simp)
        have qd := P5.row (b := w.heap.size + 1) (c := #[.int .i64 d.kind, .int .i64 d.ctx, .int .u64 d.va, .int .i64 d.e.size, .int .i64 d.e.ctx, .int .u64 d.e.va, .int .u64 d.e.pa, .bool d.e.att.write, .bool d.e.att.priv, .bool d.e.att.exec, .bool d.e.att.lock, .bool d.e.att.global, .bool d.e.att.quiet, .bool d.e.valid, .bool d.raw]) (t := 37) (by simp)
        have qe := P5.row (b := eb) (c := #[.int .i64 E.size, .int .i64 E.ctx, .int .u64 E.va, .int .u64 E.pa, .bool E.att.write, .bool E.att.priv, .bool E.att.exec, .bool E.att.lock, .bool E.att.global, .bool E.att.quiet, .bool E.valid]) (t := 35) (by simp)
        have qn := P5.row (b := nb) (c := #[.int .i64 p.s, .int .i64 (p.n : Int), .slice ao m cap]) (t := 26) (by simp)
        have qz := P5.row (b := w.heap.size + 1 + 1) (c := #[.int .i64 0, .int .i64 0, .slice none 0 0]) (t := 26) (by simp)
        have t0 := cell_row 0 qr rfl
        have t1 := cell_row 1 qr rfl
        have t2 := cell_row 2 qr rfl
        have k0 := cell_row 0 qd rfl
        obtain ⟨d0, d1, d2, d3, d4, d5, d6, d7, d8, d9, d10⟩ := RowE.cells (⟨qe⟩ : RowE w4 eb E)
        have n0 := cell_row 0 qn rfl
        have n1 := cell_row 1 qn rfl
        have n2 := cell_row 2 qn rfl
        have z0 := cell_row 0 qz rfl
        have z1 := cell_row 1 qz rfl
        have z2 := cell_row 2 qz rfl
        have fn : ∀ i, World.frozen? w4 ⟨nb, i, none⟩ = false := fun i => by simp only [World.frozen?, qn]; rfl
        have fz : ∀ i, World.frozen? w4 ⟨w.heap.size + 1 + 1, i, none⟩ = false := fun i => by simp only [World.frozen?, qz]; rfl
        have CD := Lib.hid (rputTag_any hok ws D _ E (hFit.out hmB) uE (by rw [HM.out]; omega) w4 P5.ws (by omega))
        have hti := hTt.out hmB
        generalize tagW p ws E = ws5 at *
        go_wp2_with fail
        refine CD.out.mono ?_; rintro r w5 ⟨v5, rfl, hw5, hb5⟩
        obtain ⟨ao5, cap5, rfl⟩ := own_shape hw5
        have P6 := (P5.low hb5).list (ws_base hw5 (by omega))
        clear P5 CD hw5 hb5 qr qd qe qn qz t0 t1 t2 k0 d0 d1 d2 d3 d4 d5 d6 d7 d8 d9 d10 n0 n1 n2 z0 z1 z2 fn fz
        have P7 := (P6.sub (M' := [(nb, #[.int .i64 p.s, .int .i64 (p.n : Int), .slice ao m cap], 26), (w.heap.size + 1 + 1, #[.int .i64 0, .int .i64 0, .slice none 0 0], 26)]) (by intro q hq; simp only [List.mem_cons, List.not_mem_nil, or_false] at hq; rcases hq with rfl | rfl <;> simp)).put3 (x' := .int .i64 p.s) (y' := .int .i64 (p.n : Int)) (u' := .slice ao5 ws5.length cap5) (fun q hq => by rw [List.mem_singleton.1 hq]; show w.heap.size + 1 + 1 ≠ nb; omega) (by omega)
        have qr := P6.row (b := w.heap.size) (c := #[.int .i64 p.s, .int .i64 (p.n : Int), .slice ao m cap]) (t := 26) (by simp)
        have qd := P6.row (b := w.heap.size + 1) (c := #[.int .i64 d.kind, .int .i64 d.ctx, .int .u64 d.va, .int .i64 d.e.size, .int .i64 d.e.ctx, .int .u64 d.e.va, .int .u64 d.e.pa, .bool d.e.att.write, .bool d.e.att.priv, .bool d.e.att.exec, .bool d.e.att.lock, .bool d.e.att.global, .bool d.e.att.quiet, .bool d.e.valid, .bool d.raw]) (t := 37) (by simp)
        have qe := P6.row (b := eb) (c := #[.int .i64 E.size, .int .i64 E.ctx, .int .u64 E.va, .int .u64 E.pa, .bool E.att.write, .bool E.att.priv, .bool E.att.exec, .bool E.att.lock, .bool E.att.global, .bool E.att.quiet, .bool E.valid]) (t := 35) (by simp)
        have qn := P6.row (b := nb) (c := #[.int .i64 p.s, .int .i64 (p.n : Int), .slice ao m cap]) (t := 26) (by simp)
        have qz := P6.row (b := w.heap.size + 1 + 1) (c := #[.int .i64 0, .int .i64 0, .slice none 0 0]) (t := 26) (by simp)
        have t0 := cell_row 0 qr rfl
        have t1 := cell_row 1 qr rfl
        have t2 := cell_row 2 qr rfl
        have k0 := cell_row 0 qd rfl
        obtain ⟨d0, d1, d2, d3, d4, d5, d6, d7, d8, d9, d10⟩ := RowE.cells (⟨qe⟩ : RowE w5 eb E)
        have n0 := cell_row 0 qn rfl
        have n1 := cell_row 1 qn rfl
        have n2 := cell_row 2 qn rfl
        have z0 := cell_row 0 qz rfl
        have z1 := cell_row 1 qz rfl
        have z2 := cell_row 2 qz rfl
        have fn : ∀ i, World.frozen? w5 ⟨nb, i, none⟩ = false := fun i => by simp only [World.frozen?, qn]; rfl
        have fz : ∀ i, World.frozen? w5 ⟨w.heap.size + 1 + 1, i, none⟩ = false := fun i => by simp only [World.frozen?, qz]; rfl
        have qn7 := P7.row (List.mem_cons_self ..)
        have qz7 := P7.row (List.mem_cons_of_mem _ (List.mem_cons_self ..))
        obtain ⟨y1, y2⟩ := DP.done (b := w.heap.size + 1 + 1) (M := []) (x := .int .i64 0) (y := .int .i64 0) (u := .slice none 0 0) (P7.sub (by intro q hq; rw [List.mem_singleton.1 hq]; simp)) (fun _ h => absurd h (by simp)) (by omega) hti
        clear P6 P7
        have hne : nb ≠ w.heap.size + 1 + 1 := by omega
        go_wp2_with fail
        (try simp only [Exit.inBlock, Exit.then])
        refine bodyPost_ret (res_Tt rfl _ _ _ _ _ _ rfl y1) rfl ?_
        exact y2
end Go.Proofs.YtgdagfhdimoklaaGreat.Ts
/-
  What a deed of the law TsbPlays does that finds. Conditions: a TSB and the document's list that tells the same; numbers are what Go's types hold.
-/
namespace Go.Proofs.YtgdagfhdimoklaaGreat.Ts
open Fld
open Pt (idxI idx_bd)
open Tl (ListAt DocAt nthE list_nil)
open Go.ChangeShapes Go.WideShapes Go.ChangeAt Go.RowKit Go.Shelf
set_option maxRecDepth 100000
set_option maxHeartbeats 8000000
theorem DoneD.drew {W w' : World} {st sb : Nat} {p : Par} {L : List Bx} {C D : Nat} {r : Ending} (h : DoneD W st sb p L C D r w') : DoneD W st sb p L C D r w'.drew := by
  obtain ⟨bm, T, v, ws, a, b, x, y⟩ := h
  exact ⟨bm, T, v, ws, a, b.drew, ws_low x (drewN_low w' 1), y⟩
theorem does1_any {W w : World} {st sb bm C D : Nat} {p : Par} {T : Nat → Pl} {L : List Bx} {rv : Value} {ws : List Wd} (P : PL W w st sb bm p T L C (.slice none 0 0) []) (hw : WsAt w D rv ws) (_hD : D ≤ w.heap.size) (ht : Tie p ws T) (c va : Int) (v0 : 0 ≤ va) (v1 : va ≤ 18446744073709551615) (e : Ent) (raw : Bool) :
    Calls Tryz.prog 6 #[.pointer (some ⟨st, 0, none⟩), .agg #[.int .i64 p.s, .int .i64 (p.n : Int), rv], .agg #[.int .i64 1, .int .i64 c, .int .u64 va, .int .i64 e.size, .int .i64 e.ctx, .int .u64 e.va, .int .u64 e.pa, .bool e.att.write, .bool e.att.priv, .bool e.att.exec, .bool e.att.lock, .bool e.att.global, .bool e.att.quiet, .bool e.valid, .bool raw]] w (DoneD W st sb p L C D) := by
  obtain ⟨ao, cap, rfl⟩ := own_shape hw
  have hok := P.tsb.ok
  have hnb := hok.n_bd
  have hU : ∀ i, i < p.n → (T i).U := fun i hi => P.tsb.U hi
  have hlen := tie_len ht
  have P1 := DP.three P hw #[.int .i64 1, .int .i64 c, .int .u64 va, .int .i64 e.size, .int .i64 e.ctx, .int .u64 e.va, .int .u64 e.pa, .bool e.att.write, .bool e.att.priv, .bool e.att.exec, .bool e.att.lock, .bool e.att.global, .bool e.att.quiet, .bool e.valid, .bool raw]
  generalize hm : ws.length = m at *
  have HM := Lib.hid hm
  clear hm P hw
  have hE := Lib.hid (fun w : World => (ent_is (fndE p T va c) (fndE p T va c) w).trans (by rw [(entEq_iff _ _).2 rfl]))
  have CF := Lib.hid (fun X (hX : WsAt X D (.slice ao m cap) ws) => ofind_any hok ht hU va c v0 v1 X hX)
  have CG := Lib.hid (fun X bm' (hX : TsbAt X st sb bm' p T) => find_any va c v0 v1 X hX)
  generalize fndE p T va c = FE at *
  generalize fndB p T va c = FB at *
  go_enter Tryz.func6, Tryz.ntmps6
  go_wp2_with fail
  generalize World.alloc (World.alloc (World.alloc w _) _) _ = W1 at *
  refine (CG.out _ _ P1.pl.tsb).mono ?_; rintro r w2 ⟨rfl, hb2⟩
  have P2 := (P1.low hb2).push #[.int .i64 FE.size, .int .i64 FE.ctx, .int .u64 FE.va, .int .u64 FE.pa, .bool FE.att.write, .bool FE.att.priv, .bool FE.att.exec, .bool FE.att.lock, .bool FE.att.global, .bool FE.att.quiet, .bool FE.valid] 35 ⟨by decide, by decide⟩
  clear P1 CG hb2
  have qr := P2.row (b := w.heap.size) (c := #[.int .i64 p.s, .int .i64 (p.n : Int), .slice ao m cap]) (t := 26) (by simp)
  have t0 := cell_row 0 qr rfl
  have t1 := cell_row 1 qr rfl
  have t2 := cell_row 2 qr rfl
  have qd := P2.row (b := w.heap.size + 1) (c := #[.int .i64 1, .int .i64 c, .int .u64 va, .int .i64 e.size, .int .i64 e.ctx, .int .u64 e.va, .int .u64 e.pa, .bool e.att.write, .bool e.att.priv, .bool e.att.exec, .bool e.att.lock, .bool e.att.global, .bool e.att.quiet, .bool e.valid, .bool raw]) (t := 37) (by simp)
  have k0 := cell_row 0 qd rfl
  have k1 := cell_row 1 qd rfl
  have k2 := cell_row 2 qd rfl
  have CX := CF.out _ P2.ws
  go_wp2_with fail
  refine CX.mono ?_; rintro r w3 ⟨rfl, hb3⟩
  have P3 := (P2.low hb3).push #[.int .i64 FE.size, .int .i64 FE.ctx, .int .u64 FE.va, .int .u64 FE.pa, .bool FE.att.write, .bool FE.att.priv, .bool FE.att.exec, .bool FE.att.lock, .bool FE.att.global, .bool FE.att.quiet, .bool FE.valid] 35 ⟨by decide, by decide⟩
  clear P2 CX CF hb3 qr t0 t1 t2 qd k0 k1 k2
  go_wp2_with fail
  generalize World.alloc w3 _ = W4 at *
  generalize w3.heap.size = e2 at *
  generalize w2.heap.size = e1 at *
  have qr := P3.row (b := w.heap.size) (c := #[.int .i64 p.s, .int .i64 (p.n : Int), .slice ao m cap]) (t := 26) (by simp)
  have t0 := cell_row 0 qr rfl
  have t1 := cell_row 1 qr rfl
  have t2 := cell_row 2 qr rfl
  have qz := P3.row (b := w.heap.size + 1 + 1) (c := #[.int .i64 0, .int .i64 0, .slice none 0 0]) (t := 26) (by simp)
  have z0 := cell_row 0 qz rfl
  have z1 := cell_row 1 qz rfl
  have z2 := cell_row 2 qz rfl
  have fz : ∀ i, World.frozen? W4 ⟨w.heap.size + 1 + 1, i, none⟩ = false := (fun i => by simp only [World.frozen?, qz]; rfl)
  have qa := P3.row (b := e1) (c := #[.int .i64 FE.size, .int .i64 FE.ctx, .int .u64 FE.va, .int .u64 FE.pa, .bool FE.att.write, .bool FE.att.priv, .bool FE.att.exec, .bool FE.att.lock, .bool FE.att.global, .bool FE.att.quiet, .bool FE.valid]) (t := 35) (by simp)
  have qb := P3.row (b := e2) (c := #[.int .i64 FE.size, .int .i64 FE.ctx, .int .u64 FE.va, .int .u64 FE.pa, .bool FE.att.write, .bool FE.att.priv, .bool FE.att.exec, .bool FE.att.lock, .bool FE.att.global, .bool FE.att.quiet, .bool FE.valid]) (t := 35) (by simp)
  obtain ⟨d0, d1, d2, d3, d4, d5, d6, d7, d8, d9, d10⟩ := RowE.cells (⟨qa⟩ : RowE W4 e1 FE)
  obtain ⟨f0, f1, f2, f3, f4, f5, f6, f7, f8, f9, f10⟩ := RowE.cells (⟨qb⟩ : RowE W4 e2 FE)
  obtain ⟨y1, y2⟩ := DP.done (b := w.heap.size + 1 + 1) (M := []) (x := .int .i64 0) (y := .int .i64 0) (u := .slice none 0 0) (P3.sub (by intro q hq; rw [List.mem_singleton.1 hq]; simp)) (fun _ h => absurd h (by simp)) (by omega) ht
  replace y2 := y2.drew
  have heq := hE.out
  clear P3 hE qr qz qa qb
  go_region
  all_goals
    go_wp2_with fail
    (try simp only [Exit.inBlock, Exit.then])
    refine bodyPost_ret (res_Tt rfl _ _ _ _ _ _ rfl y1) rfl ?_
    exact y2
end Go.Proofs.YtgdagfhdimoklaaGreat.Ts
/-
  What a deed of the law TsbPlays does that drops. Conditions: a TSB and the document's list that tells the same; numbers are what Go's types hold.
-/
namespace Go.Proofs.YtgdagfhdimoklaaGreat.Ts
open Fld
open Pt (idxI idx_bd)
open Tl (ListAt DocAt nthE list_nil)
open Go.ChangeShapes Go.WideShapes Go.ChangeAt Go.RowKit Go.Shelf
set_option maxRecDepth 100000
set_option maxHeartbeats 8000000
/-- A list's box and a deed's that stay. -/
structure KB2 (wr : World) (nb b : Nat) (p : Par) (v : Value) (Dc : Array Value) : Prop where
  rn : wr.heap[nb]? = some (.cells #[.int .i64 p.s, .int .i64 (p.n : Int), v] 26 (0, 0))
  rd : wr.heap[b + 1]? = some (.cells Dc 37 (0, 0))
theorem KB2.drew {wr : World} {nb b : Nat} {p : Par} {v : Value} {Dc : Array Value} (h : KB2 wr nb b p v Dc) : KB2 wr.drew nb b p v Dc := ⟨h.rn, h.rd⟩
theorem KB2.set3 {wr : World} {nb b : Nat} {p : Par} {v : Value} {Dc : Array Value} (h : KB2 wr nb b p v Dc) (hne : nb ≠ b + 1 + 1) (x y z : Value) : KB2 (((wr.setCell ⟨b + 1 + 1, 0, none⟩ x).setCell ⟨b + 1 + 1, 1, none⟩ y).setCell ⟨b + 1 + 1, 2, none⟩ z) nb b p v Dc := ⟨(three_far hne).trans h.rn, (three_far (by omega)).trans h.rd⟩
theorem does2_any {W w : World} {st sb bm C D : Nat} {p : Par} {T : Nat → Pl} {L : List Bx} {rv : Value} {ws : List Wd} (P : PL W w st sb bm p T L C (.slice none 0 0) []) (hw : WsAt w D rv ws) (hD : D ≤ w.heap.size) (ht : Tie p ws T) (c va : Int) (v0 : 0 ≤ va) (v1 : va ≤ 18446744073709551615) (e : Ent) (raw : Bool) :
    Calls Tryz.prog 6 #[.pointer (some ⟨st, 0, none⟩), .agg #[.int .i64 p.s, .int .i64 (p.n : Int), rv], .agg #[.int .i64 2, .int .i64 c, .int .u64 va, .int .i64 e.size, .int .i64 e.ctx, .int .u64 e.va, .int .u64 e.pa, .bool e.att.write, .bool e.att.priv, .bool e.att.exec, .bool e.att.lock, .bool e.att.global, .bool e.att.quiet, .bool e.valid, .bool raw]] w (DoneD W st sb p L C D) := by
  obtain ⟨ao, cap, rfl⟩ := own_shape hw
  have hok := P.tsb.ok
  have hnb := hok.n_bd
  have hU : ∀ i, i < p.n → (T i).U := fun i hi => P.tsb.U hi
  have hlen := tie_len ht
  have P1 := DP.three P hw #[.int .i64 2, .int .i64 c, .int .u64 va, .int .i64 e.size, .int .i64 e.ctx, .int .u64 e.va, .int .u64 e.pa, .bool e.att.write, .bool e.att.priv, .bool e.att.exec, .bool e.att.lock, .bool e.att.global, .bool e.att.quiet, .bool e.valid, .bool raw]
  generalize hm : ws.length = m at *
  have HM := Lib.hid hm
  clear hm P hw
  have CF := Lib.hid (fun X (hX : WsAt X D (.slice ao m cap) ws) (hB : D ≤ X.heap.size) => odrop_any hok ht hU va c v0 v1 X hX hB)
  have CG := Lib.hid (fun X bm' (hX : TsbAt X st sb bm' p T) => drop_any va c v0 v1 X hX)
  generalize fndB p T va c = FB at *
  generalize dropT p T va c = TN at *
  go_enter Tryz.func6, Tryz.ntmps6
  go_wp2_with fail
  generalize World.alloc (World.alloc (World.alloc w _) _) _ = W1 at *
  have hb1 := P1.bel
  refine (CF.out _ P1.ws (by omega)).mono ?_; rintro r w2 ⟨v2, ws2, rfl, hw2, ht2, hb2⟩
  obtain ⟨ao2, cap2, rfl⟩ := own_shape hw2
  generalize hm2 : ws2.length = m2 at *
  clear hm2
  have P2 := ((P1.low hb2).list hw2).push #[.int .i64 p.s, .int .i64 (p.n : Int), .slice ao2 m2 cap2] 26 ⟨by decide, by decide⟩
  have hlt := (Array.getElem?_eq_some_iff.1 ((P1.low hb2).row (b := w.heap.size + 1 + 1) (c := #[.int .i64 0, .int .i64 0, .slice none 0 0]) (t := 26) (by simp))).1
  clear P1 CF hb2 hw2
  go_wp2_with fail
  generalize World.alloc w2 _ = W4 at *
  generalize w2.heap.size = nb at *
  have P4 := P2.drew
  have CX := Lib.hid (CG.out _ _ P4.pl.tsb)
  have qd := P2.row (b := w.heap.size + 1) (c := #[.int .i64 2, .int .i64 c, .int .u64 va, .int .i64 e.size, .int .i64 e.ctx, .int .u64 e.va, .int .u64 e.pa, .bool e.att.write, .bool e.att.priv, .bool e.att.exec, .bool e.att.lock, .bool e.att.global, .bool e.att.quiet, .bool e.valid, .bool raw]) (t := 37) (by simp)
  have k0 := cell_row 0 qd rfl
  have k1 := cell_row 1 qd rfl
  have k2 := cell_row 2 qd rfl
  have qn := P2.row (b := nb) (c := #[.int .i64 p.s, .int .i64 (p.n : Int), .slice ao2 m2 cap2]) (t := 26) (by simp)
  have n0 := cell_row 0 qn rfl
  have n1 := cell_row 1 qn rfl
  have n2 := cell_row 2 qn rfl
  have K4 : KB2 W4 nb w.heap.size p (.slice ao2 m2 cap2) #[.int .i64 2, .int .i64 c, .int .u64 va, .int .i64 e.size, .int .i64 e.ctx, .int .u64 e.va, .int .u64 e.pa, .bool e.att.write, .bool e.att.priv, .bool e.att.exec, .bool e.att.lock, .bool e.att.global, .bool e.att.quiet, .bool e.valid, .bool raw] := ⟨qn, qd⟩
  have hne : nb ≠ w.heap.size + 1 + 1 := by omega
  have HN := Lib.hid hne
  clear CG P2
  go_region_held3 (fun w1 => w1.cell? ⟨nb, 0, none⟩ = some (.int .i64 p.s) ∧ w1.cell? ⟨nb, 1, none⟩ = some (.int .i64 (p.n : Int)) ∧ w1.cell? ⟨nb, 2, none⟩ = some (.slice ao2 m2 cap2) ∧ w1.cell? ⟨w.heap.size + 1, 1, none⟩ = some (.int .i64 c) ∧ w1.cell? ⟨w.heap.size + 1, 2, none⟩ = some (.int .u64 va)) ((refine (fun h : KB2 _ nb w.heap.size p (.slice ao2 m2 cap2) #[.int .i64 2, .int .i64 c, .int .u64 va, .int .i64 e.size, .int .i64 e.ctx, .int .u64 e.va, .int .u64 e.pa, .bool e.att.write, .bool e.att.priv, .bool e.att.exec, .bool e.att.lock, .bool e.att.global, .bool e.att.quiet, .bool e.valid, .bool raw] => (⟨cell_row 0 h.rn rfl, cell_row 1 h.rn rfl, cell_row 2 h.rn rfl, cell_row 1 h.rd rfl, cell_row 2 h.rd rfl⟩ : _ ∧ _ ∧ _ ∧ _ ∧ _)) ?_; (repeat (first | (with_reducible assumption) | (with_reducible refine KB2.drew ?_) | (with_reducible refine KB2.set3 ?_ HN.out _ _ _)))))
    ((go_at_call 26; (refine CX.out.mono ?_); rintro r w5 ⟨rfl, kt⟩; obtain ⟨b5, P5⟩ := P4.to kt; have K5 : KB2 w5 nb w.heap.size p (.slice ao2 m2 cap2) #[.int .i64 2, .int .i64 c, .int .u64 va, .int .i64 e.size, .int .i64 e.ctx, .int .u64 e.va, .int .u64 e.pa, .bool e.att.write, .bool e.att.priv, .bool e.att.exec, .bool e.att.lock, .bool e.att.global, .bool e.att.quiet, .bool e.valid, .bool raw] := ⟨P5.row (b := nb) (c := #[.int .i64 p.s, .int .i64 (p.n : Int), .slice ao2 m2 cap2]) (t := 26) (by simp), P5.row (b := w.heap.size + 1) (c := #[.int .i64 2, .int .i64 c, .int .u64 va, .int .i64 e.size, .int .i64 e.ctx, .int .u64 e.va, .int .u64 e.pa, .bool e.att.write, .bool e.att.priv, .bool e.att.exec, .bool e.att.lock, .bool e.att.global, .bool e.att.quiet, .bool e.valid, .bool raw]) (t := 37) (by simp)⟩; have qz := P5.row (b := w.heap.size + 1 + 1) (c := #[.int .i64 0, .int .i64 0, .slice none 0 0]) (t := 26) (by simp); have z0 := cell_row 0 qz rfl; have z1 := cell_row 1 qz rfl; have z2 := cell_row 2 qz rfl; have fz : ∀ i, World.frozen? w5 ⟨w.heap.size + 1 + 1, i, none⟩ = false := (fun i => by simp only [World.frozen?, qz]; rfl); obtain ⟨y1, y2⟩ := DP.done (b := w.heap.size + 1 + 1) (M := []) (x := .int .i64 0) (y := .int .i64 0) (u := .slice none 0 0) (P5.sub (by intro q hq; rw [List.mem_singleton.1 hq]; simp)) (fun _ h => absurd h (by simp)) (by omega) ht2))
  all_goals
    go_wp2_with fail
    (try simp only [Exit.inBlock, Exit.then])
    refine bodyPost_ret (res_Tt rfl _ _ _ _ _ _ rfl y1) rfl ?_
    exact y2
theorem does3_any {W w : World} {st sb bm C D : Nat} {p : Par} {T : Nat → Pl} {L : List Bx} {rv : Value} {ws : List Wd} (P : PL W w st sb bm p T L C (.slice none 0 0) []) (hw : WsAt w D rv ws) (hD : D ≤ w.heap.size) (ht : Tie p ws T) (c va : Int) (_v0 : 0 ≤ va) (_v1 : va ≤ 18446744073709551615) (e : Ent) (raw : Bool) :
    Calls Tryz.prog 6 #[.pointer (some ⟨st, 0, none⟩), .agg #[.int .i64 p.s, .int .i64 (p.n : Int), rv], .agg #[.int .i64 3, .int .i64 c, .int .u64 va, .int .i64 e.size, .int .i64 e.ctx, .int .u64 e.va, .int .u64 e.pa, .bool e.att.write, .bool e.att.priv, .bool e.att.exec, .bool e.att.lock, .bool e.att.global, .bool e.att.quiet, .bool e.valid, .bool raw]] w (DoneD W st sb p L C D) := by
  obtain ⟨ao, cap, rfl⟩ := own_shape hw
  have hok := P.tsb.ok
  have hnb := hok.n_bd
  have hU : ∀ i, i < p.n → (T i).U := fun i hi => P.tsb.U hi
  have hlen := tie_len ht
  have P1 := DP.three P hw #[.int .i64 3, .int .i64 c, .int .u64 va, .int .i64 e.size, .int .i64 e.ctx, .int .u64 e.va, .int .u64 e.pa, .bool e.att.write, .bool e.att.priv, .bool e.att.exec, .bool e.att.lock, .bool e.att.global, .bool e.att.quiet, .bool e.valid, .bool raw]
  generalize hm : ws.length = m at *
  have HM := Lib.hid hm
  clear hm P hw
  have CF := Lib.hid (fun X (hX : WsAt X D (.slice ao m cap) ws) (hB : D ≤ X.heap.size) => octx_any hok ht hU c X hX hB)
  have CG := Lib.hid (fun X bm' (hX : TsbAt X st sb bm' p T) => dropContext_any c X hX)
  generalize drpN p T c p.n = NK at *
  generalize drpT p T c p.n = TN at *
  go_enter Tryz.func6, Tryz.ntmps6
  go_wp2_with fail
  generalize World.alloc (World.alloc (World.alloc w _) _) _ = W1 at *
  have hb1 := P1.bel
  refine (CF.out _ P1.ws (by omega)).mono ?_; rintro r w2 ⟨v2, ws2, rfl, hw2, ht2, hb2⟩
  obtain ⟨ao2, cap2, rfl⟩ := own_shape hw2
  generalize hm2 : ws2.length = m2 at *
  clear hm2
  have P2 := ((P1.low hb2).list hw2).push #[.int .i64 p.s, .int .i64 (p.n : Int), .slice ao2 m2 cap2] 26 ⟨by decide, by decide⟩
  have hlt := (Array.getElem?_eq_some_iff.1 ((P1.low hb2).row (b := w.heap.size + 1 + 1) (c := #[.int .i64 0, .int .i64 0, .slice none 0 0]) (t := 26) (by simp))).1
  clear P1 CF hb2 hw2
  go_wp2_with fail
  generalize World.alloc w2 _ = W4 at *
  generalize w2.heap.size = nb at *
  have P4 := P2.drew
  have CX := Lib.hid (CG.out _ _ P4.pl.tsb)
  have qd := P2.row (b := w.heap.size + 1) (c := #[.int .i64 3, .int .i64 c, .int .u64 va, .int .i64 e.size, .int .i64 e.ctx, .int .u64 e.va, .int .u64 e.pa, .bool e.att.write, .bool e.att.priv, .bool e.att.exec, .bool e.att.lock, .bool e.att.global, .bool e.att.quiet, .bool e.valid, .bool raw]) (t := 37) (by simp)
  have k0 := cell_row 0 qd rfl
  have k1 := cell_row 1 qd rfl
  have k2 := cell_row 2 qd rfl
  have qn := P2.row (b := nb) (c := #[.int .i64 p.s, .int .i64 (p.n : Int), .slice ao2 m2 cap2]) (t := 26) (by simp)
  have n0 := cell_row 0 qn rfl
  have n1 := cell_row 1 qn rfl
  have n2 := cell_row 2 qn rfl
  have K4 : KB2 W4 nb w.heap.size p (.slice ao2 m2 cap2) #[.int .i64 3, .int .i64 c, .int .u64 va, .int .i64 e.size, .int .i64 e.ctx, .int .u64 e.va, .int .u64 e.pa, .bool e.att.write, .bool e.att.priv, .bool e.att.exec, .bool e.att.lock, .bool e.att.global, .bool e.att.quiet, .bool e.valid, .bool raw] := ⟨qn, qd⟩
  have hne : nb ≠ w.heap.size + 1 + 1 := by omega
  have HN := Lib.hid hne
  clear CG P2
  go_region_held3 (fun w1 => w1.cell? ⟨nb, 0, none⟩ = some (.int .i64 p.s) ∧ w1.cell? ⟨nb, 1, none⟩ = some (.int .i64 (p.n : Int)) ∧ w1.cell? ⟨nb, 2, none⟩ = some (.slice ao2 m2 cap2) ∧ w1.cell? ⟨w.heap.size + 1, 1, none⟩ = some (.int .i64 c) ∧ w1.cell? ⟨w.heap.size + 1, 2, none⟩ = some (.int .u64 va)) ((refine (fun h : KB2 _ nb w.heap.size p (.slice ao2 m2 cap2) #[.int .i64 3, .int .i64 c, .int .u64 va, .int .i64 e.size, .int .i64 e.ctx, .int .u64 e.va, .int .u64 e.pa, .bool e.att.write, .bool e.att.priv, .bool e.att.exec, .bool e.att.lock, .bool e.att.global, .bool e.att.quiet, .bool e.valid, .bool raw] => (⟨cell_row 0 h.rn rfl, cell_row 1 h.rn rfl, cell_row 2 h.rn rfl, cell_row 1 h.rd rfl, cell_row 2 h.rd rfl⟩ : _ ∧ _ ∧ _ ∧ _ ∧ _)) ?_; (repeat (first | (with_reducible assumption) | (with_reducible refine KB2.drew ?_) | (with_reducible refine KB2.set3 ?_ HN.out _ _ _)))))
    ((go_at_call 28; (refine CX.out.mono ?_); rintro r w5 ⟨rfl, kt⟩; obtain ⟨b5, P5⟩ := P4.to kt; have K5 : KB2 w5 nb w.heap.size p (.slice ao2 m2 cap2) #[.int .i64 3, .int .i64 c, .int .u64 va, .int .i64 e.size, .int .i64 e.ctx, .int .u64 e.va, .int .u64 e.pa, .bool e.att.write, .bool e.att.priv, .bool e.att.exec, .bool e.att.lock, .bool e.att.global, .bool e.att.quiet, .bool e.valid, .bool raw] := ⟨P5.row (b := nb) (c := #[.int .i64 p.s, .int .i64 (p.n : Int), .slice ao2 m2 cap2]) (t := 26) (by simp), P5.row (b := w.heap.size + 1) (c := #[.int .i64 3, .int .i64 c, .int .u64 va, .int .i64 e.size, .int .i64 e.ctx, .int .u64 e.va, .int .u64 e.pa, .bool e.att.write, .bool e.att.priv, .bool e.att.exec, .bool e.att.lock, .bool e.att.global, .bool e.att.quiet, .bool e.valid, .bool raw]) (t := 37) (by simp)⟩; have qz := P5.row (b := w.heap.size + 1 + 1) (c := #[.int .i64 0, .int .i64 0, .slice none 0 0]) (t := 26) (by simp); have z0 := cell_row 0 qz rfl; have z1 := cell_row 1 qz rfl; have z2 := cell_row 2 qz rfl; have fz : ∀ i, World.frozen? w5 ⟨w.heap.size + 1 + 1, i, none⟩ = false := (fun i => by simp only [World.frozen?, qz]; rfl); obtain ⟨y1, y2⟩ := DP.done (b := w.heap.size + 1 + 1) (M := []) (x := .int .i64 0) (y := .int .i64 0) (u := .slice none 0 0) (P5.sub (by intro q hq; rw [List.mem_singleton.1 hq]; simp)) (fun _ h => absurd h (by simp)) (by omega) ht2))
  all_goals
    go_wp2_with fail
    (try simp only [Exit.inBlock, Exit.then])
    refine bodyPost_ret (res_Tt rfl _ _ _ _ _ _ rfl y1) rfl ?_
    exact y2
end Go.Proofs.YtgdagfhdimoklaaGreat.Ts
/-
  What a deed of the law TsbPlays does. Conditions: a TSB and the document's list that tells the same; numbers are what Go's types hold.
-/
namespace Go.Proofs.YtgdagfhdimoklaaGreat.Ts
open Fld
open Pt (idxI idx_bd)
open Tl (ListAt DocAt nthE list_nil)
open Go.ChangeShapes Go.WideShapes Go.ChangeAt Go.RowKit Go.Shelf
set_option maxRecDepth 100000
set_option maxHeartbeats 8000000
theorem DP.put1 {W w wr : World} {st sb bm C D b : Nat} {p : Par} {T : Nat → Pl} {M L : List Bx} {rv x y u : Value} {ws : List Wd} (h : DP W w wr st sb bm p T ((b, #[x, y, u], 26) :: M) L C D rv ws) (hM : ∀ q ∈ M, q.1 ≠ b) (hb : w.heap.size ≤ b) (u' : Value) :
    DP W w (wr.setCell ⟨b, 2, none⟩ u') st sb bm p T ((b, #[x, y, u'], 26) :: M) L C D rv ws := by
  have q : ∀ q ∈ M ++ L, q.1 ≠ b := fun q hq => by
    rcases List.mem_append.1 hq with hq | hq
    · exact hM q hq
    · have := h.far q hq; omega
  exact ⟨PL.put (L := M ++ L) h.pl (by decide) q 2 u', ws_put h.ws (h.row (List.mem_cons_self ..)) t_w _ _, h.far, by simp; exact h.bel⟩
theorem does4_any {W w : World} {st sb bm C D : Nat} {p : Par} {T : Nat → Pl} {L : List Bx} {rv : Value} {ws : List Wd} (P : PL W w st sb bm p T L C (.slice none 0 0) []) (hw : WsAt w D rv ws) (hD : D ≤ w.heap.size) (ht : Tie p ws T) (c va : Int) (v0 : 0 ≤ va) (v1 : va ≤ 18446744073709551615) (e : Ent) (raw : Bool) :
    Calls Tryz.prog 6 #[.pointer (some ⟨st, 0, none⟩), .agg #[.int .i64 p.s, .int .i64 (p.n : Int), rv], .agg #[.int .i64 4, .int .i64 c, .int .u64 va, .int .i64 e.size, .int .i64 e.ctx, .int .u64 e.va, .int .u64 e.pa, .bool e.att.write, .bool e.att.priv, .bool e.att.exec, .bool e.att.lock, .bool e.att.global, .bool e.att.quiet, .bool e.valid, .bool raw]] w (DoneD W st sb p L C D) := by
  obtain ⟨ao, cap, rfl⟩ := own_shape hw
  have hok := P.tsb.ok
  have hnb := hok.n_bd
  have hU : ∀ i, i < p.n → (T i).U := fun i hi => P.tsb.U hi
  have hlen := tie_len ht
  have P1 := DP.three P hw #[.int .i64 4, .int .i64 c, .int .u64 va, .int .i64 e.size, .int .i64 e.ctx, .int .u64 e.va, .int .u64 e.pa, .bool e.att.write, .bool e.att.priv, .bool e.att.exec, .bool e.att.lock, .bool e.att.global, .bool e.att.quiet, .bool e.valid, .bool raw]
  generalize hm : ws.length = m at *
  have HM := Lib.hid hm
  clear hm P hw
  have CG := Lib.hid (fun X bm' (hX : TsbAt X st sb bm' p T) => lock_any va v0 v1 X hX)
  go_enter Tryz.func6, Tryz.ntmps6
  go_wp2_with fail
  generalize World.alloc (World.alloc (World.alloc w _) _) _ = W1 at *
  refine (CG.out _ _ P1.pl.tsb).mono ?_; rintro r w2 ⟨rfl, kt⟩
  obtain ⟨b2, P2⟩ := P1.to kt
  clear P1 CG kt
  have hb2 := P2.bel
  have qr := P2.row (b := w.heap.size) (c := #[.int .i64 p.s, .int .i64 (p.n : Int), .slice ao m cap]) (t := 26) (by simp)
  have t0 := cell_row 0 qr rfl
  have t1 := cell_row 1 qr rfl
  have t2 := cell_row 2 qr rfl
  have qd := P2.row (b := w.heap.size + 1) (c := #[.int .i64 4, .int .i64 c, .int .u64 va, .int .i64 e.size, .int .i64 e.ctx, .int .u64 e.va, .int .u64 e.pa, .bool e.att.write, .bool e.att.priv, .bool e.att.exec, .bool e.att.lock, .bool e.att.global, .bool e.att.quiet, .bool e.valid, .bool raw]) (t := 37) (by simp)
  have k0 := cell_row 0 qd rfl
  have k1 := cell_row 1 qd rfl
  have k2 := cell_row 2 qd rfl
  have CX := Lib.hid (rlock_any hok ws D _ va v0 v1 (by rw [HM.out]; omega) w2 P2.ws (by omega))
  have hti := tie_lok hok ht va
  generalize lokW p ws va = ws5 at *
  go_wp2_with fail
  refine CX.out.mono ?_; rintro r w5 ⟨v5, rfl, hw5, hb5⟩
  obtain ⟨ao5, cap5, rfl⟩ := own_shape hw5
  have P6 := (P2.low hb5).list (ws_base hw5 (by omega))
  clear P2 CX hw5 hb5 qr t0 t1 t2 qd k0 k1 k2
  have qz := P6.row (b := w.heap.size + 1 + 1) (c := #[.int .i64 0, .int .i64 0, .slice none 0 0]) (t := 26) (by simp)
  have z0 := cell_row 0 qz rfl
  have z1 := cell_row 1 qz rfl
  have z2 := cell_row 2 qz rfl
  have fz : ∀ i, World.frozen? w5 ⟨w.heap.size + 1 + 1, i, none⟩ = false := (fun i => by simp only [World.frozen?, qz]; rfl)
  obtain ⟨y1, y2⟩ := DP.done (b := w.heap.size + 1 + 1) (M := []) (x := .int .i64 0) (y := .int .i64 0) (u := .slice none 0 0) (P6.sub (by intro q hq; rw [List.mem_singleton.1 hq]; simp)) (fun _ h => absurd h (by simp)) (by omega) hti
  go_wp2_with fail
  (try simp only [Exit.inBlock, Exit.then])
  refine bodyPost_ret (res_Tt rfl _ _ _ _ _ _ rfl y1) rfl ?_
  exact y2
theorem does7_any {W w : World} {st sb bm C D : Nat} {p : Par} {T : Nat → Pl} {L : List Bx} {rv : Value} {ws : List Wd} (P : PL W w st sb bm p T L C (.slice none 0 0) []) (hw : WsAt w D rv ws) (_hD : D ≤ w.heap.size) (ht : Tie p ws T) (c va : Int) (_v0 : 0 ≤ va) (_v1 : va ≤ 18446744073709551615) (e : Ent) (raw : Bool) :
    Calls Tryz.prog 6 #[.pointer (some ⟨st, 0, none⟩), .agg #[.int .i64 p.s, .int .i64 (p.n : Int), rv], .agg #[.int .i64 7, .int .i64 c, .int .u64 va, .int .i64 e.size, .int .i64 e.ctx, .int .u64 e.va, .int .u64 e.pa, .bool e.att.write, .bool e.att.priv, .bool e.att.exec, .bool e.att.lock, .bool e.att.global, .bool e.att.quiet, .bool e.valid, .bool raw]] w (DoneD W st sb p L C D) := by
  obtain ⟨ao, cap, rfl⟩ := own_shape hw
  have hok := P.tsb.ok
  have hnb := hok.n_bd
  have hU : ∀ i, i < p.n → (T i).U := fun i hi => P.tsb.U hi
  have hlen := tie_len ht
  have P1 := DP.three P hw #[.int .i64 7, .int .i64 c, .int .u64 va, .int .i64 e.size, .int .i64 e.ctx, .int .u64 e.va, .int .u64 e.pa, .bool e.att.write, .bool e.att.priv, .bool e.att.exec, .bool e.att.lock, .bool e.att.global, .bool e.att.quiet, .bool e.valid, .bool raw]
  generalize hm : ws.length = m at *
  have HM := Lib.hid hm
  clear hm P hw
  have CG := Lib.hid (fun X bm' (hX : TsbAt X st sb bm' p T) => clear_any X hX)
  go_enter Tryz.func6, Tryz.ntmps6
  go_wp2_with fail
  generalize World.alloc (World.alloc (World.alloc w _) _) _ = W1 at *
  refine (CG.out _ _ P1.pl.tsb).mono ?_; rintro r w2 ⟨rfl, kt⟩
  obtain ⟨b2, P2⟩ := P1.to kt
  clear P1 CG kt
  have qr := P2.row (b := w.heap.size) (c := #[.int .i64 p.s, .int .i64 (p.n : Int), .slice ao m cap]) (t := 26) (by simp)
  have t0 := cell_row 0 qr rfl
  have t1 := cell_row 1 qr rfl
  have t2 := cell_row 2 qr rfl
  have fr : ∀ i, World.frozen? w2 ⟨w.heap.size, i, none⟩ = false := fun i => by simp only [World.frozen?, qr]; rfl
  have P3 := DP.put1 (b := w.heap.size) (x := .int .i64 p.s) (y := .int .i64 (p.n : Int)) (u := .slice ao m cap) (P2.sub (M' := [(w.heap.size, #[.int .i64 p.s, .int .i64 (p.n : Int), .slice ao m cap], 26), (w.heap.size + 1 + 1, #[.int .i64 0, .int .i64 0, .slice none 0 0], 26)]) (by intro q hq; simp only [List.mem_cons, List.not_mem_nil, or_false] at hq; rcases hq with rfl | rfl <;> simp)) (fun q hq => by rw [List.mem_singleton.1 hq]; show w.heap.size + 1 + 1 ≠ w.heap.size; omega) (Nat.le_refl _) (.slice none 0 0)
  have P4 := P3.list (ws_nil _ D)
  go_upto_region 18 with fail
  clear P2 P3 qr t0 t1 t2 fr
  generalize World.setCell w2 _ _ = w3 at *
  have qr := P4.row (b := w.heap.size) (c := #[.int .i64 p.s, .int .i64 (p.n : Int), .slice none 0 0]) (t := 26) (by simp)
  have t0 := cell_row 0 qr rfl
  have t1 := cell_row 1 qr rfl
  have t2 := cell_row 2 qr rfl
  have qz := P4.row (b := w.heap.size + 1 + 1) (c := #[.int .i64 0, .int .i64 0, .slice none 0 0]) (t := 26) (by simp)
  have z0 := cell_row 0 qz rfl
  have z1 := cell_row 1 qz rfl
  have z2 := cell_row 2 qz rfl
  have fz : ∀ i, World.frozen? w3 ⟨w.heap.size + 1 + 1, i, none⟩ = false := (fun i => by simp only [World.frozen?, qz]; rfl)
  obtain ⟨y1, y2⟩ := DP.done (b := w.heap.size + 1 + 1) (M := []) (x := .int .i64 0) (y := .int .i64 0) (u := .slice none 0 0) (P4.sub (by intro q hq; rw [List.mem_singleton.1 hq]; simp)) (fun _ h => absurd h (by simp)) (by omega) (tie_nil p)
  go_wp2_with fail
  (try simp only [Exit.inBlock, Exit.then])
  refine bodyPost_ret (res_Tt rfl _ _ _ _ _ _ rfl y1) rfl ?_
  exact y2
theorem does0_any {W w : World} {st sb bm C D : Nat} {p : Par} {T : Nat → Pl} {L : List Bx} {rv : Value} {ws : List Wd} (P : PL W w st sb bm p T L C (.slice none 0 0) []) (hw : WsAt w D rv ws) (hD : D ≤ w.heap.size) (ht : Tie p ws T) (c va : Int) (_v0 : 0 ≤ va) (_v1 : va ≤ 18446744073709551615) (e : Ent) (raw : Bool) (k : Int) (hk1 : k ≠ 1) (hk2 : k ≠ 2) (hk3 : k ≠ 3) (hk4 : k ≠ 4) (hk7 : k ≠ 7) (hd : DeedV.wf ⟨k, c, va, e, raw⟩) :
    Calls Tryz.prog 6 #[.pointer (some ⟨st, 0, none⟩), .agg #[.int .i64 p.s, .int .i64 (p.n : Int), rv], .agg #[.int .i64 k, .int .i64 c, .int .u64 va, .int .i64 e.size, .int .i64 e.ctx, .int .u64 e.va, .int .u64 e.pa, .bool e.att.write, .bool e.att.priv, .bool e.att.exec, .bool e.att.lock, .bool e.att.global, .bool e.att.quiet, .bool e.valid, .bool raw]] w (DoneD W st sb p L C D) := by
  obtain ⟨ao, cap, rfl⟩ := own_shape hw
  have hok := P.tsb.ok
  have hnb := hok.n_bd
  have hU : ∀ i, i < p.n → (T i).U := fun i hi => P.tsb.U hi
  have hlen := tie_len ht
  have P1 := DP.three P hw #[.int .i64 k, .int .i64 c, .int .u64 va, .int .i64 e.size, .int .i64 e.ctx, .int .u64 e.va, .int .u64 e.pa, .bool e.att.write, .bool e.att.priv, .bool e.att.exec, .bool e.att.lock, .bool e.att.global, .bool e.att.quiet, .bool e.valid, .bool raw]
  generalize hm : ws.length = m at *
  have HM := Lib.hid hm
  clear hm P hw
  have CG := Lib.hid (fun X bm' (Pq : PL W X st sb bm' p T (L3 w.heap.size p (.slice ao m cap) #[.int .i64 k, .int .i64 c, .int .u64 va, .int .i64 e.size, .int .i64 e.ctx, .int .u64 e.va, .int .u64 e.pa, .bool e.att.write, .bool e.att.priv, .bool e.att.exec, .bool e.att.lock, .bool e.att.global, .bool e.att.quiet, .bool e.valid, .bool raw] [] ++ L) C (.slice none 0 0) []) (hw : WsAt X D (.slice ao m cap) ws) (hB : D ≤ X.heap.size) => puts_any Pq hw hB ht ⟨k, c, va, e, raw⟩ hd)
  go_enter Tryz.func6, Tryz.ntmps6
  go_wp2_with fail
  generalize World.alloc (World.alloc (World.alloc w _) _) _ = W1 at *
  have hb1 := P1.bel
  have hfar := P1.far
  refine (CG.out _ _ P1.pl P1.ws (by omega)).mono ?_; rintro r w2 ⟨b2, T2, v2, ws2, rfl, Pq, hw2, ht2⟩
  obtain ⟨ao2, cap2, rfl⟩ := own_shape hw2
  have hlt := (Array.getElem?_eq_some_iff.1 (Pq.rows (w.heap.size + 1 + 1, #[.int .i64 0, .int .i64 0, .slice none 0 0], 26) (by simp)).1).1
  have hlt2 : w.heap.size + 1 + 1 < w2.heap.size := hlt
  have P2 : DP W w w2 st sb b2 p T2 (L3 w.heap.size p (.slice ao m cap) #[.int .i64 k, .int .i64 c, .int .u64 va, .int .i64 e.size, .int .i64 e.ctx, .int .u64 e.va, .int .u64 e.pa, .bool e.att.write, .bool e.att.priv, .bool e.att.exec, .bool e.att.lock, .bool e.att.global, .bool e.att.quiet, .bool e.valid, .bool raw] []) L C D (.slice ao2 ws2.length cap2) ws2 := ⟨Pq, hw2, hfar, by omega⟩
  clear P1 CG hlt Pq hw2
  have qz := P2.row (b := w.heap.size + 1 + 1) (c := #[.int .i64 0, .int .i64 0, .slice none 0 0]) (t := 26) (by simp)
  have z0 := cell_row 0 qz rfl
  have z1 := cell_row 1 qz rfl
  have z2 := cell_row 2 qz rfl
  have fz : ∀ i, World.frozen? w2 ⟨w.heap.size + 1 + 1, i, none⟩ = false := (fun i => by simp only [World.frozen?, qz]; rfl)
  obtain ⟨y1, y2⟩ := DP.done (b := w.heap.size + 1 + 1) (M := []) (x := .int .i64 0) (y := .int .i64 0) (u := .slice none 0 0) (P2.sub (by intro q hq; rw [List.mem_singleton.1 hq]; simp)) (fun _ h => absurd h (by simp)) (by omega) ht2
  go_wp2_with fail
  (try simp only [Exit.inBlock, Exit.then])
  refine bodyPost_ret (res_Tt rfl _ _ _ _ _ _ rfl y1) rfl ?_
  exact y2
theorem does_any {W w : World} {st sb bm C D : Nat} {p : Par} {T : Nat → Pl} {L : List Bx} {rv : Value} {ws : List Wd} (P : PL W w st sb bm p T L C (.slice none 0 0) []) (hw : WsAt w D rv ws) (hD : D ≤ w.heap.size) (ht : Tie p ws T) (d : DeedV) (hd : d.wf) :
    Calls Tryz.prog 6 #[.pointer (some ⟨st, 0, none⟩), .agg #[.int .i64 p.s, .int .i64 (p.n : Int), rv], .agg #[.int .i64 d.kind, .int .i64 d.ctx, .int .u64 d.va, .int .i64 d.e.size, .int .i64 d.e.ctx, .int .u64 d.e.va, .int .u64 d.e.pa, .bool d.e.att.write, .bool d.e.att.priv, .bool d.e.att.exec, .bool d.e.att.lock, .bool d.e.att.global, .bool d.e.att.quiet, .bool d.e.valid, .bool d.raw]] w (DoneD W st sb p L C D) := by
  have hd2 := hd
  obtain ⟨k, c, va, e, raw⟩ := d
  obtain ⟨c0, c1, v0, v1, he⟩ := hd2
  by_cases h1 : k = 1
  · subst h1; exact does1_any P hw hD ht c va v0 v1 e raw
  · by_cases h2 : k = 2
    · subst h2; exact does2_any P hw hD ht c va v0 v1 e raw
    · by_cases h3 : k = 3
      · subst h3; exact does3_any P hw hD ht c va v0 v1 e raw
      · by_cases h4 : k = 4
        · subst h4; exact does4_any P hw hD ht c va v0 v1 e raw
        · by_cases h7 : k = 7
          · subst h7; exact does7_any P hw hD ht c va v0 v1 e raw
          · exact does0_any P hw hD ht c va v0 v1 e raw k h1 h2 h3 h4 h7 hd
end Go.Proofs.YtgdagfhdimoklaaGreat.Ts
/-
  What the law TsbPlays carries: a TSB, the document's list in a box, and deeds that came in. Conditions: numbers are what Go's types hold.
-/
namespace Go.Proofs.YtgdagfhdimoklaaGreat.Ts
open Fld
open Pt (idxI idx_bd)
open Tl (ListAt DocAt nthE doc_at doc_below list_nil)
open Go.ChangeShapes Go.WideShapes Go.ChangeAt Go.RowKit Go.Shelf
set_option maxRecDepth 100000
set_option maxHeartbeats 4000000
theorem does_sn {W w : World} {st sb bm C D : Nat} {p : Par} {T : Nat → Pl} {L : List Bx} {rv : Value} {ws : List Wd} (P : PL W w st sb bm p T L C (.slice none 0 0) []) (hw : WsAt w D rv ws) (hD : D ≤ w.heap.size) (ht : Tie p ws T) (d : DeedV) (hd : d.wf) {s n : Int} (hs : p.s = s) (hn : (p.n : Int) = n) :
    Calls Tryz.prog 6 #[.pointer (some ⟨st, 0, none⟩), .agg #[.int .i64 s, .int .i64 n, rv], .agg #[.int .i64 d.kind, .int .i64 d.ctx, .int .u64 d.va, .int .i64 d.e.size, .int .i64 d.e.ctx, .int .u64 d.e.va, .int .u64 d.e.pa, .bool d.e.att.write, .bool d.e.att.priv, .bool d.e.att.exec, .bool d.e.att.lock, .bool d.e.att.global, .bool d.e.att.quiet, .bool d.e.valid, .bool d.raw]] w fun r w' => ∃ (b' : Nat) (T' : Nat → Pl) (v : Value) (us : List Wd), r = .returned (.tuple #[.agg #[.int .i64 s, .int .i64 n, v], .bool true]) ∧ PL W w' st sb b' p T' L C (.slice none 0 0) [] ∧ WsAt w' D v us ∧ Tie p us T' := by
  subst hs hn
  exact does_any P hw hD ht d hd
theorem plays_S {w X : World} {tb b o : Nat} {s n : Int} {rv : Value} {d : DeedV} (hb : Below w.heap.size w X) (hr : X.heap[tb]? = some (.cells #[.int .i64 s, .int .i64 n, rv] 26 (0, 0))) (hl : b < w.heap.size) (hc : w.cell? ⟨b, o, none⟩ = some (.int .i64 d.kind) ∧ w.cell? ⟨b, o + 1, none⟩ = some (.int .i64 d.ctx) ∧ w.cell? ⟨b, o + 2, none⟩ = some (.int .u64 d.va) ∧ w.cell? ⟨b, o + 3, none⟩ = some (.int .i64 d.e.size) ∧ w.cell? ⟨b, o + 4, none⟩ = some (.int .i64 d.e.ctx) ∧ w.cell? ⟨b, o + 5, none⟩ = some (.int .u64 d.e.va) ∧ w.cell? ⟨b, o + 6, none⟩ = some (.int .u64 d.e.pa) ∧ w.cell? ⟨b, o + 7, none⟩ = some (.bool d.e.att.write) ∧ w.cell? ⟨b, o + 8, none⟩ = some (.bool d.e.att.priv) ∧ w.cell? ⟨b, o + 9, none⟩ = some (.bool d.e.att.exec) ∧ w.cell? ⟨b, o + 10, none⟩ = some (.bool d.e.att.lock) ∧ w.cell? ⟨b, o + 11, none⟩ = some (.bool d.e.att.global) ∧ w.cell? ⟨b, o + 12, none⟩ = some (.bool d.e.att.quiet) ∧ w.cell? ⟨b, o + 13, none⟩ = some (.bool d.e.valid) ∧ w.cell? ⟨b, o + 14, none⟩ = some (.bool d.raw)) :
    X.cell? ⟨tb, 0, none⟩ = some (.int .i64 s) ∧ X.cell? ⟨tb, 1, none⟩ = some (.int .i64 n) ∧ X.cell? ⟨tb, 2, none⟩ = some rv ∧ X.cell? ⟨b, o, none⟩ = some (.int .i64 d.kind) ∧ X.cell? ⟨b, o + 1, none⟩ = some (.int .i64 d.ctx) ∧ X.cell? ⟨b, o + 2, none⟩ = some (.int .u64 d.va) ∧ X.cell? ⟨b, o + 3, none⟩ = some (.int .i64 d.e.size) ∧ X.cell? ⟨b, o + 4, none⟩ = some (.int .i64 d.e.ctx) ∧ X.cell? ⟨b, o + 5, none⟩ = some (.int .u64 d.e.va) ∧ X.cell? ⟨b, o + 6, none⟩ = some (.int .u64 d.e.pa) ∧ X.cell? ⟨b, o + 7, none⟩ = some (.bool d.e.att.write) ∧ X.cell? ⟨b, o + 8, none⟩ = some (.bool d.e.att.priv) ∧ X.cell? ⟨b, o + 9, none⟩ = some (.bool d.e.att.exec) ∧ X.cell? ⟨b, o + 10, none⟩ = some (.bool d.e.att.lock) ∧ X.cell? ⟨b, o + 11, none⟩ = some (.bool d.e.att.global) ∧ X.cell? ⟨b, o + 12, none⟩ = some (.bool d.e.att.quiet) ∧ X.cell? ⟨b, o + 13, none⟩ = some (.bool d.e.valid) ∧ X.cell? ⟨b, o + 14, none⟩ = some (.bool d.raw) := by
  have k : ∀ {m : Nat} {v : Value}, w.cell? ⟨b, m, none⟩ = some v → X.cell? ⟨b, m, none⟩ = some v := fun {m v} h => (hb.cell (p := ⟨b, m, none⟩) hl).trans h
  obtain ⟨h0, h1, h2, h3, h4, h5, h6, h7, h8, h9, h10, h11, h12, h13, h14⟩ := hc
  exact ⟨cell_row 0 hr rfl, cell_row 1 hr rfl, cell_row 2 hr rfl, k h0, k h1, k h2, k h3, k h4, k h5, k h6, k h7, k h8, k h9, k h10, k h11, k h12, k h13, k h14⟩
/-- A TSB, and the document's list in a box. -/
structure M1 (w wr : World) (st : Nat) (p : Par) (T : Nat → Pl) (tb : Nat) (s n : Int) (rv : Value) (ws : List Wd) : Prop where
  one : ∃ sb bm, PL w wr st sb bm p T [(tb, #[.int .i64 s, .int .i64 n, rv], 26)] w.heap.size (.slice none 0 0) []
  ws : WsAt wr w.heap.size rv ws
theorem M1.low {w wr w' : World} {st tb : Nat} {p : Par} {T : Nat → Pl} {s n : Int} {rv : Value} {ws : List Wd} (h : M1 w wr st p T tb s n rv ws) (hb : Below wr.heap.size wr w') : M1 w w' st p T tb s n rv ws := by
  obtain ⟨⟨sb, bm, P⟩, a⟩ := h
  exact ⟨⟨sb, bm, P.low hb⟩, ws_low a hb⟩
theorem M1.drew {w wr : World} {st tb : Nat} {p : Par} {T : Nat → Pl} {s n : Int} {rv : Value} {ws : List Wd} (h : M1 w wr st p T tb s n rv ws) : M1 w wr.drew st p T tb s n rv ws := h.low (drewN_low wr 1)
theorem M1.sc {w wr : World} {st tb : Nat} {p : Par} {T : Nat → Pl} {s n : Int} {rv : Value} {ws : List Wd} (h : M1 w wr st p T tb s n rv ws) : wr.cell? ⟨tb, 0, none⟩ = some (.int .i64 s) ∧ wr.cell? ⟨tb, 1, none⟩ = some (.int .i64 n) ∧ wr.cell? ⟨tb, 2, none⟩ = some rv := by
  obtain ⟨⟨sb, bm, P⟩, a⟩ := h
  have := (P.rows _ (List.mem_cons_self ..)).1
  exact ⟨cell_row 0 this rfl, cell_row 1 this rfl, cell_row 2 this rfl⟩
theorem M1.bel {w wr : World} {st tb : Nat} {p : Par} {T : Nat → Pl} {s n : Int} {rv : Value} {ws : List Wd} (h : M1 w wr st p T tb s n rv ws) : Below w.heap.size w wr := by
  obtain ⟨⟨sb, bm, P⟩, a⟩ := h
  exact P.bel
theorem n_len {w W : World} {st tb : Nat} {p : Par} {T : Nat → Pl} {s n : Int} {rv : Value} {ws : List Wd} (h : M1 w W st p T tb s n rv ws) (hn : (p.n : Int) = n) :
    Calls Tryz.prog 7 #[.pointer (some ⟨st, 0, none⟩)] W fun e w' => e = .returned (.int .i64 n) ∧ Below W.heap.size W w' := by
  obtain ⟨⟨sb, bm, P⟩, a⟩ := h
  subst hn
  refine (len_any P.tsb.ok W P.tsb.row).mono ?_
  rintro _ _ ⟨x, k, rfl⟩
  exact ⟨x, drewN_low W k⟩
theorem n_lock {w W : World} {st tb : Nat} {p : Par} {T : Nat → Pl} {s n : Int} {rv : Value} {ws : List Wd} (h : M1 w W st p T tb s n rv ws) :
    Calls Tryz.prog 8 #[.pointer (some ⟨st, 0, none⟩)] W fun e w' => e = .returned (.int .i64 (lckN T p.n : Int)) ∧ Below W.heap.size W w' := by
  obtain ⟨⟨sb, bm, P⟩, a⟩ := h
  exact locked_any W P.tsb
theorem n_dlock {w W : World} {st tb : Nat} {p : Par} {T : Nat → Pl} {s n : Int} {rv : Value} {ws : List Wd} (h : M1 w W st p T tb s n rv ws) (ht : Tie p ws T) (hs : p.s = s) (hn : (p.n : Int) = n) :
    Calls Tryz.prog 9 #[.agg #[.int .i64 s, .int .i64 n, rv]] W fun e w' => e = .returned (.int .i64 (lckN T p.n : Int)) ∧ Below W.heap.size W w' := by
  obtain ⟨⟨sb, bm, P⟩, a⟩ := h
  subst hs hn
  exact olck_any P.tsb.ok ht W a
theorem n_list {w W : World} {st tb : Nat} {p : Par} {T : Nat → Pl} {s n : Int} {rv : Value} {ws : List Wd} (h : M1 w W st p T tb s n rv ws) :
    Calls Tryz.prog 11 #[.pointer (some ⟨st, 0, none⟩)] W fun e w' => ∃ v', e = .returned v' ∧ LE w' v' (lstP p T p.n) ∧ Below W.heap.size W w' := by
  obtain ⟨⟨sb, bm, P⟩, a⟩ := h
  exact (tlist_any W P.tsb).mono fun _ _ ⟨v', x, y, z⟩ => ⟨v', x, ⟨_, y⟩, z⟩
theorem n_dlist {w W : World} {st tb : Nat} {p : Par} {T : Nat → Pl} {s n : Int} {rv : Value} {ws : List Wd} (h : M1 w W st p T tb s n rv ws) (ht : Tie p ws T) (hs : p.s = s) (hn : (p.n : Int) = n) :
    Calls Tryz.prog 12 #[.agg #[.int .i64 s, .int .i64 n, rv]] W fun e w' => ∃ v', e = .returned v' ∧ LE w' v' (lstP p T p.n) ∧ Below W.heap.size W w' := by
  obtain ⟨⟨sb, bm, P⟩, a⟩ := h
  subst hs hn
  exact (olist_any P.tsb.ok ht (fun i hi => P.tsb.U hi) W a).mono fun _ _ ⟨v', x, y, z⟩ => ⟨v', x, ⟨_, y⟩, z⟩
end Go.Proofs.YtgdagfhdimoklaaGreat.Ts
