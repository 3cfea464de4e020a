/-
  A slice of deeds that comes in as an argument: what the walk is told of it. The table, out of the row's list. Conditions: none.
-/
import Derived.Test.YtohcmijgakijfaaDoorRDeed
import Derived.ShutString
import Derived.Deep.Slices
import Derived.Deep.Fields
import Derived.ChangeSame
import Derived.OpenShut
import Derived.LaidLaws
namespace Go.Proofs.YtohcmijgakijfaaDoor.Rg
open Fld
open Go.ChangeShapes Go.WideShapes Go.ChangeAt Go.RowKit Go.Deep
set_option maxHeartbeats 1000000
set_option maxRecDepth 100000
theorem cells_int : Tryd.prog.cellsOf 3 = 1 := by kernel_rfl
theorem cells_u64 : Tryd.prog.cellsOf 25 = 1 := by kernel_rfl
theorem cells_bool : Tryd.prog.cellsOf 4 = 1 := by kernel_rfl
theorem cells_row : Tryd.prog.cellsOf 62 = 3 := by kernel_rfl
theorem cells_rows : Tryd.prog.cellsOf 63 = 21 := by kernel_rfl
theorem cells_deed : Tryd.prog.cellsOf 31 = 8 := by kernel_rfl
theorem b_i64 {x : Int} (h : (Lit.int .i64 x).wf = true) : I64 x := by
  simp only [Lit.wf, IntKind.min, IntKind.max, Bool.and_eq_true, decide_eq_true_eq, show IntKind.i64.signed = true from rfl, show IntKind.i64.bits = 64 from rfl, if_true] at h
  unfold I64; exact ⟨by omega, by omega⟩
theorem b_u64 {x : Int} (h : (Lit.int .u64 x).wf = true) : U x := by
  simp only [Lit.wf, IntKind.min, IntKind.max, Bool.and_eq_true, decide_eq_true_eq, show IntKind.u64.signed = false from rfl, show IntKind.u64.bits = 64 from rfl, Bool.false_eq_true, if_false] at h
  unfold U; exact ⟨by omega, by omega⟩
/-! ### The table -/
theorem gTab : Tryd.prog.globalNamed "lookaside/regs.rows" = some 0 := by kernel_rfl
theorem gTabType : (Tryd.prog.globals[0]?).map (·.type) = some 63 := by kernel_rfl
theorem trod_row {H : Type} {enc : TypeId × Value → H} {w : World} {base : Nat} {spare : Nat → Bool} {held : Bool} {n : Nat} {cs : List Value} {a b : Int} {c : Bool} {p : List MemPlace} (hl : cs.length = 3)
    (h : DataW.trod enc Tryd.prog w base spare held n 62 cs = some (.agg [.lit (.int .u64 a), .lit (.int .u64 b), .lit (.bool c)], p)) : cs = [.int .u64 a, .int .u64 b, .bool c] := by
  match cs, hl with
  | [c0, c1, c2], _ =>
    obtain ⟨xs, n, _, hx, _, hlen, hg⟩ := DataW.trod_struct Tryd.underlying62 h
    match xs, hlen with
    | [y0, y1, y2], _ =>
      have g0 : DataW.trod enc Tryd.prog w base spare held n 25 [c0] = some y0 := by simpa [cells_u64] using hg 0 _ rfl
      have g1 : DataW.trod enc Tryd.prog w base spare held n 25 [c1] = some y1 := by simpa [cells_u64] using hg 1 _ rfl
      have g2 : DataW.trod enc Tryd.prog w base spare held n 4 [c2] = some y2 := by simpa [cells_u64, cells_bool] using hg 2 _ rfl
      obtain ⟨a0, q0, z0, w0⟩ := DataW.trod_int Tryd.underlying25 g0
      obtain ⟨a1, q1, z1, w1⟩ := DataW.trod_int Tryd.underlying25 g1
      obtain ⟨a2, q2, z2⟩ := DataW.trod_bool Tryd.underlying4 g2
      simp only [List.cons.injEq, and_true] at q0 q1 q2
      subst q0 q1 q2
      rw [z0, z1, z2] at hx
      simp at hx
      obtain ⟨⟨rfl, rfl, rfl⟩, _⟩ := hx
      rfl
theorem tab_of {W : World} (h0 : laidMetH Tryd.prog [("lookaside/regs.rows", Rows.laid_lookaside_regs_rows)] W) : Tab W := by
  have h : laidMet Tryd.prog [("lookaside/regs.rows", Rows.laid_lookaside_regs_rows)] W := h0
  obtain ⟨ps, ⟨g0, t0, cs0, f0, p0, q0, hg0, ht0, hv0, hd0, _, _⟩, _⟩ := h
  obtain rfl := Option.some.inj (gTab.symm.trans hg0)
  obtain rfl := Option.some.inj (gTabType.symm.trans ht0)
  have hc := World.var?_cell gTab hv0
  have key : cs0.toList = tabL := by
    generalize cs0.toList = cs at hd0
    clear hc hv0
    obtain ⟨xs, m, _, hx, hlen, hn, hg⟩ := DataW.trod_array Tryd.underlying63 hd0
    rw [cells_rows] at hlen
    rw [cells_row] at hg
    match cs, hlen, xs, hn with
    | [c0, c1, c2, c3, c4, c5, c6, c7, c8, c9, c10, c11, c12, c13, c14, c15, c16, c17, c18, c19, c20], _, [y0, y1, y2, y3, y4, y5, y6], _ =>
      have hx1 := congrArg Prod.fst hx
      simp [Rows.laid_lookaside_regs_rows] at hx1
      obtain ⟨x0, x1, x2, x3, x4, x5, x6⟩ := hx1
      clear hx
      obtain ⟨z0, w0⟩ := y0
      obtain ⟨z1, w1⟩ := y1
      obtain ⟨z2, w2⟩ := y2
      obtain ⟨z3, w3⟩ := y3
      obtain ⟨z4, w4⟩ := y4
      obtain ⟨z5, w5⟩ := y5
      obtain ⟨z6, w6⟩ := y6
      simp only at x0 x1 x2 x3 x4 x5 x6
      subst x0 x1 x2 x3 x4 x5 x6
      have k0 := trod_row (a := 0) (b := 0) (c := true) (p := w0) (cs := [c0, c1, c2]) rfl (hg 0 (by decide))
      have k1 := trod_row (a := 8) (b := 8191) (c := false) (p := w1) (cs := [c3, c4, c5]) rfl (hg 1 (by decide))
      have k2 := trod_row (a := 16) (b := 8191) (c := false) (p := w2) (cs := [c6, c7, c8]) rfl (hg 2 (by decide))
      have k3 := trod_row (a := 24) (b := 16728063) (c := true) (p := w3) (cs := [c9, c10, c11]) rfl (hg 3 (by decide))
      have k4 := trod_row (a := 32) (b := 0) (c := false) (p := w4) (cs := [c12, c13, c14]) rfl (hg 4 (by decide))
      have k5 := trod_row (a := 40) (b := 18446744073709547527) (c := true) (p := w5) (cs := [c15, c16, c17]) rfl (hg 5 (by decide))
      have k6 := trod_row (a := 48) (b := 18446744073709551615) (c := true) (p := w6) (cs := [c18, c19, c20]) rfl (hg 6 (by decide))
      simp only [List.cons.injEq, and_true] at k0 k1 k2 k3 k4 k5 k6
      obtain ⟨rfl, rfl, rfl⟩ := k0
      obtain ⟨rfl, rfl, rfl⟩ := k1
      obtain ⟨rfl, rfl, rfl⟩ := k2
      obtain ⟨rfl, rfl, rfl⟩ := k3
      obtain ⟨rfl, rfl, rfl⟩ := k4
      obtain ⟨rfl, rfl, rfl⟩ := k5
      obtain ⟨rfl, rfl, rfl⟩ := k6
      rfl
  have hall : ∀ i, i < 21 → W.cell? ⟨0, i, none⟩ = some (tabL.getD i (.bool false)) := fun i hi => by
    rw [hc i, ← Array.getElem?_toList, key]
    rw [List.getD_eq_getElem?_getD, List.getElem?_eq_getElem (show i < tabL.length from hi)]; rfl
  exact ⟨World.block_lt_of_cell? W _ (hall 0 (by decide)), hall⟩
/-! ### Deeds -/
def deedL (d : DeedV) : List Value := [.int .i64 d.kind, .int .i64 d.asi, .int .i64 d.unit, .int .i64 d.n, .int .u64 d.place, .int .u64 d.v, .bool d.store, .bool d.priv]
/-- What the walk is told of deeds that came in. -/
def IsDeeds (w : World) (a : Option Addr) (len cap : Nat) : Prop :=
  (a = none ∧ len = 0) ∨
  ∃ x : Addr, a = some x ∧ len ≤ cap ∧ cap ≤ maxLen ∧ ∀ i, i < len → ∃ d : DeedV, d.wf ∧ ∀ k v, (deedL d)[k]? = some v → w.cell? (x.add (i * 8 + k)) = some v
theorem trod_deed {H : Type} {enc : TypeId × Value → H} {w : World} {base : Nat} {spare : Nat → Bool} {held : Bool} {n : Nat} {cs : List Value} {y : DataW H × List MemPlace} (hl : cs.length = 8) (h : DataW.trod enc Tryd.prog w base spare held n 31 cs = some y) : ∃ d : DeedV, cs = deedL d ∧ d.wf := by
  match cs, hl with
  | [c0, c1, c2, c3, c4, c5, c6, c7], _ =>
    obtain ⟨xs, n, _, hx, _, hlen, hg⟩ := DataW.trod_struct Tryd.underlying31 h
    match xs, hlen with
    | [y0, y1, y2, y3, y4, y5, y6, y7], _ =>
      have g0 : DataW.trod enc Tryd.prog w base spare held n 3 [c0] = some y0 := by simpa [cells_int] using hg 0 _ rfl
      have g1 : DataW.trod enc Tryd.prog w base spare held n 3 [c1] = some y1 := by simpa [cells_int] using hg 1 _ rfl
      have g2 : DataW.trod enc Tryd.prog w base spare held n 3 [c2] = some y2 := by simpa [cells_int] using hg 2 _ rfl
      have g3 : DataW.trod enc Tryd.prog w base spare held n 3 [c3] = some y3 := by simpa [cells_int] using hg 3 _ rfl
      have g4 : DataW.trod enc Tryd.prog w base spare held n 25 [c4] = some y4 := by simpa [cells_int, cells_u64] using hg 4 _ rfl
      have g5 : DataW.trod enc Tryd.prog w base spare held n 25 [c5] = some y5 := by simpa [cells_int, cells_u64, cells_bool] using hg 5 _ rfl
      have g6 : DataW.trod enc Tryd.prog w base spare held n 4 [c6] = some y6 := by simpa [cells_int, cells_u64, cells_bool] using hg 6 _ rfl
      have g7 : DataW.trod enc Tryd.prog w base spare held n 4 [c7] = some y7 := by simpa [cells_int, cells_u64, cells_bool] using hg 7 _ rfl
      obtain ⟨a0, q0, z0, w0⟩ := DataW.trod_int Tryd.underlying3 g0
      obtain ⟨a1, q1, z1, w1⟩ := DataW.trod_int Tryd.underlying3 g1
      obtain ⟨a2, q2, z2, w2⟩ := DataW.trod_int Tryd.underlying3 g2
      obtain ⟨a3, q3, z3, w3⟩ := DataW.trod_int Tryd.underlying3 g3
      obtain ⟨a4, q4, z4, w4⟩ := DataW.trod_int Tryd.underlying25 g4
      obtain ⟨a5, q5, z5, w5⟩ := DataW.trod_int Tryd.underlying25 g5
      obtain ⟨a6, q6, z6⟩ := DataW.trod_bool Tryd.underlying4 g6
      obtain ⟨a7, q7, z7⟩ := DataW.trod_bool Tryd.underlying4 g7
      simp only [List.cons.injEq, and_true] at q0 q1 q2 q3 q4 q5 q6 q7
      subst q0 q1 q2 q3 q4 q5 q6 q7
      exact ⟨⟨a0, a1, a2, a3, a4, a5, a6, a7⟩, rfl, ⟨b_i64 w0, b_i64 w1, b_i64 w2, b_i64 w3, b_u64 w4, b_u64 w5⟩⟩
theorem open_deeds {H : Type} {enc : TypeId × Value → H} {w : World} {base : Nat} {fuel : Nat} {ao : Option Addr} {len cap : Nat} {x : DataW H × List MemPlace} (h : DataW.trod enc Tryd.prog w base (fun _ => true) true fuel 22 [.slice ao len cap] = some x) : IsDeeds w ao len cap := by
  rcases open_slice Tryd.underlying22 h with ⟨hcs, _⟩ | ⟨a, l, c, m, n, D, Pl, hcs, hb, hl, hm, hmm, hx, hi⟩
  · simp at hcs; exact .inl ⟨hcs.1, hcs.2.1⟩
  · simp at hcs
    obtain ⟨rfl, rfl, rfl⟩ := hcs
    refine .inr ⟨a, rfl, hl, hm, fun i him => ?_⟩
    obtain ⟨cs', hc, ht'⟩ := hi i (by simp at hmm; omega)
    rw [cells_deed] at hc
    obtain ⟨_, hcl, hat⟩ := World.cells?_some hc
    obtain ⟨d, rfl, hd⟩ := trod_deed hcl ht'
    refine ⟨d, hd, fun k v hv => ?_⟩
    have hk : k < 8 := (List.getElem?_eq_some_iff.1 hv).1
    have := hat k hk
    rw [Go.Deep.add_add] at this
    rw [this]; exact hv
theorem deeds_at {w : World} {a : Option Addr} {len cap : Nat} (h : IsDeeds w a len cap) (i : Nat) (hi : i < len) :
    ∃ b o, ∃ off, ∃ d : DeedV, a = some ⟨b, off, none⟩ ∧ off + i * 8 = o ∧ len ≤ cap ∧ cap ≤ maxLen ∧ d.wf ∧ b < w.heap.size ∧ (w.cell? ⟨b, o, none⟩ = some (.int .i64 d.kind) ∧ w.cell? ⟨b, o + 1, none⟩ = some (.int .i64 d.asi) ∧ w.cell? ⟨b, o + 2, none⟩ = some (.int .i64 d.unit) ∧ w.cell? ⟨b, o + 3, none⟩ = some (.int .i64 d.n) ∧ w.cell? ⟨b, o + 4, none⟩ = some (.int .u64 d.place) ∧ w.cell? ⟨b, o + 5, none⟩ = some (.int .u64 d.v) ∧ w.cell? ⟨b, o + 6, none⟩ = some (.bool d.store) ∧ w.cell? ⟨b, o + 7, none⟩ = some (.bool d.priv)) := by
  rcases h with ⟨_, h0⟩ | ⟨x, rfl, h1, h2, h3⟩
  · omega
  · obtain ⟨d, hd, hc⟩ := h3 i hi
    obtain ⟨b, off, spot⟩ := x
    have hs : spot = none := by
      obtain ⟨e0, _, hc0⟩ := h3 0 (by omega)
      have z0 := hc0 0 _ rfl
      simpa [Addr.add] using World.cell?_spot z0
    subst hs
    have ad : ∀ j, (⟨b, off, none⟩ : Addr).add j = ⟨b, off + j, none⟩ := fun j => by simp [Addr.add]
    have hc' : ∀ k v, (deedL d)[k]? = some v → w.cell? ⟨b, off + i * 8 + k, none⟩ = some v := fun k v hv => by
      have := hc k v hv; rwa [ad, ← Nat.add_assoc] at this
    exact ⟨b, _, off, d, rfl, rfl, h1, h2, hd, World.block_lt_of_cell? w _ (hc' 0 _ rfl), hc' 0 _ rfl, hc' 1 _ rfl, hc' 2 _ rfl, hc' 3 _ rfl, hc' 4 _ rfl, hc' 5 _ rfl, hc' 6 _ rfl, hc' 7 _ rfl⟩
end Go.Proofs.YtohcmijgakijfaaDoor.Rg
