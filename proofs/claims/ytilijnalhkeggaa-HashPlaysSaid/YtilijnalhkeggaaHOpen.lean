/-
  Keys, slices of keys and slices of deeds of the laws of layer 11 that come in as arguments: what the walk is told of them. Conditions: none.
-/
import Derived.Test.YtilijnalhkeggaaHCar
import Derived.ChangeSame
import Derived.Lib.SmallJoins
import Derived.ShutString
import Derived.Deep.Slices
import Derived.Deep.Fields
import Derived.OpenShut
namespace Go.Proofs.Ytilijnalhkeggaa.Hs
open Fld
open Go.ChangeShapes Go.WideShapes Go.ChangeAt Go.RowKit Go.Deep
set_option maxHeartbeats 1000000
set_option maxRecDepth 100000
theorem laidOut : laidOutB Try.prog = true := by kernel_rfl
def Ky.lits (k : Ky) : Prop := (Lit.int .i64 k.sp).wf = true ∧ (Lit.int .u64 k.va).wf = true ∧ (Lit.int .i64 k.sz).wf = true
def Ky.datum {H : Type} (k : Ky) : DataW H := .agg [.lit (.int .i64 k.sp), .lit (.int .u64 k.va), .lit (.int .i64 k.sz)]
theorem Ky.lits_wf {k : Ky} (h : k.lits) : k.wf := by
  obtain ⟨h1, h2, h3⟩ := h
  exact ⟨(bounds_i64 h1).1, (bounds_i64 h1).2, (bounds_u64 h2).1, (bounds_u64 h2).2, (bounds_i64 h3).1, (bounds_i64 h3).2⟩
structure DeedV where
  kind : Int
  n : Int
  k : Ky
  raw : Bool
structure DeedV.wf (d : DeedV) : Prop where
  k0 : -9223372036854775808 ≤ d.kind
  k1 : d.kind ≤ 9223372036854775807
  n0 : -9223372036854775808 ≤ d.n
  n1 : d.n ≤ 9223372036854775807
  key : d.k.wf
section
variable {H : Type} {enc : TypeId × Value → H} {w : World} {base : Nat} {spare : Nat → Bool} {held : Bool}
theorem kcells_key : Try.prog.cellsOf 33 = 3 := by kernel_rfl
theorem kcells_int : Try.prog.cellsOf 3 = 1 := by kernel_rfl
theorem kcells_u64 : Try.prog.cellsOf 31 = 1 := by kernel_rfl
theorem kcells_bool : Try.prog.cellsOf 4 = 1 := by kernel_rfl
theorem shut_key {k : Ky} (h : k.lits) : DataW.Trod enc Try.prog w base spare held 33 (.agg #[.int .i64 k.sp, .int .u64 k.va, .int .i64 k.sz]) k.datum [] := by
  obtain ⟨h1, h2, h3⟩ := h
  refine ⟨3, ?_⟩
  have := trod_struct_mk (enc := enc) (w := w) (base := base) (spare := spare) (held := held) (n := 2) (cs := [.int .i64 k.sp, .int .u64 k.va, .int .i64 k.sz])
    (xs := [(.lit (.int .i64 k.sp), []), (.lit (.int .u64 k.va), []), (.lit (.int .i64 k.sz), [])]) Try.underlying33 (by rw [kcells_key]; rfl)
    (by simp [kcells_int, kcells_u64, trod_int_mk 1 Try.underlying3 h1, trod_int_mk 1 Try.underlying31 h2, trod_int_mk 1 Try.underlying3 h3])
  simpa [Value.cells, Ky.datum] using this
theorem trod_key {n : Nat} {cs : List Value} {y : DataW H × List MemPlace} (hl : cs.length = 3) (h : DataW.trod enc Try.prog w base spare held n 33 cs = some y) : ∃ k : Ky, cs = kyC k ∧ k.lits ∧ y = (k.datum, []) := by
  match cs, hl with
  | [c0, c1, c2], _ =>
    obtain ⟨xs, n, _, hx, _, hlen, hg⟩ := DataW.trod_struct Try.underlying33 h
    match xs, hlen with
    | [y0, y1, y2], _ =>
      have g0 : DataW.trod enc Try.prog w base spare held n 3 [c0] = some y0 := by simpa [kcells_int] using hg 0 _ rfl
      have g1 : DataW.trod enc Try.prog w base spare held n 31 [c1] = some y1 := by simpa [kcells_int, kcells_u64] using hg 1 _ rfl
      have g2 : DataW.trod enc Try.prog w base spare held n 3 [c2] = some y2 := by simpa [kcells_int, kcells_u64] using hg 2 _ rfl
      obtain ⟨a0, q0, z0, w0⟩ := DataW.trod_int Try.underlying3 g0
      obtain ⟨a1, q1, z1, w1⟩ := DataW.trod_int Try.underlying31 g1
      obtain ⟨a2, q2, z2, w2⟩ := DataW.trod_int Try.underlying3 g2
      simp only [List.cons.injEq, and_true] at q0 q1 q2
      subst q0 q1 q2 z0 z1 z2
      refine ⟨⟨a0, a1, a2⟩, rfl, ⟨w0, w1, w2⟩, ?_⟩
      rw [hx]; rfl
theorem open_key {r : Reach} {b0 : Nat} {v : Value} {d : DataW H} {p : List MemPlace} (hv : Value.okWide Try.prog w r b0 33 v) (h : DataW.Trod enc Try.prog w base spare held 33 v d p) :
    ∃ k : Ky, v = .agg #[.int .i64 k.sp, .int .u64 k.va, .int .i64 k.sz] ∧ d = k.datum ∧ p = [] ∧ k.lits := by
  obtain ⟨cs, rfl, hsz⟩ := okWide_struct Try.underlying33 hv
  obtain ⟨l⟩ := cs
  obtain ⟨fuel, hf⟩ := h
  match l, hsz.trans kcells_key with
  | [c0, c1, c2], _ =>
    obtain ⟨k, hc, hk, he⟩ := trod_key (cs := [c0, c1, c2]) rfl hf
    injection he with h1 h2
    exact ⟨k, by rw [hc]; rfl, h1, h2, hk⟩
/-- What the walk is told of keys that came in. -/
def IsKeys (w : World) (a : Option Addr) (len cap : Nat) : Prop :=
  (a = none ∧ len = 0) ∨
  ∃ x : Addr, a = some x ∧ len ≤ cap ∧ cap ≤ maxLen ∧ ∀ i, i < len → ∃ k : Ky, k.lits ∧ ∀ j v, (kyC k)[j]? = some v → w.cell? (x.add (i * 3 + j)) = some v
theorem open_keys {fuel : Nat} {ao : Option Addr} {len cap : Nat} {x : DataW H × List MemPlace} (h : DataW.trod enc Try.prog w base (fun _ => true) true fuel 47 [.slice ao len cap] = some x) : IsKeys w ao len cap := by
  rcases open_slice Try.underlying47 h with ⟨hcs, _⟩ | ⟨a, l, c, m, n, D, Pl, hcs, hb, hl, hm, hmm, hx, hi⟩
  · simp at hcs; exact .inl ⟨hcs.1, hcs.2.1⟩
  · simp at hcs
    obtain ⟨rfl, rfl, rfl⟩ := hcs
    refine .inr ⟨a, rfl, hl, hm, fun i him => ?_⟩
    obtain ⟨cs', hc, ht'⟩ := hi i (by simp at hmm; omega)
    rw [kcells_key] at hc
    obtain ⟨_, hcl, hat⟩ := World.cells?_some hc
    obtain ⟨e, rfl, he, _⟩ := trod_key hcl ht'
    refine ⟨e, he, fun k v hv => ?_⟩
    have hk : k < 3 := (List.getElem?_eq_some_iff.1 hv).1
    have := hat k hk
    rw [Go.Deep.add_add] at this
    rw [this]; exact hv
theorem keys_at {a : Option Addr} {len cap : Nat} (h : IsKeys w a len cap) (i : Nat) (hi : i < len) :
    ∃ b o, ∃ off, ∃ k : Ky, a = some ⟨b, off, none⟩ ∧ off + i * 3 = o ∧ len ≤ cap ∧ cap ≤ maxLen ∧ k.lits ∧ w.cell? ⟨b, o, none⟩ = some (.int .i64 k.sp) ∧ w.cell? ⟨b, o + 1, none⟩ = some (.int .u64 k.va) ∧ w.cell? ⟨b, o + 2, none⟩ = some (.int .i64 k.sz) := by
  rcases h with ⟨_, h0⟩ | ⟨x, rfl, h1, h2, h3⟩
  · omega
  · obtain ⟨e, he, hc⟩ := h3 i hi
    obtain ⟨b, off, spot⟩ := x
    have hs : spot = none := by
      obtain ⟨e0, _, hc0⟩ := h3 0 (by omega)
      have z0 := hc0 0 _ rfl
      simpa [Addr.add] using World.cell?_spot z0
    subst hs
    have ad : ∀ j, (⟨b, off, none⟩ : Addr).add j = ⟨b, off + j, none⟩ := fun j => by simp [Addr.add]
    have hc' : ∀ k v, (kyC e)[k]? = some v → w.cell? ⟨b, off + i * 3 + k, none⟩ = some v := fun k v hv => by
      have := hc k v hv; rwa [ad, ← Nat.add_assoc] at this
    exact ⟨b, _, off, e, rfl, rfl, h1, h2, he, hc' 0 _ rfl, hc' 1 _ rfl, hc' 2 _ rfl⟩
def deedL (d : DeedV) : List Value := [.int .i64 d.kind, .int .i64 d.n] ++ (kyC d.k ++ [.bool d.raw])
/-- What the walk is told of deeds that came in. -/
def IsDeeds (w : World) (a : Option Addr) (len cap : Nat) : Prop :=
  (a = none ∧ len = 0) ∨
  ∃ x : Addr, a = some x ∧ len ≤ cap ∧ cap ≤ maxLen ∧ ∀ i, i < len → ∃ d : DeedV, d.wf ∧ ∀ k v, (deedL d)[k]? = some v → w.cell? (x.add (i * 6 + k)) = some v
theorem cells_deed : Try.prog.cellsOf 35 = 6 := by kernel_rfl
theorem trod_deed {n : Nat} {cs : List Value} {y : DataW H × List MemPlace} (hl : cs.length = 6) (h : DataW.trod enc Try.prog w base spare held n 35 cs = some y) : ∃ d : DeedV, cs = deedL d ∧ d.wf := by
  match cs, hl with
  | [c0, c1, d0, d1, d2, c5], _ =>
    obtain ⟨xs, n, _, hx, _, hlen, hg⟩ := DataW.trod_struct Try.underlying35 h
    match xs, hlen with
    | [y0, y1, y4, y5], _ =>
      have g0 : DataW.trod enc Try.prog w base spare held n 3 [c0] = some y0 := by simpa [kcells_int] using hg 0 _ rfl
      have g1 : DataW.trod enc Try.prog w base spare held n 3 [c1] = some y1 := by simpa [kcells_int] using hg 1 _ rfl
      have g4 : DataW.trod enc Try.prog w base spare held n 33 [d0, d1, d2] = some y4 := by simpa [kcells_int, kcells_key] using hg 2 _ rfl
      have g5 : DataW.trod enc Try.prog w base spare held n 4 [c5] = some y5 := by simpa [kcells_int, kcells_key, kcells_bool] using hg 3 _ rfl
      obtain ⟨a0, q0, z0, w0⟩ := DataW.trod_int Try.underlying3 g0
      obtain ⟨a1, q1, z1, w1⟩ := DataW.trod_int Try.underlying3 g1
      obtain ⟨a5, q5, z5⟩ := DataW.trod_bool Try.underlying4 g5
      obtain ⟨e, he, hw, _⟩ := trod_key rfl g4
      simp only [List.cons.injEq, and_true] at q0 q1 q5
      subst q0 q1 q5
      refine ⟨⟨a0, a1, e, a5⟩, ?_, ⟨(bounds_i64 w0).1, (bounds_i64 w0).2, (bounds_i64 w1).1, (bounds_i64 w1).2, Ky.lits_wf hw⟩⟩
      unfold deedL
      rw [← he]; rfl
theorem open_deeds {fuel : Nat} {ao : Option Addr} {len cap : Nat} {x : DataW H × List MemPlace} (h : DataW.trod enc Try.prog w base (fun _ => true) true fuel 22 [.slice ao len cap] = some x) : IsDeeds w ao len cap := by
  rcases open_slice Try.underlying22 h with ⟨hcs, _⟩ | ⟨a, l, c, m, n, D, Pl, hcs, hb, hl, hm, hmm, hx, hi⟩
  · simp at hcs; exact .inl ⟨hcs.1, hcs.2.1⟩
  · simp at hcs
    obtain ⟨rfl, rfl, rfl⟩ := hcs
    refine .inr ⟨a, rfl, hl, hm, fun i him => ?_⟩
    obtain ⟨cs', hc, ht'⟩ := hi i (by simp at hmm; omega)
    rw [cells_deed] at hc
    obtain ⟨_, hcl, hat⟩ := World.cells?_some hc
    obtain ⟨e, rfl, he⟩ := trod_deed hcl ht'
    refine ⟨e, he, fun k v hv => ?_⟩
    have hk : k < 6 := (List.getElem?_eq_some_iff.1 hv).1
    have := hat k hk
    rw [Go.Deep.add_add] at this
    rw [this]; exact hv
theorem deeds_at {a : Option Addr} {len cap : Nat} (h : IsDeeds w a len cap) (i : Nat) (hi : i < len) :
    ∃ b o, ∃ off, ∃ d : DeedV, a = some ⟨b, off, none⟩ ∧ off + i * 6 = o ∧ len ≤ cap ∧ cap ≤ maxLen ∧ d.wf ∧ w.cell? ⟨b, o, none⟩ = some (.int .i64 d.kind) ∧ w.cell? ⟨b, o + 1, none⟩ = some (.int .i64 d.n) ∧ w.cell? ⟨b, o + 2, none⟩ = some (.int .i64 d.k.sp) ∧ w.cell? ⟨b, o + 3, none⟩ = some (.int .u64 d.k.va) ∧ w.cell? ⟨b, o + 4, none⟩ = some (.int .i64 d.k.sz) ∧ w.cell? ⟨b, o + 5, none⟩ = some (.bool d.raw) := by
  rcases h with ⟨_, h0⟩ | ⟨x, rfl, h1, h2, h3⟩
  · omega
  · obtain ⟨d, hd, hc⟩ := h3 i hi
    obtain ⟨b, off, spot⟩ := x
    have hs : spot = none := by
      obtain ⟨e0, _, hc0⟩ := h3 0 (by omega)
      have z0 := hc0 0 _ rfl
      simpa [Addr.add] using World.cell?_spot z0
    subst hs
    have ad : ∀ j, (⟨b, off, none⟩ : Addr).add j = ⟨b, off + j, none⟩ := fun j => by simp [Addr.add]
    have hc' : ∀ k v, (deedL d)[k]? = some v → w.cell? ⟨b, off + i * 6 + k, none⟩ = some v := fun k v hv => by
      have := hc k v hv; rwa [ad, ← Nat.add_assoc] at this
    exact ⟨b, _, off, d, rfl, rfl, h1, h2, hd, hc' 0 _ rfl, hc' 1 _ rfl, hc' 2 _ rfl, hc' 3 _ rfl, hc' 4 _ rfl, hc' 5 _ rfl⟩
end
end Go.Proofs.Ytilijnalhkeggaa.Hs
