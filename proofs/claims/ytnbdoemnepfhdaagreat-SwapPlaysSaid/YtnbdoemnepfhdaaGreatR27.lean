/-
  Contracts and plain facts: LOpen. Conditions: each says its own.
-/
import Derived.Test.YtnbdoemnepfhdaaGreatR26
import Derived.ShutString
import Derived.Deep.Slices
import Derived.Deep.Fields
import Derived.ChangeSame
import Derived.OpenShut
namespace Go.Proofs.YtnbdoemnepfhdaaGreat.Tl
open Fld
open Go.ChangeShapes Go.WideShapes Go.ChangeAt Go.RowKit Go.Deep
set_option maxHeartbeats 1000000
set_option maxRecDepth 100000
theorem laidOut : laidOutB Tryz.prog = true := by kernel_rfl
theorem trod_ent {H : Type} {enc : TypeId × Value → H} {w : World} {base : Nat} {spare : Nat → Bool} {held : Bool} {n : Nat} {cs : List Value} {y : DataW H × List MemPlace} (hl : cs.length = 11) (h : DataW.trod enc Tryz.prog w base spare held n 30 cs = some y) : ∃ e : Ent, cs = eleven e ∧ e.lits := by
  match cs, hl with
  | [c0, c1, c2, c3, c4, c5, c6, c7, c8, c9, c10], _ =>
    obtain ⟨xs, n, _, hx, _, hlen, hg⟩ := DataW.trod_struct Tryz.underlying30 h
    match xs, hlen with
    | [y0, y1, y2, y3, y4, y5], _ =>
      have g0 : DataW.trod enc Tryz.prog w base spare held n 3 [c0] = some y0 := by simpa [cells_int] using hg 0 _ rfl
      have g1 : DataW.trod enc Tryz.prog w base spare held n 3 [c1] = some y1 := by simpa [cells_int] using hg 1 _ rfl
      have g2 : DataW.trod enc Tryz.prog w base spare held n 26 [c2] = some y2 := by simpa [cells_int, cells_u64] using hg 2 _ rfl
      have g3 : DataW.trod enc Tryz.prog w base spare held n 26 [c3] = some y3 := by simpa [cells_int, cells_u64] using hg 3 _ rfl
      have g4 : DataW.trod enc Tryz.prog w base spare held n 28 [c4, c5, c6, c7, c8, c9] = some y4 := by simpa [cells_int, cells_u64, cells_attr] using hg 4 _ rfl
      have g5 : DataW.trod enc Tryz.prog w base spare held n 4 [c10] = some y5 := by simpa [cells_int, cells_u64, cells_attr, cells_bool] using hg 5 _ rfl
      obtain ⟨a0, q0, z0, w0⟩ := DataW.trod_int Tryz.underlying3 g0
      obtain ⟨a1, q1, z1, w1⟩ := DataW.trod_int Tryz.underlying3 g1
      obtain ⟨a2, q2, z2, w2⟩ := DataW.trod_int Tryz.underlying26 g2
      obtain ⟨a3, q3, z3, w3⟩ := DataW.trod_int Tryz.underlying26 g3
      obtain ⟨a5, q5, z5⟩ := DataW.trod_bool Tryz.underlying4 g5
      obtain ⟨us, m, _, hu, _, hul, hh⟩ := DataW.trod_struct Tryz.underlying28 g4
      match us, hul with
      | [u0, u1, u2, u3, u4, u5], _ =>
        have f0 : DataW.trod enc Tryz.prog w base spare held m 4 [c4] = some u0 := by simpa [cells_bool] using hh 0 _ rfl
        have f1 : DataW.trod enc Tryz.prog w base spare held m 4 [c5] = some u1 := by simpa [cells_bool] using hh 1 _ rfl
        have f2 : DataW.trod enc Tryz.prog w base spare held m 4 [c6] = some u2 := by simpa [cells_bool] using hh 2 _ rfl
        have f3 : DataW.trod enc Tryz.prog w base spare held m 4 [c7] = some u3 := by simpa [cells_bool] using hh 3 _ rfl
        have f4 : DataW.trod enc Tryz.prog w base spare held m 4 [c8] = some u4 := by simpa [cells_bool] using hh 4 _ rfl
        have f5 : DataW.trod enc Tryz.prog w base spare held m 4 [c9] = some u5 := by simpa [cells_bool] using hh 5 _ rfl
        obtain ⟨b0, r0, s0⟩ := DataW.trod_bool Tryz.underlying4 f0
        obtain ⟨b1, r1, s1⟩ := DataW.trod_bool Tryz.underlying4 f1
        obtain ⟨b2, r2, s2⟩ := DataW.trod_bool Tryz.underlying4 f2
        obtain ⟨b3, r3, s3⟩ := DataW.trod_bool Tryz.underlying4 f3
        obtain ⟨b4, r4, s4⟩ := DataW.trod_bool Tryz.underlying4 f4
        obtain ⟨b5, r5, s5⟩ := DataW.trod_bool Tryz.underlying4 f5
        simp only [List.cons.injEq, and_true] at q0 q1 q2 q3 q5 r0 r1 r2 r3 r4 r5
        subst q0 q1 q2 q3 q5 r0 r1 r2 r3 r4 r5
        exact ⟨⟨a0, a1, a2, a3, ⟨b0, b1, b2, b3, b4, b5⟩, a5⟩, rfl, ⟨w0, w1, w2, w3⟩⟩
/-- What the walk is told of entries that came in. -/
def IsEnts (w : World) (a : Option Addr) (len cap : Nat) : Prop :=
  (a = none ∧ len = 0) ∨
  ∃ x : Addr, a = some x ∧ len ≤ cap ∧ cap ≤ maxLen ∧ ∀ i, i < len → ∃ e : Ent, e.lits ∧ ∀ k v, (eleven e)[k]? = some v → w.cell? (x.add (i * 11 + k)) = some v
theorem open_ents {H : Type} {enc : TypeId × Value → H} {w : World} {base : Nat} {fuel : Nat} {ao : Option Addr} {len cap : Nat} {x : DataW H × List MemPlace} (h : DataW.trod enc Tryz.prog w base (fun _ => true) true fuel 35 [.slice ao len cap] = some x) : IsEnts w ao len cap := by
  rcases open_slice Tryz.underlying35 h with ⟨hcs, _⟩ | ⟨a, l, c, m, n, D, Pl, hcs, hb, hl, hm, hmm, hx, hi⟩
  · simp at hcs; exact .inl ⟨hcs.1, hcs.2.1⟩
  · simp at hcs
    obtain ⟨rfl, rfl, rfl⟩ := hcs
    refine .inr ⟨a, rfl, hl, hm, fun i him => ?_⟩
    obtain ⟨cs', hc, ht'⟩ := hi i (by simp at hmm; omega)
    rw [cells_entry] at hc
    obtain ⟨_, hcl, hat⟩ := World.cells?_some hc
    obtain ⟨e, rfl, he⟩ := trod_ent hcl ht'
    refine ⟨e, he, fun k v hv => ?_⟩
    have hk : k < 11 := (List.getElem?_eq_some_iff.1 hv).1
    have := hat k hk
    rw [Go.Deep.add_add] at this
    rw [this]; exact hv
theorem ents_at {w : World} {a : Option Addr} {len cap : Nat} (h : IsEnts w a len cap) (i : Nat) (hi : i < len) :
    ∃ b o, ∃ off, ∃ e : Ent, a = some ⟨b, off, none⟩ ∧ off + i * 11 = o ∧ len ≤ cap ∧ cap ≤ maxLen ∧ e.lits ∧ w.cell? ⟨b, o, none⟩ = some (.int .i64 e.size) ∧ w.cell? ⟨b, o + 1, none⟩ = some (.int .i64 e.ctx) ∧ w.cell? ⟨b, o + 2, none⟩ = some (.int .u64 e.va) ∧ w.cell? ⟨b, o + 3, none⟩ = some (.int .u64 e.pa) ∧ w.cell? ⟨b, o + 4, none⟩ = some (.bool e.att.write) ∧ w.cell? ⟨b, o + 5, none⟩ = some (.bool e.att.priv) ∧ w.cell? ⟨b, o + 6, none⟩ = some (.bool e.att.exec) ∧ w.cell? ⟨b, o + 7, none⟩ = some (.bool e.att.lock) ∧ w.cell? ⟨b, o + 8, none⟩ = some (.bool e.att.global) ∧ w.cell? ⟨b, o + 9, none⟩ = some (.bool e.att.quiet) ∧ w.cell? ⟨b, o + 10, none⟩ = some (.bool e.valid) := by
  rcases h with ⟨_, h0⟩ | ⟨x, rfl, h1, h2, h3⟩
  · omega
  · obtain ⟨e, he, hc⟩ := h3 i hi
    obtain ⟨b, off, spot⟩ := x
    have hs : spot = none := by
      obtain ⟨e0, _, hc0⟩ := h3 0 (by omega)
      have z0 := hc0 0 _ rfl
      simpa [Addr.add] using World.cell?_spot z0
    subst hs
    have ad : ∀ j, (⟨b, off, none⟩ : Addr).add j = ⟨b, off + j, none⟩ := fun j => by simp [Addr.add]
    have hc' : ∀ k v, (eleven e)[k]? = some v → w.cell? ⟨b, off + i * 11 + k, none⟩ = some v := fun k v hv => by
      have := hc k v hv; rwa [ad, ← Nat.add_assoc] at this
    exact ⟨b, _, off, e, rfl, rfl, h1, h2, he, hc' 0 _ rfl, hc' 1 _ rfl, hc' 2 _ rfl, hc' 3 _ rfl, hc' 4 _ rfl, hc' 5 _ rfl, hc' 6 _ rfl, hc' 7 _ rfl, hc' 8 _ rfl, hc' 9 _ rfl, hc' 10 _ rfl⟩
end Go.Proofs.YtnbdoemnepfhdaaGreat.Tl

