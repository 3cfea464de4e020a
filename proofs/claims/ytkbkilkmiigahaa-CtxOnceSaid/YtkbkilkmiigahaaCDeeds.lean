/-
  Slices of deeds of the laws of layer 14 that come in as arguments: each leads to a slice of integers. Conditions: none.
-/
import Derived.Test.YtkbkilkmiigahaaCDo3
import Derived.Deep.Slices
import Derived.Deep.Fields
namespace Go.Proofs.Ytkbkilkmiigahaa.Cx
open Fld
open Go.ChangeShapes Go.WideShapes Go.ChangeAt Go.RowKit Go.Deep
set_option maxHeartbeats 1000000
set_option maxRecDepth 100000
theorem laidOut : laidOutB Try.prog = true := by kernel_rfl
def deedL (d : DeedW) (av : Value) : List Value := [.int .i64 d.k, .int .i64 d.n, .int .i64 d.s, av]
/-- What the walk is told of deeds that came in. -/
def IsDeeds (w : World) (a : Option Addr) (len cap : Nat) : Prop :=
  (a = none ∧ len = 0) ∨
  ∃ x : Addr, a = some x ∧ len ≤ cap ∧ cap ≤ maxLen ∧ ∀ i, i < len → ∃ (d : DeedW) (ao : Option Addr) (cp : Nat) (A : List Int), d.wf ∧ IsInts w ao cp A ∧ ∀ k v, (deedL d (.slice ao A.length cp))[k]? = some v → w.cell? (x.add (i * 4 + k)) = some v
theorem cells_int : Try.prog.cellsOf 3 = 1 := by kernel_rfl
theorem cells_ints : Try.prog.cellsOf 25 = 1 := by kernel_rfl
theorem cells_deed : Try.prog.cellsOf 33 = 4 := by kernel_rfl
theorem trod_ints {H : Type} {enc : TypeId × Value → H} {w : World} {base : Nat} {n : Nat} {c : Value} {y : DataW H × List MemPlace} (h : DataW.trod enc Try.prog w base (fun _ => true) true n 25 [c] = some y) : ∃ (ao : Option Addr) (cp : Nat) (A : List Int), c = .slice ao A.length cp ∧ IsInts w ao cp A := by
  rcases open_slice1 Try.underlying25 cells_int h with ⟨hcs, _⟩ | ⟨a, len, cap, m, n, V, D, Pl, hcs, hb, hl, hm, hmm, hx, hi⟩
  · simp at hcs
    exact ⟨none, 0, [], hcs, nilInts w⟩
  · simp at hcs
    have hv : ∀ i, i < len → ∃ x : Int, V i = .int .i64 x ∧ (Lit.int .i64 x).wf = true := fun i hil => by
      obtain ⟨_, ht⟩ := hi i (by simp at hmm; omega)
      obtain ⟨x, q, _, wf⟩ := DataW.trod_int Try.underlying3 ht
      simp only [List.cons.injEq, and_true] at q
      exact ⟨x, q, wf⟩
    obtain ⟨f, hf⟩ := choose_lt hv
    have hlen : ((List.range len).map f).length = len := by simp
    refine ⟨some a, cap, (List.range len).map f, by rw [hlen]; exact hcs, ⟨by rw [hlen]; exact hl, hm, fun j hj => ?_, fun x hx => ?_⟩⟩
    · have hj : j < len := by simpa using hj
      have hc := (hi j (by simp at hmm; omega)).1
      rw [(hf j hj).1] at hc
      obtain ⟨b, o, spot⟩ := a
      have hs : spot = none := by
        have h0 := (hi 0 (by simp at hmm; omega)).1
        simpa [Addr.add] using World.cell?_spot h0
      subst hs
      have ad : (⟨b, o, none⟩ : Addr).add j = ⟨b, o + j, none⟩ := by unfold Addr.add; split <;> simp_all
      rw [ad] at hc
      exact ⟨b, o, rfl, by rw [hc]; simp⟩
    · obtain ⟨i, hi2, rfl⟩ := List.mem_map.1 hx
      exact bounds_i64 (hf i (List.mem_range.1 hi2)).2
theorem trod_deed {H : Type} {enc : TypeId × Value → H} {w : World} {base : Nat} {n : Nat} {cs : List Value} {y : DataW H × List MemPlace} (hl : cs.length = 4) (h : DataW.trod enc Try.prog w base (fun _ => true) true n 33 cs = some y) : ∃ (d : DeedW) (ao : Option Addr) (cp : Nat) (A : List Int), cs = deedL d (.slice ao A.length cp) ∧ d.wf ∧ IsInts w ao cp A := by
  match cs, hl with
  | [c0, c1, c2, c3], _ =>
    obtain ⟨xs, n, _, hx, _, hlen, hg⟩ := DataW.trod_struct Try.underlying33 h
    match xs, hlen with
    | [y0, y1, y2, y3], _ =>
      have g0 : DataW.trod enc Try.prog w base (fun _ => true) true n 3 [c0] = some y0 := by simpa [cells_int] using hg 0 _ rfl
      have g1 : DataW.trod enc Try.prog w base (fun _ => true) true n 3 [c1] = some y1 := by simpa [cells_int] using hg 1 _ rfl
      have g2 : DataW.trod enc Try.prog w base (fun _ => true) true n 3 [c2] = some y2 := by simpa [cells_int] using hg 2 _ rfl
      have g3 : DataW.trod enc Try.prog w base (fun _ => true) true n 25 [c3] = some y3 := by simpa [cells_int, cells_ints] using hg 3 _ rfl
      obtain ⟨a0, q0, z0, w0⟩ := DataW.trod_int Try.underlying3 g0
      obtain ⟨a1, q1, z1, w1⟩ := DataW.trod_int Try.underlying3 g1
      obtain ⟨a2, q2, z2, w2⟩ := DataW.trod_int Try.underlying3 g2
      obtain ⟨ao, cp, A, rfl, hA⟩ := trod_ints g3
      simp only [List.cons.injEq, and_true] at q0 q1 q2
      subst q0 q1 q2
      exact ⟨⟨a0, a1, a2⟩, ao, cp, A, rfl, ⟨(bounds_i64 w0).1, (bounds_i64 w0).2, (bounds_i64 w1).1, (bounds_i64 w1).2, (bounds_i64 w2).1, (bounds_i64 w2).2⟩, hA⟩
theorem open_deeds {H : Type} {enc : TypeId × Value → H} {w : World} {base : Nat} {fuel : Nat} {ao : Option Addr} {len cap : Nat} {x : DataW H × List MemPlace} (h : DataW.trod enc Try.prog w base (fun _ => true) true fuel 22 [.slice ao len cap] = some x) : IsDeeds w ao len cap := by
  rcases open_slice Try.underlying22 h with ⟨hcs, _⟩ | ⟨a, l, c, m, n, D, Pl, hcs, hb, hl, hm, hmm, hx, hi⟩
  · simp at hcs; exact .inl ⟨hcs.1, hcs.2.1⟩
  · simp at hcs
    obtain ⟨rfl, rfl, rfl⟩ := hcs
    refine .inr ⟨a, rfl, hl, hm, fun i him => ?_⟩
    obtain ⟨cs', hc, ht'⟩ := hi i (by simp at hmm; omega)
    rw [cells_deed] at hc
    obtain ⟨_, hcl, hat⟩ := World.cells?_some hc
    obtain ⟨d, ao, cp, A, rfl, hd, hA⟩ := trod_deed hcl ht'
    refine ⟨d, ao, cp, A, hd, hA, fun k v hv => ?_⟩
    have hk : k < 4 := (List.getElem?_eq_some_iff.1 hv).1
    have := hat k hk
    rw [Go.Deep.add_add] at this
    rw [this]; exact hv
theorem deeds_at {w : World} {a : Option Addr} {len cap : Nat} (h : IsDeeds w a len cap) (i : Nat) (hi : i < len) :
    ∃ b o, ∃ off, ∃ (d : DeedW) (ao : Option Addr) (cp : Nat) (A : List Int), a = some ⟨b, off, none⟩ ∧ off + i * 4 = o ∧ len ≤ cap ∧ cap ≤ maxLen ∧ d.wf ∧ IsInts w ao cp A ∧ w.cell? ⟨b, o, none⟩ = some (.int .i64 d.k) ∧ w.cell? ⟨b, o + 1, none⟩ = some (.int .i64 d.n) ∧ w.cell? ⟨b, o + 2, none⟩ = some (.int .i64 d.s) ∧ w.cell? ⟨b, o + 3, none⟩ = some (.slice ao A.length cp) := by
  rcases h with ⟨_, h0⟩ | ⟨x, rfl, h1, h2, h3⟩
  · omega
  · obtain ⟨d, ao, cp, A, hd, hA, hc⟩ := h3 i hi
    obtain ⟨b, off, spot⟩ := x
    have hs : spot = none := by
      obtain ⟨e0, _, _, _, _, _, hc0⟩ := h3 0 (by omega)
      have z0 := hc0 0 _ rfl
      simpa [Addr.add] using World.cell?_spot z0
    subst hs
    have ad : ∀ j, (⟨b, off, none⟩ : Addr).add j = ⟨b, off + j, none⟩ := fun j => by simp [Addr.add]
    have hc' : ∀ k v, (deedL d (.slice ao A.length cp))[k]? = some v → w.cell? ⟨b, off + i * 4 + k, none⟩ = some v := fun k v hv => by
      have := hc k v hv; rwa [ad, ← Nat.add_assoc] at this
    exact ⟨b, _, off, d, ao, cp, A, rfl, rfl, h1, h2, hd, hA, hc' 0 _ rfl, hc' 1 _ rfl, hc' 2 _ rfl, hc' 3 _ rfl⟩
end Go.Proofs.Ytkbkilkmiigahaa.Cx
