/-
  A table whose one chain is another one: what must stand. Conditions: none.
-/
import Derived.Test.YtilijnalhkeggaaHOps
namespace Go.Proofs.Ytilijnalhkeggaa.Hs
open Fld
open Go.ChangeShapes Go.WideShapes Go.ChangeAt Go.RowKit Go.Maps
set_option maxHeartbeats 1000000
theorem map_store {W : World} {bm n : Nat} {V : Nat → Value} (h : ∃ D, Owns W bm (Maps.size D) D ∧ MapIs D n V ∧ Maps.size D ≤ 1073741824) {c : Nat} (hc : c < n) (hn : n ≤ 9223372036854775807) {v : Value} (hv : v ≠ nilS) {y : DataW Unit × List MemPlace} (hy : hdR v = some y) :
    ∃ W', (Instr.mapUpdate 64 (.map (some bm)) (.int .i64 (c : Int)) v).run Try.prog W = .ok () W' ∧ (∃ D', Owns W' bm (Maps.size D') D' ∧ MapIs D' n (setV V c v)) ∧ W.grownBy W' (some bm) := by
  obtain ⟨D, ho, hm, hs⟩ := h
  have e := (hdR_inv hy).1
  rw [e] at hy
  obtain ⟨W', hr, ho', hg⟩ := ho.update lawI Try.underlying64 (by unfold maxLen; omega) (keyOf_int_mk Try.underlying3 (wfI (a := (c : Int)) (by omega) (by omega))) hy
  exact ⟨W', hr, ⟨_, owns_size ho', hm.put ho.isMap hc hv⟩, hg⟩
theorem map_drop {W : World} {bm n : Nat} {V : Nat → Value} (h : ∃ D, Owns W bm (Maps.size D) D ∧ MapIs D n V) {c : Nat} (hc : c < n) (hn : n ≤ 9223372036854775807) (ty : TypeId) :
    ∃ W', (Builtin.delete_ #[64, 3] ty #[.map (some bm), .int .i64 (c : Int)]).run Try.prog W = .ok (.tuple #[]) W' ∧ (∃ D', Owns W' bm (Maps.size D') D' ∧ MapIs D' n (setV V c nilS)) ∧ W.grownBy W' (some bm) := by
  obtain ⟨D, ho, hm⟩ := h
  obtain ⟨W', hr, ho', hg⟩ := ho.drop lawI Try.underlying64 (keyOf_int_mk Try.underlying3 (wfI (a := (c : Int)) (by omega) (by omega))) ty
  exact ⟨W', hr, ⟨_, owns_size ho', hm.del hc⟩, hg.grown⟩
section
variable {w w' : World} {sb bm n : Nat} {bl : Int} {L : Nat → List Bk} {V : Nat → Value}
theorem TabAt.build (h : TabAt w sb bm n bl L V) {c : Nat} (hc : c < n) {v' : Value} {l' : List Bk}
    (hrow : w'.heap[sb]? = some (.cells #[.int .i64 bl, .int .i64 (lenL (setL L c l') n : Int), .int .i64 (n : Int), .map (some bm)] 66 (0, 0)))
    (hmap : ∃ D, Owns w' bm (Maps.size D) D ∧ MapIs D n (setV V c v'))
    (hown : w'.ownsRow 0 83 4 v' l'.length (bkL l')) (hnil : l' = [] → v' = nilS)
    (hkeep : ∀ k, own sb bm n V k → k ≠ sb → k ≠ bm → (V c).ownBlock ≠ some k → w'.heap[k]? = w.heap[k]?)
    (hfresh : ∀ g, v'.ownBlock = some g → (V c).ownBlock = some g ∨ w.heap.size ≤ g)
    (hgood : ∀ b ∈ l', b.k.Ok) (hfew : (lenL (setL L c l') n : Int) ≤ bl) : TabAt w' sb bm n bl (setL L c l') (setV V c v') where
  row := hrow
  map := hmap
  rows i hi := by
    by_cases e : i = c
    · subst e; rw [setL_same, setV_same]; exact hown
    · rw [setL_other L l' e, setV_other V v' e]
      refine own_same (h.rows i hi) (fun g hg => hkeep g (.inr (.inr ⟨i, hi, hg⟩)) (h.row_ne hi hg).1 (h.row_ne hi hg).2 (fun e2 => e (h.apart i c g hi hc hg e2)))
  nil i hi he := by
    by_cases e : i = c
    · subst e; rw [setL_same] at he; rw [setV_same]; exact hnil he
    · rw [setL_other L l' e] at he; rw [setV_other V v' e]; exact h.nil i hi he
  apart i j g hi hj h1 h2 := by
    by_cases e : i = c
    · by_cases f : j = c
      · omega
      · subst e
        rw [setV_same] at h1; rw [setV_other V v' f] at h2
        rcases hfresh g h1 with h3 | h3
        · exact h.apart i j g hc hj h3 h2
        · have := h.lt (.inr (.inr ⟨j, hj, h2⟩)); omega
    · by_cases f : j = c
      · subst f
        rw [setV_same] at h2; rw [setV_other V v' e] at h1
        rcases hfresh g h2 with h3 | h3
        · exact h.apart i j g hi hc h1 h3
        · have := h.lt (.inr (.inr ⟨i, hi, h1⟩)); omega
      · rw [setV_other V v' e] at h1; rw [setV_other V v' f] at h2; exact h.apart i j g hi hj h1 h2
  good i hi b hb := by
    by_cases e : i = c
    · subst e; rw [setL_same] at hb; exact hgood b hb
    · rw [setL_other L l' e] at hb; exact h.good i hi b hb
  n0 := h.n0
  n1 := h.n1
  few := hfew
  b1 := h.b1
theorem own_set {c : Nat} {v' : Value} (hc : c < n) (m : Nat) (hfresh : ∀ g, v'.ownBlock = some g → (V c).ownBlock = some g ∨ m ≤ g) (k : Nat) (h : own sb bm n (setV V c v') k) : own sb bm n V k ∨ m ≤ k := by
  rcases h with h | h | ⟨i, hi, h⟩
  · exact .inl (.inl h)
  · exact .inl (.inr (.inl h))
  · by_cases e : i = c
    · subst e; rw [setV_same] at h
      rcases hfresh k h with h | h
      · exact .inl (.inr (.inr ⟨i, hi, h⟩))
      · exact .inr h
    · rw [setV_other V v' e] at h; exact .inl (.inr (.inr ⟨i, hi, h⟩))
/-- What was done to a chain, as a turn of the table. -/
theorem TabAt.turned {O : Nat → Prop} (hO : ∀ k, O k ↔ own sb bm n V k) {c : Nat} (hc : c < n) {v' : Value} {l' : List Bk} (w1 : World) (h1 : TabAt w' sb bm n bl (setL L c l') (setV V c v'))
    (hfresh : ∀ g, v'.ownBlock = some g → (V c).ownBlock = some g ∨ w1.heap.size ≤ g) (hT : Turn w1 w' O) : TabTo w1 w' sb O n bl (setL L c l') :=
  ⟨own sb bm n (setV V c v'), ⟨bm, _, h1, fun _ => Iff.rfl⟩, hT, fun k hk => (own_set hc _ hfresh k hk).imp (hO k).2 id⟩
theorem TabTo.low {O : Nat → Prop} (h : Tab w sb O n bl L) (hb : Below w.heap.size w w') : TabTo w w' sb O n bl L :=
  ⟨O, h.below hb (Nat.le_refl _), Turn.low O hb, fun _ h => .inl h⟩
end
section
variable {w w' : World} {sb bm n : Nat} {bl : Int} {L : Nat → List Bk} {V : Nat → Value}
theorem TabAt.close (h : TabAt w sb bm n bl L V) {c : Nat} (hc : c < n) {v' : Value} {l' : List Bk} {tk : Int} (htk : (lenL (setL L c l') n : Int) = tk)
    (hsb : w'.heap[sb]? = w.heap[sb]?)
    (hmap : ∃ D, Owns w' bm (Maps.size D) D ∧ MapIs D n (setV V c v'))
    (hown : w'.ownsRow 0 83 4 v' l'.length (bkL l')) (hnil : l' = [] → v' = nilS)
    (hkeep : ∀ k, own sb bm n V k → k ≠ sb → k ≠ bm → (V c).ownBlock ≠ some k → w'.heap[k]? = w.heap[k]?)
    (hfresh : ∀ g, v'.ownBlock = some g → (V c).ownBlock = some g ∨ w.heap.size ≤ g)
    (hgood : ∀ b ∈ l', b.k.Ok) (hfew : tk ≤ bl) : TabAt (w'.setCell ⟨sb, 1, none⟩ (.int .i64 tk)) sb bm n bl (setL L c l') (setV V c v') := by
  have hr := hsb.trans h.row
  have hb := h.bm_ne
  have hs := h.lt (.inl rfl)
  have hset : ∀ k, k ≠ sb → (w'.setCell ⟨sb, 1, none⟩ (.int .i64 tk)).heap[k]? = w'.heap[k]? := fun k hk => Below.heap_setCell _ _ _ _ hk
  refine h.build hc ?_ (map_same hmap (hset bm hb)) (own_same hown (fun g hg => hset g ?_)) hnil (fun k h1 h2 h3 h4 => (hset k h2).trans (hkeep k h1 h2 h3 h4)) hfresh hgood (by rw [htk]; exact hfew)
  · rw [setCell_eq_setRow w' sb 1 _ _ _ _ hr, htk]
    have := setRow_heap w' sb _ (#[Value.int .i64 bl, .int .i64 (lenL L n : Int), .int .i64 (n : Int), .map (some bm)].setIfInBounds 1 (.int .i64 tk)) _ _ hr
    simpa using this
  · rintro rfl
    rcases hfresh g hg with h1 | h1
    · exact (h.row_ne hc h1).1 rfl
    · omega
end
/-- A key that is there may be, and is in its own chain. -/
theorem here_ok {n : Nat} {L : Nat → List Bk} (hg : Good n L) {c : Nat} (hc : c < n) {k : Ky} (h : hasB (L c) k = true) : k.Ok := by
  obtain ⟨b, hb, rfl⟩ := has_mem.1 h
  exact hg c hc b hb
theorem getB_iff {n : Nat} (hn : 1 ≤ n) {L : Nat → List Bk} (hg : Good n L) (k : Ky) : getB n L k = hasB (L (chN k n)) k := by
  have hc := chN_lt k hn
  cases h : hasB (L (chN k n)) k
  · unfold getB
    cases hm : kmayB k
    · rfl
    · cases h2 : hasB (L (chainN k n)) k
      · rfl
      · have hk := here_ok hg (chain_lt k hn) h2
        rw [chN_ok hk, h2] at h; cases h
  · have hk := here_ok hg hc h
    rw [chN_ok hk] at h
    unfold getB; rw [hk.may, h]; rfl
end Go.Proofs.Ytilijnalhkeggaa.Hs
