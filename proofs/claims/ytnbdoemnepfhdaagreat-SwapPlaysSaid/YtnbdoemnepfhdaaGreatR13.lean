/-
  Contracts and plain facts: TLaw, NMath, TStore. Conditions: each says its own.
-/
import Derived.Test.YtnbdoemnepfhdaaGreatR10
import Derived.Test.YtnbdoemnepfhdaaGreatR11
import Derived.Test.YtnbdoemnepfhdaaGreatR12
import Derived.Test.YtnbdoemnepfhdaaGreatR5
import Derived.Test.YtnbdoemnepfhdaaGreatR18
namespace Go.Proofs.YtnbdoemnepfhdaaGreat.Fld
open Go.ChangeShapes Go.WideShapes Go.ChangeAt Go.RowKit
set_option maxHeartbeats 1000000
/-- What is known of an entry that may be. -/
structure Ent.Ok (g : Ent) : Prop where
  may : g.mayB = true
  fit : g.Fit
  size : sizeB g.size = true
  valid : g.valid = true
  v0 : 0 ≤ g.va
  v1 : g.va ≤ 18446744073709551615
  hole : holeB g.va = false
  vs : g.va % bytesI g.size = 0
  ps : g.pa % bytesI g.size = 0
  p1 : g.pa ≤ 18446744073709551615
  gc : g.att.global = true → g.ctx = 0
theorem Ent.ok_of {g : Ent} (h : g.mayB = true) (p0 : 0 ≤ g.pa) (v0 : 0 ≤ g.va) (v1 : g.va ≤ 18446744073709551615) : g.Ok := by
  have hf := Ent.fit h p0
  have h' := h
  unfold Ent.mayB at h'
  simp only [Bool.and_eq_true, decide_eq_true_eq, Bool.not_eq_true', Bool.and_eq_false_iff] at h'
  obtain ⟨⟨⟨⟨⟨⟨⟨hv, h1⟩, _⟩, h3⟩, h4⟩, h5⟩, h6⟩, _⟩ := h'
  refine ⟨h, hf, h1, hv, v0, v1, h3, h5, h6, ?_, fun hg => ?_⟩
  · have := hf.p1; omega
  · rcases h4 with h4 | h4
    · rw [hg] at h4; cases h4
    · simpa using h4
theorem Ent.good_ok (e : Ent) : e.good.Ok := Ent.ok_of (Ent.good_may e) (Ent.good_bd e).2.1 (Ent.good_bd e).1.1 (Ent.good_bd e).1.2
end Go.Proofs.YtnbdoemnepfhdaaGreat.Fld

namespace Go.Proofs.YtnbdoemnepfhdaaGreat.Ts
open Fld
open Pt (idxI idx_bd slotI lastI)
open Go.ChangeShapes Go.WideShapes Go.ChangeAt Go.RowKit
/-- Two words at a place. -/
structure Pl where
  t : Int
  d : Int
def Pl.none : Pl := ⟨9223372036854775807, 0⟩
structure Pl.U (x : Pl) : Prop where
  t0 : 0 ≤ x.t
  t1 : x.t ≤ 18446744073709551615
  d0 : 0 ≤ x.d
  d1 : x.d ≤ 18446744073709551615
theorem Pl.none_U : Pl.none.U := ⟨by decide, by decide, by decide, by decide⟩
def setP (T : Nat → Pl) (i : Nat) (x : Pl) : Nat → Pl := fun j => if j = i then x else T j
theorem setP_at (T : Nat → Pl) (i : Nat) (x : Pl) : setP T i x i = x := if_pos rfl
theorem setP_ne {T : Nat → Pl} {i j : Nat} {x : Pl} (h : j ≠ i) : setP T i x j = T j := if_neg h
theorem setP_twice (T : Nat → Pl) (i : Nat) (x y : Pl) : setP (setP T i x) i y = setP T i y := by
  funext j; unfold setP; split <;> rfl
/-! ### How many places -/
def leastI (s : Int) : Int := if s = 0 then 512 else if s = 1 then 64 else if s = 2 then 8 else if s = 3 then 1 else 0
def twoP (g : Int) : Int := if g = 0 then 1 else if g = 1 then 2 else if g = 2 then 4 else if g = 3 then 8 else 0
def placesI (s g : Int) : Int := leastI s * twoP g
theorem least_bytes {s : Int} (h : sizeB s = true) : leastI s * bytesI s = 4194304 := by
  rcases sizeB_true h with rfl | rfl | rfl | rfl <;> rfl
theorem least_pos {s : Int} (h : sizeB s = true) : 1 ≤ leastI s ∧ leastI s ≤ 512 := by
  rcases sizeB_true h with rfl | rfl | rfl | rfl <;> simp [leastI]
theorem twoP_or {g : Int} (h0 : 0 ≤ g) (h1 : g ≤ 3) : (g = 0 ∧ twoP g = 1) ∨ (g = 1 ∧ twoP g = 2) ∨ (g = 2 ∧ twoP g = 4) ∨ (g = 3 ∧ twoP g = 8) := by
  have : g = 0 ∨ g = 1 ∨ g = 2 ∨ g = 3 := by omega
  rcases this with rfl | rfl | rfl | rfl <;> simp [twoP]
theorem places_no {s g : Int} (h : ¬ (sizeB s = true ∧ 0 ≤ g ∧ g ≤ 3)) : placesI s g = 0 := by
  unfold placesI
  by_cases hs : sizeB s = true
  · have h' : ¬ (0 ≤ g ∧ g ≤ 3) := fun k => h ⟨hs, k⟩
    have : twoP g = 0 := by
      unfold twoP
      rw [if_neg (by omega), if_neg (by omega), if_neg (by omega), if_neg (by omega)]
    rw [this, Int.mul_zero]
  · have h2 := sizeB_false (by simpa using hs)
    have : leastI s = 0 := by
      unfold leastI
      rw [if_neg (by omega), if_neg (by omega), if_neg (by omega), if_neg (by omega)]
    rw [this, Int.zero_mul]
theorem places_bd {s g : Int} (hs : sizeB s = true) (g0 : 0 ≤ g) (g1 : g ≤ 3) : 1 ≤ placesI s g ∧ placesI s g ≤ 4096 := by
  unfold placesI
  have h1 := least_pos hs
  rcases twoP_or g0 g1 with ⟨_, e⟩ | ⟨_, e⟩ | ⟨_, e⟩ | ⟨_, e⟩ <;> rw [e] <;> omega
/-- What does not change of a TSB: the memory's size, the beginning, how many places, the size, the grade; the bytes of the memory that are not the places'. -/
structure Par where
  S : Nat
  b : Nat
  n : Nat
  s : Int
  g : Int
  o : Nat → Nat
structure Par.Ok (p : Par) : Prop where
  hs : sizeB p.s = true
  g0 : 0 ≤ p.g
  g1 : p.g ≤ 3
  hn : (p.n : Int) = placesI p.s p.g
  al : p.b % 16 = 0
  is : p.b + 16 * p.n ≤ p.S
  le : p.S ≤ 2199023255552
theorem Par.Ok.n_bd {p : Par} (h : p.Ok) : 1 ≤ p.n ∧ p.n ≤ 4096 := by
  have h1 := places_bd h.hs h.g0 h.g1
  have h2 := h.hn
  omega
def Par.pl (p : Par) (va : Int) : Nat := (idxI va p.s p.n).toNat
theorem Par.Ok.idx {p : Par} (h : p.Ok) (va : Int) : idxI va p.s p.n = (p.pl va : Int) ∧ p.pl va < p.n := by
  have h1 := h.n_bd
  have h2 := idx_bd va p.s p.n (by omega)
  unfold Par.pl
  omega
theorem Par.Ok.least {p : Par} (h : p.Ok) (x : Int) : x % (p.n : Int) % leastI p.s = x % leastI p.s := by
  rw [h.hn]
  exact Int.emod_emod_of_dvd _ ⟨twoP p.g, rfl⟩
/-! ### The address of a place -/
def hiI (t : Int) : Int := if 2097152 ≤ t % 4194304 then 18446726481523507200 else 0
def adrI (s i t : Int) : Int := t % 4194304 * 4194304 + hiI t + i % leastI s * bytesI s
theorem adr_bd (s i t : Int) (hs : sizeB s = true) : 0 ≤ adrI s i t ∧ adrI s i t ≤ 18446744073709551615 ∧ holeB (adrI s i t) = false ∧ tagI (adrI s i t) = t % 4194304 ∧ adrI s i t % bytesI s = 0 := by
  unfold adrI hiI holeB tagI
  rw [decide_eq_false_iff_not]
  rcases sizeB_true hs with rfl | rfl | rfl | rfl <;> (simp only [bytesI, leastI, if_true, Int.reduceEq, if_false]; clear hs; split <;> omega)
theorem adr_own {p : Par} (h : p.Ok) {va t : Int} (v0 : 0 ≤ va) (v1 : va ≤ 18446744073709551615) (hh : holeB va = false) (hv : va % bytesI p.s = 0) (ht : t % 4194304 = tagI va) : adrI p.s (p.pl va) t = va := by
  have h1 := (h.idx va).1
  unfold adrI hiI
  rw [← h1]
  unfold idxI
  rw [h.least, ht]
  unfold holeB at hh
  rw [decide_eq_false_iff_not] at hh
  unfold tagI
  have hs := h.hs
  generalize p.s = s at *
  clear h1 ht h
  rcases sizeB_true hs with rfl | rfl | rfl | rfl <;> (simp only [bytesI, leastI, if_true, Int.reduceEq, if_false] at hv ⊢; clear hs; split <;> omega)
theorem base_hole_of (x s : Int) (hs : sizeB s = true) (h : holeB (baseI x s) = false) : holeB x = false := by
  unfold holeB baseI at *
  rw [decide_eq_false_iff_not] at *
  rw [hs] at h
  rcases sizeB_true hs with rfl | rfl | rfl | rfl <;> (simp only [bytesI, if_true, Int.reduceEq, if_false] at h; clear hs; omega)
/-! ### What a place's words are read as -/
def rdB (s : Int) (x : Pl) (va : Int) : Bool := Ent.readN x.t x.d va == 0 && (Ent.ofW x.t x.d va).size == s
def rdE (s : Int) (x : Pl) (va : Int) : Ent := if rdB s x va then Ent.ofW x.t x.d va else Ent.zero
theorem rdB_iff {s : Int} {x : Pl} {va : Int} : rdB s x va = true ↔ (holeB va = false ∧ bitI x.d 63 ≠ 0 ∧ Ent.areB x.t x.d va = true) ∧ (Ent.ofW x.t x.d va).size = s := by
  unfold rdB
  rw [Bool.and_eq_true, beq_iff_eq, beq_iff_eq]
  refine and_congr_left fun _ => ?_
  unfold Ent.readN
  cases holeB va
  · simp only [Bool.false_eq_true, if_false]
    by_cases h1 : bitI x.d 63 = 0
    · rw [if_pos h1]; simp [h1]
    · rw [if_neg h1]
      cases Ent.areB x.t x.d va <;> simp [h1]
  · simp
def Ent.pl (e : Ent) : Pl := ⟨e.tagW, e.dataW⟩
theorem ent_pl_U {e : Ent} (h : e.Fit) : (Ent.pl e).U := by
  have h1 := Ent.tag_bd h
  have h2 := Ent.data_bd h
  exact ⟨h1.1, h1.2, by show 0 ≤ e.dataW; omega, h2.2⟩
theorem locked_no (s d va : Int) (d0 : 0 ≤ d) : rdB s ⟨9223372036854775807, d⟩ va = false := by
  cases h : rdB s ⟨9223372036854775807, d⟩ va
  · rfl
  · obtain ⟨⟨_, _, h3⟩, _⟩ := rdB_iff.1 h
    unfold Ent.areB at h3
    simp only [Bool.and_eq_true, beq_iff_eq] at h3
    have hp : 0 ≤ (Ent.ofW 9223372036854775807 d va).pa := by
      show 0 ≤ getI d 13 28 * 8192
      rw [getI_at _ 13 28 8192 268435456 (by decide) d0 (by decide) (by decide)]
      omega
    exact absurd h3.1.2 (Ent.tag_bad (Ent.fit h3.1.1 hp))
theorem rd_self {e : Ent} (h : e.Ok) {va : Int} (hb : baseI va e.size = e.va) : rdB e.size (Ent.pl e) va = true ∧ rdE e.size (Ent.pl e) va = e := by
  have hh : holeB va = false := base_hole_of va e.size h.size (by rw [hb]; exact h.hole)
  have ho : Ent.ofW (Ent.pl e).t (Ent.pl e).d va = e := Ent.ofW_self h.may h.fit.p0 va hb
  have hr : rdB e.size (Ent.pl e) va = true := by
    refine rdB_iff.2 ⟨⟨hh, ?_, ?_⟩, by rw [ho]⟩
    · rw [show (Ent.pl e).d = e.dataW from rfl, (Ent.data_fields h.fit).2.2]; decide
    · unfold Ent.areB
      rw [ho, h.may]
      simp [Ent.pl]
  exact ⟨hr, by unfold rdE; rw [if_pos hr, ho]⟩
/-! ### What is found -/
theorem base_self {e : Ent} (h : e.Ok) : baseI e.va e.size = e.va := by
  have := h.vs
  unfold baseI
  rw [h.size]
  simp only [if_true]
  exact Int.ediv_mul_cancel (Int.dvd_of_emod_eq_zero this)
/-! ### What a place has at its own address, and the list -/
def ownB (p : Par) (T : Nat → Pl) (i : Nat) : Bool := p.pl (adrI p.s i (T i).t) == i && rdB p.s (T i) (adrI p.s i (T i).t)
def ownE (p : Par) (T : Nat → Pl) (i : Nat) : Ent := rdE p.s (T i) (adrI p.s i (T i).t)
def lstP (p : Par) (T : Nat → Pl) : Nat → List Ent
  | 0 => []
  | k + 1 => if ownB p T k then lstP p T k ++ [ownE p T k] else lstP p T k
theorem lst_hit {p : Par} {T : Nat → Pl} {k : Nat} (h : ownB p T k = true) : lstP p T (k + 1) = lstP p T k ++ [ownE p T k] := if_pos h
theorem lst_miss {p : Par} {T : Nat → Pl} {k : Nat} (h : ¬ ownB p T k = true) : lstP p T (k + 1) = lstP p T k := if_neg h
theorem lst_le (p : Par) (T : Nat → Pl) (k : Nat) : (lstP p T k).length ≤ k := by
  induction k with
  | zero => exact Nat.le_refl _
  | succ k ih =>
    unfold lstP
    split
    · simp; omega
    · omega
theorem lst_mem {p : Par} {T : Nat → Pl} {k : Nat} {e : Ent} : e ∈ lstP p T k ↔ ∃ i, i < k ∧ ownB p T i = true ∧ ownE p T i = e := by
  induction k with
  | zero => exact ⟨fun h => by simp [lstP] at h, fun ⟨_, h, _⟩ => absurd h (Nat.not_lt_zero _)⟩
  | succ k ih =>
    by_cases h : ownB p T k = true
    · rw [lst_hit h, List.mem_append, ih, List.mem_singleton]
      constructor
      · rintro (⟨i, a, b, c⟩ | rfl)
        · exact ⟨i, by omega, b, c⟩
        · exact ⟨k, by omega, h, rfl⟩
      · rintro ⟨i, a, b, c⟩
        by_cases e : i = k
        · subst e; exact .inr c.symm
        · exact .inl ⟨i, by omega, b, c⟩
    · rw [lst_miss h, ih]
      constructor
      · rintro ⟨i, a, b, c⟩; exact ⟨i, by omega, b, c⟩
      · rintro ⟨i, a, b, c⟩
        by_cases e : i = k
        · subst e; exact absurd b h
        · exact ⟨i, by omega, b, c⟩
def ctxB (c : Int) (e : Ent) : Bool := e.ctx == c && !e.att.global
end Go.Proofs.YtnbdoemnepfhdaaGreat.Ts

namespace Go.Proofs.YtnbdoemnepfhdaaGreat.Fld
open Go.ChangeShapes Go.WideShapes Go.ChangeAt Go.RowKit
set_option maxHeartbeats 1000000
theorem row_eleven {w : World} {g : Nat} {T : TypeId} {z0 z1 z2 z3 z4 z5 z6 z7 z8 z9 z10 x0 x1 x2 x3 x4 x5 x6 x7 x8 x9 x10 : Value} (h : w.heap[g]? = some (.cells #[z0, z1, z2, z3, z4, z5, z6, z7, z8, z9, z10] T (0, 0))) :
    (((((((((((w.setCell ⟨g, 0, none⟩ x0).setCell ⟨g, 1, none⟩ x1).setCell ⟨g, 2, none⟩ x2).setCell ⟨g, 3, none⟩ x3).setCell ⟨g, 4, none⟩ x4).setCell ⟨g, 5, none⟩ x5).setCell ⟨g, 6, none⟩ x6).setCell ⟨g, 7, none⟩ x7).setCell ⟨g, 8, none⟩ x8).setCell ⟨g, 9, none⟩ x9).setCell ⟨g, 10, none⟩ x10).heap[g]? = some (.cells #[x0, x1, x2, x3, x4, x5, x6, x7, x8, x9, x10] T (0, 0)) := by
  have h0 := set_row h 0 x0
  have h1 := set_row h0 1 x1
  have h2 := set_row h1 2 x2
  have h3 := set_row h2 3 x3
  have h4 := set_row h3 4 x4
  have h5 := set_row h4 5 x5
  have h6 := set_row h5 6 x6
  have h7 := set_row h6 7 x7
  have h8 := set_row h7 8 x8
  have h9 := set_row h8 9 x9
  have h10 := set_row h9 10 x10
  clear h h0 h1 h2 h3 h4 h5 h6 h7 h8 h9
  simp only [List.setIfInBounds_toArray, List.set_cons_succ, List.set_cons_zero] at h10
  exact h10
theorem row_far {w : World} {g b : Nat} {x0 x1 x2 x3 x4 x5 x6 x7 x8 x9 x10 : Value} (h : b ≠ g) :
    (((((((((((w.setCell ⟨g, 0, none⟩ x0).setCell ⟨g, 1, none⟩ x1).setCell ⟨g, 2, none⟩ x2).setCell ⟨g, 3, none⟩ x3).setCell ⟨g, 4, none⟩ x4).setCell ⟨g, 5, none⟩ x5).setCell ⟨g, 6, none⟩ x6).setCell ⟨g, 7, none⟩ x7).setCell ⟨g, 8, none⟩ x8).setCell ⟨g, 9, none⟩ x9).setCell ⟨g, 10, none⟩ x10).heap[b]? = w.heap[b]? := by
  rw [Below.heap_setCell _ _ _ _ h, Below.heap_setCell _ _ _ _ h, Below.heap_setCell _ _ _ _ h, Below.heap_setCell _ _ _ _ h, Below.heap_setCell _ _ _ _ h, Below.heap_setCell _ _ _ _ h, Below.heap_setCell _ _ _ _ h, Below.heap_setCell _ _ _ _ h, Below.heap_setCell _ _ _ _ h, Below.heap_setCell _ _ _ _ h, Below.heap_setCell _ _ _ _ h]
/-- The cells of an entry in a block. -/
structure RowE (w : World) (b : Nat) (e : Ent) : Prop where
  row : w.heap[b]? = some (.cells #[.int .i64 e.size, .int .i64 e.ctx, .int .u64 e.va, .int .u64 e.pa, .bool e.att.write, .bool e.att.priv, .bool e.att.exec, .bool e.att.lock, .bool e.att.global, .bool e.att.quiet, .bool e.valid] 30 (0, 0))
theorem RowE.new (w : World) (e : Ent) : RowE (w.alloc (.cells #[.int .i64 e.size, .int .i64 e.ctx, .int .u64 e.va, .int .u64 e.pa, .bool e.att.write, .bool e.att.priv, .bool e.att.exec, .bool e.att.lock, .bool e.att.global, .bool e.att.quiet, .bool e.valid] 30)) w.heap.size e := ⟨heap_alloc_new _ _⟩
theorem RowE.below {w w' : World} {B b : Nat} {e : Ent} (h : RowE w b e) (hb : Below B w w') (hB : b < B) : RowE w' b e := ⟨(hb.block b hB).trans h.row⟩
theorem RowE.alloc {w : World} {b : Nat} {e : Ent} (h : RowE w b e) (o : Obj) (hB : b < w.heap.size) : RowE (w.alloc o) b e := ⟨(Below.heap_alloc _ _ _ hB).trans h.row⟩
theorem RowE.drewN {w : World} {b : Nat} {e : Ent} (h : RowE w b e) (n : Nat) : RowE (w.drewN n) b e := ⟨h.row⟩
theorem RowE.lt {w : World} {b : Nat} {e : Ent} (h : RowE w b e) : b < w.heap.size := by
  rcases Nat.lt_or_ge b w.heap.size with hlt | hge
  · exact hlt
  · have := h.row; rw [Array.getElem?_eq_none hge] at this; cases this
theorem RowE.cells {w : World} {b : Nat} {e : Ent} (h : RowE w b e) :
    w.cell? ⟨b, 0, none⟩ = some (.int .i64 e.size) ∧ w.cell? ⟨b, 1, none⟩ = some (.int .i64 e.ctx) ∧ w.cell? ⟨b, 2, none⟩ = some (.int .u64 e.va) ∧ w.cell? ⟨b, 3, none⟩ = some (.int .u64 e.pa) ∧ w.cell? ⟨b, 4, none⟩ = some (.bool e.att.write) ∧ w.cell? ⟨b, 5, none⟩ = some (.bool e.att.priv) ∧ w.cell? ⟨b, 6, none⟩ = some (.bool e.att.exec) ∧ w.cell? ⟨b, 7, none⟩ = some (.bool e.att.lock) ∧ w.cell? ⟨b, 8, none⟩ = some (.bool e.att.global) ∧ w.cell? ⟨b, 9, none⟩ = some (.bool e.att.quiet) ∧ w.cell? ⟨b, 10, none⟩ = some (.bool e.valid) :=
  ⟨cell_of_row _ _ 0 _ _ _ h.row, cell_of_row _ _ 1 _ _ _ h.row, cell_of_row _ _ 2 _ _ _ h.row, cell_of_row _ _ 3 _ _ _ h.row, cell_of_row _ _ 4 _ _ _ h.row, cell_of_row _ _ 5 _ _ _ h.row, cell_of_row _ _ 6 _ _ _ h.row, cell_of_row _ _ 7 _ _ _ h.row, cell_of_row _ _ 8 _ _ _ h.row, cell_of_row _ _ 9 _ _ _ h.row, cell_of_row _ _ 10 _ _ _ h.row⟩
theorem RowE.frozen {w : World} {b : Nat} {e : Ent} (h : RowE w b e) (i : Nat) : w.frozen? ⟨b, i, none⟩ = false := row_frozen h.row i
end Go.Proofs.YtnbdoemnepfhdaaGreat.Fld

