/-
  Contracts and plain facts: TLaw, NMath, TStore. Conditions: each says its own.
-/
import Derived.Test.YtnbdoemnepfhdaaR7
import Derived.Test.YtnbdoemnepfhdaaR8
import Derived.BigRegion
import Derived.StillTailTactics
import Derived.Deep.WholeRow
import Derived.Laws.CopyOwn
import Derived.ChangeSame
import Derived.Lib.SmallJoins
import Derived.Test.YtnbdoemnepfhdaaR5
import Derived.Test.YtnbdoemnepfhdaaR14
namespace Go.Proofs.Ytnbdoemnepfhdaa.Fld
open Go.ChangeShapes Go.WideShapes Go.ChangeAt Go.RowKit
set_option maxHeartbeats 1000000
/-- What is known of an entry that may be. -/
structure Ent.Ok (g : Ent) : Prop where
  may : g.mayB = true
  fit : g.Fit
  size : sizeB g.size = true
  valid : g.valid = true
  v0 : 0 ≤ g.va
  v1 : g.va ≤ 18446744073709551615
  hole : holeB g.va = false
  vs : g.va % bytesI g.size = 0
  ps : g.pa % bytesI g.size = 0
  p1 : g.pa ≤ 18446744073709551615
  gc : g.att.global = true → g.ctx = 0
end Go.Proofs.Ytnbdoemnepfhdaa.Fld

namespace Go.Proofs.Ytnbdoemnepfhdaa.Ts
open Fld
open Pt (idxI lastI)
open Go.ChangeShapes Go.WideShapes Go.ChangeAt Go.RowKit
/-- Two words at a place. -/
structure Pl where
  t : Int
  d : Int
def Pl.none : Pl := ⟨9223372036854775807, 0⟩
structure Pl.U (x : Pl) : Prop where
  t0 : 0 ≤ x.t
  t1 : x.t ≤ 18446744073709551615
  d0 : 0 ≤ x.d
  d1 : x.d ≤ 18446744073709551615
def setP (T : Nat → Pl) (i : Nat) (x : Pl) : Nat → Pl := fun j => if j = i then x else T j
theorem setP_at (T : Nat → Pl) (i : Nat) (x : Pl) : setP T i x i = x := if_pos rfl
theorem setP_ne {T : Nat → Pl} {i j : Nat} {x : Pl} (h : j ≠ i) : setP T i x j = T j := if_neg h
theorem setP_twice (T : Nat → Pl) (i : Nat) (x y : Pl) : setP (setP T i x) i y = setP T i y := by
  funext j; unfold setP; split <;> rfl
/-! ### How many places -/
def leastI (s : Int) : Int := if s = 0 then 512 else if s = 1 then 64 else if s = 2 then 8 else if s = 3 then 1 else 0
def twoP (g : Int) : Int := if g = 0 then 1 else if g = 1 then 2 else if g = 2 then 4 else if g = 3 then 8 else 0
def placesI (s g : Int) : Int := leastI s * twoP g
theorem least_pos {s : Int} (h : sizeB s = true) : 1 ≤ leastI s ∧ leastI s ≤ 512 := by
  rcases sizeB_true h with rfl | rfl | rfl | rfl <;> simp [leastI]
theorem twoP_or {g : Int} (h0 : 0 ≤ g) (h1 : g ≤ 3) : (g = 0 ∧ twoP g = 1) ∨ (g = 1 ∧ twoP g = 2) ∨ (g = 2 ∧ twoP g = 4) ∨ (g = 3 ∧ twoP g = 8) := by
  have : g = 0 ∨ g = 1 ∨ g = 2 ∨ g = 3 := by omega
  rcases this with rfl | rfl | rfl | rfl <;> simp [twoP]
theorem places_no {s g : Int} (h : ¬ (sizeB s = true ∧ 0 ≤ g ∧ g ≤ 3)) : placesI s g = 0 := by
  unfold placesI
  by_cases hs : sizeB s = true
  · have h' : ¬ (0 ≤ g ∧ g ≤ 3) := fun k => h ⟨hs, k⟩
    have : twoP g = 0 := by
      unfold twoP
      rw [if_neg (by omega), if_neg (by omega), if_neg (by omega), if_neg (by omega)]
    rw [this, Int.mul_zero]
  · have h2 := sizeB_false (by simpa using hs)
    have : leastI s = 0 := by
      unfold leastI
      rw [if_neg (by omega), if_neg (by omega), if_neg (by omega), if_neg (by omega)]
    rw [this, Int.zero_mul]
theorem places_bd {s g : Int} (hs : sizeB s = true) (g0 : 0 ≤ g) (g1 : g ≤ 3) : 1 ≤ placesI s g ∧ placesI s g ≤ 4096 := by
  unfold placesI
  have h1 := least_pos hs
  rcases twoP_or g0 g1 with ⟨_, e⟩ | ⟨_, e⟩ | ⟨_, e⟩ | ⟨_, e⟩ <;> rw [e] <;> omega
/-- What does not change of a TSB: the memory's size, the beginning, how many places, the size, the grade; the bytes of the memory that are not the places'. -/
structure Par where
  S : Nat
  b : Nat
  n : Nat
  s : Int
  g : Int
  o : Nat → Nat
structure Par.Ok (p : Par) : Prop where
  hs : sizeB p.s = true
  g0 : 0 ≤ p.g
  g1 : p.g ≤ 3
  hn : (p.n : Int) = placesI p.s p.g
  al : p.b % 16 = 0
  is : p.b + 16 * p.n ≤ p.S
  le : p.S ≤ 2199023255552
theorem Par.Ok.n_bd {p : Par} (h : p.Ok) : 1 ≤ p.n ∧ p.n ≤ 4096 := by
  have h1 := places_bd h.hs h.g0 h.g1
  have h2 := h.hn
  omega
def Par.pl (p : Par) (va : Int) : Nat := (idxI va p.s p.n).toNat
/-! ### The address of a place -/
def hiI (t : Int) : Int := if 2097152 ≤ t % 4194304 then 18446726481523507200 else 0
def adrI (s i t : Int) : Int := t % 4194304 * 4194304 + hiI t + i % leastI s * bytesI s
/-! ### What a place's words are read as -/
def rdB (s : Int) (x : Pl) (va : Int) : Bool := Ent.readN x.t x.d va == 0 && (Ent.ofW x.t x.d va).size == s
def rdE (s : Int) (x : Pl) (va : Int) : Ent := if rdB s x va then Ent.ofW x.t x.d va else Ent.zero
def Ent.pl (e : Ent) : Pl := ⟨e.tagW, e.dataW⟩
/-! ### What is found -/
/-! ### What a place has at its own address, and the list -/
def ownB (p : Par) (T : Nat → Pl) (i : Nat) : Bool := p.pl (adrI p.s i (T i).t) == i && rdB p.s (T i) (adrI p.s i (T i).t)
def ownE (p : Par) (T : Nat → Pl) (i : Nat) : Ent := rdE p.s (T i) (adrI p.s i (T i).t)
def lstP (p : Par) (T : Nat → Pl) : Nat → List Ent
  | 0 => []
  | k + 1 => if ownB p T k then lstP p T k ++ [ownE p T k] else lstP p T k
theorem lst_hit {p : Par} {T : Nat → Pl} {k : Nat} (h : ownB p T k = true) : lstP p T (k + 1) = lstP p T k ++ [ownE p T k] := if_pos h
theorem lst_miss {p : Par} {T : Nat → Pl} {k : Nat} (h : ¬ ownB p T k = true) : lstP p T (k + 1) = lstP p T k := if_neg h
theorem lst_mem {p : Par} {T : Nat → Pl} {k : Nat} {e : Ent} : e ∈ lstP p T k ↔ ∃ i, i < k ∧ ownB p T i = true ∧ ownE p T i = e := by
  induction k with
  | zero => exact ⟨fun h => by simp [lstP] at h, fun ⟨_, h, _⟩ => absurd h (Nat.not_lt_zero _)⟩
  | succ k ih =>
    by_cases h : ownB p T k = true
    · rw [lst_hit h, List.mem_append, ih, List.mem_singleton]
      constructor
      · rintro (⟨i, a, b, c⟩ | rfl)
        · exact ⟨i, by omega, b, c⟩
        · exact ⟨k, by omega, h, rfl⟩
      · rintro ⟨i, a, b, c⟩
        by_cases e : i = k
        · subst e; exact .inr c.symm
        · exact .inl ⟨i, by omega, b, c⟩
    · rw [lst_miss h, ih]
      constructor
      · rintro ⟨i, a, b, c⟩; exact ⟨i, by omega, b, c⟩
      · rintro ⟨i, a, b, c⟩
        by_cases e : i = k
        · subst e; exact absurd b h
        · exact ⟨i, by omega, b, c⟩
end Go.Proofs.Ytnbdoemnepfhdaa.Ts

namespace Go.Proofs.Ytnbdoemnepfhdaa.Fld
open Go.ChangeShapes Go.WideShapes Go.ChangeAt Go.RowKit
set_option maxHeartbeats 1000000
theorem row_far {w : World} {g b : Nat} {x0 x1 x2 x3 x4 x5 x6 x7 x8 x9 x10 : Value} (h : b ≠ g) :
    (((((((((((w.setCell ⟨g, 0, none⟩ x0).setCell ⟨g, 1, none⟩ x1).setCell ⟨g, 2, none⟩ x2).setCell ⟨g, 3, none⟩ x3).setCell ⟨g, 4, none⟩ x4).setCell ⟨g, 5, none⟩ x5).setCell ⟨g, 6, none⟩ x6).setCell ⟨g, 7, none⟩ x7).setCell ⟨g, 8, none⟩ x8).setCell ⟨g, 9, none⟩ x9).setCell ⟨g, 10, none⟩ x10).heap[b]? = w.heap[b]? := by
  rw [Below.heap_setCell _ _ _ _ h, Below.heap_setCell _ _ _ _ h, Below.heap_setCell _ _ _ _ h, Below.heap_setCell _ _ _ _ h, Below.heap_setCell _ _ _ _ h, Below.heap_setCell _ _ _ _ h, Below.heap_setCell _ _ _ _ h, Below.heap_setCell _ _ _ _ h, Below.heap_setCell _ _ _ _ h, Below.heap_setCell _ _ _ _ h, Below.heap_setCell _ _ _ _ h]
end Go.Proofs.Ytnbdoemnepfhdaa.Fld

