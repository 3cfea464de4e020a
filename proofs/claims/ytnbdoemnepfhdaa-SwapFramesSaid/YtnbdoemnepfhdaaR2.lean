/-
  Contracts and plain facts: MathB, QMath, TMath. Conditions: each says its own.
-/
import Derived.Test.YtnbdoemnepfhdaaR0
import Derived.KernelRfl
import Derived.Below
import Derived.Test.YtnbdoemnepfhdaaR1
namespace Go.Proofs.Ytnbdoemnepfhdaa.Fld
theorem may_zero {p s : Int} (hm : mayB p s = true) : mayB 0 s = true := mayB_mk (by have := mayB_true hm; omega)
/-- What the laws make of any integer: one below m, not below 0. -/
def nrm (a m : Int) : Int := if a < 0 then -((a + 1).tmod m) else a % m
end Go.Proofs.Ytnbdoemnepfhdaa.Fld

namespace Go.Proofs.Ytnbdoemnepfhdaa.Pt
open Fld
/-! ### The pointer, laid bit by bit -/
/-! ### What follows -/
/-! ### Places among so many -/
def arI (i n : Int) : Int := i % n
def idxI (x s n : Int) : Int := x / bytesI s % n
theorem tmod_or (i n : Int) (hn : 0 < n) : (i.tmod n < 0 ∧ i.tmod n + n = arI i n) ∨ (0 ≤ i.tmod n ∧ i.tmod n = arI i n) := by
  have h1 := Int.mul_tdiv_add_tmod i n
  have h2 := Int.tmod_lt_of_pos i hn
  have h3 := Int.lt_tmod_of_pos i hn
  unfold arI
  by_cases h : i.tmod n < 0
  · left
    refine ⟨h, ?_⟩
    have e : i = (i.tmod n + n) + n * (i.tdiv n - 1) := by rw [Int.mul_sub]; omega
    have : ((i.tmod n + n) + n * (i.tdiv n - 1)) % n = i.tmod n + n := by
      rw [Int.add_mul_emod_self_left, Int.emod_eq_of_lt (by omega) (by omega)]
    rw [← e] at this; exact this.symm
  · right
    refine ⟨by omega, ?_⟩
    have e : i = i.tmod n + n * i.tdiv n := by omega
    have : (i.tmod n + n * i.tdiv n) % n = i.tmod n := by
      rw [Int.add_mul_emod_self_left, Int.emod_eq_of_lt (by omega) (by omega)]
    rw [← e] at this; exact this.symm
theorem ar_bd (i n : Int) (hn : 0 < n) : 0 ≤ arI i n ∧ arI i n < n := ⟨Int.emod_nonneg _ (by omega), Int.emod_lt_of_pos _ hn⟩
end Go.Proofs.Ytnbdoemnepfhdaa.Pt

namespace Go.Proofs.Ytnbdoemnepfhdaa.Fld
/-! ### Entries -/
def b2i (b : Bool) : Int := if b then 1 else 0
structure Att where
  write : Bool
  priv : Bool
  exec : Bool
  lock : Bool
  global : Bool
  quiet : Bool
structure Ent where
  size : Int
  ctx : Int
  va : Int
  pa : Int
  att : Att
  valid : Bool
def Ent.zero : Ent := ⟨0, 0, 0, 0, ⟨false, false, false, false, false, false⟩, false⟩
/-- Numbers that Go's types hold. -/
def Ent.wf (e : Ent) : Prop := (-9223372036854775808 ≤ e.size ∧ e.size ≤ 9223372036854775807) ∧ (-9223372036854775808 ≤ e.ctx ∧ e.ctx ≤ 9223372036854775807) ∧ (0 ≤ e.va ∧ e.va ≤ 18446744073709551615) ∧ (0 ≤ e.pa ∧ e.pa ≤ 18446744073709551615)
def Ent.mayB (e : Ent) : Bool := e.valid && sizeB e.size && decide (0 ≤ e.ctx ∧ e.ctx ≤ 8191) && !holeB e.va && !(e.att.global && e.ctx != 0) && decide (e.va % bytesI e.size = 0) && decide (e.pa % bytesI e.size = 0) && decide (e.pa < 2199023255552)
def Ent.tagW (e : Ent) : Int := b2i e.att.global * 9223372036854775808 + e.ctx * 281474976710656 + tagI e.va
def Ent.attW (a : Att) : Int := b2i a.quiet * 1152921504606846976 + b2i a.lock * 64 + b2i a.exec * 8 + b2i a.priv * 4 + b2i a.write * 2 + b2i a.global
def Ent.dataW (e : Ent) : Int := 9223372036854775808 + e.size * 2305843009213693952 + e.pa + Ent.attW e.att
/-- What the words need of an entry that may be. -/
structure Ent.Fit (e : Ent) : Prop where
  s0 : 0 ≤ e.size
  s1 : e.size ≤ 3
  c0 : 0 ≤ e.ctx
  c1 : e.ctx ≤ 8191
  p0 : 0 ≤ e.pa
  p1 : e.pa < 2199023255552
  p2 : e.pa % 8192 = 0
theorem bytes_dvd {s : Int} (h : sizeB s = true) (x : Int) (hx : x % bytesI s = 0) : x % 8192 = 0 := by
  rcases sizeB_true h with rfl | rfl | rfl | rfl <;> simp [bytesI] at hx <;> omega
theorem Ent.fit {e : Ent} (h : e.mayB = true) (p0 : 0 ≤ e.pa) : e.Fit := by
  unfold Ent.mayB at h
  simp only [Bool.and_eq_true, decide_eq_true_eq] at h
  obtain ⟨⟨⟨⟨⟨⟨⟨_, h1⟩, h2⟩, _⟩, _⟩, _⟩, h3⟩, h4⟩ := h
  have hs := sizeB_true h1
  exact ⟨by omega, by omega, h2.1, h2.2, p0, h4, bytes_dvd h1 _ h3⟩
/-- What two words say of themselves, at an address. -/
def Ent.ofW (t d va : Int) : Ent :=
  ⟨getI d 61 2, getI t 48 13, baseI va (getI d 61 2), getI d 13 28 * 8192, ⟨bitI d 1 == 1, bitI d 2 == 1, bitI d 3 == 1, bitI d 6 == 1, bitI d 0 == 1, bitI d 60 == 1⟩, true⟩
/-- Whether they are an entry's. -/
def Ent.areB (t d va : Int) : Bool := (Ent.ofW t d va).mayB && ((Ent.ofW t d va).tagW == t) && ((Ent.ofW t d va).dataW == d)
/-- What Read answers: the error's number, and the entry. -/
def Ent.readN (t d va : Int) : Int := if holeB va then 3 else if bitI d 63 = 0 then 11 else if Ent.areB t d va then 0 else 2
/-- An entry that may be, made of any. -/
def Ent.good (e : Ent) : Ent :=
  ⟨nrm e.size 4, if e.att.global then 0 else nrm e.ctx 8192, baseI (vaI e.va) (nrm e.size 4), baseI (e.pa % 2199023255552) (nrm e.size 4), e.att, true⟩
end Go.Proofs.Ytnbdoemnepfhdaa.Fld

