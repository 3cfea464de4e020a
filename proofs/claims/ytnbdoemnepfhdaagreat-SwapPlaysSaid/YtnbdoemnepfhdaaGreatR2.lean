/-
  Contracts and plain facts: MathB, PMathB, QMath, TMath. Conditions: each says its own.
-/
import Derived.Test.YtnbdoemnepfhdaaGreatR0
import Derived.KernelRfl
import Derived.Below
import Derived.Test.YtnbdoemnepfhdaaGreatR1
namespace Go.Proofs.YtnbdoemnepfhdaaGreat.Fld
/-- The word of all bits. -/
def allOnes : Int := 18446744073709551615
theorem allOnes_bit (i : Nat) (h : i < 64) : allOnes.toNat.testBit i = true := by
  have e : allOnes.toNat = 2 ^ 64 - 1 := by decide
  rw [e, Nat.testBit_two_pow_sub_one]; simpa using h
theorem may_zero {p s : Int} (hm : mayB p s = true) : mayB 0 s = true := mayB_mk (by have := mayB_true hm; omega)
theorem getI_of {x p s : Int} (hm : mayB p s = true) : getI x p s = ((getN x.toNat p.toNat s.toNat : Nat) : Int) := by unfold getI; rw [if_pos hm]
theorem putI_of {x p s v : Int} (hm : mayB p s = true) : putI x p s v = ((putN x.toNat p.toNat s.toNat v.toNat : Nat) : Int) := by unfold putI; rw [if_pos hm]
theorem maskI_of {p s : Int} (hm : mayB p s = true) : maskI p s = ((maskN p.toNat s.toNat : Nat) : Int) := by unfold maskI; rw [if_pos hm]
theorem or_mask (x p s : Int) (h0 : 0 ≤ x) (h1 : x ≤ 18446744073709551615) (hm : mayB p s = true) : bits .or .u64 x (maskI p s) = putI x p s allOnes := by
  have hm' := mayB_true hm
  rw [putI_of hm, maskI_of hm]
  have hx : x = ((x.toNat : Nat) : Int) := by omega
  have h2 := maskN_lt p.toNat s.toNat
  conv => lhs; rw [hx]
  rw [bits_or_u64_nat _ _ (by omega) h2]
  congr 1
  apply Nat.eq_of_testBit_eq; intro i
  rw [Nat.testBit_or, maskN_testBit, putN_testBit]
  by_cases hi : i < 64
  · cases h : inF p.toNat s.toNat i
    · simp [hi]
    · rw [if_pos rfl, allOnes_bit _ (by omega)]; simp [hi]
  · simp only [hi, decide_false, Bool.false_and, Bool.or_false]
    exact testBit_hi (by omega) (by omega)
theorem ob_add (f g : Nat → Bool) (n : Nat) (h : ∀ i, f i = false ∨ g i = false) : ob f n + ob g n = ob (fun i => f i || g i) n := by
  induction n with
  | zero => rfl
  | succ n ih =>
    simp only [ob]; rw [← ih]
    rcases h n with e | e <;> rw [e] <;> simp <;> omega
/-- What the laws make of any integer: one below m, not below 0. -/
def nrm (a m : Int) : Int := if a < 0 then -((a + 1).tmod m) else a % m
theorem nrm_pos (a m : Int) (h : ¬ a < 0) : a % m = nrm a m := by unfold nrm; rw [if_neg h]
theorem nrm_bd (a m : Int) (hm : 0 < m) : 0 ≤ nrm a m ∧ nrm a m < m := by
  unfold nrm; split
  · rename_i h
    have h1 : -((a + 1).tmod m) = (-(a + 1)) % m := by rw [← Int.neg_tmod, Int.tmod_eq_emod_of_nonneg (by omega)]
    rw [h1]
    exact ⟨Int.emod_nonneg _ (by omega), Int.emod_lt_of_pos _ hm⟩
  · exact ⟨Int.emod_nonneg _ (by omega), Int.emod_lt_of_pos _ hm⟩
end Go.Proofs.YtnbdoemnepfhdaaGreat.Fld

namespace Go.Proofs.YtnbdoemnepfhdaaGreat.Fld
theorem bits_bd (s : Int) : 0 ≤ bitsI s ∧ bitsI s ≤ 22 := by
  cases h : sizeB s
  · rw [bits_none h]; omega
  · rcases sizeB_true h with rfl | rfl | rfl | rfl <;> decide
theorem tag_bd (x : Int) : 0 ≤ tagI x ∧ tagI x < 4194304 := by unfold tagI; omega
end Go.Proofs.YtnbdoemnepfhdaaGreat.Fld

namespace Go.Proofs.YtnbdoemnepfhdaaGreat.Pt
open Fld
/-! ### The pointer, laid bit by bit -/
/-! ### What follows -/
/-! ### Places among so many -/
def arI (i n : Int) : Int := i % n
def idxI (x s n : Int) : Int := x / bytesI s % n
theorem tmod_or (i n : Int) (hn : 0 < n) : (i.tmod n < 0 ∧ i.tmod n + n = arI i n) ∨ (0 ≤ i.tmod n ∧ i.tmod n = arI i n) := by
  have h1 := Int.mul_tdiv_add_tmod i n
  have h2 := Int.tmod_lt_of_pos i hn
  have h3 := Int.lt_tmod_of_pos i hn
  unfold arI
  by_cases h : i.tmod n < 0
  · left
    refine ⟨h, ?_⟩
    have e : i = (i.tmod n + n) + n * (i.tdiv n - 1) := by rw [Int.mul_sub]; omega
    have : ((i.tmod n + n) + n * (i.tdiv n - 1)) % n = i.tmod n + n := by
      rw [Int.add_mul_emod_self_left, Int.emod_eq_of_lt (by omega) (by omega)]
    rw [← e] at this; exact this.symm
  · right
    refine ⟨by omega, ?_⟩
    have e : i = i.tmod n + n * i.tdiv n := by omega
    have : (i.tmod n + n * i.tdiv n) % n = i.tmod n := by
      rw [Int.add_mul_emod_self_left, Int.emod_eq_of_lt (by omega) (by omega)]
    rw [← e] at this; exact this.symm
theorem ar_bd (i n : Int) (hn : 0 < n) : 0 ≤ arI i n ∧ arI i n < n := ⟨Int.emod_nonneg _ (by omega), Int.emod_lt_of_pos _ hn⟩
theorem idx_bd (x s n : Int) (hn : 0 < n) : 0 ≤ idxI x s n ∧ idxI x s n < n := ⟨Int.emod_nonneg _ (by omega), Int.emod_lt_of_pos _ hn⟩
end Go.Proofs.YtnbdoemnepfhdaaGreat.Pt

namespace Go.Proofs.YtnbdoemnepfhdaaGreat.Fld
/-- The bits of a field, where they stand. -/
theorem get_lift (w p s : Nat) (h : p + s ≤ 64) : getN w p s * 2 ^ p = ob (fun i => inF p s i && w.testBit i) 64 := by
  apply Nat.eq_of_testBit_eq; intro i
  rw [ob_testBit, Nat.mul_comm, Nat.testBit_two_pow_mul, getN_testBit, Bool.eq_iff_iff]
  simp [inF]
  constructor
  · rintro ⟨a, b, c⟩
    refine ⟨by omega, ⟨a, by omega⟩, ?_⟩
    rwa [show p + (i - p) = i by omega] at c
  · rintro ⟨a, ⟨b, c⟩, d⟩
    refine ⟨b, by omega, ?_⟩
    rwa [show p + (i - p) = i by omega]
theorem getI_zero (v s : Int) (hm : mayB 0 s = true) : getI v 0 s = ((v.toNat &&& (2 ^ s.toNat - 1) : Nat) : Int) := by
  rw [getI_of hm, ← get_eq]; simp
/-- Put as arithmetic. -/
theorem putI_arith (x p s v : Int) (hm : mayB p s = true) (x0 : 0 ≤ x) (x1 : x ≤ 18446744073709551615) :
    putI x p s v = x - getI x p s * ((2 ^ p.toNat : Nat) : Int) + getI v 0 s * ((2 ^ p.toNat : Nat) : Int) := by
  have hm' := mayB_true hm
  rw [getI_zero v s (may_zero hm), putI_of hm, getI_of hm, ← Int.natCast_mul, ← Int.natCast_mul, lift_eq _ _ _ (by omega), get_lift _ _ _ (by omega)]
  generalize hx : x.toNat = a at *
  obtain rfl : x = (a : Int) := by omega
  have ha : a < 2 ^ 64 := by omega
  have e1 := ob_add (fun i => inF p.toNat s.toNat i && a.testBit i) (fun i => !inF p.toNat s.toNat i && a.testBit i) 64 (fun i => by cases inF p.toNat s.toNat i <;> simp)
  have e2 : ob (fun i => (inF p.toNat s.toNat i && a.testBit i) || (!inF p.toNat s.toNat i && a.testBit i)) 64 = a :=
    (ob_ext (fun i _ => by cases inF p.toNat s.toNat i <;> simp)).trans (ob_self ha)
  have e3 := ob_add (fun i => !inF p.toNat s.toNat i && a.testBit i) (fun i => inF p.toNat s.toNat i && v.toNat.testBit (i - p.toNat)) 64 (fun i => by cases inF p.toNat s.toNat i <;> simp)
  have e4 : putN a p.toNat s.toNat v.toNat = ob (fun i => (!inF p.toNat s.toNat i && a.testBit i) || (inF p.toNat s.toNat i && v.toNat.testBit (i - p.toNat))) 64 :=
    ob_ext (fun i _ => by cases inF p.toNat s.toNat i <;> simp)
  rw [e2] at e1
  rw [e4]
  omega
/-- What stands in a field, where all is literal: rewrite, then linear arithmetic. -/
theorem getI_at (x p s : Int) (P S : Int) (hm : mayB p s = true) (h0 : 0 ≤ x) (hP : ((2 ^ p.toNat : Nat) : Int) = P) (hS : ((2 ^ s.toNat : Nat) : Int) = S) : getI x p s = x / P % S := by
  rw [getI_div x p s hm h0, hP, hS]
theorem bitI_at (x : Int) (i : Nat) (P : Int) (h0 : 0 ≤ x) (hP : ((2 ^ i : Nat) : Int) = P) : bitI x i = x / P % 2 := by
  rw [bitI_div x i h0, hP]
theorem putI_at (x p s v : Int) (P S : Int) (hm : mayB p s = true) (x0 : 0 ≤ x) (x1 : x ≤ 18446744073709551615) (v0 : 0 ≤ v) (hP : ((2 ^ p.toNat : Nat) : Int) = P) (hS : ((2 ^ s.toNat : Nat) : Int) = S) :
    putI x p s v = x - x / P % S * P + v % S * P := by
  rw [putI_arith x p s v hm x0 x1, getI_div x p s hm x0, getI_div v 0 s (may_zero hm) v0, hP, hS]; simp
theorem get1_bit (x : Int) (i : Nat) (hi : i < 64) (h0 : 0 ≤ x) : getI x i 1 = bitI x i := by
  rw [getI_div x i 1 (mayB_mk (by omega)) h0, bitI_div x i h0]; rfl

/-! ### Entries -/
def b2i (b : Bool) : Int := if b then 1 else 0
theorem b2i_bd (b : Bool) : 0 ≤ b2i b ∧ b2i b ≤ 1 := by cases b <;> decide
theorem b2i_nat (b : Bool) : ((b.toNat : Nat) : Int) = b2i b := by cases b <;> rfl
theorem b2i_one (b : Bool) : (b2i b == 1) = b := by cases b <;> rfl
structure Att where
  write : Bool
  priv : Bool
  exec : Bool
  lock : Bool
  global : Bool
  quiet : Bool
structure Ent where
  size : Int
  ctx : Int
  va : Int
  pa : Int
  att : Att
  valid : Bool
def Ent.zero : Ent := ⟨0, 0, 0, 0, ⟨false, false, false, false, false, false⟩, false⟩
/-- Numbers that Go's types hold. -/
def Ent.wf (e : Ent) : Prop := (-9223372036854775808 ≤ e.size ∧ e.size ≤ 9223372036854775807) ∧ (-9223372036854775808 ≤ e.ctx ∧ e.ctx ≤ 9223372036854775807) ∧ (0 ≤ e.va ∧ e.va ≤ 18446744073709551615) ∧ (0 ≤ e.pa ∧ e.pa ≤ 18446744073709551615)
def Ent.mayB (e : Ent) : Bool := e.valid && sizeB e.size && decide (0 ≤ e.ctx ∧ e.ctx ≤ 8191) && !holeB e.va && !(e.att.global && e.ctx != 0) && decide (e.va % bytesI e.size = 0) && decide (e.pa % bytesI e.size = 0) && decide (e.pa < 2199023255552)
def Ent.tagW (e : Ent) : Int := b2i e.att.global * 9223372036854775808 + e.ctx * 281474976710656 + tagI e.va
def Ent.attW (a : Att) : Int := b2i a.quiet * 1152921504606846976 + b2i a.lock * 64 + b2i a.exec * 8 + b2i a.priv * 4 + b2i a.write * 2 + b2i a.global
def Ent.dataW (e : Ent) : Int := 9223372036854775808 + e.size * 2305843009213693952 + e.pa + Ent.attW e.att
/-- What the words need of an entry that may be. -/
structure Ent.Fit (e : Ent) : Prop where
  s0 : 0 ≤ e.size
  s1 : e.size ≤ 3
  c0 : 0 ≤ e.ctx
  c1 : e.ctx ≤ 8191
  p0 : 0 ≤ e.pa
  p1 : e.pa < 2199023255552
  p2 : e.pa % 8192 = 0
theorem bytes_dvd {s : Int} (h : sizeB s = true) (x : Int) (hx : x % bytesI s = 0) : x % 8192 = 0 := by
  rcases sizeB_true h with rfl | rfl | rfl | rfl <;> simp [bytesI] at hx <;> omega
theorem Ent.fit {e : Ent} (h : e.mayB = true) (p0 : 0 ≤ e.pa) : e.Fit := by
  unfold Ent.mayB at h
  simp only [Bool.and_eq_true, decide_eq_true_eq] at h
  obtain ⟨⟨⟨⟨⟨⟨⟨_, h1⟩, h2⟩, _⟩, _⟩, _⟩, h3⟩, h4⟩ := h
  have hs := sizeB_true h1
  exact ⟨by omega, by omega, h2.1, h2.2, p0, h4, bytes_dvd h1 _ h3⟩
theorem Ent.att_bd (a : Att) : 0 ≤ Ent.attW a ∧ Ent.attW a ≤ 1152921504606847055 := by
  unfold Ent.attW
  have h1 := b2i_bd a.quiet; have h2 := b2i_bd a.lock; have h3 := b2i_bd a.exec; have h4 := b2i_bd a.priv; have h5 := b2i_bd a.write; have h6 := b2i_bd a.global
  omega
theorem Ent.tag_bd {e : Ent} (h : e.Fit) : 0 ≤ e.tagW ∧ e.tagW ≤ 18446744073709551615 := by
  have h1 := b2i_bd e.att.global; have h2 := h.c0; have h3 := h.c1; have h4 := Fld.tag_bd e.va
  unfold Ent.tagW; omega
theorem Ent.data_bd {e : Ent} (h : e.Fit) : 9223372036854775808 ≤ e.dataW ∧ e.dataW ≤ 18446744073709551615 := by
  have h1 := Ent.att_bd e.att; have h2 := h.s0; have h3 := h.s1; have h4 := h.p0; have h5 := h.p1
  unfold Ent.dataW; omega
theorem Ent.tag_fields {e : Ent} (h : e.Fit) : getI e.tagW 48 13 = e.ctx ∧ getI e.tagW 0 22 = tagI e.va ∧ bitI e.tagW 63 = b2i e.att.global := by
  have hb := Ent.tag_bd h
  have h1 := b2i_bd e.att.global; have h2 := h.c0; have h3 := h.c1; have h4 := Fld.tag_bd e.va
  rw [getI_at _ 48 13 281474976710656 8192 (by decide) hb.1 (by decide) (by decide), getI_at _ 0 22 1 4194304 (by decide) hb.1 (by decide) (by decide)]
  have e3 : bitI e.tagW 63 = e.tagW / 9223372036854775808 % 2 := bitI_at _ 63 _ hb.1 (by decide)
  rw [e3]
  unfold Ent.tagW
  omega
theorem Ent.data_fields {e : Ent} (h : e.Fit) : getI e.dataW 61 2 = e.size ∧ getI e.dataW 13 28 * 8192 = e.pa ∧ bitI e.dataW 63 = 1 := by
  have hb := Ent.data_bd h
  have g1 := b2i_bd e.att.quiet; have g2 := b2i_bd e.att.lock; have g3 := b2i_bd e.att.exec; have g4 := b2i_bd e.att.priv; have g5 := b2i_bd e.att.write; have g6 := b2i_bd e.att.global
  have h2 := h.s0; have h3 := h.s1; have h4 := h.p0; have h5 := h.p1; have h6 := h.p2
  rw [getI_at _ 61 2 2305843009213693952 4 (by decide) (by omega) (by decide) (by decide), getI_at _ 13 28 8192 268435456 (by decide) (by omega) (by decide) (by decide)]
  have e3 : bitI e.dataW 63 = e.dataW / 9223372036854775808 % 2 := bitI_at _ 63 _ (by omega) (by decide)
  rw [e3]
  unfold Ent.dataW Ent.attW
  omega
theorem Ent.data_bits {e : Ent} (h : e.Fit) : bitI e.dataW 60 = b2i e.att.quiet ∧ bitI e.dataW 6 = b2i e.att.lock ∧ bitI e.dataW 3 = b2i e.att.exec ∧ bitI e.dataW 2 = b2i e.att.priv ∧ bitI e.dataW 1 = b2i e.att.write ∧ bitI e.dataW 0 = b2i e.att.global := by
  have hb := Ent.data_bd h
  have g1 := b2i_bd e.att.quiet; have g2 := b2i_bd e.att.lock; have g3 := b2i_bd e.att.exec; have g4 := b2i_bd e.att.priv; have g5 := b2i_bd e.att.write; have g6 := b2i_bd e.att.global
  have h2 := h.s0; have h3 := h.s1; have h4 := h.p0; have h5 := h.p1; have h6 := h.p2
  have q0 : bitI e.dataW 60 = e.dataW / 1152921504606846976 % 2 := bitI_at _ 60 _ (by omega) (by decide)
  have q1 : bitI e.dataW 6 = e.dataW / 64 % 2 := bitI_at _ 6 _ (by omega) (by decide)
  have q2 : bitI e.dataW 3 = e.dataW / 8 % 2 := bitI_at _ 3 _ (by omega) (by decide)
  have q3 : bitI e.dataW 2 = e.dataW / 4 % 2 := bitI_at _ 2 _ (by omega) (by decide)
  have q4 : bitI e.dataW 1 = e.dataW / 2 % 2 := bitI_at _ 1 _ (by omega) (by decide)
  have q5 : bitI e.dataW 0 = e.dataW / 1 % 2 := bitI_at _ 0 _ (by omega) (by decide)
  rw [q0, q1, q2, q3, q4, q5]
  unfold Ent.dataW Ent.attW
  refine ⟨?_, ?_, ?_, ?_, ?_, ?_⟩ <;> omega
/-- What two words say of themselves, at an address. -/
def Ent.ofW (t d va : Int) : Ent :=
  ⟨getI d 61 2, getI t 48 13, baseI va (getI d 61 2), getI d 13 28 * 8192, ⟨bitI d 1 == 1, bitI d 2 == 1, bitI d 3 == 1, bitI d 6 == 1, bitI d 0 == 1, bitI d 60 == 1⟩, true⟩
/-- Whether they are an entry's. -/
def Ent.areB (t d va : Int) : Bool := (Ent.ofW t d va).mayB && ((Ent.ofW t d va).tagW == t) && ((Ent.ofW t d va).dataW == d)
/-- What Read answers: the error's number, and the entry. -/
def Ent.readN (t d va : Int) : Int := if holeB va then 3 else if bitI d 63 = 0 then 11 else if Ent.areB t d va then 0 else 2
def Ent.readE (t d va : Int) : Ent := if Ent.readN t d va = 0 then Ent.ofW t d va else Ent.zero
/-- An entry's words are read as it, at each address of its page. -/
theorem Ent.ofW_self {e : Ent} (h : e.mayB = true) (p0 : 0 ≤ e.pa) (va : Int) (hva : baseI va e.size = e.va) : Ent.ofW e.tagW e.dataW va = e := by
  have hf := Ent.fit h p0
  obtain ⟨a1, a2, a3⟩ := Ent.data_fields hf
  obtain ⟨b1, _, _⟩ := Ent.tag_fields hf
  obtain ⟨c1, c2, c3, c4, c5, c6⟩ := Ent.data_bits hf
  have hv : e.valid = true := by
    unfold Ent.mayB at h; simp only [Bool.and_eq_true] at h; exact h.1.1.1.1.1.1.1
  unfold Ent.ofW
  rw [a1, a2, b1, c1, c2, c3, c4, c5, c6, hva]
  simp only [b2i_one]
  obtain ⟨s, c, v, p, ⟨w, pr, x, l, g, q⟩, vd⟩ := e
  simp only at hv; subst hv; rfl
theorem base_hole (x s : Int) (hs : sizeB s = true) (h : holeB x = false) : holeB (baseI x s) = false := by
  unfold holeB baseI at *
  rw [decide_eq_false_iff_not] at *
  rw [hs]
  rcases sizeB_true hs with rfl | rfl | rfl | rfl <;> (simp only [bytesI, if_true, Int.reduceEq, if_false]; clear hs; omega)
theorem base_starts (x s : Int) (hs : sizeB s = true) : baseI x s % bytesI s = 0 ∧ baseI (baseI x s) s = baseI x s := by
  unfold baseI
  rw [hs]
  rcases sizeB_true hs with rfl | rfl | rfl | rfl <;> (simp only [bytesI, if_true, Int.reduceEq, if_false]; clear hs; omega)
/-- An entry that may be, made of any. -/
def Ent.good (e : Ent) : Ent :=
  ⟨nrm e.size 4, if e.att.global then 0 else nrm e.ctx 8192, baseI (vaI e.va) (nrm e.size 4), baseI (e.pa % 2199023255552) (nrm e.size 4), e.att, true⟩
theorem Ent.good_size (e : Ent) : sizeB (nrm e.size 4) = true := sizeB_mk (by have := nrm_bd e.size 4 (by decide); omega)
theorem Ent.good_bd (e : Ent) : (0 ≤ e.good.va ∧ e.good.va ≤ 18446744073709551615) ∧ (0 ≤ e.good.pa ∧ e.good.pa < 2199023255552) := by
  have v := vaI_bd e.va
  have b := base_bd (vaI e.va) (nrm e.size 4) v.1 v.2
  have c := base_bd (e.pa % 2199023255552) (nrm e.size 4) (by omega) (by omega)
  exact ⟨⟨b.1, Int.le_trans b.2 v.2⟩, ⟨c.1, by show baseI (e.pa % 2199023255552) (nrm e.size 4) < _; omega⟩⟩
theorem Ent.good_may (e : Ent) : e.good.mayB = true := by
  have hs := Ent.good_size e
  have hc := nrm_bd e.ctx 8192 (by decide)
  have hb := Ent.good_bd e
  unfold Ent.mayB
  simp only [Bool.and_eq_true, decide_eq_true_eq, Bool.not_eq_true', Bool.and_eq_false_iff]
  refine ⟨⟨⟨⟨⟨⟨⟨rfl, hs⟩, ?_⟩, base_hole _ _ hs (vaI_hole e.va)⟩, ?_⟩, (base_starts _ _ hs).1⟩, (base_starts _ _ hs).1⟩, hb.2.2⟩
  · show 0 ≤ (if e.att.global then 0 else nrm e.ctx 8192) ∧ (if e.att.global then 0 else nrm e.ctx 8192) ≤ 8191
    split <;> omega
  · show e.att.global = false ∨ ((if e.att.global then (0 : Int) else nrm e.ctx 8192) != 0) = false
    cases e.att.global
    · exact .inl rfl
    · exact .inr rfl
/-- The bad word is no entry's tag. -/
theorem Ent.tag_bad {e : Ent} (h : e.Fit) : e.tagW ≠ 9223372036854775807 := by
  have h1 := b2i_bd e.att.global; have h2 := h.c0; have h3 := h.c1; have h4 := Fld.tag_bd e.va
  unfold Ent.tagW; omega
end Go.Proofs.YtnbdoemnepfhdaaGreat.Fld

