/-
  YtgdagfhdimoklaaGreatGB: the contracts and plain facts of several texts, laid together. Conditions: those that each theorem names.
-/
import Derived.Test.YtgdagfhdimoklaaGreatGA
import Derived.Below
import Derived.BigRegion
import Derived.StillTailTactics
import Derived.Deep.WholeRow
import Derived.Laws.CopyOwn
import Derived.ChangeSame
import Derived.Lib.SmallJoins
import Derived.Deep.RegionWith
import Derived.Deep.DeepCutAuto
import Derived.Deep.RegionHeld3
import Derived.Deep.AppendLies
import Derived.Laws.OwnMore
/-
  Plain facts on an entry's two words (a tag and data, as sums of powers), and on Put as arithmetic; no Go text is named here. Conditions: none.
-/
namespace Go.Proofs.YtgdagfhdimoklaaGreat.Fld
/-- The bits of a field, where they stand. -/
theorem get_lift (w p s : Nat) (h : p + s ≤ 64) : getN w p s * 2 ^ p = ob (fun i => inF p s i && w.testBit i) 64 := by
  apply Nat.eq_of_testBit_eq; intro i
  rw [ob_testBit, Nat.mul_comm, Nat.testBit_two_pow_mul, getN_testBit, Bool.eq_iff_iff]
  simp [inF]
  constructor
  · rintro ⟨a, b, c⟩
    refine ⟨by omega, ⟨a, by omega⟩, ?_⟩
    rwa [show p + (i - p) = i by omega] at c
  · rintro ⟨a, ⟨b, c⟩, d⟩
    refine ⟨b, by omega, ?_⟩
    rwa [show p + (i - p) = i by omega]
theorem getI_zero (v s : Int) (hm : mayB 0 s = true) : getI v 0 s = ((v.toNat &&& (2 ^ s.toNat - 1) : Nat) : Int) := by
  rw [getI_of hm, ← get_eq]; simp
/-- Put as arithmetic. -/
theorem putI_arith (x p s v : Int) (hm : mayB p s = true) (x0 : 0 ≤ x) (x1 : x ≤ 18446744073709551615) :
    putI x p s v = x - getI x p s * ((2 ^ p.toNat : Nat) : Int) + getI v 0 s * ((2 ^ p.toNat : Nat) : Int) := by
  have hm' := mayB_true hm
  rw [getI_zero v s (may_zero hm), putI_of hm, getI_of hm, ← Int.natCast_mul, ← Int.natCast_mul, lift_eq _ _ _ (by omega), get_lift _ _ _ (by omega)]
  generalize hx : x.toNat = a at *
  obtain rfl : x = (a : Int) := by omega
  have ha : a < 2 ^ 64 := by omega
  have e1 := ob_add (fun i => inF p.toNat s.toNat i && a.testBit i) (fun i => !inF p.toNat s.toNat i && a.testBit i) 64 (fun i => by cases inF p.toNat s.toNat i <;> simp)
  have e2 : ob (fun i => (inF p.toNat s.toNat i && a.testBit i) || (!inF p.toNat s.toNat i && a.testBit i)) 64 = a :=
    (ob_ext (fun i _ => by cases inF p.toNat s.toNat i <;> simp)).trans (ob_self ha)
  have e3 := ob_add (fun i => !inF p.toNat s.toNat i && a.testBit i) (fun i => inF p.toNat s.toNat i && v.toNat.testBit (i - p.toNat)) 64 (fun i => by cases inF p.toNat s.toNat i <;> simp)
  have e4 : putN a p.toNat s.toNat v.toNat = ob (fun i => (!inF p.toNat s.toNat i && a.testBit i) || (inF p.toNat s.toNat i && v.toNat.testBit (i - p.toNat))) 64 :=
    ob_ext (fun i _ => by cases inF p.toNat s.toNat i <;> simp)
  rw [e2] at e1
  rw [e4]
  omega
/-- What stands in a field, where all is literal: rewrite, then linear arithmetic. -/
theorem getI_at (x p s : Int) (P S : Int) (hm : mayB p s = true) (h0 : 0 ≤ x) (hP : ((2 ^ p.toNat : Nat) : Int) = P) (hS : ((2 ^ s.toNat : Nat) : Int) = S) : getI x p s = x / P % S := by
  rw [getI_div x p s hm h0, hP, hS]
theorem bitI_at (x : Int) (i : Nat) (P : Int) (h0 : 0 ≤ x) (hP : ((2 ^ i : Nat) : Int) = P) : bitI x i = x / P % 2 := by
  rw [bitI_div x i h0, hP]
theorem putI_at (x p s v : Int) (P S : Int) (hm : mayB p s = true) (x0 : 0 ≤ x) (x1 : x ≤ 18446744073709551615) (v0 : 0 ≤ v) (hP : ((2 ^ p.toNat : Nat) : Int) = P) (hS : ((2 ^ s.toNat : Nat) : Int) = S) :
    putI x p s v = x - x / P % S * P + v % S * P := by
  rw [putI_arith x p s v hm x0 x1, getI_div x p s hm x0, getI_div v 0 s (may_zero hm) v0, hP, hS]; simp
theorem get1_bit (x : Int) (i : Nat) (hi : i < 64) (h0 : 0 ≤ x) : getI x i 1 = bitI x i := by
  rw [getI_div x i 1 (mayB_mk (by omega)) h0, bitI_div x i h0]; rfl

/-! ### Entries -/
def b2i (b : Bool) : Int := if b then 1 else 0
theorem b2i_bd (b : Bool) : 0 ≤ b2i b ∧ b2i b ≤ 1 := by cases b <;> decide
theorem b2i_nat (b : Bool) : ((b.toNat : Nat) : Int) = b2i b := by cases b <;> rfl
theorem b2i_one (b : Bool) : (b2i b == 1) = b := by cases b <;> rfl
theorem b2i_inj {a b : Bool} (h : b2i a = b2i b) : a = b := by cases a <;> cases b <;> first | rfl | (exact absurd h (by decide))
structure Att where
  write : Bool
  priv : Bool
  exec : Bool
  lock : Bool
  global : Bool
  quiet : Bool
structure Ent where
  size : Int
  ctx : Int
  va : Int
  pa : Int
  att : Att
  valid : Bool
def Ent.zero : Ent := ⟨0, 0, 0, 0, ⟨false, false, false, false, false, false⟩, false⟩
/-- Numbers that Go's types hold. -/
def Ent.wf (e : Ent) : Prop := (-9223372036854775808 ≤ e.size ∧ e.size ≤ 9223372036854775807) ∧ (-9223372036854775808 ≤ e.ctx ∧ e.ctx ≤ 9223372036854775807) ∧ (0 ≤ e.va ∧ e.va ≤ 18446744073709551615) ∧ (0 ≤ e.pa ∧ e.pa ≤ 18446744073709551615)
def Ent.mayB (e : Ent) : Bool := e.valid && sizeB e.size && decide (0 ≤ e.ctx ∧ e.ctx ≤ 8191) && !holeB e.va && !(e.att.global && e.ctx != 0) && decide (e.va % bytesI e.size = 0) && decide (e.pa % bytesI e.size = 0) && decide (e.pa < 2199023255552)
def Ent.tagW (e : Ent) : Int := b2i e.att.global * 9223372036854775808 + e.ctx * 281474976710656 + tagI e.va
def Ent.attW (a : Att) : Int := b2i a.quiet * 1152921504606846976 + b2i a.lock * 64 + b2i a.exec * 8 + b2i a.priv * 4 + b2i a.write * 2 + b2i a.global
def Ent.dataW (e : Ent) : Int := 9223372036854775808 + e.size * 2305843009213693952 + e.pa + Ent.attW e.att
/-- What the words need of an entry that may be. -/
structure Ent.Fit (e : Ent) : Prop where
  s0 : 0 ≤ e.size
  s1 : e.size ≤ 3
  c0 : 0 ≤ e.ctx
  c1 : e.ctx ≤ 8191
  p0 : 0 ≤ e.pa
  p1 : e.pa < 2199023255552
  p2 : e.pa % 8192 = 0
theorem bytes_dvd {s : Int} (h : sizeB s = true) (x : Int) (hx : x % bytesI s = 0) : x % 8192 = 0 := by
  rcases sizeB_true h with rfl | rfl | rfl | rfl <;> simp [bytesI] at hx <;> omega
theorem Ent.fit {e : Ent} (h : e.mayB = true) (p0 : 0 ≤ e.pa) : e.Fit := by
  unfold Ent.mayB at h
  simp only [Bool.and_eq_true, decide_eq_true_eq] at h
  obtain ⟨⟨⟨⟨⟨⟨⟨_, h1⟩, h2⟩, _⟩, _⟩, _⟩, h3⟩, h4⟩ := h
  have hs := sizeB_true h1
  exact ⟨by omega, by omega, h2.1, h2.2, p0, h4, bytes_dvd h1 _ h3⟩
theorem Ent.att_bd (a : Att) : 0 ≤ Ent.attW a ∧ Ent.attW a ≤ 1152921504606847055 := by
  unfold Ent.attW
  have h1 := b2i_bd a.quiet; have h2 := b2i_bd a.lock; have h3 := b2i_bd a.exec; have h4 := b2i_bd a.priv; have h5 := b2i_bd a.write; have h6 := b2i_bd a.global
  omega
theorem Ent.tag_bd {e : Ent} (h : e.Fit) : 0 ≤ e.tagW ∧ e.tagW ≤ 18446744073709551615 := by
  have h1 := b2i_bd e.att.global; have h2 := h.c0; have h3 := h.c1; have h4 := Fld.tag_bd e.va
  unfold Ent.tagW; omega
theorem Ent.data_bd {e : Ent} (h : e.Fit) : 9223372036854775808 ≤ e.dataW ∧ e.dataW ≤ 18446744073709551615 := by
  have h1 := Ent.att_bd e.att; have h2 := h.s0; have h3 := h.s1; have h4 := h.p0; have h5 := h.p1
  unfold Ent.dataW; omega
theorem Ent.tag_fields {e : Ent} (h : e.Fit) : getI e.tagW 48 13 = e.ctx ∧ getI e.tagW 0 22 = tagI e.va ∧ bitI e.tagW 63 = b2i e.att.global := by
  have hb := Ent.tag_bd h
  have h1 := b2i_bd e.att.global; have h2 := h.c0; have h3 := h.c1; have h4 := Fld.tag_bd e.va
  rw [getI_at _ 48 13 281474976710656 8192 (by decide) hb.1 (by decide) (by decide), getI_at _ 0 22 1 4194304 (by decide) hb.1 (by decide) (by decide)]
  have e3 : bitI e.tagW 63 = e.tagW / 9223372036854775808 % 2 := bitI_at _ 63 _ hb.1 (by decide)
  rw [e3]
  unfold Ent.tagW
  omega
theorem Ent.data_fields {e : Ent} (h : e.Fit) : getI e.dataW 61 2 = e.size ∧ getI e.dataW 13 28 * 8192 = e.pa ∧ bitI e.dataW 63 = 1 := by
  have hb := Ent.data_bd h
  have g1 := b2i_bd e.att.quiet; have g2 := b2i_bd e.att.lock; have g3 := b2i_bd e.att.exec; have g4 := b2i_bd e.att.priv; have g5 := b2i_bd e.att.write; have g6 := b2i_bd e.att.global
  have h2 := h.s0; have h3 := h.s1; have h4 := h.p0; have h5 := h.p1; have h6 := h.p2
  rw [getI_at _ 61 2 2305843009213693952 4 (by decide) (by omega) (by decide) (by decide), getI_at _ 13 28 8192 268435456 (by decide) (by omega) (by decide) (by decide)]
  have e3 : bitI e.dataW 63 = e.dataW / 9223372036854775808 % 2 := bitI_at _ 63 _ (by omega) (by decide)
  rw [e3]
  unfold Ent.dataW Ent.attW
  omega
theorem Ent.data_bits {e : Ent} (h : e.Fit) : bitI e.dataW 60 = b2i e.att.quiet ∧ bitI e.dataW 6 = b2i e.att.lock ∧ bitI e.dataW 3 = b2i e.att.exec ∧ bitI e.dataW 2 = b2i e.att.priv ∧ bitI e.dataW 1 = b2i e.att.write ∧ bitI e.dataW 0 = b2i e.att.global := by
  have hb := Ent.data_bd h
  have g1 := b2i_bd e.att.quiet; have g2 := b2i_bd e.att.lock; have g3 := b2i_bd e.att.exec; have g4 := b2i_bd e.att.priv; have g5 := b2i_bd e.att.write; have g6 := b2i_bd e.att.global
  have h2 := h.s0; have h3 := h.s1; have h4 := h.p0; have h5 := h.p1; have h6 := h.p2
  have q0 : bitI e.dataW 60 = e.dataW / 1152921504606846976 % 2 := bitI_at _ 60 _ (by omega) (by decide)
  have q1 : bitI e.dataW 6 = e.dataW / 64 % 2 := bitI_at _ 6 _ (by omega) (by decide)
  have q2 : bitI e.dataW 3 = e.dataW / 8 % 2 := bitI_at _ 3 _ (by omega) (by decide)
  have q3 : bitI e.dataW 2 = e.dataW / 4 % 2 := bitI_at _ 2 _ (by omega) (by decide)
  have q4 : bitI e.dataW 1 = e.dataW / 2 % 2 := bitI_at _ 1 _ (by omega) (by decide)
  have q5 : bitI e.dataW 0 = e.dataW / 1 % 2 := bitI_at _ 0 _ (by omega) (by decide)
  rw [q0, q1, q2, q3, q4, q5]
  unfold Ent.dataW Ent.attW
  refine ⟨?_, ?_, ?_, ?_, ?_, ?_⟩ <;> omega
/-- What two words say of themselves, at an address. -/
def Ent.ofW (t d va : Int) : Ent :=
  ⟨getI d 61 2, getI t 48 13, baseI va (getI d 61 2), getI d 13 28 * 8192, ⟨bitI d 1 == 1, bitI d 2 == 1, bitI d 3 == 1, bitI d 6 == 1, bitI d 0 == 1, bitI d 60 == 1⟩, true⟩
/-- Whether they are an entry's. -/
def Ent.areB (t d va : Int) : Bool := (Ent.ofW t d va).mayB && ((Ent.ofW t d va).tagW == t) && ((Ent.ofW t d va).dataW == d)
/-- What Read answers: the error's number, and the entry. -/
def Ent.readN (t d va : Int) : Int := if holeB va then 3 else if bitI d 63 = 0 then 11 else if Ent.areB t d va then 0 else 2
def Ent.readE (t d va : Int) : Ent := if Ent.readN t d va = 0 then Ent.ofW t d va else Ent.zero
/-- An entry's words are read as it, at each address of its page. -/
theorem Ent.ofW_self {e : Ent} (h : e.mayB = true) (p0 : 0 ≤ e.pa) (va : Int) (hva : baseI va e.size = e.va) : Ent.ofW e.tagW e.dataW va = e := by
  have hf := Ent.fit h p0
  obtain ⟨a1, a2, a3⟩ := Ent.data_fields hf
  obtain ⟨b1, _, _⟩ := Ent.tag_fields hf
  obtain ⟨c1, c2, c3, c4, c5, c6⟩ := Ent.data_bits hf
  have hv : e.valid = true := by
    unfold Ent.mayB at h; simp only [Bool.and_eq_true] at h; exact h.1.1.1.1.1.1.1
  unfold Ent.ofW
  rw [a1, a2, b1, c1, c2, c3, c4, c5, c6, hva]
  simp only [b2i_one]
  obtain ⟨s, c, v, p, ⟨w, pr, x, l, g, q⟩, vd⟩ := e
  simp only at hv; subst hv; rfl
theorem base_hole (x s : Int) (hs : sizeB s = true) (h : holeB x = false) : holeB (baseI x s) = false := by
  unfold holeB baseI at *
  rw [decide_eq_false_iff_not] at *
  rw [hs]
  rcases sizeB_true hs with rfl | rfl | rfl | rfl <;> (simp only [bytesI, if_true, Int.reduceEq, if_false]; clear hs; omega)
theorem base_starts (x s : Int) (hs : sizeB s = true) : baseI x s % bytesI s = 0 ∧ baseI (baseI x s) s = baseI x s := by
  unfold baseI
  rw [hs]
  rcases sizeB_true hs with rfl | rfl | rfl | rfl <;> (simp only [bytesI, if_true, Int.reduceEq, if_false]; clear hs; omega)
/-- An address of a page: its beginning, and an offset. -/
theorem page_at (v o s : Int) (hs : sizeB s = true) (hv : v % bytesI s = 0) : baseI (v + offI o s) s = v ∧ offI (v + offI o s) s = offI o s := by
  unfold baseI offI at *
  rw [hs]
  rcases sizeB_true hs with rfl | rfl | rfl | rfl <;> (simp only [bytesI, if_true, Int.reduceEq, if_false] at *; clear hs; omega)
theorem page_top (v s : Int) (hs : sizeB s = true) (hv : v % bytesI s = 0) (h1 : v ≤ 18446744073709551615) : v + bytesI s ≤ 18446744073709551616 := by
  rcases sizeB_true hs with rfl | rfl | rfl | rfl <;> (simp only [bytesI, if_true, Int.reduceEq, if_false] at *; clear hs; omega)
/-- An entry that may be, made of any. -/
def Ent.good (e : Ent) : Ent :=
  ⟨nrm e.size 4, if e.att.global then 0 else nrm e.ctx 8192, baseI (vaI e.va) (nrm e.size 4), baseI (e.pa % 2199023255552) (nrm e.size 4), e.att, true⟩
theorem Ent.good_size (e : Ent) : sizeB (nrm e.size 4) = true := sizeB_mk (by have := nrm_bd e.size 4 (by decide); omega)
theorem Ent.good_bd (e : Ent) : (0 ≤ e.good.va ∧ e.good.va ≤ 18446744073709551615) ∧ (0 ≤ e.good.pa ∧ e.good.pa < 2199023255552) := by
  have v := vaI_bd e.va
  have b := base_bd (vaI e.va) (nrm e.size 4) v.1 v.2
  have c := base_bd (e.pa % 2199023255552) (nrm e.size 4) (by omega) (by omega)
  exact ⟨⟨b.1, Int.le_trans b.2 v.2⟩, ⟨c.1, by show baseI (e.pa % 2199023255552) (nrm e.size 4) < _; omega⟩⟩
theorem Ent.good_may (e : Ent) : e.good.mayB = true := by
  have hs := Ent.good_size e
  have hc := nrm_bd e.ctx 8192 (by decide)
  have hb := Ent.good_bd e
  unfold Ent.mayB
  simp only [Bool.and_eq_true, decide_eq_true_eq, Bool.not_eq_true', Bool.and_eq_false_iff]
  refine ⟨⟨⟨⟨⟨⟨⟨rfl, hs⟩, ?_⟩, base_hole _ _ hs (vaI_hole e.va)⟩, ?_⟩, (base_starts _ _ hs).1⟩, (base_starts _ _ hs).1⟩, hb.2.2⟩
  · show 0 ≤ (if e.att.global then 0 else nrm e.ctx 8192) ∧ (if e.att.global then 0 else nrm e.ctx 8192) ≤ 8191
    split <;> omega
  · show e.att.global = false ∨ ((if e.att.global then (0 : Int) else nrm e.ctx 8192) != 0) = false
    cases e.att.global
    · exact .inl rfl
    · exact .inr rfl
theorem Ent.good_fit (e : Ent) : e.good.Fit := Ent.fit (Ent.good_may e) (Ent.good_bd e).2.1
/-- The bad word is no entry's tag. -/
theorem Ent.tag_bad {e : Ent} (h : e.Fit) : e.tagW ≠ 9223372036854775807 := by
  have h1 := b2i_bd e.att.global; have h2 := h.c0; have h3 := h.c1; have h4 := Fld.tag_bd e.va
  unfold Ent.tagW; omega
/-- Addresses that are not in the hole have one tag just if they are of one page of the greatest size. -/
theorem tag_same (x y : Int) (x0 : 0 ≤ x) (x1 : x ≤ 18446744073709551615) (y0 : 0 ≤ y) (y1 : y ≤ 18446744073709551615) (hx : holeB x = false) (hy : holeB y = false) : tagI x = tagI y ↔ baseI x 3 = baseI y 3 := by
  unfold holeB at hx hy
  rw [decide_eq_false_iff_not] at hx hy
  unfold tagI baseI
  rw [if_pos (by decide), if_pos (by decide)]
  simp only [bytesI, if_true, Int.reduceEq, if_false]
  omega
theorem Ent.words_same {a b : Ent} (ha : a.Fit) (hb : b.Fit) : (a.tagW = b.tagW ∧ a.dataW = b.dataW) ↔ (a.size = b.size ∧ a.ctx = b.ctx ∧ tagI a.va = tagI b.va ∧ a.pa = b.pa ∧ a.att = b.att) := by
  obtain ⟨a1, a2, _⟩ := Ent.data_fields ha
  obtain ⟨b1, b2, _⟩ := Ent.data_fields hb
  obtain ⟨a3, a4, _⟩ := Ent.tag_fields ha
  obtain ⟨b3, b4, _⟩ := Ent.tag_fields hb
  obtain ⟨c1, c2, c3, c4, c5, c6⟩ := Ent.data_bits ha
  obtain ⟨d1, d2, d3, d4, d5, d6⟩ := Ent.data_bits hb
  constructor
  · rintro ⟨e1, e2⟩
    rw [e1] at a3 a4
    rw [e2] at a1 a2 c1 c2 c3 c4 c5 c6
    refine ⟨by omega, by omega, by omega, by omega, ?_⟩
    have q1 := b2i_inj (c1.symm.trans d1); have q2 := b2i_inj (c2.symm.trans d2); have q3 := b2i_inj (c3.symm.trans d3)
    have q4 := b2i_inj (c4.symm.trans d4); have q5 := b2i_inj (c5.symm.trans d5); have q6 := b2i_inj (c6.symm.trans d6)
    obtain ⟨_, _, _, _, ⟨w, pr, x, l, g, q⟩, _⟩ := a
    obtain ⟨_, _, _, _, ⟨w', pr', x', l', g', q'⟩, _⟩ := b
    simp only at q1 q2 q3 q4 q5 q6
    subst q1 q2 q3 q4 q5 q6
    rfl
  · rintro ⟨e1, e2, e3, e4, e5⟩
    unfold Ent.tagW Ent.dataW
    rw [e1, e2, e3, e4, e5]
    exact ⟨rfl, rfl⟩
end Go.Proofs.YtgdagfhdimoklaaGreat.Fld
/-
  Contracts of package tte's functions that only compute. Conditions: words are below 2 to the 64.
-/
namespace Go.Proofs.YtgdagfhdimoklaaGreat.Fld
open Go.ChangeShapes Go.WideShapes Go.ChangeAt Go.RowKit
set_option maxHeartbeats 400000
def Ent.ctxB (e : Ent) : Bool := if e.att.global then e.ctx == 0 else decide (0 ≤ e.ctx ∧ e.ctx ≤ 8191)
theorem tmayctx_any (e : Ent) (w : World) :
    Calls Tryz.prog 90 #[.agg #[.int .i64 e.size, .int .i64 e.ctx, .int .u64 e.va, .int .u64 e.pa, .bool e.att.write, .bool e.att.priv, .bool e.att.exec, .bool e.att.lock, .bool e.att.global, .bool e.att.quiet, .bool e.valid]] w fun r w' => r = .returned (.bool e.ctxB) ∧ Below w.heap.size w w' := by
  cases hg : e.att.global
  · by_cases h0 : 0 ≤ e.ctx
    · have H := Lib.hid (show e.ctxB = decide (e.ctx ≤ 8191) by unfold Ent.ctxB; rw [hg]; simp [h0])
      go_enter Tryz.func90, Tryz.ntmps90
      go_wp2
      go_ret
      exact ⟨ret_bool H.out.symm, (Below.refl _ _).alloc (Nat.le_refl _) _⟩
    · have H := Lib.hid (show e.ctxB = false by unfold Ent.ctxB; rw [hg]; simp; omega)
      go_enter Tryz.func90, Tryz.ntmps90
      go_wp2
      go_ret
      exact ⟨ret_bool H.out.symm, (Below.refl _ _).alloc (Nat.le_refl _) _⟩
  · have H := Lib.hid (show e.ctxB = (e.ctx == 0) by unfold Ent.ctxB; rw [hg]; rfl)
    go_enter Tryz.func90, Tryz.ntmps90
    go_wp2
    go_ret
    exact ⟨ret_bool H.out.symm, (Below.refl _ _).alloc (Nat.le_refl _) _⟩
def Ent.vaB (e : Ent) : Bool := !holeB e.va && startsB e.va e.size
def Ent.paB (e : Ent) : Bool := fitsB e.pa 41 && startsB e.pa e.size
theorem Ent.may_parts (e : Ent) (p0 : 0 ≤ e.pa) : e.mayB = (e.valid && sizeB e.size && e.ctxB && e.vaB && e.paB) := by
  have hf : fitsB e.pa 41 = decide (e.pa < 2199023255552) := by unfold fitsB; rfl
  unfold Ent.mayB Ent.ctxB Ent.vaB Ent.paB startsB
  rw [hf]
  cases e.valid <;> cases sizeB e.size <;> cases hg : e.att.global <;> cases holeB e.va <;> simp
  · rw [Bool.eq_iff_iff]; simp [and_assoc, and_comm, and_left_comm]
  · rw [Bool.eq_iff_iff]; simp; omega
theorem bcell {W w1 : World} {B : Nat} (hb : Below B W w1) : (∀ b o, b < B → w1.cell? ⟨b, o, none⟩ = W.cell? ⟨b, o, none⟩) ∧ (∀ b o, b < B → w1.frozen? ⟨b, o, none⟩ = W.frozen? ⟨b, o, none⟩) :=
  ⟨fun b o h => hb.cell (p := ⟨b, o, none⟩) h, fun b o h => hb.frozen (p := ⟨b, o, none⟩) h⟩
theorem tmayva_any (e : Ent) (x0 : 0 ≤ e.va) (x1 : e.va ≤ 18446744073709551615) (w : World) :
    Calls Tryz.prog 91 #[.agg #[.int .i64 e.size, .int .i64 e.ctx, .int .u64 e.va, .int .u64 e.pa, .bool e.att.write, .bool e.att.priv, .bool e.att.exec, .bool e.att.lock, .bool e.att.global, .bool e.att.quiet, .bool e.valid]] w fun r w' => r = .returned (.bool e.vaB) ∧ Below w.heap.size w w' := by
  cases hh : holeB e.va
  · have H := Lib.hid (show e.vaB = startsB e.va e.size by unfold Ent.vaB; rw [hh]; rfl)
    go_enter Tryz.func91, Tryz.ntmps91
    go_wp2_with (first | (go_at_call 100; refine (hole_any _ x0 x1 _).mono ?_; rintro e w' ⟨rfl, n, rfl⟩) | (go_at_call 106; refine (starts_any _ _ x0 x1 _).mono ?_; rintro e w' ⟨rfl, m, rfl⟩))
    go_ret
    exact ⟨ret_bool H.out.symm, below_drewN ((Below.refl _ _).alloc (Nat.le_refl _) _) _⟩
  · have H := Lib.hid (show e.vaB = false by unfold Ent.vaB; rw [hh]; rfl)
    go_enter Tryz.func91, Tryz.ntmps91
    go_wp2_with (first | (go_at_call 100; refine (hole_any _ x0 x1 _).mono ?_; rintro e w' ⟨rfl, n, rfl⟩) | (go_at_call 106; refine (starts_any _ _ x0 x1 _).mono ?_; rintro e w' ⟨rfl, m, rfl⟩))
    go_ret
    exact ⟨ret_bool H.out.symm, below_drewN ((Below.refl _ _).alloc (Nat.le_refl _) _) _⟩
theorem tmaypa_any (e : Ent) (x0 : 0 ≤ e.pa) (x1 : e.pa ≤ 18446744073709551615) (w : World) :
    Calls Tryz.prog 92 #[.agg #[.int .i64 e.size, .int .i64 e.ctx, .int .u64 e.va, .int .u64 e.pa, .bool e.att.write, .bool e.att.priv, .bool e.att.exec, .bool e.att.lock, .bool e.att.global, .bool e.att.quiet, .bool e.valid]] w fun r w' => r = .returned (.bool e.paB) ∧ Below w.heap.size w w' := by
  cases hh : fitsB e.pa 41
  · have H := Lib.hid (show e.paB = false by unfold Ent.paB; rw [hh]; rfl)
    go_enter Tryz.func92, Tryz.ntmps92
    go_wp2_with (first | (go_at_call 107; refine (fits_any _ _ x0 x1 _).mono ?_; rintro e w' ⟨rfl, rfl⟩) | (go_at_call 106; refine (starts_any _ _ x0 x1 _).mono ?_; rintro e w' ⟨rfl, m, rfl⟩))
    go_ret
    exact ⟨ret_bool H.out.symm, ((Below.refl _ _).alloc (Nat.le_refl _) _)⟩
  · have H := Lib.hid (show e.paB = startsB e.pa e.size by unfold Ent.paB; rw [hh]; rfl)
    go_enter Tryz.func92, Tryz.ntmps92
    go_wp2_with (first | (go_at_call 107; refine (fits_any _ _ x0 x1 _).mono ?_; rintro e w' ⟨rfl, rfl⟩) | (go_at_call 106; refine (starts_any _ _ x0 x1 _).mono ?_; rintro e w' ⟨rfl, m, rfl⟩))
    go_ret
    exact ⟨ret_bool H.out.symm, below_drewN ((Below.refl _ _).alloc (Nat.le_refl _) _) _⟩
theorem below_box {w u : World} {o : Obj} (h : Below (w.alloc o).heap.size (w.alloc o) u) : Below w.heap.size w u :=
  ((Below.refl _ _).alloc (Nat.le_refl _) _).trans (h.mono (by simp))
theorem tmay_any (e : Ent) (v0 : 0 ≤ e.va) (v1 : e.va ≤ 18446744073709551615) (p0 : 0 ≤ e.pa) (p1 : e.pa ≤ 18446744073709551615) (w : World) :
    Calls Tryz.prog 69 #[.agg #[.int .i64 e.size, .int .i64 e.ctx, .int .u64 e.va, .int .u64 e.pa, .bool e.att.write, .bool e.att.priv, .bool e.att.exec, .bool e.att.lock, .bool e.att.global, .bool e.att.quiet, .bool e.valid]] w fun r w' => r = .returned (.bool e.mayB) ∧ Below w.heap.size w w' := by
  have HM := Lib.hid (Ent.may_parts e p0)
  obtain ⟨s, c, v, p, a, vd⟩ := e
  dsimp only at *
  cases vd
  · go_enter Tryz.func69, Tryz.ntmps69
    go_wp2
    go_ret
    exact ⟨ret_bool HM.out.symm, ((Below.refl _ _).alloc (Nat.le_refl _) _)⟩
  cases h2 : sizeB s
  · rw [h2] at HM
    go_enter Tryz.func69, Tryz.ntmps69
    go_wp2_with (first | (go_at_call 60; refine (pmay_any _ _).mono ?_; rintro e w' ⟨rfl, rfl⟩))
    go_ret
    exact ⟨ret_bool HM.out.symm, ((Below.refl _ _).alloc (Nat.le_refl _) _)⟩
  rw [h2] at HM
  go_enter Tryz.func69, Tryz.ntmps69
  go_wp2_with fail
  refine (pmay_any _ _).mono ?_; rintro r w' ⟨rfl, rfl⟩
  go_wp2_with fail
  refine (tmayctx_any ⟨s, c, v, p, a, true⟩ _).mono ?_; rintro r w1 ⟨rfl, hb1⟩
  cases h3 : Ent.ctxB ⟨s, c, v, p, a, true⟩
  · rw [h3] at HM
    go_wp2_with fail
    go_ret
    exact ⟨ret_bool HM.out.symm, below_box hb1⟩
  rw [h3] at HM
  obtain ⟨hc, hf⟩ := bcell hb1
  have hz : w.heap.size < w1.heap.size := by have := hb1.size; simp at this; omega
  go_wp2_with fail
  refine (tmayva_any ⟨s, c, v, p, a, true⟩ v0 v1 _).mono ?_; rintro r w2 ⟨rfl, hb2⟩
  cases h4 : Ent.vaB ⟨s, c, v, p, a, true⟩
  · rw [h4] at HM
    go_wp2_with fail
    go_ret
    exact ⟨ret_bool HM.out.symm, below_box (hb1.trans (hb2.mono (by simp; omega)))⟩
  rw [h4] at HM
  have hb12 := hb1.trans (hb2.mono (by simp; omega))
  clear hc hf
  obtain ⟨hc, hf⟩ := bcell hb12
  have hz2 : w.heap.size < w2.heap.size := by have := hb2.size; omega
  go_wp2_with fail
  refine (tmaypa_any ⟨s, c, v, p, a, true⟩ p0 p1 _).mono ?_; rintro r w3 ⟨rfl, hb3⟩
  go_wp2_with fail
  go_ret
  exact ⟨ret_bool HM.out.symm, below_box (hb12.trans (hb3.mono (by simp; omega)))⟩
end Go.Proofs.YtgdagfhdimoklaaGreat.Fld
/-
  Contracts of package tte's Target, Tag, Valid, Bad, Hits and Frame. Conditions: words are below 2 to the 64.
-/
namespace Go.Proofs.YtgdagfhdimoklaaGreat.Fld
open Go.ChangeShapes Go.WideShapes Go.ChangeAt Go.RowKit
set_option maxHeartbeats 400000
theorem quiet_add {P : Program} {f : FuncId} {args : Array Value} {w : World} {a n : Nat} {v : Value}
    (h : Calls P f args (w.drewN (a + n)) fun e w' => e = .returned v ∧ ∃ m, w' = (w.drewN (a + n)).drewN m) :
    Calls P f args (w.drewN (a + n)) fun e w'' => e = .returned v ∧ ∃ m, w'' = w.drewN (a + m) :=
  h.mono fun _ _ ⟨he, m, hm⟩ => ⟨he, n + m, by rw [hm, World.drewN_drewN, Nat.add_assoc]⟩
theorem quiet_add_left {P : Program} {f : FuncId} {args : Array Value} {w : World} {a n : Nat} {v : Value}
    (h : Calls P f args (w.drewN (a + n)) fun e w' => e = .returned v ∧ w.drewN (a + n) = w') :
    Calls P f args (w.drewN (a + n)) fun e w'' => e = .returned v ∧ ∃ m, w'' = w.drewN (a + m) :=
  h.mono fun _ _ ⟨he, hm⟩ => ⟨he, n, hm.symm⟩
theorem quiet_left {P : Program} {f : FuncId} {args : Array Value} {w : World} {n : Nat} {v : Value}
    (h : Calls P f args (w.drewN n) fun e w' => e = .returned v ∧ w.drewN n = w') : Calls P f args (w.drewN n) fun e w'' => e = .returned v ∧ ∃ m, w'' = w.drewN m :=
  h.mono fun _ _ ⟨he, hm⟩ => ⟨he, n, hm.symm⟩
/-- The tag of an address in a context, whatever the number. -/
def targetI (va ctx : Int) : Int := ctx % 8192 * 281474976710656 + tagI va
def Ent.tagG (e : Ent) : Int := b2i e.att.global * 9223372036854775808 + targetI e.va e.ctx
theorem target_bd (va ctx : Int) : 0 ≤ targetI va ctx ∧ targetI va ctx < 9223372036854775808 := by
  have := tag_bd va; unfold targetI; omega
theorem Ent.tagG_bd (e : Ent) : 0 ≤ e.tagG ∧ e.tagG ≤ 18446744073709551615 := by
  have := target_bd e.va e.ctx; have := b2i_bd e.att.global; unfold Ent.tagG; omega
theorem Ent.tagG_fit {e : Ent} (h : 0 ≤ e.ctx ∧ e.ctx ≤ 8191) : e.tagG = e.tagW := by
  unfold Ent.tagG Ent.tagW targetI; rw [Int.emod_eq_of_lt h.1 (by omega)]; omega
theorem target_put (va ctx c : Int) (c0 : 0 ≤ c) (hc : c % 8192 = ctx % 8192) : putI (putI 0 0 22 (tagI va)) 48 13 c = targetI va ctx := by
  have ht := tag_bd va
  have e1 : putI 0 0 22 (tagI va) = tagI va := by
    rw [putI_at 0 0 22 (tagI va) 1 4194304 (by decide) (by omega) (by omega) ht.1 (by decide) (by decide)]; omega
  rw [e1, putI_at (tagI va) 48 13 c 281474976710656 8192 (by decide) ht.1 (by omega) c0 (by decide) (by decide)]
  unfold targetI; omega
theorem tag_put (e : Ent) : putI (targetI e.va e.ctx) 63 1 ((e.att.global.toNat : Nat) : Int) = e.tagG := by
  have hb := target_bd e.va e.ctx
  rw [putI_at _ 63 1 _ 9223372036854775808 2 (by decide) hb.1 (by omega) (by omega) (by decide) (by decide), b2i_nat]
  have := b2i_bd e.att.global
  unfold Ent.tagG; omega
theorem wrap_u64 (x : Int) : 0 ≤ IntKind.u64.wrap x ∧ IntKind.u64.wrap x ≤ 18446744073709551615 ∧ IntKind.u64.wrap x % 8192 = x % 8192 := by
  have h : IntKind.u64.wrap x = x % 18446744073709551616 := by simp [IntKind.wrap, IntKind.signed, IntKind.bits]
  rw [h]; omega
theorem ttarget_any (va ctx : Int) (v0 : 0 ≤ va) (v1 : va ≤ 18446744073709551615) (w : World) :
    Calls Tryz.prog 96 #[.int .u64 va, .int .i64 ctx] w fun r w' => r = .returned (.int .u64 (targetI va ctx)) ∧ ∃ n, w' = w.drewN n := by
  obtain ⟨u0, u1, u2⟩ := wrap_u64 ctx
  have H := Lib.hid (target_put va ctx _ u0 u2)
  have ht := tag_bd va
  have hp := putI_bd 0 0 22 (tagI va) (by omega) (by omega)
  clear u2
  go_enter Tryz.func96, Tryz.ntmps96
  go_wp2_with fail
  refine (tag_any _ v0 v1 _).mono ?_; rintro r w' ⟨rfl, n, rfl⟩
  go_wp2_with fail
  refine (put_any _ _ _ _ (by omega) (by omega) (by omega) (by omega) _).mono ?_; rintro r w' ⟨rfl, rfl⟩
  go_wp2_with fail
  refine (put_any _ _ _ _ (by omega) (by omega) (by omega) (by omega) _).mono ?_; rintro r w' ⟨rfl, rfl⟩
  go_wp2_with fail
  go_ret
  exact ⟨ret_int H.out, n, rfl⟩
theorem ttag_any (e : Ent) (v0 : 0 ≤ e.va) (v1 : e.va ≤ 18446744073709551615) (w : World) :
    Calls Tryz.prog 71 #[.agg #[.int .i64 e.size, .int .i64 e.ctx, .int .u64 e.va, .int .u64 e.pa, .bool e.att.write, .bool e.att.priv, .bool e.att.exec, .bool e.att.lock, .bool e.att.global, .bool e.att.quiet, .bool e.valid]] w fun r w' => r = .returned (.int .u64 e.tagG) ∧ Below w.heap.size w w' := by
  have H := Lib.hid (tag_put e)
  have ht := target_bd e.va e.ctx
  go_enter Tryz.func71, Tryz.ntmps71
  go_wp2_with fail
  go_quiet ((first | (go_at_call 96; exact Calls.quiet_of (ttarget_any _ _ v0 v1 _)) | (go_at_call 93; exact quiet_left (set_any _ _ _ (by omega) (by omega) _))))
  go_wp2
  go_ret
  exact ⟨ret_int H.out, below_drewN ((Below.refl _ _).alloc (Nat.le_refl _) _) _⟩
theorem tvalid_any (d : Int) (d0 : 0 ≤ d) (d1 : d ≤ 18446744073709551615) (w : World) :
    Calls Tryz.prog 101 #[.int .u64 d] w fun r w' => r = .returned (.bool (bitI d 63 == 1)) ∧ ∃ n, w' = w.drewN n := by
  have H := Lib.hid (show getI d 63 1 = bitI d 63 from get1_bit d 63 (by omega) d0)
  go_enter Tryz.func101, Tryz.ntmps101
  go_wp2_with (go_at_call 87; refine (bit_any _ _ d0 d1 _).mono ?_; rintro e w' ⟨rfl, n, rfl⟩)
  go_ret
  exact ⟨ret_bool (by rw [H.out]), n, rfl⟩
theorem bad_ex : maskI 63 1 = 9223372036854775808 := by kernel_rfl
theorem tbad_any (w : World) :
    Calls Tryz.prog 36 #[] w fun r w' => r = .returned (.int .u64 9223372036854775807) ∧ w = w' := by
  have h := bad_ex
  go_enter Tryz.func36, Tryz.ntmps36
  go_wp2_with (go_at_call 63; refine (mask_any _ _ _).mono ?_; rintro e w' ⟨rfl, rfl⟩)
  go_ret
  exact ⟨rfl, rfl⟩
def Ent.holdsB (e : Ent) (va : Int) : Bool := e.valid && inB va e.va e.size
def Ent.hitsB (e : Ent) (va ctx : Int) : Bool := e.holdsB va && (e.att.global || e.ctx == ctx)
def Ent.frameI (e : Ent) (va : Int) : Int := if e.holdsB va then IntKind.u64.wrap (e.pa + offI va e.size) else 0
theorem tholds_any (e : Ent) (va : Int) (v0 : 0 ≤ e.va) (v1 : e.va ≤ 18446744073709551615) (x0 : 0 ≤ va) (x1 : va ≤ 18446744073709551615) (w : World) :
    Calls Tryz.prog 79 #[.agg #[.int .i64 e.size, .int .i64 e.ctx, .int .u64 e.va, .int .u64 e.pa, .bool e.att.write, .bool e.att.priv, .bool e.att.exec, .bool e.att.lock, .bool e.att.global, .bool e.att.quiet, .bool e.valid], .int .u64 va] w fun r w' => r = .returned (.bool (e.holdsB va)) ∧ Below w.heap.size w w' := by
  have H := Lib.hid (show e.holdsB va = (e.valid && inB va e.va e.size) from rfl)
  cases hv : e.valid
  · rw [hv] at H
    go_enter Tryz.func79, Tryz.ntmps79
    go_wp2
    go_ret
    exact ⟨ret_bool H.out.symm, (Below.refl _ _).alloc (Nat.le_refl _) _⟩
  · rw [hv] at H
    go_enter Tryz.func79, Tryz.ntmps79
    go_wp2_with (go_at_call 103; refine (in_any _ _ _ x0 x1 v0 v1 _).mono ?_; rintro e w' ⟨rfl, rfl⟩)
    go_ret
    exact ⟨ret_bool H.out.symm, (Below.refl _ _).alloc (Nat.le_refl _) _⟩
theorem thits_any (e : Ent) (va ctx : Int) (v0 : 0 ≤ e.va) (v1 : e.va ≤ 18446744073709551615) (x0 : 0 ≤ va) (x1 : va ≤ 18446744073709551615) (w : World) :
    Calls Tryz.prog 52 #[.agg #[.int .i64 e.size, .int .i64 e.ctx, .int .u64 e.va, .int .u64 e.pa, .bool e.att.write, .bool e.att.priv, .bool e.att.exec, .bool e.att.lock, .bool e.att.global, .bool e.att.quiet, .bool e.valid], .int .u64 va, .int .i64 ctx] w fun r w' => r = .returned (.bool (e.hitsB va ctx)) ∧ Below w.heap.size w w' := by
  have H := Lib.hid (show e.hitsB va ctx = (e.holdsB va && (e.att.global || e.ctx == ctx)) from rfl)
  go_enter Tryz.func52, Tryz.ntmps52
  go_wp2_with fail
  refine (tholds_any e _ v0 v1 x0 x1 _).mono ?_; rintro r w1 ⟨rfl, hb1⟩
  obtain ⟨hc, hf⟩ := bcell hb1
  have hz : w.heap.size < w1.heap.size := by have := hb1.size; simp at this; omega
  cases hh : e.holdsB va
  · rw [hh] at H
    go_wp2
    go_ret
    exact ⟨ret_bool H.out.symm, below_box hb1⟩
  · rw [hh] at H
    cases hg : e.att.global
    · rw [hg] at H
      go_wp2
      go_ret
      exact ⟨ret_bool H.out.symm, below_box hb1⟩
    · rw [hg] at H
      go_wp2
      go_ret
      exact ⟨ret_bool H.out.symm, below_box hb1⟩
end Go.Proofs.YtgdagfhdimoklaaGreat.Fld
/-
  Contracts of package tte's flags, putAttr and getAttr, and of Data. Conditions: words are below 2 to the 64.
-/
namespace Go.Proofs.YtgdagfhdimoklaaGreat.Fld
open Go.ChangeShapes Go.WideShapes Go.ChangeAt Go.RowKit
set_option maxHeartbeats 1000000
set_option maxRecDepth 100000
/-- Where the attributes stand, by the numbers of their bits: where they are kept in memory. -/
def flagAt (b : Nat) : Nat → Value
  | 0 => .pointer (some ⟨b, 4, none⟩)
  | 1 => .pointer (some ⟨b, 0, none⟩)
  | 2 => .pointer (some ⟨b, 1, none⟩)
  | 3 => .pointer (some ⟨b, 2, none⟩)
  | 6 => .pointer (some ⟨b, 3, none⟩)
  | 60 => .pointer (some ⟨b, 5, none⟩)
  | _ => .pointer none
def flagCells (b : Nat) : Array Value := ((List.range 61).map (flagAt b)).toArray
theorem flagCells_size (b : Nat) : (flagCells b).size = 61 := by simp [flagCells]
theorem flags_any (b : Nat) (w : World) :
    Calls Tryz.prog 108 #[.pointer (some ⟨b, 0, none⟩)] w fun r w' => r = .returned (.agg (flagCells b)) ∧ Below w.heap.size w w' := by
  go_enter Tryz.func108, Tryz.ntmps108
  go_wp2_with fail
  obtain ⟨W, hW⟩ : ∃ W, W = w.alloc (.cells (Array.replicate 61 (.pointer none)) 124) := ⟨_, rfl⟩
  have hg := Lib.hid (show W.heap[w.heap.size]? = some (.cells (Array.replicate 61 (.pointer none)) 124 (0, 0)) by rw [hW]; exact heap_alloc_new _ _)
  have hb := Lib.hid (show Below w.heap.size w W by rw [hW]; exact (Below.refl _ _).alloc (Nat.le_refl _) _)
  change Code.wp _ _ _ _ (w.alloc (.cells (Array.replicate 61 (.pointer none)) 124))
  rw [← hW]
  clear hW
  go_still_tail 25, (by kernel_rfl)
  refine wpList_plain rfl (fun K hK => wp_store_row 124 _ _ rfl w.heap.size (flagCells b) rfl (by kernel_rfl) 124 _ (show W.heap[w.heap.size]? = _ from hg.out) (by kernel_rfl) (by simp [flagCells_size]) (by kernel_rfl) (hK _ _ ?_))
  change wpList _ _ _ _ _ (W.drew.setRow w.heap.size (flagCells b))
  have hb2 := Lib.hid (below_setRow (g := w.heap.size) hb.out.drew (Nat.le_refl _) (flagCells b))
  have hg2 := Lib.hid (setRow_heap W.drew w.heap.size _ (flagCells b) 124 _ hg.out)
  generalize W.drew.setRow w.heap.size (flagCells b) = W2 at hb2 hg2 ⊢
  go_wp2
  refine bodyPost_ret (v := .agg (flagCells b)) ?_ rfl ⟨rfl, hb2.out⟩
  exact results_cell_row rfl _ _ w.heap.size 124 (flagCells b) (0, 0) _ rfl hg2.out Tryz.underlying124 (by kernel_rfl) (by kernel_rfl)
end Go.Proofs.YtgdagfhdimoklaaGreat.Fld
/-
  Contracts of package tte's putAttr, and of Data. Conditions: words are below 2 to the 64.
-/
namespace Go.Proofs.YtgdagfhdimoklaaGreat.Fld
open Go.ChangeShapes Go.WideShapes Go.ChangeAt Go.RowKit
set_option maxHeartbeats 1000000
set_option maxRecDepth 100000
/-- The attribute at a bit's number: its place in memory, and its truth. -/
def attBit (a : Att) : Nat → Option (Nat × Bool)
  | 0 => some (4, a.global)
  | 1 => some (0, a.write)
  | 2 => some (1, a.priv)
  | 3 => some (2, a.exec)
  | 6 => some (3, a.lock)
  | 60 => some (5, a.quiet)
  | _ => none
def putUp (a : Att) (x : Int) : Nat → Int
  | 0 => x
  | k + 1 => match attBit a k with | some (_, v) => putI (putUp a x k) k 1 ((v.toNat : Nat) : Int) | none => putUp a x k
theorem putUp_bd (a : Att) (x : Int) (h0 : 0 ≤ x) (h1 : x ≤ 18446744073709551615) (k : Nat) : 0 ≤ putUp a x k ∧ putUp a x k ≤ 18446744073709551615 := by
  induction k with
  | zero => exact ⟨h0, h1⟩
  | succ k ih =>
    unfold putUp
    split
    · exact putI_bd _ _ _ _ ih.1 ih.2
    · exact ih
theorem flagCells_at (b k : Nat) (h : k < 61) : (flagCells b)[k]? = some (flagAt b k) := by
  simp [flagCells, h]
theorem att_cases (a : Att) (b k : Nat) : (flagAt b k = .pointer none ∧ attBit a k = none) ∨ ∃ o v, o < 6 ∧ flagAt b k = .pointer (some ⟨b, o, none⟩) ∧ attBit a k = some (o, v) ∧ (#[Value.bool a.write, .bool a.priv, .bool a.exec, .bool a.lock, .bool a.global, .bool a.quiet])[o]? = some (.bool v) := by
  unfold flagAt attBit
  split
  · exact .inr ⟨4, a.global, by omega, rfl, rfl, rfl⟩
  · exact .inr ⟨0, a.write, by omega, rfl, rfl, rfl⟩
  · exact .inr ⟨1, a.priv, by omega, rfl, rfl, rfl⟩
  · exact .inr ⟨2, a.exec, by omega, rfl, rfl, rfl⟩
  · exact .inr ⟨3, a.lock, by omega, rfl, rfl, rfl⟩
  · exact .inr ⟨5, a.quiet, by omega, rfl, rfl, rfl⟩
  · exact .inl ⟨rfl, by first | rfl | (split <;> simp_all)⟩
theorem extract_one {α : Type} (xs : Array α) (k : Nat) (v : α) (h : xs[k]? = some v) : xs.extract k (k + 1) = #[v] := by
  obtain ⟨hk, hv⟩ := Array.getElem?_eq_some_iff.1 h
  apply Array.ext
  · simp; omega
  · intro i h1 h2
    simp at h2
    subst h2
    simp [hv]
theorem run_index_flag (b k : Nat) (h : k < 61) (v : Value) (hv : (flagCells b)[k]? = some v) (W : World) :
    Sem.run Tryz.prog (Instr.index 124 (.agg (flagCells b)) (.int .i64 (k : Int))) W = .ok (.agg #[v]) W := by
  have hs := flagCells_size b
  have h1 : (k : Int) < 61 := by omega
  unfold Instr.index
  go_simp
  exact extract_one _ _ _ hv
theorem putattr_any (x : Int) (a : Att) (x0 : 0 ≤ x) (x1 : x ≤ 18446744073709551615) (w : World) :
    Calls Tryz.prog 95 #[.int .u64 x, .agg #[.bool a.write, .bool a.priv, .bool a.exec, .bool a.lock, .bool a.global, .bool a.quiet]] w fun r w' => r = .returned (.int .u64 (putUp a x 61)) ∧ Below w.heap.size w w' := by
  go_enter Tryz.func95, Tryz.ntmps95
  go_wp2_with fail
  refine (flags_any _ _).mono ?_; rintro r w1 ⟨rfl, hb1⟩
  obtain ⟨hc, hf⟩ := bcell hb1
  have hz : w.heap.size < w1.heap.size := by have := hb1.size; simp at this; omega
  have hs := Lib.hid (flagCells_size w.heap.size)
  have ha0 := hc w.heap.size 0 (by simp)
  have hblk := Lib.hid (show w1.heap[w.heap.size]? = some (.cells #[Value.bool a.write, .bool a.priv, .bool a.exec, .bool a.lock, .bool a.global, .bool a.quiet] 33 (0, 0)) from (hb1.block _ (by simp)).trans (heap_alloc_new _ _))
  have hbw := Lib.hid (below_box hb1)
  clear hb1 hc hf ha0
  go_wp2
  go_loopw [0, 8] (fun d i wr => ∃ k : Nat, k ≤ 61 ∧ i = .int .i64 (k : Int) ∧ d = .int .u64 (putUp a x k) ∧ Hid (Below w1.heap.size w1 wr)) (fun _ i _ => 61 - (intOf i).toNat)
  case atStart => exact ⟨0, by omega, rfl, rfl, Below.refl _ _⟩
  case round =>
    obtain ⟨k, hk, rfl, rfl, hbl⟩ := hrel
    have hp := putUp_bd a x x0 x1 k
    by_cases hlt : k < 61
    · have hat := run_index_flag w.heap.size k hlt _ (flagCells_at w.heap.size k hlt)
      have hlt' : (k : Int) < 61 := by omega
      rcases att_cases a w.heap.size k with ⟨h1, h2⟩ | ⟨o, v, ho, h1, h2, h3⟩
      · have H2 := Lib.hid (show putUp a x (k + 1) = putUp a x k by rw [putUp, h2])
        rw [h1] at hat
        clear h1 h2
        go_wp2
        go_roundw
        case rel => exact ⟨k + 1, by omega, by go_num, by rw [H2.out], hbl.out.alloc hbl.out.size _⟩
        case measure => simp [intOf]; omega
      · have H2 := Lib.hid (show putUp a x (k + 1) = putI (putUp a x k) k 1 ((v.toNat : Nat) : Int) by rw [putUp, h2])
        have hcell : wr.cell? ⟨w.heap.size, o, none⟩ = some (.bool v) := by
          rw [hbl.out.cell (p := ⟨w.heap.size, o, none⟩) hz, cell_of_row _ _ _ _ _ _ hblk.out]; exact h3
        have hzr : w.heap.size < wr.heap.size := by have := hbl.out.size; omega
        rw [h1] at hat
        clear h1 h2 h3
        go_wp2_with fail
        refine (set_any _ _ _ (by omega) (by omega) _).mono ?_; rintro r w2 ⟨rfl, rfl⟩
        go_wp2
        go_roundw
        case rel => exact ⟨k + 1, by omega, by go_num, by rw [H2.out], hbl.out.alloc hbl.out.size _⟩
        case measure => simp [intOf]; omega
    · obtain rfl : k = 61 := by omega
      go_wp2
      go_ret
      exact ⟨rfl, hbw.out.trans (hbl.out.mono (by omega))⟩
end Go.Proofs.YtgdagfhdimoklaaGreat.Fld
/-
  The contract of package tte's Data. Conditions: words are below 2 to the 64.
-/
namespace Go.Proofs.YtgdagfhdimoklaaGreat.Fld
open Go.ChangeShapes Go.WideShapes Go.ChangeAt Go.RowKit
set_option maxHeartbeats 1000000
set_option maxRecDepth 100000
def Ent.dataB (e : Ent) : Int := putI (putI 9223372036854775808 61 2 (IntKind.u64.wrap e.size)) 13 28 (getI e.pa 13 28)
def putAll (a : Att) (x : Int) : Int := putUp a x 61
def Ent.dataG (e : Ent) : Int := if e.valid then putAll e.att e.dataB else 0
theorem putall_any (x : Int) (a : Att) (x0 : 0 ≤ x) (x1 : x ≤ 18446744073709551615) (w : World) :
    Calls Tryz.prog 95 #[.int .u64 x, .agg #[.bool a.write, .bool a.priv, .bool a.exec, .bool a.lock, .bool a.global, .bool a.quiet]] w fun r w' => r = .returned (.int .u64 (putAll a x)) ∧ Below w.heap.size w w' := putattr_any x a x0 x1 w
theorem Ent.dataB_bd (e : Ent) : 0 ≤ e.dataB ∧ e.dataB ≤ 18446744073709551615 := by
  have h2 := putI_bd 9223372036854775808 61 2 (IntKind.u64.wrap e.size) (by omega) (by omega)
  exact putI_bd _ 13 28 (getI e.pa 13 28) h2.1 h2.2
theorem Ent.dataG_bd (e : Ent) : 0 ≤ e.dataG ∧ e.dataG ≤ 18446744073709551615 := by
  unfold Ent.dataG
  split
  · exact putUp_bd _ _ (Ent.dataB_bd e).1 (Ent.dataB_bd e).2 61
  · omega
theorem put_bit (y : Int) (k : Nat) (P : Int) (b : Bool) (hk : k < 64) (hP : ((2 ^ k : Nat) : Int) = P) (y0 : 0 ≤ y) (y1 : y ≤ 18446744073709551615) : putI y k 1 ((b.toNat : Nat) : Int) = y - y / P % 2 * P + b2i b * P := by
  have hb := b2i_bd b
  rw [putI_at y k 1 _ P 2 (mayB_mk (by omega)) y0 y1 (by omega) (by simpa using hP) (by decide), b2i_nat, Int.emod_eq_of_lt hb.1 (by omega)]
theorem putUp_all (a : Att) (x : Int) : putUp a x 61 = putI (putI (putI (putI (putI (putI x (0 : Nat) 1 (a.global.toNat : Nat)) (1 : Nat) 1 (a.write.toNat : Nat)) (2 : Nat) 1 (a.priv.toNat : Nat)) (3 : Nat) 1 (a.exec.toNat : Nat)) (6 : Nat) 1 (a.lock.toNat : Nat)) (60 : Nat) 1 (a.quiet.toNat : Nat) := by
  simp only [putUp, attBit]
theorem putUp_att (a : Att) (x : Int) (x0 : 0 ≤ x) (x1 : x ≤ 18446744073709551615) (h0 : x % 16 = 0) (h6 : x / 64 % 2 = 0) (h60 : x / 1152921504606846976 % 2 = 0) : putUp a x 61 = x + Ent.attW a := by
  have b0 := b2i_bd a.global; have b1 := b2i_bd a.write; have b2 := b2i_bd a.priv; have b3 := b2i_bd a.exec; have b6 := b2i_bd a.lock; have b60 := b2i_bd a.quiet
  rw [putUp_all]
  have e0 : putI x (0 : Nat) 1 (a.global.toNat : Nat) = x + b2i a.global := by
    rw [put_bit x 0 1 _ (by omega) (by decide) x0 x1]; omega
  rw [e0]
  have e1 : putI (x + b2i a.global) (1 : Nat) 1 (a.write.toNat : Nat) = x + b2i a.global + b2i a.write * 2 := by
    rw [put_bit _ 1 2 _ (by omega) (by decide) (by omega) (by omega)]; omega
  rw [e1]
  have e2 : putI (x + b2i a.global + b2i a.write * 2) (2 : Nat) 1 (a.priv.toNat : Nat) = x + b2i a.global + b2i a.write * 2 + b2i a.priv * 4 := by
    rw [put_bit _ 2 4 _ (by omega) (by decide) (by omega) (by omega)]; omega
  rw [e2]
  have e3 : putI (x + b2i a.global + b2i a.write * 2 + b2i a.priv * 4) (3 : Nat) 1 (a.exec.toNat : Nat) = x + b2i a.global + b2i a.write * 2 + b2i a.priv * 4 + b2i a.exec * 8 := by
    rw [put_bit _ 3 8 _ (by omega) (by decide) (by omega) (by omega)]; omega
  rw [e3]
  have e6 : putI (x + b2i a.global + b2i a.write * 2 + b2i a.priv * 4 + b2i a.exec * 8) (6 : Nat) 1 (a.lock.toNat : Nat) = x + b2i a.global + b2i a.write * 2 + b2i a.priv * 4 + b2i a.exec * 8 + b2i a.lock * 64 := by
    rw [put_bit _ 6 64 _ (by omega) (by decide) (by omega) (by omega)]; omega
  rw [e6]
  rw [put_bit _ 60 1152921504606846976 _ (by omega) (by decide) (by omega) (by omega)]
  unfold Ent.attW
  omega
theorem Ent.dataB_fit {e : Ent} (h : e.Fit) : e.dataB = 9223372036854775808 + e.size * 2305843009213693952 + e.pa := by
  have s0 := h.s0; have s1 := h.s1; have p0 := h.p0; have p1 := h.p1; have p2 := h.p2
  have e1 : IntKind.u64.wrap e.size = e.size := IntWalk.u64_in _ ⟨by omega, by omega⟩
  unfold Ent.dataB
  rw [e1, putI_at _ 61 2 _ 2305843009213693952 4 (by decide) (by omega) (by omega) s0 (by decide) (by decide)]
  have g : getI e.pa 13 28 = e.pa / 8192 := by
    rw [getI_at _ 13 28 8192 268435456 (by decide) p0 (by decide) (by decide)]; omega
  rw [g, putI_at _ 13 28 _ 8192 268435456 (by decide) (by omega) (by omega) (by omega) (by decide) (by decide)]
  omega
theorem Ent.dataG_fit {e : Ent} (h : e.Fit) (hv : e.valid = true) : e.dataG = e.dataW := by
  have s0 := h.s0; have s1 := h.s1; have p0 := h.p0; have p1 := h.p1; have p2 := h.p2
  have hb := Ent.dataB_fit h
  have hbd := Ent.dataB_bd e
  unfold Ent.dataG Ent.dataW putAll
  rw [hv, if_pos rfl, putUp_att _ _ hbd.1 hbd.2 (by rw [hb]; omega) (by rw [hb]; omega) (by rw [hb]; omega), hb]
theorem Ent.dataG_none {e : Ent} (hv : e.valid = false) : e.dataG = 0 := by unfold Ent.dataG; rw [hv]; rfl
theorem put63 : putI 0 63 1 ((true.toNat : Nat) : Int) = 9223372036854775808 := by kernel_rfl
theorem set63 (w : World) : Calls Tryz.prog 93 #[.int .u64 0, .int .i64 63, .bool true] w fun e w' => e = .returned (.int .u64 9223372036854775808) ∧ w = w' :=
  (set_any 0 63 true (by omega) (by omega) w).mono fun _ _ h => ⟨h.1.trans (ret_int put63), h.2⟩
theorem tdata_no (e : Ent) (hv : e.valid = false) (w : World) :
    Calls Tryz.prog 70 #[.agg #[.int .i64 e.size, .int .i64 e.ctx, .int .u64 e.va, .int .u64 e.pa, .bool e.att.write, .bool e.att.priv, .bool e.att.exec, .bool e.att.lock, .bool e.att.global, .bool e.att.quiet, .bool e.valid]] w fun r w' => r = .returned (.int .u64 e.dataG) ∧ Below w.heap.size w w' := by
  have H := Lib.hid (Ent.dataG_none hv)
  go_enter Tryz.func70, Tryz.ntmps70
  go_wp2
  go_ret
  exact ⟨ret_int H.out.symm, (Below.refl _ _).alloc (Nat.le_refl _) _⟩
theorem tdata_yes (e : Ent) (hv : e.valid = true) (p0 : 0 ≤ e.pa) (p1 : e.pa ≤ 18446744073709551615) (d D2 D3 : Int) (hd : putAll e.att D3 = d) (hD2 : putI 9223372036854775808 61 2 (IntKind.u64.wrap e.size) = D2) (hD3 : putI D2 13 28 (getI e.pa 13 28) = D3) (w : World) :
    Calls Tryz.prog 70 #[.agg #[.int .i64 e.size, .int .i64 e.ctx, .int .u64 e.va, .int .u64 e.pa, .bool e.att.write, .bool e.att.priv, .bool e.att.exec, .bool e.att.lock, .bool e.att.global, .bool e.att.quiet, .bool e.valid]] w fun r w' => r = .returned (.int .u64 d) ∧ Below w.heap.size w w' := by
  have H := Lib.hid hd
  have h2 := putI_bd 9223372036854775808 61 2 (IntKind.u64.wrap e.size) (by omega) (by omega)
  rw [hD2] at h2
  have h3 := putI_bd D2 13 28 (getI e.pa 13 28) h2.1 h2.2
  rw [hD3] at h3
  have h4 := getI_bd e.pa 13 28
  have HD2 := Lib.hid hD2
  have HD3 := Lib.hid hD3
  clear hD2 hD3 hd
  obtain ⟨u0, u1, _⟩ := wrap_u64 e.size
  go_enter Tryz.func70, Tryz.ntmps70
  go_wp2_with fail
  refine (set63 _).mono ?_; rintro r w2 ⟨rfl, rfl⟩
  go_wp2_with fail
  refine (put_any _ _ _ _ (by omega) (by omega) u0 u1 _).mono ?_; rintro r w2 ⟨rfl, rfl⟩
  rw [HD2.out]
  go_wp2_with fail
  refine (get_any _ _ _ p0 p1 _).mono ?_; rintro r w2 ⟨rfl, n, rfl⟩
  go_wp2_with fail
  refine (put_any _ _ _ _ h2.1 h2.2 h4.1 h4.2 _).mono ?_; rintro r w2 ⟨rfl, rfl⟩
  rw [HD3.out]
  go_wp2_with fail
  refine (putall_any _ e.att h3.1 h3.2 _).mono ?_; rintro r w2 ⟨rfl, hb⟩
  go_wp2_with fail
  go_ret
  exact ⟨ret_int H.out, (below_drewN ((Below.refl _ _).alloc (Nat.le_refl _) _) _).trans (hb.mono (by simp))⟩
theorem tdata_any (e : Ent) (p0 : 0 ≤ e.pa) (p1 : e.pa ≤ 18446744073709551615) (w : World) :
    Calls Tryz.prog 70 #[.agg #[.int .i64 e.size, .int .i64 e.ctx, .int .u64 e.va, .int .u64 e.pa, .bool e.att.write, .bool e.att.priv, .bool e.att.exec, .bool e.att.lock, .bool e.att.global, .bool e.att.quiet, .bool e.valid]] w fun r w' => r = .returned (.int .u64 e.dataG) ∧ Below w.heap.size w w' := by
  cases hv : e.valid
  · have := tdata_no e hv w; rwa [hv] at this
  · have := tdata_yes e hv p0 p1 e.dataG _ _ (by unfold Ent.dataG Ent.dataB; rw [hv, if_pos rfl]) rfl rfl w; rwa [hv] at this
end Go.Proofs.YtgdagfhdimoklaaGreat.Fld
/-
  Contracts of the document's own answers of layer 3 that compute. Conditions: words are below 2 to the 64.
-/
namespace Go.Proofs.YtgdagfhdimoklaaGreat.Fld
open Go.ChangeShapes Go.WideShapes Go.ChangeAt Go.RowKit
set_option maxHeartbeats 1000000
set_option maxRecDepth 100000
/-- A truth at a place. -/
def pwI (b : Bool) (k : Nat) : Int := b2i b * ((2 ^ k : Nat) : Int)
theorem pwI_zero (b : Bool) : pwI b 0 = b2i b := by simp [pwI]
theorem pwI_succ (b : Bool) (k : Nat) : 2 * pwI b k = pwI b (k + 1) := by
  unfold pwI; rw [Nat.pow_succ, Int.natCast_mul, show ((2 : Nat) : Int) = 2 from rfl]
  generalize ((2 ^ k : Nat) : Int) = z
  cases b <;> simp [b2i]; omega
theorem pwI_bd (b : Bool) (k : Nat) (h : k ≤ 63) : 0 ≤ pwI b k ∧ pwI b k ≤ 9223372036854775808 := by
  have hp : 2 ^ k ≤ 9223372036854775808 := Nat.le_trans (Nat.pow_le_pow_right (by decide) h) (by decide)
  unfold pwI
  generalize 2 ^ k = z at *
  have hb := b2i_bd b
  have : b2i b = 0 ∨ b2i b = 1 := by omega
  rcases this with e | e <;> rw [e] <;> omega
theorem rbitp_any (b : Bool) (k : Nat) (h : k ≤ 63) (w : World) :
    Calls Tryz.prog 97 #[.bool b, .int .i64 (k : Int)] w fun r w' => r = .returned (.int .u64 (pwI b k)) ∧ w = w' := by
  cases b
  all_goals
    go_enter Tryz.func97, Tryz.ntmps97
    go_wp2
  · go_loop [5, 6] (fun n i => ∃ j : Nat, j ≤ k ∧ i = .int .i64 (j : Int) ∧ n = .int .u64 (pwI false j)) (fun _ i => k - (intOf i).toNat)
    case atStart => exact ⟨0, by omega, rfl, rfl⟩
    case round =>
      obtain ⟨j, hj, rfl, rfl⟩ := hrel
      have hb := pwI_bd false j (by omega)
      by_cases hlt : j < k
      · have hb' := pwI_bd false (j + 1) (by omega)
        have hs := Lib.hid (pwI_succ false j)
        have hq : pwI false j * 2 ≤ 9223372036854775808 := by have := hs.out; omega
        have hlt' : (j : Int) < (k : Int) := by omega
        go_wp2
        go_round
        case rel => exact ⟨j + 1, by omega, by go_num, by rw [← hs.out]⟩
        case measure => simp [intOf]; omega
      · obtain rfl : j = k := by omega
        go_wp2
        go_ret
        exact ⟨rfl, rfl⟩
  · go_loop [5, 6] (fun n i => ∃ j : Nat, j ≤ k ∧ i = .int .i64 (j : Int) ∧ n = .int .u64 (pwI true j)) (fun _ i => k - (intOf i).toNat)
    case atStart => exact ⟨0, by omega, rfl, rfl⟩
    case round =>
      obtain ⟨j, hj, rfl, rfl⟩ := hrel
      have hb := pwI_bd true j (by omega)
      by_cases hlt : j < k
      · have hb' := pwI_bd true (j + 1) (by omega)
        have hs := Lib.hid (pwI_succ true j)
        have hq : pwI true j * 2 ≤ 9223372036854775808 := by have := hs.out; omega
        have hlt' : (j : Int) < (k : Int) := by omega
        go_wp2
        go_round
        case rel => exact ⟨j + 1, by omega, by go_num, by rw [← hs.out]⟩
        case measure => simp [intOf]; omega
      · obtain rfl : j = k := by omega
        go_wp2
        go_ret
        exact ⟨rfl, rfl⟩
/-- The same, at a place's number as the text has it. -/
theorem rbit_at (b : Bool) (p : Int) (k : Nat) (hk : (k : Int) = p) (P : Int) (hP : ((2 ^ k : Nat) : Int) = P) (h : k ≤ 63) (w : World) :
    Calls Tryz.prog 97 #[.bool b, .int .i64 p] w fun r w' => r = .returned (.int .u64 (b2i b * P)) ∧ w = w' := by
  have := rbitp_any b k h w
  unfold pwI at this
  rw [hP, hk] at this
  exact this
theorem rb63 (b : Bool) (w : World) : Calls Tryz.prog 97 #[.bool b, .int .i64 63] w fun r w' => r = .returned (.int .u64 (b2i b * 9223372036854775808)) ∧ w = w' := rbit_at b 63 63 rfl _ (by decide) (by omega) w
theorem rb61 (b : Bool) (w : World) : Calls Tryz.prog 97 #[.bool b, .int .i64 61] w fun r w' => r = .returned (.int .u64 (b2i b * 2305843009213693952)) ∧ w = w' := rbit_at b 61 61 rfl _ (by decide) (by omega) w
theorem rb60 (b : Bool) (w : World) : Calls Tryz.prog 97 #[.bool b, .int .i64 60] w fun r w' => r = .returned (.int .u64 (b2i b * 1152921504606846976)) ∧ w = w' := rbit_at b 60 60 rfl _ (by decide) (by omega) w
theorem rb6 (b : Bool) (w : World) : Calls Tryz.prog 97 #[.bool b, .int .i64 6] w fun r w' => r = .returned (.int .u64 (b2i b * 64)) ∧ w = w' := rbit_at b 6 6 rfl _ (by decide) (by omega) w
theorem rb3 (b : Bool) (w : World) : Calls Tryz.prog 97 #[.bool b, .int .i64 3] w fun r w' => r = .returned (.int .u64 (b2i b * 8)) ∧ w = w' := rbit_at b 3 3 rfl _ (by decide) (by omega) w
theorem rb2 (b : Bool) (w : World) : Calls Tryz.prog 97 #[.bool b, .int .i64 2] w fun r w' => r = .returned (.int .u64 (b2i b * 4)) ∧ w = w' := rbit_at b 2 2 rfl _ (by decide) (by omega) w
theorem rb1 (b : Bool) (w : World) : Calls Tryz.prog 97 #[.bool b, .int .i64 1] w fun r w' => r = .returned (.int .u64 (b2i b * 2)) ∧ w = w' := rbit_at b 1 1 rfl _ (by decide) (by omega) w
theorem rb0 (b : Bool) (w : World) : Calls Tryz.prog 97 #[.bool b, .int .i64 0] w fun r w' => r = .returned (.int .u64 (b2i b * 1)) ∧ w = w' := rbit_at b 0 0 rfl _ (by decide) (by omega) w
end Go.Proofs.YtgdagfhdimoklaaGreat.Fld
/-
  An entry that comes in as an argument: its value, its datum, and both read in another world. Conditions: none.
-/
namespace Go.Proofs.YtgdagfhdimoklaaGreat.Fld
open Go.ChangeShapes Go.WideShapes Go.ChangeAt Go.RowKit
set_option maxHeartbeats 1000000
set_option maxRecDepth 100000
def Ent.lits (e : Ent) : Prop := (Lit.int .i64 e.size).wf = true ∧ (Lit.int .i64 e.ctx).wf = true ∧ (Lit.int .u64 e.va).wf = true ∧ (Lit.int .u64 e.pa).wf = true
def Ent.datum {H : Type} (e : Ent) : DataW H :=
  .agg [.lit (.int .i64 e.size), .lit (.int .i64 e.ctx), .lit (.int .u64 e.va), .lit (.int .u64 e.pa), .agg [.lit (.bool e.att.write), .lit (.bool e.att.priv), .lit (.bool e.att.exec), .lit (.bool e.att.lock), .lit (.bool e.att.global), .lit (.bool e.att.quiet)], .lit (.bool e.valid)]
theorem Ent.lits_wf {e : Ent} (h : e.lits) : e.wf := by
  obtain ⟨h1, h2, h3, h4⟩ := h
  exact ⟨bounds_i64 h1, bounds_i64 h2, bounds_u64 h3, bounds_u64 h4⟩
section
variable {H : Type} {enc : TypeId × Value → H} {w : World} {base : Nat} {spare : Nat → Bool} {held : Bool}
theorem trod_bool_at {t : TypeId} {b : Bool} (ht : Tryz.prog.underlying t = some .bool) (n : Nat) : DataW.trod enc Tryz.prog w base spare held (n + 1) t [.bool b] = some (.lit (.bool b), []) := by
  unfold DataW.trod; rw [ht]
theorem cells_attr : Tryz.prog.cellsOf 33 = 6 := by kernel_rfl
theorem cells_entry : Tryz.prog.cellsOf 35 = 11 := by kernel_rfl
theorem cells_int : Tryz.prog.cellsOf 3 = 1 := by kernel_rfl
theorem cells_u64 : Tryz.prog.cellsOf 31 = 1 := by kernel_rfl
theorem cells_bool : Tryz.prog.cellsOf 4 = 1 := by kernel_rfl
theorem attr_at (a : Att) (n : Nat) : DataW.trod enc Tryz.prog w base spare held (n + 2) 33 [.bool a.write, .bool a.priv, .bool a.exec, .bool a.lock, .bool a.global, .bool a.quiet] = some (.agg [.lit (.bool a.write), .lit (.bool a.priv), .lit (.bool a.exec), .lit (.bool a.lock), .lit (.bool a.global), .lit (.bool a.quiet)], []) := by
  have := trod_struct_mk (enc := enc) (w := w) (base := base) (spare := spare) (held := held) (n := n + 1) (cs := [.bool a.write, .bool a.priv, .bool a.exec, .bool a.lock, .bool a.global, .bool a.quiet])
    (xs := [(.lit (.bool a.write), []), (.lit (.bool a.priv), []), (.lit (.bool a.exec), []), (.lit (.bool a.lock), []), (.lit (.bool a.global), []), (.lit (.bool a.quiet), [])]) Tryz.underlying33 (by rw [cells_attr]; rfl) (by simp [cells_bool, trod_bool_at Tryz.underlying4])
  simpa using this
theorem shut_entry {e : Ent} (h : e.lits) : DataW.Trod enc Tryz.prog w base spare held 35 (.agg #[.int .i64 e.size, .int .i64 e.ctx, .int .u64 e.va, .int .u64 e.pa, .bool e.att.write, .bool e.att.priv, .bool e.att.exec, .bool e.att.lock, .bool e.att.global, .bool e.att.quiet, .bool e.valid]) e.datum [] := by
  obtain ⟨h1, h2, h3, h4⟩ := h
  refine ⟨3, ?_⟩
  have := trod_struct_mk (enc := enc) (w := w) (base := base) (spare := spare) (held := held) (n := 2) (cs := [.int .i64 e.size, .int .i64 e.ctx, .int .u64 e.va, .int .u64 e.pa, .bool e.att.write, .bool e.att.priv, .bool e.att.exec, .bool e.att.lock, .bool e.att.global, .bool e.att.quiet, .bool e.valid])
    (xs := [(.lit (.int .i64 e.size), []), (.lit (.int .i64 e.ctx), []), (.lit (.int .u64 e.va), []), (.lit (.int .u64 e.pa), []), (.agg [.lit (.bool e.att.write), .lit (.bool e.att.priv), .lit (.bool e.att.exec), .lit (.bool e.att.lock), .lit (.bool e.att.global), .lit (.bool e.att.quiet)], []), (.lit (.bool e.valid), [])]) Tryz.underlying35 (by rw [cells_entry]; rfl)
    (by simp [cells_int, cells_u64, cells_bool, cells_attr, trod_bool_at Tryz.underlying4, trod_int_mk 1 Tryz.underlying3 h1, trod_int_mk 1 Tryz.underlying3 h2, trod_int_mk 1 Tryz.underlying31 h3, trod_int_mk 1 Tryz.underlying31 h4, attr_at e.att 0])
  simpa [Value.cells, Ent.datum] using this
theorem open_entry {r : Reach} {b0 : Nat} {v : Value} {d : DataW H} {p : List MemPlace} (hv : Value.okWide Tryz.prog w r b0 35 v) (h : DataW.Trod enc Tryz.prog w base spare held 35 v d p) :
    ∃ e : Ent, v = .agg #[.int .i64 e.size, .int .i64 e.ctx, .int .u64 e.va, .int .u64 e.pa, .bool e.att.write, .bool e.att.priv, .bool e.att.exec, .bool e.att.lock, .bool e.att.global, .bool e.att.quiet, .bool e.valid] ∧ d = e.datum ∧ p = [] ∧ e.lits := by
  obtain ⟨cs, rfl, hsz⟩ := okWide_struct Tryz.underlying35 hv
  obtain ⟨l⟩ := cs
  match l, hsz.trans cells_entry with
  | [c0, c1, c2, c3, c4, c5, c6, c7, c8, c9, c10], _ =>
    obtain ⟨fuel, hf⟩ := h
    obtain ⟨xs, n, _, hx, _, hlen, hg⟩ := DataW.trod_struct Tryz.underlying35 hf
    match xs, hlen with
    | [y0, y1, y2, y3, y4, y5], _ =>
      have g0 : DataW.trod enc Tryz.prog w base spare held n 3 [c0] = some y0 := by simpa [Value.cells, cells_int] using hg 0 _ rfl
      have g1 : DataW.trod enc Tryz.prog w base spare held n 3 [c1] = some y1 := by simpa [Value.cells, cells_int] using hg 1 _ rfl
      have g2 : DataW.trod enc Tryz.prog w base spare held n 31 [c2] = some y2 := by simpa [Value.cells, cells_u64] using hg 2 _ rfl
      have g3 : DataW.trod enc Tryz.prog w base spare held n 31 [c3] = some y3 := by simpa [Value.cells, cells_u64] using hg 3 _ rfl
      have g4 : DataW.trod enc Tryz.prog w base spare held n 33 [c4, c5, c6, c7, c8, c9] = some y4 := by simpa [Value.cells, cells_attr] using hg 4 _ rfl
      have g5 : DataW.trod enc Tryz.prog w base spare held n 4 [c10] = some y5 := by simpa [Value.cells, cells_bool] using hg 5 _ rfl
      obtain ⟨a0, q0, z0, w0⟩ := DataW.trod_int Tryz.underlying3 g0
      obtain ⟨a1, q1, z1, w1⟩ := DataW.trod_int Tryz.underlying3 g1
      obtain ⟨a2, q2, z2, w2⟩ := DataW.trod_int Tryz.underlying31 g2
      obtain ⟨a3, q3, z3, w3⟩ := DataW.trod_int Tryz.underlying31 g3
      obtain ⟨a5, q5, z5⟩ := DataW.trod_bool Tryz.underlying4 g5
      obtain ⟨us, m, _, hu, _, hul, hh⟩ := DataW.trod_struct Tryz.underlying33 g4
      match us, hul with
      | [u0, u1, u2, u3, u4, u5], _ =>
        have f0 : DataW.trod enc Tryz.prog w base spare held m 4 [c4] = some u0 := by simpa [cells_bool] using hh 0 _ rfl
        have f1 : DataW.trod enc Tryz.prog w base spare held m 4 [c5] = some u1 := by simpa [cells_bool] using hh 1 _ rfl
        have f2 : DataW.trod enc Tryz.prog w base spare held m 4 [c6] = some u2 := by simpa [cells_bool] using hh 2 _ rfl
        have f3 : DataW.trod enc Tryz.prog w base spare held m 4 [c7] = some u3 := by simpa [cells_bool] using hh 3 _ rfl
        have f4 : DataW.trod enc Tryz.prog w base spare held m 4 [c8] = some u4 := by simpa [cells_bool] using hh 4 _ rfl
        have f5 : DataW.trod enc Tryz.prog w base spare held m 4 [c9] = some u5 := by simpa [cells_bool] using hh 5 _ rfl
        obtain ⟨b0, r0, s0⟩ := DataW.trod_bool Tryz.underlying4 f0
        obtain ⟨b1, r1, s1⟩ := DataW.trod_bool Tryz.underlying4 f1
        obtain ⟨b2, r2, s2⟩ := DataW.trod_bool Tryz.underlying4 f2
        obtain ⟨b3, r3, s3⟩ := DataW.trod_bool Tryz.underlying4 f3
        obtain ⟨b4, r4, s4⟩ := DataW.trod_bool Tryz.underlying4 f4
        obtain ⟨b5, r5, s5⟩ := DataW.trod_bool Tryz.underlying4 f5
        simp only [List.cons.injEq, and_true] at q0 q1 q2 q3 q5 r0 r1 r2 r3 r4 r5
        subst q0 q1 q2 q3 q5 r0 r1 r2 r3 r4 r5 s0 s1 s2 s3 s4 s5 z0 z1 z2 z3 z5 hu
        refine ⟨⟨a0, a1, a2, a3, ⟨b0, b1, b2, b3, b4, b5⟩, a5⟩, rfl, ?_, ?_, ⟨w0, w1, w2, w3⟩⟩
        · simp only [Prod.mk.injEq] at hx; rw [hx.1]; rfl
        · simp only [Prod.mk.injEq] at hx; rw [hx.2]; rfl
end
end Go.Proofs.YtgdagfhdimoklaaGreat.Fld
/-
  The contract of the example that every law of layer 3 asks for at its end. Conditions: none.
-/
namespace Go.Proofs.YtgdagfhdimoklaaGreat.Fld
open Go.ChangeShapes Go.WideShapes Go.ChangeAt Go.RowKit
set_option maxHeartbeats 1000000
set_option maxRecDepth 100000
def exE : Ent := ⟨0, 1, 8192, 16384, ⟨true, false, false, false, false, false⟩, true⟩
theorem exE_may : exE.mayB = true := by kernel_rfl
theorem exE_tag : exE.tagG = 281474976710656 := by kernel_rfl
theorem exE_data : exE.dataG = 9223372036854792194 := (Ent.dataG_fit (Ent.fit exE_may (by decide)) rfl).trans (by kernel_rfl)
end Go.Proofs.YtgdagfhdimoklaaGreat.Fld
/-
  Contracts of the document's own Tag, Data, Target, May, Hits and Frame of layer 3. Conditions: words are below 2 to the 64; Tag and Data of an entry whose numbers fit.
-/
namespace Go.Proofs.YtgdagfhdimoklaaGreat.Fld
open Go.ChangeShapes Go.WideShapes Go.ChangeAt Go.RowKit
set_option maxHeartbeats 1000000
set_option maxRecDepth 100000
theorem u64_mod (x : Int) : IntKind.u64.wrap x = x % 18446744073709551616 := by simp [IntKind.wrap, IntKind.signed, IntKind.bits]
def placeI (b : Bool) (p : Int) : Int := b2i b * ((2 ^ p.toNat : Nat) : Int)
theorem rplace_any (b : Bool) (p : Int) (h0 : 0 ≤ p) (h1 : p ≤ 63) (w : World) :
    Calls Tryz.prog 97 #[.bool b, .int .i64 p] w fun r w' => r = .returned (.int .u64 (placeI b p)) ∧ w = w' :=
  rbit_at b p p.toNat (by omega) _ rfl (by omega) w
theorem place_at (b : Bool) (p P : Int) (h : ((2 ^ p.toNat : Nat) : Int) = P) : placeI b p = b2i b * P := by unfold placeI; rw [h]
theorem place_true (p P : Int) (h : ((2 ^ p.toNat : Nat) : Int) = P) : placeI true p = P := by rw [place_at _ _ _ h, show b2i true = 1 from rfl, Int.one_mul]
theorem rtage_any (e : Ent) (h : e.Fit) (v0 : 0 ≤ e.va) (v1 : e.va ≤ 18446744073709551615) (w : World) :
    Calls Tryz.prog 72 #[.agg #[.int .i64 e.size, .int .i64 e.ctx, .int .u64 e.va, .int .u64 e.pa, .bool e.att.write, .bool e.att.priv, .bool e.att.exec, .bool e.att.lock, .bool e.att.global, .bool e.att.quiet, .bool e.valid]] w fun r w' => r = .returned (.int .u64 e.tagW) ∧ Below w.heap.size w w' := by
  have c0 := h.c0
  have c1 := h.c1
  have ht := tag_bd e.va
  have hb := b2i_bd e.att.global
  have H := Lib.hid (show e.tagW = b2i e.att.global * 9223372036854775808 + e.ctx * 281474976710656 + tagI e.va from rfl)
  clear h
  go_enter Tryz.func72, Tryz.ntmps72
  go_wp2_with fail
  go_quiet ((first | (go_at_call 97; exact quiet_left (rb63 _ _)) | (go_at_call 98; exact quiet_left (rtag_any _ v0 v1 _))))
  go_wp2
  go_ret
  refine ⟨ret_int ?_, below_drewN ((Below.refl _ _).alloc (Nat.le_refl _) _) _⟩
  rw [H.out]
theorem rdata_any (e : Ent) (h : e.Fit) (w : World) :
    Calls Tryz.prog 73 #[.agg #[.int .i64 e.size, .int .i64 e.ctx, .int .u64 e.va, .int .u64 e.pa, .bool e.att.write, .bool e.att.priv, .bool e.att.exec, .bool e.att.lock, .bool e.att.global, .bool e.att.quiet, .bool e.valid]] w fun r w' => r = .returned (.int .u64 e.dataW) ∧ Below w.heap.size w w' := by
  have g1 := b2i_bd e.att.quiet; have g2 := b2i_bd e.att.lock; have g3 := b2i_bd e.att.exec; have g4 := b2i_bd e.att.priv; have g5 := b2i_bd e.att.write; have g6 := b2i_bd e.att.global
  have h2 := h.s0; have h3 := h.s1; have h4 := h.p0; have h5 := h.p1
  have p63 := place_true 63 9223372036854775808 (by decide)
  have p61 := place_true 61 2305843009213693952 (by decide)
  have p60 := place_at e.att.quiet 60 1152921504606846976 (by decide)
  have p6 := place_at e.att.lock 6 64 (by decide)
  have p3 := place_at e.att.exec 3 8 (by decide)
  have p2 := place_at e.att.priv 2 4 (by decide)
  have p1 := place_at e.att.write 1 2 (by decide)
  have p0 := place_at e.att.global 0 1 (by decide)
  have H := Lib.hid (show e.dataW = 9223372036854775808 + e.size * 2305843009213693952 + e.pa + (b2i e.att.quiet * 1152921504606846976 + b2i e.att.lock * 64 + b2i e.att.exec * 8 + b2i e.att.priv * 4 + b2i e.att.write * 2 + b2i e.att.global) from rfl)
  clear h
  go_enter Tryz.func73, Tryz.ntmps73
  go_wp2_with fail
  go_quiet ((go_at_call 97; exact quiet_left (rplace_any _ _ (by decide) (by decide) _)))
  go_wp2_with fail
  obtain ⟨N, hN⟩ : ∃ N, 9223372036854775808 + e.size * 2305843009213693952 + b2i e.att.quiet * 1152921504606846976 + e.pa = N := ⟨_, rfl⟩
  rw [hN]
  have hN0 : 0 ≤ N := by omega
  have hN1 : N ≤ 18446744073709551000 := by omega
  have HN := Lib.hid hN
  clear hN
  obtain ⟨W, hW⟩ : ∃ W, W = (((w.alloc (.cells #[.int .i64 e.size, .int .i64 e.ctx, .int .u64 e.va, .int .u64 e.pa, .bool e.att.write, .bool e.att.priv, .bool e.att.exec, .bool e.att.lock, .bool e.att.global, .bool e.att.quiet, .bool e.valid] 35)).alloc (.cells #[.bool e.att.write, .bool e.att.priv, .bool e.att.exec, .bool e.att.lock, .bool e.att.global, .bool e.att.quiet] 33)).drewN nq) := ⟨_, rfl⟩
  rw [← hW]
  have hr : W.heap[w.heap.size + 1]? = some (.cells #[.bool e.att.write, .bool e.att.priv, .bool e.att.exec, .bool e.att.lock, .bool e.att.global, .bool e.att.quiet] 33 (0, 0)) := by rw [hW]; exact heap_alloc2_new _ _ _
  have HB := Lib.hid (show Below w.heap.size w W by rw [hW]; exact below_drewN (((Below.refl _ _).alloc (Nat.le_refl _) _).alloc (by simp) _) _)
  clear hW
  have r0 := cell_of_row _ _ 0 _ _ _ hr
  have r1 := cell_of_row _ _ 1 _ _ _ hr
  have r2 := cell_of_row _ _ 2 _ _ _ hr
  have r3 := cell_of_row _ _ 3 _ _ _ hr
  have r4 := cell_of_row _ _ 4 _ _ _ hr
  clear hr g1 h2 h3 h4 h5

  go_quiet ((go_at_call 97; exact quiet_left (rplace_any _ _ (by decide) (by decide) _)))
  go_wp2
  go_ret
  exact ⟨ret_int (by have h1 := H.out; have h2 := HN.out; omega), below_drewN HB.out _⟩
end Go.Proofs.YtgdagfhdimoklaaGreat.Fld
/-
  The contract of the document's own Good of layer 3: an entry that may be, made of any. Conditions: numbers are what Go's types hold.
-/
namespace Go.Proofs.YtgdagfhdimoklaaGreat.Fld
open Go.ChangeShapes Go.WideShapes Go.ChangeAt Go.RowKit
set_option maxHeartbeats 2000000
set_option maxRecDepth 100000
def absI (a : Int) : Int := if a < 0 then -(a + 1) else a
theorem absI_neg {a : Int} (h : a < 0) : -(a + 1) = absI a := by unfold absI; rw [if_pos h]
theorem absI_pos {a : Int} (h : ¬ a < 0) : a = absI a := by unfold absI; rw [if_neg h]
theorem absI_bd (a : Int) (h0 : -9223372036854775808 ≤ a) (h1 : a ≤ 9223372036854775807) : 0 ≤ absI a ∧ absI a ≤ 9223372036854775807 := by unfold absI; split <;> omega
theorem abs_nrm (a m : Int) : absI a % m = nrm a m := by
  unfold absI nrm
  split
  · rw [show -(a + 1).tmod m = (-(a + 1)).tmod m from (Int.neg_tmod _ _).symm, Int.tmod_eq_emod_of_nonneg (by omega)]
  · rfl
theorem below_setN {B b o : Nat} {w w' : World} {u : Value} (h : Below B w w') (hb : B ≤ b) : Below B w (w'.setCell ⟨b, o, none⟩ u) := h.setCell hb u
theorem good_any (e : Ent) (he : e.wf) (w : World) :
    Calls Tryz.prog 40 #[.agg #[.int .i64 e.size, .int .i64 e.ctx, .int .u64 e.va, .int .u64 e.pa, .bool e.att.write, .bool e.att.priv, .bool e.att.exec, .bool e.att.lock, .bool e.att.global, .bool e.att.quiet, .bool e.valid]] w fun r w' => r = .returned (.agg #[.int .i64 e.good.size, .int .i64 e.good.ctx, .int .u64 e.good.va, .int .u64 e.good.pa, .bool e.good.att.write, .bool e.good.att.priv, .bool e.good.att.exec, .bool e.good.att.lock, .bool e.good.att.global, .bool e.good.att.quiet, .bool e.good.valid]) ∧ Below w.heap.size w w' := by
  obtain ⟨⟨s0, s1⟩, ⟨c0, c1⟩, ⟨v0, v1⟩, ⟨p0, p1⟩⟩ := he
  obtain ⟨s, c, v, p, ⟨wr, pr, ex, lk, gl, qu⟩, vd⟩ := e
  dsimp only at *
  have b1 := nrm_bd s 4 (by omega)
  have b2 := nrm_bd c 8192 (by omega)
  have ab := absI_bd s s0 s1
  have ac := absI_bd c c0 c1
  have vb := vaI_bd v
  have q1 := rva_any v v0 v1
  have Q1 := Lib.hid q1
  clear q1
  unfold Ent.good
  dsimp only
  have n1 := abs_nrm s 4
  have n2 := abs_nrm c 8192
  generalize nrm s 4 = S at *
  generalize nrm c 8192 = C at *
  obtain ⟨D, hD⟩ : ∃ D, (if gl = true then 0 else C) = D := ⟨_, rfl⟩
  rw [hD]
  have HD := Lib.hid hD
  have N1 := Lib.hid n1
  have N2 := Lib.hid n2
  clear hD n1 n2
  go_enter Tryz.func40, Tryz.ntmps40
  go_upto_if 12 with (fail)
  go_cut [4] (fun t wx => t = .int .i64 (absI s) ∧ wx = ((w.alloc (.cells #[.int .i64 s, .int .i64 c, .int .u64 v, .int .u64 p, .bool wr, .bool pr, .bool ex, .bool lk, .bool gl, .bool qu, .bool vd] 35)).alloc (.cells #[.int .i64 0, .int .i64 0, .int .u64 0, .int .u64 0, .bool false, .bool false, .bool false, .bool false, .bool false, .bool false, .bool false] 35)).alloc (.cells #[.int .i64 0, .int .i64 0, .int .u64 0, .int .u64 0, .bool wr, .bool pr, .bool ex, .bool lk, .bool gl, .bool qu, .bool true] 35))
  case first =>
    by_cases h : s < 0
    · have H := Lib.hid (absI_neg h)
      go_wp2_with fail
      go_meet
      exact ⟨by rw [H.out], rfl⟩
    · have H := Lib.hid (absI_pos h)
      go_wp2_with fail
      go_meet
      exact ⟨by rw [← H.out], rfl⟩
  case rest =>
    obtain ⟨rfl, rfl⟩ := hcut
    have M1 := N1.out
    clear N1
    go_upto_if 22 with (fail)
    clear M1
    go_cut [5] (fun t wx => t = .int .i64 (absI c) ∧ wx = ((w.alloc (.cells #[.int .i64 s, .int .i64 c, .int .u64 v, .int .u64 p, .bool wr, .bool pr, .bool ex, .bool lk, .bool gl, .bool qu, .bool vd] 35)).alloc (.cells #[.int .i64 0, .int .i64 0, .int .u64 0, .int .u64 0, .bool false, .bool false, .bool false, .bool false, .bool false, .bool false, .bool false] 35)).alloc (.cells #[.int .i64 S, .int .i64 0, .int .u64 0, .int .u64 0, .bool wr, .bool pr, .bool ex, .bool lk, .bool gl, .bool qu, .bool true] 35))
    case first =>
      by_cases h : c < 0
      · have H := Lib.hid (absI_neg h)
        go_wp2_with fail
        go_meet
        exact ⟨by rw [H.out], rfl⟩
      · have H := Lib.hid (absI_pos h)
        go_wp2_with fail
        go_meet
        exact ⟨by rw [← H.out], rfl⟩
    case rest =>
      obtain ⟨rfl, rfl⟩ := hcut
      have M2 := N2.out
      clear N2
      go_upto_if 31 with (fail)
      clear M2
      go_cut [] (fun wx => wx = ((w.alloc (.cells #[.int .i64 s, .int .i64 c, .int .u64 v, .int .u64 p, .bool wr, .bool pr, .bool ex, .bool lk, .bool gl, .bool qu, .bool vd] 35)).alloc (.cells #[.int .i64 0, .int .i64 0, .int .u64 0, .int .u64 0, .bool false, .bool false, .bool false, .bool false, .bool false, .bool false, .bool false] 35)).alloc (.cells #[.int .i64 S, .int .i64 D, .int .u64 0, .int .u64 0, .bool wr, .bool pr, .bool ex, .bool lk, .bool gl, .bool qu, .bool true] 35))
      case first =>
        cases gl
        · obtain rfl : C = D := HD.out
          go_wp2_with fail
          go_meet
          rfl
        · obtain rfl : 0 = D := HD.out
          go_wp2_with fail
          go_meet
          rfl
      case rest =>
        obtain rfl := hcut
        go_upto_region 12 with (fail)
        go_region_with (first | (go_at_call 68; refine (Q1.out _).mono ?_; rintro r w2 ⟨rfl, rfl⟩) | (go_at_call 67; refine (rbase_any _ _ vb.1 vb.2 _).mono ?_; rintro r w2 ⟨rfl, n, rfl⟩))
        all_goals
          go_wp2_with fail
          refine (rbase_any _ _ (by omega) (by omega) _).mono ?_; rintro r w2 ⟨rfl, m, rfl⟩
          go_wp2_with fail
          refine bodyPost_ret (v := .agg #[.int .i64 S, .int .i64 D, .int .u64 (baseI (vaI v) S), .int .u64 (baseI (p % 2199023255552) S), .bool wr, .bool pr, .bool ex, .bool lk, .bool gl, .bool qu, .bool true]) (by simp [results, Tryz.results40, go_sem]) rfl ⟨rfl, ?_⟩
          iterate 12 refine below_setN ?_ (by omega)
          refine below_drewN ?_ _
          refine below_setN ?_ (by omega)
          refine below_drewN ?_ _
          exact (((Below.refl _ _).alloc (Nat.le_refl _) _).alloc (by simp) _).alloc (by simp; omega) _
end Go.Proofs.YtgdagfhdimoklaaGreat.Fld
/-
  Plain facts that the laws of layer 3 want, and an entry made such as may be. Conditions: none.
-/
namespace Go.Proofs.YtgdagfhdimoklaaGreat.Fld
open Go.ChangeShapes Go.WideShapes Go.ChangeAt Go.RowKit
set_option maxHeartbeats 1000000
/-- What is known of an entry that may be. -/
structure Ent.Ok (g : Ent) : Prop where
  may : g.mayB = true
  fit : g.Fit
  size : sizeB g.size = true
  valid : g.valid = true
  v0 : 0 ≤ g.va
  v1 : g.va ≤ 18446744073709551615
  hole : holeB g.va = false
  vs : g.va % bytesI g.size = 0
  ps : g.pa % bytesI g.size = 0
  p1 : g.pa ≤ 18446744073709551615
  gc : g.att.global = true → g.ctx = 0
theorem Ent.ok_of {g : Ent} (h : g.mayB = true) (p0 : 0 ≤ g.pa) (v0 : 0 ≤ g.va) (v1 : g.va ≤ 18446744073709551615) : g.Ok := by
  have hf := Ent.fit h p0
  have h' := h
  unfold Ent.mayB at h'
  simp only [Bool.and_eq_true, decide_eq_true_eq, Bool.not_eq_true', Bool.and_eq_false_iff] at h'
  obtain ⟨⟨⟨⟨⟨⟨⟨hv, h1⟩, _⟩, h3⟩, h4⟩, h5⟩, h6⟩, _⟩ := h'
  refine ⟨h, hf, h1, hv, v0, v1, h3, h5, h6, ?_, fun hg => ?_⟩
  · have := hf.p1; omega
  · rcases h4 with h4 | h4
    · rw [hg] at h4; cases h4
    · simpa using h4
theorem Ent.good_ok (e : Ent) : e.good.Ok := Ent.ok_of (Ent.good_may e) (Ent.good_bd e).2.1 (Ent.good_bd e).1.1 (Ent.good_bd e).1.2
/-- Good, its answer under a name. -/
theorem good_some (e : Ent) (l : e.lits) : ∃ g : Ent, g.Ok ∧ Hid (∀ W, Calls Tryz.prog 40 #[.agg #[.int .i64 e.size, .int .i64 e.ctx, .int .u64 e.va, .int .u64 e.pa, .bool e.att.write, .bool e.att.priv, .bool e.att.exec, .bool e.att.lock, .bool e.att.global, .bool e.att.quiet, .bool e.valid]] W fun r w' => r = .returned (.agg #[.int .i64 g.size, .int .i64 g.ctx, .int .u64 g.va, .int .u64 g.pa, .bool g.att.write, .bool g.att.priv, .bool g.att.exec, .bool g.att.lock, .bool g.att.global, .bool g.att.quiet, .bool g.valid]) ∧ Below W.heap.size W w') :=
  ⟨e.good, Ent.good_ok e, fun W => good_any e (Ent.lits_wf l) W⟩
theorem off_lt {s : Int} (hs : sizeB s = true) (o : Int) : 0 ≤ offI o s ∧ offI o s < bytesI s := by
  unfold offI; rw [hs]
  rcases sizeB_true hs with rfl | rfl | rfl | rfl <;> (simp only [bytesI, if_true, Int.reduceEq, if_false]; clear hs; omega)
theorem tag_at {v s o : Int} (hs : sizeB s = true) (hv : v % bytesI s = 0) (o0 : 0 ≤ o) (o1 : o < bytesI s) : tagI (v + o) = tagI v := by
  unfold tagI
  rcases sizeB_true hs with rfl | rfl | rfl | rfl <;> (simp only [bytesI, if_true, Int.reduceEq, if_false] at *; clear hs; omega)
theorem at_bd {g : Ent} (h : g.Ok) {o : Int} (o0 : 0 ≤ o) (o1 : o < bytesI g.size) : 0 ≤ g.va + o ∧ g.va + o ≤ 18446744073709551615 := by
  have := page_top g.va g.size h.size h.vs h.v1; have := h.v0; omega
theorem at_in {g : Ent} (h : g.Ok) {o : Int} (o0 : 0 ≤ o) (o1 : o < bytesI g.size) : inB (g.va + o) g.va g.size = true ∧ offI (g.va + o) g.size = o ∧ baseI (g.va + o) g.size = g.va := by
  have hv := h.vs; have hs := h.size
  unfold inB offI baseI
  rw [hs]
  generalize g.size = s at *
  generalize g.va = v at *
  rcases sizeB_true hs with rfl | rfl | rfl | rfl <;> (simp only [bytesI, if_true, Int.reduceEq, if_false, Bool.true_and, decide_eq_true_eq] at *; clear hs; omega)
def Ent.bare (g : Ent) : Ent := { g with att := ⟨false, false, false, false, false, false⟩ }
theorem bare_data {g : Ent} (h : g.Ok) : g.bare.dataG = 9223372036854775808 + g.size * 2305843009213693952 + g.pa := by
  have hf : g.bare.Fit := ⟨h.fit.s0, h.fit.s1, h.fit.c0, h.fit.c1, h.fit.p0, h.fit.p1, h.fit.p2⟩
  rw [Ent.dataG_fit hf h.valid]
  show 9223372036854775808 + g.size * 2305843009213693952 + g.pa + 0 = _
  omega
theorem full_data {g : Ent} (h : g.Ok) : g.dataG = 9223372036854775808 + g.size * 2305843009213693952 + g.pa + (b2i g.att.write * 2 + b2i g.att.priv * 4 + b2i g.att.exec * 8 + b2i g.att.lock * 64 + b2i g.att.global) + b2i g.att.quiet * 1152921504606846976 := by
  rw [Ent.dataG_fit h.fit h.valid]
  unfold Ent.dataW Ent.attW
  omega
theorem b2i_cut (b : Bool) (k x : Int) : (if b = true then x + k else x) = x + b2i b * k := by cases b <;> simp [b2i]
def Ent.inval (g : Ent) : Ent := { g with valid := false }
end Go.Proofs.YtgdagfhdimoklaaGreat.Fld
/-
  Contracts of the document's own May, Hits and Frame of layer 3. Conditions: words are below 2 to the 64.
-/
namespace Go.Proofs.YtgdagfhdimoklaaGreat.Fld
open Go.ChangeShapes Go.WideShapes Go.ChangeAt Go.RowKit
set_option maxHeartbeats 1000000
set_option maxRecDepth 100000
/-- The first half of the document's May. -/
def Ent.halfB (e : Ent) : Bool := e.valid && sizeB e.size && decide (0 ≤ e.ctx ∧ e.ctx ≤ 8191) && !holeB e.va && !(e.att.global && e.ctx != 0)
theorem Ent.may_half (e : Ent) : e.mayB = (e.halfB && (e.va % bytesI e.size == 0 && (e.pa % bytesI e.size == 0 && decide (e.pa < 2199023255552)))) := by
  unfold Ent.mayB Ent.halfB
  rw [Bool.eq_iff_iff]; simp [and_assoc]
theorem rmay_no (e : Ent) (v0 : 0 ≤ e.va) (v1 : e.va ≤ 18446744073709551615) (hh : e.halfB = false) (w : World) :
    Calls Tryz.prog 74 #[.agg #[.int .i64 e.size, .int .i64 e.ctx, .int .u64 e.va, .int .u64 e.pa, .bool e.att.write, .bool e.att.priv, .bool e.att.exec, .bool e.att.lock, .bool e.att.global, .bool e.att.quiet, .bool e.valid]] w fun r w' => r = .returned (.bool false) ∧ Below w.heap.size w w' := by
  obtain ⟨s, c, v, p, ⟨wr, pr, ex, lk, gl, qu⟩, vd⟩ := e
  unfold Ent.halfB at hh
  dsimp only at *
  have q1 := rpmay_any s
  have q2 := rhole_any v v0 v1
  generalize sizeB s = S at *
  generalize holeB v = O at *
  have Q1 := Lib.hid q1
  have Q2 := Lib.hid q2
  clear q1 q2
  cases vd
  · clear hh
    go_enter Tryz.func74, Tryz.ntmps74
    go_wp2_with (first | (go_at_call 75; refine (Q1.out _).mono ?_; rintro e w' ⟨rfl, rfl⟩) | (go_at_call 99; refine (Q2.out _).mono ?_; rintro e w' ⟨rfl, rfl⟩))
    go_ret
    exact ⟨rfl, (Below.refl _ _).alloc (Nat.le_refl _) _⟩
  cases S
  · clear hh
    go_enter Tryz.func74, Tryz.ntmps74
    go_wp2_with (first | (go_at_call 75; refine (Q1.out _).mono ?_; rintro e w' ⟨rfl, rfl⟩) | (go_at_call 99; refine (Q2.out _).mono ?_; rintro e w' ⟨rfl, rfl⟩))
    go_ret
    exact ⟨rfl, (Below.refl _ _).alloc (Nat.le_refl _) _⟩
  by_cases c0 : c < 0
  · clear hh
    go_enter Tryz.func74, Tryz.ntmps74
    go_wp2_with (first | (go_at_call 75; refine (Q1.out _).mono ?_; rintro e w' ⟨rfl, rfl⟩) | (go_at_call 99; refine (Q2.out _).mono ?_; rintro e w' ⟨rfl, rfl⟩))
    go_ret
    exact ⟨rfl, (Below.refl _ _).alloc (Nat.le_refl _) _⟩
  by_cases c1 : 8191 < c
  · clear hh
    go_enter Tryz.func74, Tryz.ntmps74
    go_wp2_with (first | (go_at_call 75; refine (Q1.out _).mono ?_; rintro e w' ⟨rfl, rfl⟩) | (go_at_call 99; refine (Q2.out _).mono ?_; rintro e w' ⟨rfl, rfl⟩))
    go_ret
    exact ⟨rfl, (Below.refl _ _).alloc (Nat.le_refl _) _⟩
  cases O
  · have hd : decide (0 ≤ c ∧ c ≤ 8191) = true := decide_eq_true (by omega)
    rw [hd] at hh
    have hg : gl = true ∧ (c != 0) = true := by simpa using hh
    obtain ⟨rfl, hc⟩ := hg
    clear hh hd
    go_enter Tryz.func74, Tryz.ntmps74
    go_wp2_with (first | (go_at_call 75; refine (Q1.out _).mono ?_; rintro e w' ⟨rfl, rfl⟩) | (go_at_call 99; refine (Q2.out _).mono ?_; rintro e w' ⟨rfl, rfl⟩))
    go_ret
    exact ⟨rfl, (Below.refl _ _).alloc (Nat.le_refl _) _⟩
  · clear hh
    go_enter Tryz.func74, Tryz.ntmps74
    go_wp2_with (first | (go_at_call 75; refine (Q1.out _).mono ?_; rintro e w' ⟨rfl, rfl⟩) | (go_at_call 99; refine (Q2.out _).mono ?_; rintro e w' ⟨rfl, rfl⟩))
    go_ret
    exact ⟨rfl, (Below.refl _ _).alloc (Nat.le_refl _) _⟩
theorem rmay_yes (e : Ent) (v0 : 0 ≤ e.va) (v1 : e.va ≤ 18446744073709551615) (p0 : 0 ≤ e.pa) (p1 : e.pa ≤ 18446744073709551615) (hh : e.halfB = true) (w : World) :
    Calls Tryz.prog 74 #[.agg #[.int .i64 e.size, .int .i64 e.ctx, .int .u64 e.va, .int .u64 e.pa, .bool e.att.write, .bool e.att.priv, .bool e.att.exec, .bool e.att.lock, .bool e.att.global, .bool e.att.quiet, .bool e.valid]] w fun r w' => r = .returned (.bool (e.va % bytesI e.size == 0 && (e.pa % bytesI e.size == 0 && decide (e.pa < 2199023255552)))) ∧ Below w.heap.size w w' := by
  obtain ⟨s, c, v, p, ⟨wr, pr, ex, lk, gl, qu⟩, vd⟩ := e
  unfold Ent.halfB at hh
  dsimp only at *
  simp only [Bool.and_eq_true, decide_eq_true_eq, Bool.not_eq_true', Bool.and_eq_false_iff] at hh
  obtain ⟨⟨⟨⟨rfl, hs⟩, c0, c1⟩, ho⟩, hg⟩ := hh
  have hp := bytes_pos hs
  have hbb := bytes_bd s
  have q3 := rbytes_any s
  generalize bytesI s = B at *
  have Q3 := Lib.hid q3
  clear q3
  obtain ⟨x, hx⟩ : ∃ x, v % B = x := ⟨_, rfl⟩
  obtain ⟨y, hy⟩ : ∃ y, p % B = y := ⟨_, rfl⟩
  have hcc : gl = true → (c != 0) = false := fun h => by rcases hg with h' | h'; (rw [h] at h'; cases h'); exact h'
  clear hg
  cases hxb : (x == 0) <;> cases hyb : (y == 0) <;> cases gl
  all_goals
    (first | (have hc0 := hcc rfl; clear hcc) | clear hcc)
    go_enter Tryz.func74, Tryz.ntmps74
    go_wp2_with (first | (go_at_call 75; refine (rpmay_any _ _).mono ?_; rintro e w' ⟨rfl, rfl⟩) | (go_at_call 99; refine (rhole_any _ v0 v1 _).mono ?_; rintro e w' ⟨rfl, rfl⟩))
    go_quiet ((go_at_call 66; exact quiet_left (Q3.out _)))
    go_wp2
    go_ret
    refine ⟨ret_bool ?_, below_drewN ((Below.refl _ _).alloc (Nat.le_refl _) _) _⟩
    rw [hx, hxb, hy, hyb]
    rfl
end Go.Proofs.YtgdagfhdimoklaaGreat.Fld
/-
  The contract of package tte's getAttr. Conditions: words are below 2 to the 64.
-/
namespace Go.Proofs.YtgdagfhdimoklaaGreat.Fld
open Go.ChangeShapes Go.WideShapes Go.ChangeAt Go.RowKit
set_option maxHeartbeats 1000000
set_option maxRecDepth 100000
def Att.cells (a : Att) : Array Value := #[.bool a.write, .bool a.priv, .bool a.exec, .bool a.lock, .bool a.global, .bool a.quiet]
/-- The attributes of the bits below k of a word. -/
def attGet (d : Int) (k : Nat) : Att :=
  ⟨decide (1 < k) && (getI d 1 1 == 1), decide (2 < k) && (getI d 2 1 == 1), decide (3 < k) && (getI d 3 1 == 1), decide (6 < k) && (getI d 6 1 == 1), decide (0 < k) && (getI d 0 1 == 1), decide (60 < k) && (getI d 60 1 == 1)⟩
def attOf (d : Int) : Att := ⟨getI d 1 1 == 1, getI d 2 1 == 1, getI d 3 1 == 1, getI d 6 1 == 1, getI d 0 1 == 1, getI d 60 1 == 1⟩
theorem attGet_zero (d : Int) : attGet d 0 = ⟨false, false, false, false, false, false⟩ := rfl
theorem attGet_all (d : Int) : attGet d 61 = attOf d := rfl
theorem get_cases (d : Int) (b k : Nat) : (flagAt b k = .pointer none ∧ attGet d (k + 1) = attGet d k) ∨ ∃ o, o < 6 ∧ flagAt b k = .pointer (some ⟨b, o, none⟩) ∧ (attGet d (k + 1)).cells = (attGet d k).cells.setIfInBounds o (.bool (getI d k 1 == 1)) := by
  unfold flagAt
  split
  · exact .inr ⟨4, by omega, rfl, rfl⟩
  · exact .inr ⟨0, by omega, rfl, rfl⟩
  · exact .inr ⟨1, by omega, rfl, rfl⟩
  · exact .inr ⟨2, by omega, rfl, rfl⟩
  · exact .inr ⟨3, by omega, rfl, rfl⟩
  · exact .inr ⟨5, by omega, rfl, rfl⟩
  · rename_i h0 h1 h2 h3 h6 h60
    refine .inl ⟨rfl, ?_⟩
    have e : ∀ j : Nat, k ≠ j → decide (j < k + 1) = decide (j < k) := fun j hj => by
      rw [Bool.eq_iff_iff]; simp; omega
    unfold attGet
    rw [e 1 h1, e 2 h2, e 3 h3, e 6 h6, e 0 h0, e 60 h60]
theorem cells_at (a : Att) (o : Nat) (h : o < 6) : ∃ v, a.cells[o]? = some (.bool v) := by
  have : o = 0 ∨ o = 1 ∨ o = 2 ∨ o = 3 ∨ o = 4 ∨ o = 5 := by omega
  rcases this with rfl | rfl | rfl | rfl | rfl | rfl <;> exact ⟨_, rfl⟩
theorem set_row {w : World} {g : Nat} {t : TypeId} {cs : Array Value} (h : w.heap[g]? = some (.cells cs t (0, 0))) (i : Nat) (u : Value) : (w.setCell ⟨g, i, none⟩ u).heap[g]? = some (.cells (cs.setIfInBounds i u) t (0, 0)) := by
  simp [World.setCell, Array.getElem?_modify, h]
theorem row_frozen {w : World} {g : Nat} {t : TypeId} {cs : Array Value} (h : w.heap[g]? = some (.cells cs t (0, 0))) (i : Nat) : w.frozen? ⟨g, i, none⟩ = false := by
  simp [World.frozen?, h]
theorem getattr_any (d : Int) (d0 : 0 ≤ d) (d1 : d ≤ 18446744073709551615) (w : World) :
    Calls Tryz.prog 111 #[.int .u64 d] w fun r w' => r = .returned (.agg #[.bool (attOf d).write, .bool (attOf d).priv, .bool (attOf d).exec, .bool (attOf d).lock, .bool (attOf d).global, .bool (attOf d).quiet]) ∧ Below w.heap.size w w' := by
  go_enter Tryz.func111, Tryz.ntmps111
  go_wp2_with fail
  refine (flags_any _ _).mono ?_; rintro r w1 ⟨rfl, hb1⟩
  have hz : w.heap.size + 1 < w1.heap.size := by have := hb1.size; simp at this; omega
  have hbA := Lib.hid (show w1.heap[w.heap.size + 1]? = some (.cells #[.bool false, .bool false, .bool false, .bool false, .bool false, .bool false] 33 (0, 0)) from (hb1.block _ (by simp)).trans (heap_alloc2_new _ _ _))
  have hbR := Lib.hid (show w1.heap[w.heap.size]? = some (.cells #[.bool false, .bool false, .bool false, .bool false, .bool false, .bool false] 33 (0, 0)) from (hb1.block _ (by simp; omega)).trans ((Below.heap_alloc _ _ _ (by simp)).trans (heap_alloc_new _ _)))
  have hbw := Lib.hid (show Below w.heap.size w w1 from (((Below.refl _ _).alloc (Nat.le_refl _) _).alloc (by simp) _).trans (hb1.mono (by simp; omega)))
  clear hb1
  go_wp2
  go_loopw [7] (fun i wr => ∃ k : Nat, k ≤ 61 ∧ i = .int .i64 (k : Int) ∧ Hid (wr.heap[w.heap.size + 1]? = some (.cells (attGet d k).cells 33 (0, 0))) ∧ Hid (Below (w.heap.size + 1) w1 wr)) (fun i _ => 61 - (intOf i).toNat)
  case atStart => exact ⟨0, by omega, rfl, hbA, Below.refl _ _⟩
  case round =>
    obtain ⟨k, hk, rfl, hA, hbl⟩ := hrel
    have hzr : w.heap.size + 1 < wr.heap.size := by have := hbl.out.size; omega
    by_cases hlt : k < 61
    · have hat := run_index_flag (w.heap.size + 1) k hlt _ (flagCells_at (w.heap.size + 1) k hlt)
      have hlt' : (k : Int) < 61 := by omega
      rcases get_cases d (w.heap.size + 1) k with ⟨h1, h2⟩ | ⟨o, ho, h1, h2⟩
      · rw [h1] at hat
        have H2 := Lib.hid h2
        clear h1 h2
        go_wp2
        go_roundw
        case rel => exact ⟨k + 1, by omega, by go_num, by rw [H2.out]; exact (Below.heap_alloc _ _ _ hzr).trans hA.out, hbl.out.alloc (by omega) _⟩
        case measure => simp [intOf]; omega
      · rw [h1] at hat
        have H2 := Lib.hid h2
        obtain ⟨v, hv⟩ := cells_at (attGet d k) o ho
        have hcell : wr.cell? ⟨w.heap.size + 1, o, none⟩ = some (.bool v) := by rw [cell_of_row _ _ _ _ _ _ hA.out]; exact hv
        have hfro : wr.frozen? ⟨w.heap.size + 1, o, none⟩ = false := row_frozen hA.out o
        clear h1 h2 hv
        go_wp2_with fail
        go_region_with (go_at_call 87; refine (bit_any _ _ d0 d1 _).mono ?_; rintro r w2 ⟨rfl, n, rfl⟩)
        all_goals
          go_wp2
          go_roundw
          case rel => exact ⟨k + 1, by omega, by go_num, by rw [H2.out]; exact set_row (w := World.drewN _ _) ((Below.heap_alloc _ _ _ hzr).trans hA.out) o _, (below_drewN (hbl.out.alloc (by omega) _) _).setCell (Nat.le_refl _) _⟩
          case measure => simp [intOf]; omega
    · obtain rfl : k = 61 := by omega
      rw [attGet_all] at hA
      have a0 := (cell_of_row _ _ 0 _ _ _ hA.out).trans (show (attOf d).cells[0]? = some (.bool (attOf d).write) from rfl)
      have a1 := (cell_of_row _ _ 1 _ _ _ hA.out).trans (show (attOf d).cells[1]? = some (.bool (attOf d).priv) from rfl)
      have a2 := (cell_of_row _ _ 2 _ _ _ hA.out).trans (show (attOf d).cells[2]? = some (.bool (attOf d).exec) from rfl)
      have a3 := (cell_of_row _ _ 3 _ _ _ hA.out).trans (show (attOf d).cells[3]? = some (.bool (attOf d).lock) from rfl)
      have a4 := (cell_of_row _ _ 4 _ _ _ hA.out).trans (show (attOf d).cells[4]? = some (.bool (attOf d).global) from rfl)
      have a5 := (cell_of_row _ _ 5 _ _ _ hA.out).trans (show (attOf d).cells[5]? = some (.bool (attOf d).quiet) from rfl)
      have hR := (hbl.out.block w.heap.size (by omega)).trans hbR.out
      have r0 := cell_of_row _ _ 0 _ _ _ hR
      have r1 := cell_of_row _ _ 1 _ _ _ hR
      have r2 := cell_of_row _ _ 2 _ _ _ hR
      have r3 := cell_of_row _ _ 3 _ _ _ hR
      have r4 := cell_of_row _ _ 4 _ _ _ hR
      have r5 := cell_of_row _ _ 5 _ _ _ hR
      have hfr : ∀ i, wr.frozen? ⟨w.heap.size, i, none⟩ = false := fun i => row_frozen hR i
      clear hR
      obtain ⟨A, hAA⟩ : ∃ A, attOf d = A := ⟨_, rfl⟩
      rw [hAA] at a0 a1 a2 a3 a4 a5
      have HA := Lib.hid hAA
      clear hAA
      go_wp2
      refine bodyPost_ret (v := .agg #[.bool A.write, .bool A.priv, .bool A.exec, .bool A.lock, .bool A.global, .bool A.quiet]) (by simp [results, Tryz.results111, go_sem, r0, r1, r2, r3, r4, r5]) rfl ⟨by rw [HA.out], ?_⟩
      have hq := hbw.out.trans (hbl.out.mono (by omega))
      exact (((((hq.setCell (Nat.le_refl _) _).setCell (Nat.le_refl _) _).setCell (Nat.le_refl _) _).setCell (Nat.le_refl _) _).setCell (Nat.le_refl _) _).setCell (Nat.le_refl _) _
end Go.Proofs.YtgdagfhdimoklaaGreat.Fld
/-
  Contracts of package tte's guess and Read. Conditions: words are below 2 to the 64.
-/
namespace Go.Proofs.YtgdagfhdimoklaaGreat.Fld
open Go.ChangeShapes Go.WideShapes Go.ChangeAt Go.RowKit
set_option maxHeartbeats 1000000
set_option maxRecDepth 100000
theorem below_set {B o : Nat} {w w' : World} {u : Value} (h : Below B w w') : Below B w (w'.setCell ⟨B, o, none⟩ u) := h.setCell (Nat.le_refl _) u
/-- What guess answers. -/
def Ent.guessW (t d va : Int) : Ent :=
  ⟨getI d 61 2, getI t 48 13, baseI va (getI d 61 2), bits .and .u64 d (maskI 13 28), attOf d, bitI d 63 == 1⟩
theorem guess_any (t d va : Int) (t0 : 0 ≤ t) (t1 : t ≤ 18446744073709551615) (d0 : 0 ≤ d) (d1 : d ≤ 18446744073709551615) (v0 : 0 ≤ va) (v1 : va ≤ 18446744073709551615) (w : World) :
    Calls Tryz.prog 102 #[.int .u64 t, .int .u64 d, .int .u64 va] w fun r w' => r = .returned (.agg #[.int .i64 (Ent.guessW t d va).size, .int .i64 (Ent.guessW t d va).ctx, .int .u64 (Ent.guessW t d va).va, .int .u64 (Ent.guessW t d va).pa, .bool (Ent.guessW t d va).att.write, .bool (Ent.guessW t d va).att.priv, .bool (Ent.guessW t d va).att.exec, .bool (Ent.guessW t d va).att.lock, .bool (Ent.guessW t d va).att.global, .bool (Ent.guessW t d va).att.quiet, .bool (Ent.guessW t d va).valid]) ∧ Below w.heap.size w w' := by
  have g1 := getI_bd d 61 2
  have g2 := getI_bd t 48 13
  have g3 : getI d 61 2 ≤ 3 := by rw [getI_at d 61 2 2305843009213693952 4 (by decide) d0 (by decide) (by decide)]; omega
  have g4 : getI t 48 13 ≤ 8191 := by rw [getI_at t 48 13 281474976710656 8192 (by decide) t0 (by decide) (by decide)]; omega
  go_enter Tryz.func102, Tryz.ntmps102
  go_wp2_with fail
  refine (get_any _ _ _ d0 d1 _).mono ?_; rintro r w2 ⟨rfl, n, rfl⟩
  go_wp2_with fail
  refine (get_any _ _ _ t0 t1 _).mono ?_; rintro r w2 ⟨rfl, n2, rfl⟩
  go_wp2_with fail
  refine (base_any _ _ v0 v1 _).mono ?_; rintro r w2 ⟨rfl, rfl⟩
  go_wp2_with fail
  refine (mask_any _ _ _).mono ?_; rintro r w2 ⟨rfl, rfl⟩
  go_wp2_with fail
  refine (getattr_any _ d0 d1 _).mono ?_; rintro r w2 ⟨rfl, hb⟩
  obtain ⟨hc, hf⟩ := bcell hb
  have hz : w.heap.size < w2.heap.size := by have := hb.size; simp at this; omega
  have HB := Lib.hid (show Below w.heap.size w w2 from (below_drewN ((Below.refl _ _).alloc (Nat.le_refl _) _) _).trans (hb.mono (by simp)))
  clear hb
  go_wp2_with fail
  refine (tvalid_any _ d0 d1 _).mono ?_; rintro r w3 ⟨rfl, n3, rfl⟩
  go_wp2_with fail
  refine bodyPost_ret (v := .agg #[.int .i64 (Ent.guessW t d va).size, .int .i64 (Ent.guessW t d va).ctx, .int .u64 (Ent.guessW t d va).va, .int .u64 (Ent.guessW t d va).pa, .bool (Ent.guessW t d va).att.write, .bool (Ent.guessW t d va).att.priv, .bool (Ent.guessW t d va).att.exec, .bool (Ent.guessW t d va).att.lock, .bool (Ent.guessW t d va).att.global, .bool (Ent.guessW t d va).att.quiet, .bool (Ent.guessW t d va).valid]) (by simp [results, Tryz.results102, go_sem, hc]; exact ⟨rfl, rfl, rfl, rfl, rfl, rfl, rfl, rfl, rfl, rfl, rfl⟩) rfl ⟨rfl, ?_⟩
  iterate 11 refine below_set ?_
  exact below_drewN HB.out _
theorem and_mask (x p s : Int) (h0 : 0 ≤ x) (h1 : x ≤ 18446744073709551615) (hm : mayB p s = true) : bits .and .u64 x (maskI p s) = getI x p s * ((2 ^ p.toNat : Nat) : Int) := by
  have hm' := mayB_true hm
  rw [maskI_of hm, getI_of hm, ← Int.natCast_mul, get_lift _ _ _ (by omega)]
  have hx : x = ((x.toNat : Nat) : Int) := by omega
  have h2 := maskN_lt p.toNat s.toNat
  conv => lhs; rw [hx]
  rw [bits_and_u64_nat _ _ (by omega) h2]
  congr 1
  apply Nat.eq_of_testBit_eq; intro i
  rw [Nat.testBit_and, maskN_testBit, ob_testBit]
  cases decide (i < 64) <;> cases inF p.toNat s.toNat i <;> simp
theorem Ent.guess_of (t d va : Int) (d0 : 0 ≤ d) (d1 : d ≤ 18446744073709551615) (h : bitI d 63 = 1) : Ent.guessW t d va = Ent.ofW t d va := by
  have e1 := and_mask d 13 28 d0 d1 (by decide)
  have e2 : ((2 ^ (13 : Int).toNat : Nat) : Int) = 8192 := by decide
  rw [e2] at e1
  have b : ∀ i : Nat, i < 64 → getI d i 1 = bitI d i := fun i hi => get1_bit d i hi d0
  have b1 : getI d 1 1 = bitI d 1 := b 1 (by omega)
  have b2 : getI d 2 1 = bitI d 2 := b 2 (by omega)
  have b3 : getI d 3 1 = bitI d 3 := b 3 (by omega)
  have b6 : getI d 6 1 = bitI d 6 := b 6 (by omega)
  have b0 : getI d 0 1 = bitI d 0 := b 0 (by omega)
  have b60 : getI d 60 1 = bitI d 60 := b 60 (by omega)
  unfold Ent.guessW Ent.ofW attOf
  rw [e1, h, b1, b2, b3, b6, b0, b60]
  rfl
theorem Ent.ofW_bd (t d va : Int) (t0 : 0 ≤ t) (d0 : 0 ≤ d) (v0 : 0 ≤ va) (v1 : va ≤ 18446744073709551615) : (0 ≤ (Ent.ofW t d va).ctx ∧ (Ent.ofW t d va).ctx ≤ 8191) ∧ (0 ≤ (Ent.ofW t d va).va ∧ (Ent.ofW t d va).va ≤ 18446744073709551615) ∧ (0 ≤ (Ent.ofW t d va).pa ∧ (Ent.ofW t d va).pa ≤ 18446744073709551615) ∧ (Ent.ofW t d va).valid = true := by
  have g4 : 0 ≤ getI t 48 13 ∧ getI t 48 13 ≤ 8191 := by rw [getI_at t 48 13 281474976710656 8192 (by decide) t0 (by decide) (by decide)]; omega
  have g5 : 0 ≤ getI d 13 28 * 8192 ∧ getI d 13 28 * 8192 ≤ 18446744073709551615 := by rw [getI_at d 13 28 8192 268435456 (by decide) d0 (by decide) (by decide)]; omega
  have g6 := base_bd va (getI d 61 2) v0 v1
  exact ⟨g4, ⟨g6.1, Int.le_trans g6.2 v1⟩, g5, rfl⟩
/-- Read, where the address is not in the hole and the data's highest bit stands. -/
theorem read_form (t d va : Int) (g : Ent) (hg : Ent.ofW t d va = g) (hh : holeB va = false) (hv : bitI d 63 = 1) :
    (g.mayB && (g.tagW == t) && (g.dataW == d)) = true ∧ Ent.readN t d va = 0 ∧ Ent.readE t d va = g ∨ (g.mayB && (g.tagW == t) && (g.dataW == d)) = false ∧ Ent.readN t d va = 2 ∧ Ent.readE t d va = Ent.zero := by
  have ha : Ent.areB t d va = (g.mayB && (g.tagW == t) && (g.dataW == d)) := by unfold Ent.areB; rw [hg]
  cases hq : (g.mayB && (g.tagW == t) && (g.dataW == d))
  · right
    have hn : Ent.readN t d va = 2 := by unfold Ent.readN; rw [hh, hv, ha, hq]; rfl
    exact ⟨rfl, hn, by unfold Ent.readE; rw [hn]; rfl⟩
  · left
    have hn : Ent.readN t d va = 0 := by unfold Ent.readN; rw [hh, hv, ha, hq]; rfl
    exact ⟨rfl, hn, by unfold Ent.readE; rw [hn, hg]; rfl⟩
theorem read_hole (t d va : Int) (hh : holeB va = true) : Ent.readN t d va = 3 ∧ Ent.readE t d va = Ent.zero := by
  have hn : Ent.readN t d va = 3 := by unfold Ent.readN; rw [hh]; rfl
  exact ⟨hn, by unfold Ent.readE; rw [hn]; rfl⟩
theorem read_state (t d va : Int) (hh : holeB va = false) (hv : bitI d 63 = 0) : Ent.readN t d va = 11 ∧ Ent.readE t d va = Ent.zero := by
  have hn : Ent.readN t d va = 11 := by unfold Ent.readN; rw [hh, hv]; rfl
  exact ⟨hn, by unfold Ent.readE; rw [hn]; rfl⟩
theorem bitI_01 (d i : Int) : bitI d i = 0 ∨ bitI d i = 1 := by have := bitI_bd d i; omega
end Go.Proofs.YtgdagfhdimoklaaGreat.Fld
/-
  The contract of package tte's Read. Conditions: words are below 2 to the 64.
-/
namespace Go.Proofs.YtgdagfhdimoklaaGreat.Fld
open Go.ChangeShapes Go.WideShapes Go.ChangeAt Go.RowKit
set_option maxHeartbeats 1000000
set_option maxRecDepth 100000
theorem ret_read {g h : Ent} {n m : Int} (e1 : g = h) (e2 : n = m) : Ending.returned (.tuple #[.agg #[.int .i64 g.size, .int .i64 g.ctx, .int .u64 g.va, .int .u64 g.pa, .bool g.att.write, .bool g.att.priv, .bool g.att.exec, .bool g.att.lock, .bool g.att.global, .bool g.att.quiet, .bool g.valid], .int .i64 n]) = .returned (.tuple #[.agg #[.int .i64 h.size, .int .i64 h.ctx, .int .u64 h.va, .int .u64 h.pa, .bool h.att.write, .bool h.att.priv, .bool h.att.exec, .bool h.att.lock, .bool h.att.global, .bool h.att.quiet, .bool h.valid], .int .i64 m]) := by rw [e1, e2]
theorem tread_hole (t d va : Int) (v0 : 0 ≤ va) (v1 : va ≤ 18446744073709551615) (hh : holeB va = true) (w : World) :
    Calls Tryz.prog 77 #[.int .u64 t, .int .u64 d, .int .u64 va] w fun r w' => r = .returned (.tuple #[.agg #[.int .i64 Ent.zero.size, .int .i64 Ent.zero.ctx, .int .u64 Ent.zero.va, .int .u64 Ent.zero.pa, .bool Ent.zero.att.write, .bool Ent.zero.att.priv, .bool Ent.zero.att.exec, .bool Ent.zero.att.lock, .bool Ent.zero.att.global, .bool Ent.zero.att.quiet, .bool Ent.zero.valid], .int .i64 3]) ∧ Below w.heap.size w w' := by
  go_enter Tryz.func77, Tryz.ntmps77
  go_wp2_with (go_at_call 100; refine (hole_any _ v0 v1 _).mono ?_; rintro e w' ⟨rfl, n, rfl⟩)
  refine bodyPost_ret (v := .tuple #[.agg #[.int .i64 Ent.zero.size, .int .i64 Ent.zero.ctx, .int .u64 Ent.zero.va, .int .u64 Ent.zero.pa, .bool Ent.zero.att.write, .bool Ent.zero.att.priv, .bool Ent.zero.att.exec, .bool Ent.zero.att.lock, .bool Ent.zero.att.global, .bool Ent.zero.att.quiet, .bool Ent.zero.valid], .int .i64 3]) (by simp [results, Tryz.results77, go_sem, Ent.zero]) rfl ⟨rfl, ?_⟩
  iterate 11 refine below_set ?_
  exact below_drewN ((Below.refl _ _).alloc (Nat.le_refl _) _) _
theorem tread_state (t d va : Int) (d0 : 0 ≤ d) (d1 : d ≤ 18446744073709551615) (v0 : 0 ≤ va) (v1 : va ≤ 18446744073709551615) (hh : holeB va = false) (hv : (bitI d 63 == 1) = false) (w : World) :
    Calls Tryz.prog 77 #[.int .u64 t, .int .u64 d, .int .u64 va] w fun r w' => r = .returned (.tuple #[.agg #[.int .i64 Ent.zero.size, .int .i64 Ent.zero.ctx, .int .u64 Ent.zero.va, .int .u64 Ent.zero.pa, .bool Ent.zero.att.write, .bool Ent.zero.att.priv, .bool Ent.zero.att.exec, .bool Ent.zero.att.lock, .bool Ent.zero.att.global, .bool Ent.zero.att.quiet, .bool Ent.zero.valid], .int .i64 11]) ∧ Below w.heap.size w w' := by
  go_enter Tryz.func77, Tryz.ntmps77
  go_wp2_with (first | (go_at_call 100; refine (hole_any _ v0 v1 _).mono ?_; rintro e w' ⟨rfl, n, rfl⟩) | (go_at_call 101; refine (tvalid_any _ d0 d1 _).mono ?_; rintro e w' ⟨rfl, n, rfl⟩))
  refine bodyPost_ret (v := .tuple #[.agg #[.int .i64 Ent.zero.size, .int .i64 Ent.zero.ctx, .int .u64 Ent.zero.va, .int .u64 Ent.zero.pa, .bool Ent.zero.att.write, .bool Ent.zero.att.priv, .bool Ent.zero.att.exec, .bool Ent.zero.att.lock, .bool Ent.zero.att.global, .bool Ent.zero.att.quiet, .bool Ent.zero.valid], .int .i64 11]) (by simp [results, Tryz.results77, go_sem, Ent.zero]) rfl ⟨rfl, ?_⟩
  iterate 11 refine below_set ?_
  exact below_drewN ((Below.refl _ _).alloc (Nat.le_refl _) _) _
theorem tread_form (t d va : Int) (g : Ent) (hg : Ent.guessW t d va = g) (t0 : 0 ≤ t) (t1 : t ≤ 18446744073709551615) (d0 : 0 ≤ d) (d1 : d ≤ 18446744073709551615) (v0 : 0 ≤ va) (v1 : va ≤ 18446744073709551615) (hh : holeB va = false) (hv : (bitI d 63 == 1) = true)
    (gv0 : 0 ≤ g.va) (gv1 : g.va ≤ 18446744073709551615) (gp0 : 0 ≤ g.pa) (gp1 : g.pa ≤ 18446744073709551615) (w : World) :
    Calls Tryz.prog 77 #[.int .u64 t, .int .u64 d, .int .u64 va] w fun r w' => ((g.mayB && (g.tagG == t) && (g.dataG == d)) = true ∧ r = .returned (.tuple #[.agg #[.int .i64 g.size, .int .i64 g.ctx, .int .u64 g.va, .int .u64 g.pa, .bool g.att.write, .bool g.att.priv, .bool g.att.exec, .bool g.att.lock, .bool g.att.global, .bool g.att.quiet, .bool g.valid], .int .i64 0]) ∨ (g.mayB && (g.tagG == t) && (g.dataG == d)) = false ∧ r = .returned (.tuple #[.agg #[.int .i64 Ent.zero.size, .int .i64 Ent.zero.ctx, .int .u64 Ent.zero.va, .int .u64 Ent.zero.pa, .bool Ent.zero.att.write, .bool Ent.zero.att.priv, .bool Ent.zero.att.exec, .bool Ent.zero.att.lock, .bool Ent.zero.att.global, .bool Ent.zero.att.quiet, .bool Ent.zero.valid], .int .i64 2])) ∧ Below w.heap.size w w' := by
  have HG := Lib.hid (fun W => (hg ▸ guess_any t d va t0 t1 d0 d1 v0 v1 W : Calls Tryz.prog 102 #[.int .u64 t, .int .u64 d, .int .u64 va] W fun r w' => r = .returned (.agg #[.int .i64 g.size, .int .i64 g.ctx, .int .u64 g.va, .int .u64 g.pa, .bool g.att.write, .bool g.att.priv, .bool g.att.exec, .bool g.att.lock, .bool g.att.global, .bool g.att.quiet, .bool g.valid]) ∧ Below W.heap.size W w'))
  clear hg
  go_enter Tryz.func77, Tryz.ntmps77
  go_wp2_with (first | (go_at_call 100; refine (hole_any _ v0 v1 _).mono ?_; rintro e w' ⟨rfl, n, rfl⟩) | (go_at_call 101; refine (tvalid_any _ d0 d1 _).mono ?_; rintro e w' ⟨rfl, n, rfl⟩))
  refine (HG.out _).mono ?_; rintro r w2 ⟨rfl, hb⟩
  have hcR : ∀ o, w2.cell? ⟨w.heap.size, o, none⟩ = _ := fun o => (bcell hb).1 w.heap.size o (by simp)
  have hfR : ∀ o, w2.frozen? ⟨w.heap.size, o, none⟩ = _ := fun o => (bcell hb).2 w.heap.size o (by simp)
  have hz : w.heap.size < w2.heap.size := by have := hb.size; simp at this; omega
  have HB := Lib.hid (show Below w.heap.size w w2 from (below_drewN ((Below.refl _ _).alloc (Nat.le_refl _) _) _).trans (hb.mono (by simp)))
  clear hb
  go_wp2_with fail
  refine (tmay_any g gv0 gv1 gp0 gp1 _).mono ?_; rintro r w4 ⟨rfl, hb⟩
  have hcR4 : ∀ o, w4.cell? ⟨w.heap.size, o, none⟩ = _ := fun o => (bcell hb).1 w.heap.size o (by simp; omega)
  have hfR4 : ∀ o, w4.frozen? ⟨w.heap.size, o, none⟩ = _ := fun o => (bcell hb).2 w.heap.size o (by simp; omega)
  have hcE4 : ∀ o, w4.cell? ⟨w2.heap.size, o, none⟩ = _ := fun o => (bcell hb).1 w2.heap.size o (by simp)
  have hz4 : w2.heap.size < w4.heap.size := by have := hb.size; simp at this; omega
  have HB4 := Lib.hid (show Below w.heap.size w w4 from (HB.out.alloc (by omega) _).trans (hb.mono (by simp; omega)))
  clear hb
  cases hm : g.mayB
  · go_wp2_with fail
    refine bodyPost_ret (v := .tuple #[.agg #[.int .i64 Ent.zero.size, .int .i64 Ent.zero.ctx, .int .u64 Ent.zero.va, .int .u64 Ent.zero.pa, .bool Ent.zero.att.write, .bool Ent.zero.att.priv, .bool Ent.zero.att.exec, .bool Ent.zero.att.lock, .bool Ent.zero.att.global, .bool Ent.zero.att.quiet, .bool Ent.zero.valid], .int .i64 2]) (by simp [results, Tryz.results77, go_sem, Ent.zero, hz, hcR, hcR4]) rfl ⟨.inr ⟨by rw [hm]; rfl, rfl⟩, ?_⟩
    iterate 11 refine below_set ?_
    exact HB4.out
  go_wp2_with fail
  refine (ttag_any g gv0 gv1 _).mono ?_; rintro r w5 ⟨rfl, hb⟩
  have hcR5 : ∀ o, w5.cell? ⟨w.heap.size, o, none⟩ = _ := fun o => (bcell hb).1 w.heap.size o (by omega)
  have hfR5 : ∀ o, w5.frozen? ⟨w.heap.size, o, none⟩ = _ := fun o => (bcell hb).2 w.heap.size o (by omega)
  have hcE5 : ∀ o, w5.cell? ⟨w2.heap.size, o, none⟩ = _ := fun o => (bcell hb).1 w2.heap.size o (by omega)
  have hz5 : w2.heap.size < w5.heap.size := by have := hb.size; omega
  have HB5 := Lib.hid (show Below w.heap.size w w5 from HB4.out.trans (hb.mono (by omega)))
  clear hb
  cases ht : (g.tagG == t)
  · have ht' : (g.tagG != t) = true := by simp [bne, ht]
    go_wp2_with fail
    refine bodyPost_ret (v := .tuple #[.agg #[.int .i64 Ent.zero.size, .int .i64 Ent.zero.ctx, .int .u64 Ent.zero.va, .int .u64 Ent.zero.pa, .bool Ent.zero.att.write, .bool Ent.zero.att.priv, .bool Ent.zero.att.exec, .bool Ent.zero.att.lock, .bool Ent.zero.att.global, .bool Ent.zero.att.quiet, .bool Ent.zero.valid], .int .i64 2]) (by simp [results, Tryz.results77, go_sem, Ent.zero, hz, hcR, hcR4, hcR5]) rfl ⟨.inr ⟨by rw [hm, ht]; rfl, rfl⟩, ?_⟩
    iterate 11 refine below_set ?_
    exact HB5.out
  have ht' : (g.tagG != t) = false := by simp [bne, ht]
  go_wp2_with fail
  refine (tdata_any g gp0 gp1 _).mono ?_; rintro r w6 ⟨rfl, hb⟩
  have hcR6 : ∀ o, w6.cell? ⟨w.heap.size, o, none⟩ = _ := fun o => (bcell hb).1 w.heap.size o (by omega)
  have hfR6 : ∀ o, w6.frozen? ⟨w.heap.size, o, none⟩ = _ := fun o => (bcell hb).2 w.heap.size o (by omega)
  have hcE6 : ∀ o, w6.cell? ⟨w2.heap.size, o, none⟩ = _ := fun o => (bcell hb).1 w2.heap.size o (by omega)
  have hz6 : w2.heap.size < w6.heap.size := by have := hb.size; omega
  have HB6 := Lib.hid (show Below w.heap.size w w6 from HB5.out.trans (hb.mono (by omega)))
  clear hb
  cases hd : (g.dataG == d)
  · have hd' : (g.dataG != d) = true := by simp [bne, hd]
    go_wp2_with fail
    refine bodyPost_ret (v := .tuple #[.agg #[.int .i64 Ent.zero.size, .int .i64 Ent.zero.ctx, .int .u64 Ent.zero.va, .int .u64 Ent.zero.pa, .bool Ent.zero.att.write, .bool Ent.zero.att.priv, .bool Ent.zero.att.exec, .bool Ent.zero.att.lock, .bool Ent.zero.att.global, .bool Ent.zero.att.quiet, .bool Ent.zero.valid], .int .i64 2]) (by simp [results, Tryz.results77, go_sem, Ent.zero, hz, hcR, hcR4, hcR5, hcR6]) rfl ⟨.inr ⟨by rw [hm, ht, hd]; rfl, rfl⟩, ?_⟩
    iterate 11 refine below_set ?_
    exact HB6.out
  · have hd' : (g.dataG != d) = false := by simp [bne, hd]
    go_wp2_with fail
    refine bodyPost_ret (v := .tuple #[.agg #[.int .i64 g.size, .int .i64 g.ctx, .int .u64 g.va, .int .u64 g.pa, .bool g.att.write, .bool g.att.priv, .bool g.att.exec, .bool g.att.lock, .bool g.att.global, .bool g.att.quiet, .bool g.valid], .int .i64 0]) (by simp [results, Tryz.results77, go_sem, hz, hcR, hcR4, hcR5, hcR6]) rfl ⟨.inl ⟨by rw [hm, ht, hd]; rfl, rfl⟩, ?_⟩
    iterate 11 refine below_set ?_
    exact HB6.out
theorem tread_any (t d va : Int) (t0 : 0 ≤ t) (t1 : t ≤ 18446744073709551615) (d0 : 0 ≤ d) (d1 : d ≤ 18446744073709551615) (v0 : 0 ≤ va) (v1 : va ≤ 18446744073709551615) (w : World) :
    Calls Tryz.prog 77 #[.int .u64 t, .int .u64 d, .int .u64 va] w fun r w' => r = .returned (.tuple #[.agg #[.int .i64 (Ent.readE t d va).size, .int .i64 (Ent.readE t d va).ctx, .int .u64 (Ent.readE t d va).va, .int .u64 (Ent.readE t d va).pa, .bool (Ent.readE t d va).att.write, .bool (Ent.readE t d va).att.priv, .bool (Ent.readE t d va).att.exec, .bool (Ent.readE t d va).att.lock, .bool (Ent.readE t d va).att.global, .bool (Ent.readE t d va).att.quiet, .bool (Ent.readE t d va).valid], .int .i64 (Ent.readN t d va)]) ∧ Below w.heap.size w w' := by
  cases hh : holeB va
  · rcases bitI_01 d 63 with hv | hv
    · obtain ⟨e1, e2⟩ := read_state t d va hh hv
      exact (tread_state t d va d0 d1 v0 v1 hh (by rw [hv]; rfl) w).mono fun _ _ h => ⟨h.1.trans (ret_read e2.symm e1.symm), h.2⟩
    · have hg := Ent.guess_of t d va d0 d1 hv
      obtain ⟨b1, b2, b3, b4⟩ := Ent.ofW_bd t d va t0 d0 v0 v1
      obtain ⟨g, hgg⟩ : ∃ g, Ent.ofW t d va = g := ⟨_, rfl⟩
      rw [hgg] at hg b1 b2 b3 b4
      have hw := read_form t d va g hgg hh hv
      have ht := Ent.tagG_fit b1
      have hc : (g.mayB && (g.tagG == t) && (g.dataG == d)) = (g.mayB && (g.tagW == t) && (g.dataW == d)) := by
        rw [ht]
        cases hm : g.mayB
        · rfl
        · rw [Ent.dataG_fit (Ent.fit hm b3.1) b4]
      refine (tread_form t d va g hg t0 t1 d0 d1 v0 v1 hh (by rw [hv]; rfl) b2.1 b2.2 b3.1 b3.2 w).mono fun _ _ h => ⟨?_, h.2⟩
      rw [hc] at h
      rcases hw with ⟨q, e1, e2⟩ | ⟨q, e1, e2⟩
      · rcases h.1 with ⟨_, e⟩ | ⟨z, _⟩
        · exact e.trans (ret_read e2.symm e1.symm)
        · rw [q] at z; cases z
      · rcases h.1 with ⟨z, _⟩ | ⟨_, e⟩
        · rw [q] at z; cases z
        · exact e.trans (ret_read e2.symm e1.symm)
  · obtain ⟨e1, e2⟩ := read_hole t d va hh
    exact (tread_hole t d va v0 v1 hh w).mono fun _ _ h => ⟨h.1.trans (ret_read e2.symm e1.symm), h.2⟩
end Go.Proofs.YtgdagfhdimoklaaGreat.Fld
/-
  The contract of the document's own Read of layer 3. Conditions: words are below 2 to the 64.
-/
namespace Go.Proofs.YtgdagfhdimoklaaGreat.Fld
open Go.ChangeShapes Go.WideShapes Go.ChangeAt Go.RowKit
set_option maxHeartbeats 2000000
set_option maxRecDepth 100000
theorem rmaye_any (e : Ent) (v0 : 0 ≤ e.va) (v1 : e.va ≤ 18446744073709551615) (p0 : 0 ≤ e.pa) (p1 : e.pa ≤ 18446744073709551615) (w : World) :
    Calls Tryz.prog 74 #[.agg #[.int .i64 e.size, .int .i64 e.ctx, .int .u64 e.va, .int .u64 e.pa, .bool e.att.write, .bool e.att.priv, .bool e.att.exec, .bool e.att.lock, .bool e.att.global, .bool e.att.quiet, .bool e.valid]] w fun r w' => r = .returned (.bool e.mayB) ∧ Below w.heap.size w w' := by
  have H := Ent.may_half e
  cases hh : e.halfB
  · rw [hh, Bool.false_and] at H
    rw [H]; exact rmay_no e v0 v1 hh w
  · rw [hh, Bool.true_and] at H
    rw [H]; exact rmay_yes e v0 v1 p0 p1 hh w
theorem rread_hole (t d va : Int) (v0 : 0 ≤ va) (v1 : va ≤ 18446744073709551615) (hh : holeB va = true) (w : World) :
    Calls Tryz.prog 80 #[.int .u64 t, .int .u64 d, .int .u64 va] w fun r w' => r = .returned (.tuple #[.agg #[.int .i64 Ent.zero.size, .int .i64 Ent.zero.ctx, .int .u64 Ent.zero.va, .int .u64 Ent.zero.pa, .bool Ent.zero.att.write, .bool Ent.zero.att.priv, .bool Ent.zero.att.exec, .bool Ent.zero.att.lock, .bool Ent.zero.att.global, .bool Ent.zero.att.quiet, .bool Ent.zero.valid], .int .i64 3]) ∧ Below w.heap.size w w' := by
  go_enter Tryz.func80, Tryz.ntmps80
  go_wp2_with (go_at_call 99; refine (rhole_any _ v0 v1 _).mono ?_; rintro e w' ⟨rfl, rfl⟩)
  refine bodyPost_ret (v := .tuple #[.agg #[.int .i64 Ent.zero.size, .int .i64 Ent.zero.ctx, .int .u64 Ent.zero.va, .int .u64 Ent.zero.pa, .bool Ent.zero.att.write, .bool Ent.zero.att.priv, .bool Ent.zero.att.exec, .bool Ent.zero.att.lock, .bool Ent.zero.att.global, .bool Ent.zero.att.quiet, .bool Ent.zero.valid], .int .i64 3]) (by simp [results, Tryz.results80, go_sem, Ent.zero]) rfl ⟨rfl, ?_⟩
  exact ((Below.refl _ _).alloc (Nat.le_refl _) _).alloc (by simp) _
theorem rread_state (t d va : Int) (d0 : 0 ≤ d) (d1 : d ≤ 18446744073709551615) (v0 : 0 ≤ va) (v1 : va ≤ 18446744073709551615) (hh : holeB va = false) (hv : (bitI d 63 == 0) = true) (w : World) :
    Calls Tryz.prog 80 #[.int .u64 t, .int .u64 d, .int .u64 va] w fun r w' => r = .returned (.tuple #[.agg #[.int .i64 Ent.zero.size, .int .i64 Ent.zero.ctx, .int .u64 Ent.zero.va, .int .u64 Ent.zero.pa, .bool Ent.zero.att.write, .bool Ent.zero.att.priv, .bool Ent.zero.att.exec, .bool Ent.zero.att.lock, .bool Ent.zero.att.global, .bool Ent.zero.att.quiet, .bool Ent.zero.valid], .int .i64 11]) ∧ Below w.heap.size w w' := by
  go_enter Tryz.func80, Tryz.ntmps80
  go_wp2_with (first | (go_at_call 99; refine (rhole_any _ v0 v1 _).mono ?_; rintro e w' ⟨rfl, rfl⟩) | (go_at_call 89; refine (rbit_any _ _ d0 d1 (by omega) (by omega) _).mono ?_; rintro e w' ⟨rfl, rfl⟩))
  refine bodyPost_ret (v := .tuple #[.agg #[.int .i64 Ent.zero.size, .int .i64 Ent.zero.ctx, .int .u64 Ent.zero.va, .int .u64 Ent.zero.pa, .bool Ent.zero.att.write, .bool Ent.zero.att.priv, .bool Ent.zero.att.exec, .bool Ent.zero.att.lock, .bool Ent.zero.att.global, .bool Ent.zero.att.quiet, .bool Ent.zero.valid], .int .i64 11]) (by simp [results, Tryz.results80, go_sem, Ent.zero]) rfl ⟨rfl, ?_⟩
  exact ((Below.refl _ _).alloc (Nat.le_refl _) _).alloc (by simp) _
theorem below_setN' {B : Nat} {w w' : World} {a : Addr} {u : Value} (h : Below B w w') (hb : B ≤ a.block) : Below B w (w'.setCell a u) := h.setCell hb u
theorem row_eight {w : World} {g : Nat} {T : TypeId} {s c z2 z3 z4 z5 z6 z7 z8 z9 v x2 x3 x4 x5 x6 x7 x8 x9 : Value} (h : w.heap[g]? = some (.cells #[s, c, z2, z3, z4, z5, z6, z7, z8, z9, v] T (0, 0))) :
    ((((((((w.setCell ⟨g, 2, none⟩ x2).setCell ⟨g, 3, none⟩ x3).setCell ⟨g, 9, none⟩ x9).setCell ⟨g, 7, none⟩ x7).setCell ⟨g, 6, none⟩ x6).setCell ⟨g, 5, none⟩ x5).setCell ⟨g, 4, none⟩ x4).setCell ⟨g, 8, none⟩ x8).heap[g]? = some (.cells #[s, c, x2, x3, x4, x5, x6, x7, x8, x9, v] T (0, 0)) := by
  have h1 := set_row h 2 x2
  have h2 := set_row h1 3 x3
  have h3 := set_row h2 9 x9
  have h4 := set_row h3 7 x7
  have h5 := set_row h4 6 x6
  have h6 := set_row h5 5 x5
  have h7 := set_row h6 4 x4
  have h8 := set_row h7 8 x8
  clear h h1 h2 h3 h4 h5 h6 h7
  simp only [List.setIfInBounds_toArray, List.set_cons_succ, List.set_cons_zero] at h8
  exact h8
end Go.Proofs.YtgdagfhdimoklaaGreat.Fld
/-
  The contract of the document's own Read of layer 3, where words are held against an entry's own. Conditions: words are below 2 to the 64.
-/
namespace Go.Proofs.YtgdagfhdimoklaaGreat.Fld
open Go.ChangeShapes Go.WideShapes Go.ChangeAt Go.RowKit
set_option maxHeartbeats 2000000
set_option maxRecDepth 100000
theorem rread_form (t d va : Int) (M : Bool) (T D : Int) (t0 : 0 ≤ t) (t1 : t ≤ 18446744073709551615) (d0 : 0 ≤ d) (d1 : d ≤ 18446744073709551615) (v0 : 0 ≤ va) (v1 : va ≤ 18446744073709551615) (hh : holeB va = false) (hv : (bitI d 63 == 0) = false)
    (HM : Hid (∀ W, Calls Tryz.prog 74 #[.agg #[.int .i64 (getI d 61 2), .int .i64 (getI t 48 13), .int .u64 (baseI va (getI d 61 2)), .int .u64 (getI d 13 28 * 8192), .bool (bitI d 1 == 1), .bool (bitI d 2 == 1), .bool (bitI d 3 == 1), .bool (bitI d 6 == 1), .bool (bitI d 0 == 1), .bool (bitI d 60 == 1), .bool true]] W fun r w' => r = .returned (.bool M) ∧ Below W.heap.size W w'))
    (HT : Hid (M = true → ∀ W, Calls Tryz.prog 72 #[.agg #[.int .i64 (getI d 61 2), .int .i64 (getI t 48 13), .int .u64 (baseI va (getI d 61 2)), .int .u64 (getI d 13 28 * 8192), .bool (bitI d 1 == 1), .bool (bitI d 2 == 1), .bool (bitI d 3 == 1), .bool (bitI d 6 == 1), .bool (bitI d 0 == 1), .bool (bitI d 60 == 1), .bool true]] W fun r w' => r = .returned (.int .u64 T) ∧ Below W.heap.size W w'))
    (HD : Hid (M = true → ∀ W, Calls Tryz.prog 73 #[.agg #[.int .i64 (getI d 61 2), .int .i64 (getI t 48 13), .int .u64 (baseI va (getI d 61 2)), .int .u64 (getI d 13 28 * 8192), .bool (bitI d 1 == 1), .bool (bitI d 2 == 1), .bool (bitI d 3 == 1), .bool (bitI d 6 == 1), .bool (bitI d 0 == 1), .bool (bitI d 60 == 1), .bool true]] W fun r w' => r = .returned (.int .u64 D) ∧ Below W.heap.size W w')) (w : World) :
    Calls Tryz.prog 80 #[.int .u64 t, .int .u64 d, .int .u64 va] w fun r w' => ((M && (T == t) && (D == d)) = true ∧ r = .returned (.tuple #[.agg #[.int .i64 (getI d 61 2), .int .i64 (getI t 48 13), .int .u64 (baseI va (getI d 61 2)), .int .u64 (getI d 13 28 * 8192), .bool (bitI d 1 == 1), .bool (bitI d 2 == 1), .bool (bitI d 3 == 1), .bool (bitI d 6 == 1), .bool (bitI d 0 == 1), .bool (bitI d 60 == 1), .bool true], .int .i64 0]) ∨ (M && (T == t) && (D == d)) = false ∧ r = .returned (.tuple #[.agg #[.int .i64 Ent.zero.size, .int .i64 Ent.zero.ctx, .int .u64 Ent.zero.va, .int .u64 Ent.zero.pa, .bool Ent.zero.att.write, .bool Ent.zero.att.priv, .bool Ent.zero.att.exec, .bool Ent.zero.att.lock, .bool Ent.zero.att.global, .bool Ent.zero.att.quiet, .bool Ent.zero.valid], .int .i64 2])) ∧ Below w.heap.size w w' := by
  have g1 := getI_bd d 61 2
  have g2 := getI_bd t 48 13
  have g3 : getI d 61 2 ≤ 3 := by rw [getI_at d 61 2 2305843009213693952 4 (by decide) d0 (by decide) (by decide)]; omega
  have g4 : getI t 48 13 ≤ 8191 := by rw [getI_at t 48 13 281474976710656 8192 (by decide) t0 (by decide) (by decide)]; omega
  have g5 : getI d 13 28 ≤ 268435455 := by rw [getI_at d 13 28 8192 268435456 (by decide) d0 (by decide) (by decide)]; omega
  have g6 := getI_bd d 13 28
  go_enter Tryz.func80, Tryz.ntmps80
  go_wp2_with (first | (go_at_call 99; refine (rhole_any _ v0 v1 _).mono ?_; rintro e w' ⟨rfl, rfl⟩) | (go_at_call 89; refine (rbit_any _ _ d0 d1 (by omega) (by omega) _).mono ?_; rintro e w' ⟨rfl, rfl⟩) | (go_at_call 104; refine (rget_any _ _ _ (by omega) (by omega) _).mono ?_; rintro e w' ⟨rfl, rfl⟩) | (go_at_call 67; refine (rbase_any _ _ v0 v1 _).mono ?_; rintro e w' ⟨rfl, n, rfl⟩))
  obtain ⟨W, hW⟩ : ∃ W, W = ((((((((((((w.alloc (.cells #[.int .i64 0, .int .i64 0, .int .u64 0, .int .u64 0, .bool false, .bool false, .bool false, .bool false, .bool false, .bool false, .bool false] 35)).alloc (.cells #[.int .i64 0, .int .i64 0, .int .u64 0, .int .u64 0, .bool false, .bool false, .bool false, .bool false, .bool false, .bool false, .bool false] 35)).alloc (.cells #[.int .i64 (getI d 61 2), .int .i64 (getI t 48 13), .int .u64 0, .int .u64 0, .bool false, .bool false, .bool false, .bool false, .bool false, .bool false, .bool true] 35)).drewN n).setCell ⟨w.heap.size + 1 + 1, 2, none⟩ (.int .u64 (baseI va (getI d 61 2)))).setCell ⟨w.heap.size + 1 + 1, 3, none⟩ (.int .u64 (getI d 13 28 * 8192))).setCell ⟨w.heap.size + 1 + 1, 9, none⟩ (.bool (bitI d 60 == 1))).setCell ⟨w.heap.size + 1 + 1, 7, none⟩ (.bool (bitI d 6 == 1))).setCell ⟨w.heap.size + 1 + 1, 6, none⟩ (.bool (bitI d 3 == 1))).setCell ⟨w.heap.size + 1 + 1, 5, none⟩ (.bool (bitI d 2 == 1))).setCell ⟨w.heap.size + 1 + 1, 4, none⟩ (.bool (bitI d 1 == 1))).setCell ⟨w.heap.size + 1 + 1, 8, none⟩ (.bool (bitI d 0 == 1))) := ⟨_, rfl⟩
  rw [← hW]
  have hR := Lib.hid (show W.heap[w.heap.size]? = some (.cells #[.int .i64 0, .int .i64 0, .int .u64 0, .int .u64 0, .bool false, .bool false, .bool false, .bool false, .bool false, .bool false, .bool false] 35 (0, 0)) by
    rw [hW]
    iterate 8 rw [Below.heap_setCell _ _ _ _ (by show w.heap.size ≠ w.heap.size + 1 + 1; omega)]
    exact (Below.heap_alloc _ _ _ (by simp; omega)).trans ((Below.heap_alloc _ _ _ (by simp)).trans (heap_alloc_new _ _)))
  have hN := Lib.hid (show W.heap[w.heap.size + 1]? = some (.cells #[.int .i64 0, .int .i64 0, .int .u64 0, .int .u64 0, .bool false, .bool false, .bool false, .bool false, .bool false, .bool false, .bool false] 35 (0, 0)) by
    rw [hW]
    iterate 8 rw [Below.heap_setCell _ _ _ _ (by show w.heap.size + 1 ≠ w.heap.size + 1 + 1; omega)]
    exact (Below.heap_alloc _ _ _ (by simp)).trans (heap_alloc2_new _ _ _))
  have hE := Lib.hid (show W.heap[w.heap.size + 1 + 1]? = some (.cells #[.int .i64 (getI d 61 2), .int .i64 (getI t 48 13), .int .u64 (baseI va (getI d 61 2)), .int .u64 (getI d 13 28 * 8192), .bool (bitI d 1 == 1), .bool (bitI d 2 == 1), .bool (bitI d 3 == 1), .bool (bitI d 6 == 1), .bool (bitI d 0 == 1), .bool (bitI d 60 == 1), .bool true] 35 (0, 0)) by
    rw [hW]
    have h := heap_alloc_new ((w.alloc (.cells #[.int .i64 0, .int .i64 0, .int .u64 0, .int .u64 0, .bool false, .bool false, .bool false, .bool false, .bool false, .bool false, .bool false] 35)).alloc (.cells #[.int .i64 0, .int .i64 0, .int .u64 0, .int .u64 0, .bool false, .bool false, .bool false, .bool false, .bool false, .bool false, .bool false] 35)) (.cells #[.int .i64 (getI d 61 2), .int .i64 (getI t 48 13), .int .u64 0, .int .u64 0, .bool false, .bool false, .bool false, .bool false, .bool false, .bool false, .bool true] 35)
    rw [World.size_alloc, World.size_alloc] at h
    exact row_eight (w := World.drewN _ n) h)
  have HB := Lib.hid (show Below w.heap.size w W by
    rw [hW]
    iterate 8 refine below_setN' ?_ (by show w.heap.size ≤ w.heap.size + 1 + 1; omega)
    exact below_drewN ((((Below.refl _ _).alloc (Nat.le_refl _) _).alloc (by simp) _).alloc (by simp; omega) _) _)
  have hz : w.heap.size + 1 + 1 < W.heap.size := by rw [hW]; simp
  clear hW
  refine (HM.out _).mono ?_; rintro r w1 ⟨rfl, hb⟩
  have hR1 := Lib.hid ((hb.block w.heap.size (by omega)).trans hR.out)
  have hN1 := Lib.hid ((hb.block (w.heap.size + 1) (by omega)).trans hN.out)
  have hE1 := Lib.hid ((hb.block (w.heap.size + 1 + 1) (by omega)).trans hE.out)
  have hz1 : w.heap.size + 1 + 1 < w1.heap.size := by have := hb.size; omega
  have HB1 := Lib.hid (show Below w.heap.size w w1 from HB.out.trans (hb.mono (by omega)))
  clear hb
  cases M
  · have r0 := cell_of_row _ _ 0 _ _ _ hR1.out
    have r1 := cell_of_row _ _ 1 _ _ _ hR1.out
    have r2 := cell_of_row _ _ 2 _ _ _ hR1.out
    have r3 := cell_of_row _ _ 3 _ _ _ hR1.out
    have r4 := cell_of_row _ _ 4 _ _ _ hR1.out
    have r5 := cell_of_row _ _ 5 _ _ _ hR1.out
    have r6 := cell_of_row _ _ 6 _ _ _ hR1.out
    have r7 := cell_of_row _ _ 7 _ _ _ hR1.out
    have r8 := cell_of_row _ _ 8 _ _ _ hR1.out
    have r9 := cell_of_row _ _ 9 _ _ _ hR1.out
    have r10 := cell_of_row _ _ 10 _ _ _ hR1.out
    have n0 := cell_of_row _ _ 0 _ _ _ hN1.out
    have n1 := cell_of_row _ _ 1 _ _ _ hN1.out
    have n2 := cell_of_row _ _ 2 _ _ _ hN1.out
    have n3 := cell_of_row _ _ 3 _ _ _ hN1.out
    have n4 := cell_of_row _ _ 4 _ _ _ hN1.out
    have n5 := cell_of_row _ _ 5 _ _ _ hN1.out
    have n6 := cell_of_row _ _ 6 _ _ _ hN1.out
    have n7 := cell_of_row _ _ 7 _ _ _ hN1.out
    have n8 := cell_of_row _ _ 8 _ _ _ hN1.out
    have n9 := cell_of_row _ _ 9 _ _ _ hN1.out
    have n10 := cell_of_row _ _ 10 _ _ _ hN1.out
    have fr : ∀ i, w1.frozen? ⟨w.heap.size, i, none⟩ = false := fun i => row_frozen hR1.out i
    go_wp2_with fail
    refine bodyPost_ret (v := .tuple #[.agg #[.int .i64 Ent.zero.size, .int .i64 Ent.zero.ctx, .int .u64 Ent.zero.va, .int .u64 Ent.zero.pa, .bool Ent.zero.att.write, .bool Ent.zero.att.priv, .bool Ent.zero.att.exec, .bool Ent.zero.att.lock, .bool Ent.zero.att.global, .bool Ent.zero.att.quiet, .bool Ent.zero.valid], .int .i64 2]) (by simp [results, Tryz.results80, go_sem, Ent.zero, r0, r1, r2, r3, r4, r5, r6, r7, r8, r9, r10]) rfl ⟨.inr ⟨rfl, rfl⟩, ?_⟩
    iterate 11 refine below_set ?_
    exact HB1.out
  have e0 := cell_of_row _ _ 0 _ _ _ hE1.out
  have e1 := cell_of_row _ _ 1 _ _ _ hE1.out
  have e2 := cell_of_row _ _ 2 _ _ _ hE1.out
  have e3 := cell_of_row _ _ 3 _ _ _ hE1.out
  have e4 := cell_of_row _ _ 4 _ _ _ hE1.out
  have e5 := cell_of_row _ _ 5 _ _ _ hE1.out
  have e6 := cell_of_row _ _ 6 _ _ _ hE1.out
  have e7 := cell_of_row _ _ 7 _ _ _ hE1.out
  have e8 := cell_of_row _ _ 8 _ _ _ hE1.out
  have e9 := cell_of_row _ _ 9 _ _ _ hE1.out
  have e10 := cell_of_row _ _ 10 _ _ _ hE1.out
  go_wp2_with fail
  clear e0 e1 e2 e3 e4 e5 e6 e7 e8 e9 e10
  refine (HT.out trivial _).mono ?_; rintro r w2 ⟨rfl, hb⟩
  have hR2 := Lib.hid ((hb.block w.heap.size (by omega)).trans hR1.out)
  have hN2 := Lib.hid ((hb.block (w.heap.size + 1) (by omega)).trans hN1.out)
  have hE2 := Lib.hid ((hb.block (w.heap.size + 1 + 1) (by omega)).trans hE1.out)
  have hz2 : w.heap.size + 1 + 1 < w2.heap.size := by have := hb.size; omega
  have HB2 := Lib.hid (show Below w.heap.size w w2 from HB1.out.trans (hb.mono (by omega)))
  clear hb
  cases ht : (T == t)
  · have ht' : (T != t) = true := by simp [bne, ht]
    have r0 := cell_of_row _ _ 0 _ _ _ hR2.out
    have r1 := cell_of_row _ _ 1 _ _ _ hR2.out
    have r2 := cell_of_row _ _ 2 _ _ _ hR2.out
    have r3 := cell_of_row _ _ 3 _ _ _ hR2.out
    have r4 := cell_of_row _ _ 4 _ _ _ hR2.out
    have r5 := cell_of_row _ _ 5 _ _ _ hR2.out
    have r6 := cell_of_row _ _ 6 _ _ _ hR2.out
    have r7 := cell_of_row _ _ 7 _ _ _ hR2.out
    have r8 := cell_of_row _ _ 8 _ _ _ hR2.out
    have r9 := cell_of_row _ _ 9 _ _ _ hR2.out
    have r10 := cell_of_row _ _ 10 _ _ _ hR2.out
    have n0 := cell_of_row _ _ 0 _ _ _ hN2.out
    have n1 := cell_of_row _ _ 1 _ _ _ hN2.out
    have n2 := cell_of_row _ _ 2 _ _ _ hN2.out
    have n3 := cell_of_row _ _ 3 _ _ _ hN2.out
    have n4 := cell_of_row _ _ 4 _ _ _ hN2.out
    have n5 := cell_of_row _ _ 5 _ _ _ hN2.out
    have n6 := cell_of_row _ _ 6 _ _ _ hN2.out
    have n7 := cell_of_row _ _ 7 _ _ _ hN2.out
    have n8 := cell_of_row _ _ 8 _ _ _ hN2.out
    have n9 := cell_of_row _ _ 9 _ _ _ hN2.out
    have n10 := cell_of_row _ _ 10 _ _ _ hN2.out
    have fr : ∀ i, w2.frozen? ⟨w.heap.size, i, none⟩ = false := fun i => row_frozen hR2.out i
    go_wp2_with fail
    refine bodyPost_ret (v := .tuple #[.agg #[.int .i64 Ent.zero.size, .int .i64 Ent.zero.ctx, .int .u64 Ent.zero.va, .int .u64 Ent.zero.pa, .bool Ent.zero.att.write, .bool Ent.zero.att.priv, .bool Ent.zero.att.exec, .bool Ent.zero.att.lock, .bool Ent.zero.att.global, .bool Ent.zero.att.quiet, .bool Ent.zero.valid], .int .i64 2]) (by simp [results, Tryz.results80, go_sem, Ent.zero, r0, r1, r2, r3, r4, r5, r6, r7, r8, r9, r10]) rfl ⟨.inr ⟨by rw [ht]; rfl, rfl⟩, ?_⟩
    iterate 11 refine below_set ?_
    exact HB2.out
  have ht' : (T != t) = false := by simp [bne, ht]
  have e0 := cell_of_row _ _ 0 _ _ _ hE2.out
  have e1 := cell_of_row _ _ 1 _ _ _ hE2.out
  have e2 := cell_of_row _ _ 2 _ _ _ hE2.out
  have e3 := cell_of_row _ _ 3 _ _ _ hE2.out
  have e4 := cell_of_row _ _ 4 _ _ _ hE2.out
  have e5 := cell_of_row _ _ 5 _ _ _ hE2.out
  have e6 := cell_of_row _ _ 6 _ _ _ hE2.out
  have e7 := cell_of_row _ _ 7 _ _ _ hE2.out
  have e8 := cell_of_row _ _ 8 _ _ _ hE2.out
  have e9 := cell_of_row _ _ 9 _ _ _ hE2.out
  have e10 := cell_of_row _ _ 10 _ _ _ hE2.out
  go_wp2_with fail
  clear e0 e1 e2 e3 e4 e5 e6 e7 e8 e9 e10
  refine (HD.out trivial _).mono ?_; rintro r w3 ⟨rfl, hb⟩
  have hR3 := Lib.hid ((hb.block w.heap.size (by omega)).trans hR2.out)
  have hN3 := Lib.hid ((hb.block (w.heap.size + 1) (by omega)).trans hN2.out)
  have hE3 := Lib.hid ((hb.block (w.heap.size + 1 + 1) (by omega)).trans hE2.out)
  have hz3 : w.heap.size + 1 + 1 < w3.heap.size := by have := hb.size; omega
  have HB3 := Lib.hid (show Below w.heap.size w w3 from HB2.out.trans (hb.mono (by omega)))
  clear hb
  cases hd : (D == d)
  · have hd' : (D != d) = true := by simp [bne, hd]
    have r0 := cell_of_row _ _ 0 _ _ _ hR3.out
    have r1 := cell_of_row _ _ 1 _ _ _ hR3.out
    have r2 := cell_of_row _ _ 2 _ _ _ hR3.out
    have r3 := cell_of_row _ _ 3 _ _ _ hR3.out
    have r4 := cell_of_row _ _ 4 _ _ _ hR3.out
    have r5 := cell_of_row _ _ 5 _ _ _ hR3.out
    have r6 := cell_of_row _ _ 6 _ _ _ hR3.out
    have r7 := cell_of_row _ _ 7 _ _ _ hR3.out
    have r8 := cell_of_row _ _ 8 _ _ _ hR3.out
    have r9 := cell_of_row _ _ 9 _ _ _ hR3.out
    have r10 := cell_of_row _ _ 10 _ _ _ hR3.out
    have n0 := cell_of_row _ _ 0 _ _ _ hN3.out
    have n1 := cell_of_row _ _ 1 _ _ _ hN3.out
    have n2 := cell_of_row _ _ 2 _ _ _ hN3.out
    have n3 := cell_of_row _ _ 3 _ _ _ hN3.out
    have n4 := cell_of_row _ _ 4 _ _ _ hN3.out
    have n5 := cell_of_row _ _ 5 _ _ _ hN3.out
    have n6 := cell_of_row _ _ 6 _ _ _ hN3.out
    have n7 := cell_of_row _ _ 7 _ _ _ hN3.out
    have n8 := cell_of_row _ _ 8 _ _ _ hN3.out
    have n9 := cell_of_row _ _ 9 _ _ _ hN3.out
    have n10 := cell_of_row _ _ 10 _ _ _ hN3.out
    have fr : ∀ i, w3.frozen? ⟨w.heap.size, i, none⟩ = false := fun i => row_frozen hR3.out i
    go_wp2_with fail
    refine bodyPost_ret (v := .tuple #[.agg #[.int .i64 Ent.zero.size, .int .i64 Ent.zero.ctx, .int .u64 Ent.zero.va, .int .u64 Ent.zero.pa, .bool Ent.zero.att.write, .bool Ent.zero.att.priv, .bool Ent.zero.att.exec, .bool Ent.zero.att.lock, .bool Ent.zero.att.global, .bool Ent.zero.att.quiet, .bool Ent.zero.valid], .int .i64 2]) (by simp [results, Tryz.results80, go_sem, Ent.zero, r0, r1, r2, r3, r4, r5, r6, r7, r8, r9, r10]) rfl ⟨.inr ⟨by rw [ht, hd]; rfl, rfl⟩, ?_⟩
    iterate 11 refine below_set ?_
    exact HB3.out
  · have hd' : (D != d) = false := by simp [bne, hd]
    have e0 := cell_of_row _ _ 0 _ _ _ hE3.out
    have e1 := cell_of_row _ _ 1 _ _ _ hE3.out
    have e2 := cell_of_row _ _ 2 _ _ _ hE3.out
    have e3 := cell_of_row _ _ 3 _ _ _ hE3.out
    have e4 := cell_of_row _ _ 4 _ _ _ hE3.out
    have e5 := cell_of_row _ _ 5 _ _ _ hE3.out
    have e6 := cell_of_row _ _ 6 _ _ _ hE3.out
    have e7 := cell_of_row _ _ 7 _ _ _ hE3.out
    have e8 := cell_of_row _ _ 8 _ _ _ hE3.out
    have e9 := cell_of_row _ _ 9 _ _ _ hE3.out
    have e10 := cell_of_row _ _ 10 _ _ _ hE3.out
    have r0 := cell_of_row _ _ 0 _ _ _ hR3.out
    have r1 := cell_of_row _ _ 1 _ _ _ hR3.out
    have r2 := cell_of_row _ _ 2 _ _ _ hR3.out
    have r3 := cell_of_row _ _ 3 _ _ _ hR3.out
    have r4 := cell_of_row _ _ 4 _ _ _ hR3.out
    have r5 := cell_of_row _ _ 5 _ _ _ hR3.out
    have r6 := cell_of_row _ _ 6 _ _ _ hR3.out
    have r7 := cell_of_row _ _ 7 _ _ _ hR3.out
    have r8 := cell_of_row _ _ 8 _ _ _ hR3.out
    have r9 := cell_of_row _ _ 9 _ _ _ hR3.out
    have r10 := cell_of_row _ _ 10 _ _ _ hR3.out
    have n0 := cell_of_row _ _ 0 _ _ _ hN3.out
    have n1 := cell_of_row _ _ 1 _ _ _ hN3.out
    have n2 := cell_of_row _ _ 2 _ _ _ hN3.out
    have n3 := cell_of_row _ _ 3 _ _ _ hN3.out
    have n4 := cell_of_row _ _ 4 _ _ _ hN3.out
    have n5 := cell_of_row _ _ 5 _ _ _ hN3.out
    have n6 := cell_of_row _ _ 6 _ _ _ hN3.out
    have n7 := cell_of_row _ _ 7 _ _ _ hN3.out
    have n8 := cell_of_row _ _ 8 _ _ _ hN3.out
    have n9 := cell_of_row _ _ 9 _ _ _ hN3.out
    have n10 := cell_of_row _ _ 10 _ _ _ hN3.out
    have fr : ∀ i, w3.frozen? ⟨w.heap.size, i, none⟩ = false := fun i => row_frozen hR3.out i
    go_wp2_with fail
    refine bodyPost_ret (v := .tuple #[.agg #[.int .i64 (getI d 61 2), .int .i64 (getI t 48 13), .int .u64 (baseI va (getI d 61 2)), .int .u64 (getI d 13 28 * 8192), .bool (bitI d 1 == 1), .bool (bitI d 2 == 1), .bool (bitI d 3 == 1), .bool (bitI d 6 == 1), .bool (bitI d 0 == 1), .bool (bitI d 60 == 1), .bool true], .int .i64 0]) (by simp [results, Tryz.results80, go_sem, r0, r1, r2, r3, r4, r5, r6, r7, r8, r9, r10]) rfl ⟨.inl ⟨by rw [ht, hd]; rfl, rfl⟩, ?_⟩
    iterate 11 refine below_set ?_
    exact HB3.out
theorem rread_any (t d va : Int) (t0 : 0 ≤ t) (t1 : t ≤ 18446744073709551615) (d0 : 0 ≤ d) (d1 : d ≤ 18446744073709551615) (v0 : 0 ≤ va) (v1 : va ≤ 18446744073709551615) (w : World) :
    Calls Tryz.prog 80 #[.int .u64 t, .int .u64 d, .int .u64 va] w fun r w' => r = .returned (.tuple #[.agg #[.int .i64 (Ent.readE t d va).size, .int .i64 (Ent.readE t d va).ctx, .int .u64 (Ent.readE t d va).va, .int .u64 (Ent.readE t d va).pa, .bool (Ent.readE t d va).att.write, .bool (Ent.readE t d va).att.priv, .bool (Ent.readE t d va).att.exec, .bool (Ent.readE t d va).att.lock, .bool (Ent.readE t d va).att.global, .bool (Ent.readE t d va).att.quiet, .bool (Ent.readE t d va).valid], .int .i64 (Ent.readN t d va)]) ∧ Below w.heap.size w w' := by
  cases hh : holeB va
  · rcases bitI_01 d 63 with hv | hv
    · obtain ⟨e1, e2⟩ := read_state t d va hh hv
      exact (rread_state t d va d0 d1 v0 v1 hh (by rw [hv]; rfl) w).mono fun _ _ h => ⟨h.1.trans (ret_read e2.symm e1.symm), h.2⟩
    · obtain ⟨b1, b2, b3, b4⟩ := Ent.ofW_bd t d va t0 d0 v0 v1
      have hw := read_form t d va _ rfl hh hv
      have HM := Lib.hid (fun W => rmaye_any (Ent.ofW t d va) b2.1 b2.2 b3.1 b3.2 W)
      have HT := Lib.hid (fun (h : (Ent.ofW t d va).mayB = true) (W : World) => rtage_any (Ent.ofW t d va) (Ent.fit h b3.1) b2.1 b2.2 W)
      have HD := Lib.hid (fun (h : (Ent.ofW t d va).mayB = true) (W : World) => rdata_any (Ent.ofW t d va) (Ent.fit h b3.1) W)
      refine (rread_form t d va _ _ _ t0 t1 d0 d1 v0 v1 hh (by rw [hv]; rfl) HM HT HD w).mono fun _ _ h => ⟨?_, h.2⟩
      rcases hw with ⟨q, e1, e2⟩ | ⟨q, e1, e2⟩
      · rcases h.1 with ⟨_, e⟩ | ⟨z, _⟩
        · exact e.trans (ret_read (g := Ent.ofW t d va) e2.symm e1.symm)
        · rw [q] at z; cases z
      · rcases h.1 with ⟨z, _⟩ | ⟨_, e⟩
        · rw [q] at z; cases z
        · exact e.trans (ret_read e2.symm e1.symm)
  · obtain ⟨e1, e2⟩ := read_hole t d va hh
    exact (rread_hole t d va v0 v1 hh w).mono fun _ _ h => ⟨h.1.trans (ret_read e2.symm e1.symm), h.2⟩
end Go.Proofs.YtgdagfhdimoklaaGreat.Fld
/-
  A whole entry laid into a block, cell by cell: the block, and the others. Conditions: none.
-/
namespace Go.Proofs.YtgdagfhdimoklaaGreat.Fld
open Go.ChangeShapes Go.WideShapes Go.ChangeAt Go.RowKit
set_option maxHeartbeats 1000000
theorem row_eleven {w : World} {g : Nat} {T : TypeId} {z0 z1 z2 z3 z4 z5 z6 z7 z8 z9 z10 x0 x1 x2 x3 x4 x5 x6 x7 x8 x9 x10 : Value} (h : w.heap[g]? = some (.cells #[z0, z1, z2, z3, z4, z5, z6, z7, z8, z9, z10] T (0, 0))) :
    (((((((((((w.setCell ⟨g, 0, none⟩ x0).setCell ⟨g, 1, none⟩ x1).setCell ⟨g, 2, none⟩ x2).setCell ⟨g, 3, none⟩ x3).setCell ⟨g, 4, none⟩ x4).setCell ⟨g, 5, none⟩ x5).setCell ⟨g, 6, none⟩ x6).setCell ⟨g, 7, none⟩ x7).setCell ⟨g, 8, none⟩ x8).setCell ⟨g, 9, none⟩ x9).setCell ⟨g, 10, none⟩ x10).heap[g]? = some (.cells #[x0, x1, x2, x3, x4, x5, x6, x7, x8, x9, x10] T (0, 0)) := by
  have h0 := set_row h 0 x0
  have h1 := set_row h0 1 x1
  have h2 := set_row h1 2 x2
  have h3 := set_row h2 3 x3
  have h4 := set_row h3 4 x4
  have h5 := set_row h4 5 x5
  have h6 := set_row h5 6 x6
  have h7 := set_row h6 7 x7
  have h8 := set_row h7 8 x8
  have h9 := set_row h8 9 x9
  have h10 := set_row h9 10 x10
  clear h h0 h1 h2 h3 h4 h5 h6 h7 h8 h9
  simp only [List.setIfInBounds_toArray, List.set_cons_succ, List.set_cons_zero] at h10
  exact h10
theorem row_far {w : World} {g b : Nat} {x0 x1 x2 x3 x4 x5 x6 x7 x8 x9 x10 : Value} (h : b ≠ g) :
    (((((((((((w.setCell ⟨g, 0, none⟩ x0).setCell ⟨g, 1, none⟩ x1).setCell ⟨g, 2, none⟩ x2).setCell ⟨g, 3, none⟩ x3).setCell ⟨g, 4, none⟩ x4).setCell ⟨g, 5, none⟩ x5).setCell ⟨g, 6, none⟩ x6).setCell ⟨g, 7, none⟩ x7).setCell ⟨g, 8, none⟩ x8).setCell ⟨g, 9, none⟩ x9).setCell ⟨g, 10, none⟩ x10).heap[b]? = w.heap[b]? := by
  rw [Below.heap_setCell _ _ _ _ h, Below.heap_setCell _ _ _ _ h, Below.heap_setCell _ _ _ _ h, Below.heap_setCell _ _ _ _ h, Below.heap_setCell _ _ _ _ h, Below.heap_setCell _ _ _ _ h, Below.heap_setCell _ _ _ _ h, Below.heap_setCell _ _ _ _ h, Below.heap_setCell _ _ _ _ h, Below.heap_setCell _ _ _ _ h, Below.heap_setCell _ _ _ _ h]
/-- The cells of an entry in a block. -/
structure RowE (w : World) (b : Nat) (e : Ent) : Prop where
  row : w.heap[b]? = some (.cells #[.int .i64 e.size, .int .i64 e.ctx, .int .u64 e.va, .int .u64 e.pa, .bool e.att.write, .bool e.att.priv, .bool e.att.exec, .bool e.att.lock, .bool e.att.global, .bool e.att.quiet, .bool e.valid] 35 (0, 0))
theorem RowE.new (w : World) (e : Ent) : RowE (w.alloc (.cells #[.int .i64 e.size, .int .i64 e.ctx, .int .u64 e.va, .int .u64 e.pa, .bool e.att.write, .bool e.att.priv, .bool e.att.exec, .bool e.att.lock, .bool e.att.global, .bool e.att.quiet, .bool e.valid] 35)) w.heap.size e := ⟨heap_alloc_new _ _⟩
theorem RowE.below {w w' : World} {B b : Nat} {e : Ent} (h : RowE w b e) (hb : Below B w w') (hB : b < B) : RowE w' b e := ⟨(hb.block b hB).trans h.row⟩
theorem RowE.alloc {w : World} {b : Nat} {e : Ent} (h : RowE w b e) (o : Obj) (hB : b < w.heap.size) : RowE (w.alloc o) b e := ⟨(Below.heap_alloc _ _ _ hB).trans h.row⟩
theorem RowE.drewN {w : World} {b : Nat} {e : Ent} (h : RowE w b e) (n : Nat) : RowE (w.drewN n) b e := ⟨h.row⟩
theorem RowE.lt {w : World} {b : Nat} {e : Ent} (h : RowE w b e) : b < w.heap.size := by
  rcases Nat.lt_or_ge b w.heap.size with hlt | hge
  · exact hlt
  · have := h.row; rw [Array.getElem?_eq_none hge] at this; cases this
theorem RowE.cells {w : World} {b : Nat} {e : Ent} (h : RowE w b e) :
    w.cell? ⟨b, 0, none⟩ = some (.int .i64 e.size) ∧ w.cell? ⟨b, 1, none⟩ = some (.int .i64 e.ctx) ∧ w.cell? ⟨b, 2, none⟩ = some (.int .u64 e.va) ∧ w.cell? ⟨b, 3, none⟩ = some (.int .u64 e.pa) ∧ w.cell? ⟨b, 4, none⟩ = some (.bool e.att.write) ∧ w.cell? ⟨b, 5, none⟩ = some (.bool e.att.priv) ∧ w.cell? ⟨b, 6, none⟩ = some (.bool e.att.exec) ∧ w.cell? ⟨b, 7, none⟩ = some (.bool e.att.lock) ∧ w.cell? ⟨b, 8, none⟩ = some (.bool e.att.global) ∧ w.cell? ⟨b, 9, none⟩ = some (.bool e.att.quiet) ∧ w.cell? ⟨b, 10, none⟩ = some (.bool e.valid) :=
  ⟨cell_of_row _ _ 0 _ _ _ h.row, cell_of_row _ _ 1 _ _ _ h.row, cell_of_row _ _ 2 _ _ _ h.row, cell_of_row _ _ 3 _ _ _ h.row, cell_of_row _ _ 4 _ _ _ h.row, cell_of_row _ _ 5 _ _ _ h.row, cell_of_row _ _ 6 _ _ _ h.row, cell_of_row _ _ 7 _ _ _ h.row, cell_of_row _ _ 8 _ _ _ h.row, cell_of_row _ _ 9 _ _ _ h.row, cell_of_row _ _ 10 _ _ _ h.row⟩
theorem RowE.frozen {w : World} {b : Nat} {e : Ent} (h : RowE w b e) (i : Nat) : w.frozen? ⟨b, i, none⟩ = false := row_frozen h.row i
end Go.Proofs.YtgdagfhdimoklaaGreat.Fld
/-
  What stays of an entry's block over calls, new blocks and draws. Conditions: none.
-/
namespace Go.Proofs.YtgdagfhdimoklaaGreat.Fld
open Go.ChangeShapes Go.WideShapes Go.ChangeAt Go.RowKit
/-- Of the world w only what is new has turned, and the block b has the entry e. -/
structure KeepE (w0 w : World) (b : Nat) (e : Ent) : Prop where
  below : Below w0.heap.size w0 w
  row : RowE w b e
theorem KeepE.call {w0 w w' : World} {b : Nat} {e : Ent} (h : KeepE w0 w b e) (hb : Below w.heap.size w w') : KeepE w0 w' b e := ⟨h.below.trans (hb.mono h.below.size), h.row.below hb h.row.lt⟩
theorem KeepE.drew {w0 w : World} {b : Nat} {e : Ent} (h : KeepE w0 w b e) : KeepE w0 w.drew b e := ⟨h.below.drew, ⟨h.row.row⟩⟩
theorem KeepE.drewN {w0 w : World} {b : Nat} {e : Ent} (h : KeepE w0 w b e) (n : Nat) : KeepE w0 (w.drewN n) b e := ⟨below_drewN h.below n, ⟨h.row.row⟩⟩
theorem KeepE.alloc {w0 w : World} {b : Nat} {e : Ent} (h : KeepE w0 w b e) (o : Obj) : KeepE w0 (w.alloc o) b e := ⟨h.below.alloc h.below.size o, h.row.alloc o h.row.lt⟩
theorem KeepE.lt2 {w0 w w' : World} {b : Nat} {e : Ent} (h : KeepE w0 w b e) (hb : Below w.heap.size w w') : b < w'.heap.size := Nat.lt_of_lt_of_le h.row.lt hb.size
theorem KeepE.realloc {w0 w : World} {b : Nat} {e : Ent} {o : Obj} (h : KeepE w0 (w.alloc o) b e) (hlt : b < w.heap.size) (h0 : w0.heap.size ≤ w.heap.size) (o' : Obj) : KeepE w0 (w.alloc o') b e :=
  ⟨⟨h.below.os, h.below.tape, h.below.output, by have := h.below.size; simp at this ⊢; omega, fun k hk => by
      rw [Below.heap_alloc _ _ _ (by omega)]
      exact (Below.heap_alloc w o k (by omega)).symm.trans (h.below.block k hk)⟩,
    ⟨(Below.heap_alloc _ _ _ hlt).trans ((Below.heap_alloc w o b hlt).symm.trans h.row.row)⟩⟩
theorem KeepE.base {w0 w w' : World} {b : Nat} {e : Ent} (h : KeepE w0 w b e) (hb : Below w.heap.size w w') : w0.heap.size ≤ w'.heap.size := Nat.le_trans h.below.size hb.size
theorem KeepE.setNew {w0 X w : World} {b : Nat} {e : Ent} {x0 x1 x2 x3 x4 x5 x6 x7 x8 x9 x10 : Value} (hX : KeepE w0 X b e) (h : KeepE w0 w b e) :
    KeepE w0 (((((((((((w.setCell ⟨X.heap.size, 0, none⟩ x0).setCell ⟨X.heap.size, 1, none⟩ x1).setCell ⟨X.heap.size, 2, none⟩ x2).setCell ⟨X.heap.size, 3, none⟩ x3).setCell ⟨X.heap.size, 4, none⟩ x4).setCell ⟨X.heap.size, 5, none⟩ x5).setCell ⟨X.heap.size, 6, none⟩ x6).setCell ⟨X.heap.size, 7, none⟩ x7).setCell ⟨X.heap.size, 8, none⟩ x8).setCell ⟨X.heap.size, 9, none⟩ x9).setCell ⟨X.heap.size, 10, none⟩ x10) b e := by
  have h0 := hX.below.size
  refine ⟨?_, ⟨(row_far (Nat.ne_of_lt hX.row.lt)).trans h.row.row⟩⟩
  iterate 11 refine below_setN ?_ h0
  exact h.below
theorem RowE.call {w w' : World} {b : Nat} {e : Ent} (h : RowE w b e) (hb : Below w.heap.size w w') : RowE w' b e := h.below hb h.lt
theorem RowE.drew {w : World} {b : Nat} {e : Ent} (h : RowE w b e) : RowE w.drew b e := ⟨h.row⟩
theorem RowE.setAll {w : World} {b : Nat} {z e : Ent} (h : RowE w b z) :
    RowE (((((((((((w.setCell ⟨b, 0, none⟩ (.int .i64 e.size)).setCell ⟨b, 1, none⟩ (.int .i64 e.ctx)).setCell ⟨b, 2, none⟩ (.int .u64 e.va)).setCell ⟨b, 3, none⟩ (.int .u64 e.pa)).setCell ⟨b, 4, none⟩ (.bool e.att.write)).setCell ⟨b, 5, none⟩ (.bool e.att.priv)).setCell ⟨b, 6, none⟩ (.bool e.att.exec)).setCell ⟨b, 7, none⟩ (.bool e.att.lock)).setCell ⟨b, 8, none⟩ (.bool e.att.global)).setCell ⟨b, 9, none⟩ (.bool e.att.quiet)).setCell ⟨b, 10, none⟩ (.bool e.valid)) b e := ⟨row_eleven h.row⟩
theorem bfacts {W w1 : World} (hb : Below W.heap.size W w1) : (∀ b o, b < W.heap.size → w1.cell? ⟨b, o, none⟩ = W.cell? ⟨b, o, none⟩) ∧ (∀ b o, b < W.heap.size → w1.frozen? ⟨b, o, none⟩ = W.frozen? ⟨b, o, none⟩) ∧ (∀ b, b < W.heap.size → b < w1.heap.size) ∧ (∀ b, b ≤ W.heap.size → b ≤ w1.heap.size) :=
  ⟨fun b o h => hb.cell (p := ⟨b, o, none⟩) h, fun b o h => hb.frozen (p := ⟨b, o, none⟩) h, fun _ h => Nat.lt_of_lt_of_le h hb.size, fun _ h => Nat.le_trans h hb.size⟩
theorem keep_cells {w0 w : World} {b : Nat} {e : Ent} (h : KeepE w0 w b e) : w.cell? ⟨b, 0, none⟩ = some (.int .i64 e.size) ∧ w.cell? ⟨b, 1, none⟩ = some (.int .i64 e.ctx) ∧ w.cell? ⟨b, 2, none⟩ = some (.int .u64 e.va) ∧ w.cell? ⟨b, 3, none⟩ = some (.int .u64 e.pa) ∧ w.cell? ⟨b, 4, none⟩ = some (.bool e.att.write) ∧ w.cell? ⟨b, 5, none⟩ = some (.bool e.att.priv) ∧ w.cell? ⟨b, 6, none⟩ = some (.bool e.att.exec) ∧ w.cell? ⟨b, 7, none⟩ = some (.bool e.att.lock) ∧ w.cell? ⟨b, 8, none⟩ = some (.bool e.att.global) ∧ w.cell? ⟨b, 9, none⟩ = some (.bool e.att.quiet) ∧ w.cell? ⟨b, 10, none⟩ = some (.bool e.valid) := h.row.cells
theorem keep_cells2 {w0 w : World} {b c : Nat} {e f : Ent} (h : KeepE w0 w b e) (k : KeepE w0 w c f) : w.cell? ⟨b, 0, none⟩ = some (.int .i64 e.size) ∧ w.cell? ⟨b, 1, none⟩ = some (.int .i64 e.ctx) ∧ w.cell? ⟨b, 2, none⟩ = some (.int .u64 e.va) ∧ w.cell? ⟨b, 3, none⟩ = some (.int .u64 e.pa) ∧ w.cell? ⟨b, 4, none⟩ = some (.bool e.att.write) ∧ w.cell? ⟨b, 5, none⟩ = some (.bool e.att.priv) ∧ w.cell? ⟨b, 6, none⟩ = some (.bool e.att.exec) ∧ w.cell? ⟨b, 7, none⟩ = some (.bool e.att.lock) ∧ w.cell? ⟨b, 8, none⟩ = some (.bool e.att.global) ∧ w.cell? ⟨b, 9, none⟩ = some (.bool e.att.quiet) ∧ w.cell? ⟨b, 10, none⟩ = some (.bool e.valid) ∧ w.cell? ⟨c, 0, none⟩ = some (.int .i64 f.size) ∧ w.cell? ⟨c, 1, none⟩ = some (.int .i64 f.ctx) ∧ w.cell? ⟨c, 2, none⟩ = some (.int .u64 f.va) ∧ w.cell? ⟨c, 3, none⟩ = some (.int .u64 f.pa) ∧ w.cell? ⟨c, 4, none⟩ = some (.bool f.att.write) ∧ w.cell? ⟨c, 5, none⟩ = some (.bool f.att.priv) ∧ w.cell? ⟨c, 6, none⟩ = some (.bool f.att.exec) ∧ w.cell? ⟨c, 7, none⟩ = some (.bool f.att.lock) ∧ w.cell? ⟨c, 8, none⟩ = some (.bool f.att.global) ∧ w.cell? ⟨c, 9, none⟩ = some (.bool f.att.quiet) ∧ w.cell? ⟨c, 10, none⟩ = some (.bool f.valid) := by
  obtain ⟨h0, h1, h2, h3, h4, h5, h6, h7, h8, h9, h10⟩ := h.row.cells
  obtain ⟨k0, k1, k2, k3, k4, k5, k6, k7, k8, k9, k10⟩ := k.row.cells
  exact ⟨h0, h1, h2, h3, h4, h5, h6, h7, h8, h9, h10, k0, k1, k2, k3, k4, k5, k6, k7, k8, k9, k10⟩
theorem keep_cells3 {w0 w : World} {b c d : Nat} {e f g : Ent} (h : KeepE w0 w b e) (k : KeepE w0 w c f) (l : KeepE w0 w d g) : w.cell? ⟨b, 0, none⟩ = some (.int .i64 e.size) ∧ w.cell? ⟨b, 1, none⟩ = some (.int .i64 e.ctx) ∧ w.cell? ⟨b, 2, none⟩ = some (.int .u64 e.va) ∧ w.cell? ⟨b, 3, none⟩ = some (.int .u64 e.pa) ∧ w.cell? ⟨b, 4, none⟩ = some (.bool e.att.write) ∧ w.cell? ⟨b, 5, none⟩ = some (.bool e.att.priv) ∧ w.cell? ⟨b, 6, none⟩ = some (.bool e.att.exec) ∧ w.cell? ⟨b, 7, none⟩ = some (.bool e.att.lock) ∧ w.cell? ⟨b, 8, none⟩ = some (.bool e.att.global) ∧ w.cell? ⟨b, 9, none⟩ = some (.bool e.att.quiet) ∧ w.cell? ⟨b, 10, none⟩ = some (.bool e.valid) ∧ w.cell? ⟨c, 0, none⟩ = some (.int .i64 f.size) ∧ w.cell? ⟨c, 1, none⟩ = some (.int .i64 f.ctx) ∧ w.cell? ⟨c, 2, none⟩ = some (.int .u64 f.va) ∧ w.cell? ⟨c, 3, none⟩ = some (.int .u64 f.pa) ∧ w.cell? ⟨c, 4, none⟩ = some (.bool f.att.write) ∧ w.cell? ⟨c, 5, none⟩ = some (.bool f.att.priv) ∧ w.cell? ⟨c, 6, none⟩ = some (.bool f.att.exec) ∧ w.cell? ⟨c, 7, none⟩ = some (.bool f.att.lock) ∧ w.cell? ⟨c, 8, none⟩ = some (.bool f.att.global) ∧ w.cell? ⟨c, 9, none⟩ = some (.bool f.att.quiet) ∧ w.cell? ⟨c, 10, none⟩ = some (.bool f.valid) ∧ w.cell? ⟨d, 0, none⟩ = some (.int .i64 g.size) ∧ w.cell? ⟨d, 1, none⟩ = some (.int .i64 g.ctx) ∧ w.cell? ⟨d, 2, none⟩ = some (.int .u64 g.va) ∧ w.cell? ⟨d, 3, none⟩ = some (.int .u64 g.pa) ∧ w.cell? ⟨d, 4, none⟩ = some (.bool g.att.write) ∧ w.cell? ⟨d, 5, none⟩ = some (.bool g.att.priv) ∧ w.cell? ⟨d, 6, none⟩ = some (.bool g.att.exec) ∧ w.cell? ⟨d, 7, none⟩ = some (.bool g.att.lock) ∧ w.cell? ⟨d, 8, none⟩ = some (.bool g.att.global) ∧ w.cell? ⟨d, 9, none⟩ = some (.bool g.att.quiet) ∧ w.cell? ⟨d, 10, none⟩ = some (.bool g.valid) := by
  obtain ⟨h0, h1, h2, h3, h4, h5, h6, h7, h8, h9, h10⟩ := h.row.cells
  obtain ⟨k0, k1, k2, k3, k4, k5, k6, k7, k8, k9, k10⟩ := k.row.cells
  obtain ⟨l0, l1, l2, l3, l4, l5, l6, l7, l8, l9, l10⟩ := l.row.cells
  exact ⟨h0, h1, h2, h3, h4, h5, h6, h7, h8, h9, h10, k0, k1, k2, k3, k4, k5, k6, k7, k8, k9, k10, l0, l1, l2, l3, l4, l5, l6, l7, l8, l9, l10⟩
end Go.Proofs.YtgdagfhdimoklaaGreat.Fld
/-
  Contracts of the document's own Hits and Frame of layer 3. Conditions: words are below 2 to the 64.
-/
namespace Go.Proofs.YtgdagfhdimoklaaGreat.Fld
open Go.ChangeShapes Go.WideShapes Go.ChangeAt Go.RowKit
set_option maxHeartbeats 1000000
set_option maxRecDepth 100000
theorem Ent.holds_doc (e : Ent) (va : Int) : e.holdsB va = (e.valid && (sizeB e.size && (baseI va e.size == baseI e.va e.size))) := by
  unfold Ent.holdsB; rw [in_walk]
theorem rhits_any (e : Ent) (va ctx : Int) (v0 : 0 ≤ e.va) (v1 : e.va ≤ 18446744073709551615) (x0 : 0 ≤ va) (x1 : va ≤ 18446744073709551615) (w : World) :
    Calls Tryz.prog 55 #[.agg #[.int .i64 e.size, .int .i64 e.ctx, .int .u64 e.va, .int .u64 e.pa, .bool e.att.write, .bool e.att.priv, .bool e.att.exec, .bool e.att.lock, .bool e.att.global, .bool e.att.quiet, .bool e.valid], .int .u64 va, .int .i64 ctx] w fun r w' => r = .returned (.bool (e.hitsB va ctx)) ∧ Below w.heap.size w w' := by
  have H := Lib.hid (show e.hitsB va ctx = ((e.valid && (sizeB e.size && (baseI va e.size == baseI e.va e.size))) && (e.att.global || e.ctx == ctx)) by unfold Ent.hitsB; rw [Ent.holds_doc])
  generalize e.hitsB va ctx = R at *
  obtain ⟨s, c, v, p, ⟨wr, pr, ex, lk, gl, qu⟩, vd⟩ := e
  dsimp only at *
  have q1 := rpmay_any s
  generalize sizeB s = S at *
  have Q1 := Lib.hid q1
  clear q1
  cases vd
  · go_enter Tryz.func55, Tryz.ntmps55
    go_wp2_with (go_at_call 75; refine (Q1.out _).mono ?_; rintro e w' ⟨rfl, rfl⟩)
    go_quiet (fail)
    go_wp2
    go_ret
    exact ⟨ret_bool H.out.symm, below_drewN ((Below.refl _ _).alloc (Nat.le_refl _) _) _⟩
  cases S
  · go_enter Tryz.func55, Tryz.ntmps55
    go_wp2_with (go_at_call 75; refine (Q1.out _).mono ?_; rintro e w' ⟨rfl, rfl⟩)
    go_quiet (fail)
    go_wp2
    go_ret
    exact ⟨ret_bool H.out.symm, below_drewN ((Below.refl _ _).alloc (Nat.le_refl _) _) _⟩
  cases hxy : (baseI va s == baseI v s)
  · rw [hxy] at H
    go_enter Tryz.func55, Tryz.ntmps55
    go_wp2_with (go_at_call 75; refine (Q1.out _).mono ?_; rintro e w' ⟨rfl, rfl⟩)
    go_quiet ((go_at_call 67; exact Calls.quiet_of (rbase_any _ _ (by omega) (by omega) _)))
    go_wp2
    go_ret
    exact ⟨ret_bool H.out.symm, below_drewN ((Below.refl _ _).alloc (Nat.le_refl _) _) _⟩
  rw [hxy] at H
  cases gl
  · go_enter Tryz.func55, Tryz.ntmps55
    go_wp2_with (go_at_call 75; refine (Q1.out _).mono ?_; rintro e w' ⟨rfl, rfl⟩)
    go_quiet ((go_at_call 67; exact Calls.quiet_of (rbase_any _ _ (by omega) (by omega) _)))
    go_wp2
    go_ret
    exact ⟨ret_bool H.out.symm, below_drewN ((Below.refl _ _).alloc (Nat.le_refl _) _) _⟩
  · go_enter Tryz.func55, Tryz.ntmps55
    go_wp2_with (go_at_call 75; refine (Q1.out _).mono ?_; rintro e w' ⟨rfl, rfl⟩)
    go_quiet ((go_at_call 67; exact Calls.quiet_of (rbase_any _ _ (by omega) (by omega) _)))
    go_wp2
    go_ret
    exact ⟨ret_bool H.out.symm, below_drewN ((Below.refl _ _).alloc (Nat.le_refl _) _) _⟩
end Go.Proofs.YtgdagfhdimoklaaGreat.Fld
/-
  A block that stays over calls, and lists of entries and of words in one. Conditions: none.
-/
namespace Go.Proofs.YtgdagfhdimoklaaGreat.Fld
open Go.ChangeShapes Go.WideShapes Go.ChangeAt Go.RowKit
/-- Of the world w only what is new has turned, and the block b is the cells cs. -/
structure KeepB (w0 w : World) (b : Nat) (t : TypeId) (cs : Array Value) : Prop where
  below : Below w0.heap.size w0 w
  row : w.heap[b]? = some (.cells cs t (0, 0))
section
variable {w0 w w' : World} {b : Nat} {t : TypeId} {cs : Array Value}
theorem KeepB.lt (h : KeepB w0 w b t cs) : b < w.heap.size := by
  rcases Nat.lt_or_ge b w.heap.size with hlt | hge
  · exact hlt
  · have := h.row; rw [Array.getElem?_eq_none hge] at this; cases this
theorem KeepB.call (h : KeepB w0 w b t cs) (hb : Below w.heap.size w w') : KeepB w0 w' b t cs := ⟨h.below.trans (hb.mono h.below.size), (hb.block b h.lt).trans h.row⟩
theorem KeepB.drew (h : KeepB w0 w b t cs) : KeepB w0 w.drew b t cs := ⟨h.below.drew, h.row⟩
theorem KeepB.drewN (h : KeepB w0 w b t cs) (n : Nat) : KeepB w0 (w.drewN n) b t cs := ⟨below_drewN h.below n, h.row⟩
theorem KeepB.alloc (h : KeepB w0 w b t cs) (o : Obj) : KeepB w0 (w.alloc o) b t cs := ⟨h.below.alloc h.below.size o, (Below.heap_alloc _ _ _ h.lt).trans h.row⟩
theorem KeepB.cell (h : KeepB w0 w b t cs) {i : Nat} {v : Value} (hv : cs[i]? = some v) : w.cell? ⟨b, i, none⟩ = some v := (cell_of_row _ _ i _ _ _ h.row).trans hv
end
/-- The cells of an entry from the place o on. -/
structure PartE (cs : Array Value) (o : Nat) (e : Ent) : Prop where
  c0 : cs[o]? = some (.int .i64 e.size)
  c1 : cs[o + 1]? = some (.int .i64 e.ctx)
  c2 : cs[o + 2]? = some (.int .u64 e.va)
  c3 : cs[o + 3]? = some (.int .u64 e.pa)
  c4 : cs[o + 4]? = some (.bool e.att.write)
  c5 : cs[o + 5]? = some (.bool e.att.priv)
  c6 : cs[o + 6]? = some (.bool e.att.exec)
  c7 : cs[o + 7]? = some (.bool e.att.lock)
  c8 : cs[o + 8]? = some (.bool e.att.global)
  c9 : cs[o + 9]? = some (.bool e.att.quiet)
  c10 : cs[o + 10]? = some (.bool e.valid)
def Ent.list4 (a b c d : Ent) : Array Value := #[.int .i64 a.size, .int .i64 a.ctx, .int .u64 a.va, .int .u64 a.pa, .bool a.att.write, .bool a.att.priv, .bool a.att.exec, .bool a.att.lock, .bool a.att.global, .bool a.att.quiet, .bool a.valid,
  .int .i64 b.size, .int .i64 b.ctx, .int .u64 b.va, .int .u64 b.pa, .bool b.att.write, .bool b.att.priv, .bool b.att.exec, .bool b.att.lock, .bool b.att.global, .bool b.att.quiet, .bool b.valid,
  .int .i64 c.size, .int .i64 c.ctx, .int .u64 c.va, .int .u64 c.pa, .bool c.att.write, .bool c.att.priv, .bool c.att.exec, .bool c.att.lock, .bool c.att.global, .bool c.att.quiet, .bool c.valid,
  .int .i64 d.size, .int .i64 d.ctx, .int .u64 d.va, .int .u64 d.pa, .bool d.att.write, .bool d.att.priv, .bool d.att.exec, .bool d.att.lock, .bool d.att.global, .bool d.att.quiet, .bool d.valid]
theorem list4_at (a b c d : Ent) (p q r s : Int) (k : Nat) (hk : k < 4) : ∃ (e : Ent) (v : Int), ((e = a ∧ v = p) ∨ (e = b ∧ v = q) ∨ (e = c ∧ v = r) ∨ (e = d ∧ v = s)) ∧ PartE (Ent.list4 a b c d) (k * 11) e ∧ (#[Value.int .u64 p, .int .u64 q, .int .u64 r, .int .u64 s])[k]? = some (.int .u64 v) := by
  have : k = 0 ∨ k = 1 ∨ k = 2 ∨ k = 3 := by omega
  rcases this with rfl | rfl | rfl | rfl
  · exact ⟨a, p, .inl ⟨rfl, rfl⟩, ⟨rfl, rfl, rfl, rfl, rfl, rfl, rfl, rfl, rfl, rfl, rfl⟩, rfl⟩
  · exact ⟨b, q, .inr (.inl ⟨rfl, rfl⟩), ⟨rfl, rfl, rfl, rfl, rfl, rfl, rfl, rfl, rfl, rfl, rfl⟩, rfl⟩
  · exact ⟨c, r, .inr (.inr (.inl ⟨rfl, rfl⟩)), ⟨rfl, rfl, rfl, rfl, rfl, rfl, rfl, rfl, rfl, rfl, rfl⟩, rfl⟩
  · exact ⟨d, s, .inr (.inr (.inr ⟨rfl, rfl⟩)), ⟨rfl, rfl, rfl, rfl, rfl, rfl, rfl, rfl, rfl, rfl, rfl⟩, rfl⟩
theorem keepB_cells {w0 w : World} {b c : Nat} {t u : TypeId} {cs ds : Array Value} {o k : Nat} {e : Ent} {v : Int} (hP : PartE cs o e) (hv : ds[k]? = some (.int .u64 v)) (h : KeepB w0 w b t cs) (h' : KeepB w0 w c u ds) : w.cell? ⟨b, o, none⟩ = some (.int .i64 e.size) ∧ w.cell? ⟨b, o + 1, none⟩ = some (.int .i64 e.ctx) ∧ w.cell? ⟨b, o + 2, none⟩ = some (.int .u64 e.va) ∧ w.cell? ⟨b, o + 3, none⟩ = some (.int .u64 e.pa) ∧ w.cell? ⟨b, o + 4, none⟩ = some (.bool e.att.write) ∧ w.cell? ⟨b, o + 5, none⟩ = some (.bool e.att.priv) ∧ w.cell? ⟨b, o + 6, none⟩ = some (.bool e.att.exec) ∧ w.cell? ⟨b, o + 7, none⟩ = some (.bool e.att.lock) ∧ w.cell? ⟨b, o + 8, none⟩ = some (.bool e.att.global) ∧ w.cell? ⟨b, o + 9, none⟩ = some (.bool e.att.quiet) ∧ w.cell? ⟨b, o + 10, none⟩ = some (.bool e.valid) ∧ w.cell? ⟨c, k, none⟩ = some (.int .u64 v) :=
  ⟨h.cell hP.c0, h.cell hP.c1, h.cell hP.c2, h.cell hP.c3, h.cell hP.c4, h.cell hP.c5, h.cell hP.c6, h.cell hP.c7, h.cell hP.c8, h.cell hP.c9, h.cell hP.c10, h'.cell hv⟩
end Go.Proofs.YtgdagfhdimoklaaGreat.Fld
/-
  Plain facts on covers: pages one behind the other, each of the greatest size; no Go text is named here. Conditions: none.
-/
namespace Go.Proofs.YtgdagfhdimoklaaGreat.Fld
/-- A page of size k begins at f and does not go beyond t. -/
def okB (f t k : Int) : Bool := startsB f k && decide (bytesI k ≤ t - f)
/-- The greatest such size below k, or 0. -/
def gUp (f t : Int) : Nat → Int
  | 0 => 0
  | k + 1 => if okB f t (k : Int) then (k : Int) else gUp f t k
def stepI (f t : Int) : Int := gUp f t 4
/-- Where the k-th page of the cover begins. -/
def posI (f t : Int) : Nat → Int
  | 0 => f
  | k + 1 => posI f t k + bytesI (stepI (posI f t k) t)
def sizesL (f t : Int) (k : Nat) : List Int := (List.range k).map (fun j => stepI (posI f t j) t)
def cntN (f t : Int) : Nat → Nat
  | 0 => 0
  | n + 1 => if posI f t (cntN f t n) < t then cntN f t n + 1 else cntN f t n
def alignB (f t : Int) : Bool := decide (f % 8192 = 0) && decide (t % 8192 = 0)
def coverL (f t : Int) : List Int := if alignB f t && decide (t ≤ posI f t (cntN f t 1000)) then sizesL f t (cntN f t 1000) else []
theorem sizesL_succ (f t : Int) (k : Nat) : sizesL f t (k + 1) = sizesL f t k ++ [stepI (posI f t k) t] := by simp [sizesL, List.range_succ]
theorem sizesL_length (f t : Int) (k : Nat) : (sizesL f t k).length = k := by simp [sizesL]
theorem gUp_bd (f t : Int) (k : Nat) : 0 ≤ gUp f t k ∧ gUp f t k ≤ k := by
  induction k with
  | zero => simp [gUp]
  | succ k ih => unfold gUp; split <;> omega
theorem step_bd (f t : Int) : 0 ≤ stepI f t ∧ stepI f t ≤ 3 := by
  unfold stepI
  have h := gUp_bd f t 3
  unfold gUp; split <;> omega
theorem step_size (f t : Int) : sizeB (stepI f t) = true := sizeB_mk (step_bd f t)
theorem gUp_ok (f t : Int) (h : okB f t 0 = true) (k : Nat) : okB f t (gUp f t k) = true := by
  induction k with
  | zero => exact h
  | succ k ih => unfold gUp; split <;> assumption
theorem ok_zero (f t : Int) (ha : alignB f t = true) (h : f < t) : okB f t 0 = true := by
  unfold alignB at ha
  simp only [Bool.and_eq_true, decide_eq_true_eq] at ha
  unfold okB startsB bytesI sizeB
  simp only [if_true, Bool.and_eq_true, decide_eq_true_eq]
  omega
theorem step_ok (f t : Int) (ha : alignB f t = true) (h : f < t) : okB f t (stepI f t) = true := gUp_ok f t (ok_zero f t ha h) 4
/-- One page on: it begins where a page may begin, and not beyond t. -/
theorem step_next (f t : Int) (ha : alignB f t = true) (h : f < t) : alignB (f + bytesI (stepI f t)) t = true ∧ f + bytesI (stepI f t) ≤ t ∧ f + 8192 ≤ f + bytesI (stepI f t) := by
  have ho := step_ok f t ha h
  unfold okB at ho
  simp only [Bool.and_eq_true, decide_eq_true_eq] at ho
  have hb := bytes_pos (step_size f t)
  refine ⟨?_, by omega, by omega⟩
  unfold alignB at ha ⊢
  simp only [Bool.and_eq_true, decide_eq_true_eq] at ha ⊢
  refine ⟨?_, ha.2⟩
  rcases sizeB_true (step_size f t) with e | e | e | e <;> rw [e] <;> simp [bytesI] <;> omega
theorem pos_facts (f t : Int) (ha : alignB f t = true) (k : Nat) (h : ∀ j, j < k → posI f t j < t) : alignB (posI f t k) t = true ∧ (k = 0 ∨ posI f t k ≤ t) ∧ f ≤ posI f t k := by
  induction k with
  | zero => exact ⟨ha, .inl rfl, Int.le_refl _⟩
  | succ k ih =>
    obtain ⟨i1, i2, i3⟩ := ih (fun j hj => h j (by omega))
    have hs := step_next (posI f t k) t i1 (h k (by omega))
    refine ⟨hs.1, .inr hs.2.1, ?_⟩
    have := hs.2.2
    show f ≤ posI f t k + bytesI (stepI (posI f t k) t)
    omega
theorem cnt_run (f t : Int) (n : Nat) (h : ∀ j, j < n → posI f t j < t) : cntN f t n = n := by
  induction n with
  | zero => rfl
  | succ n ih =>
    have e := ih (fun j hj => h j (by omega))
    unfold cntN; rw [e, if_pos (h n (by omega))]
theorem cnt_stop (f t : Int) (k : Nat) (h : ∀ j, j < k → posI f t j < t) (he : t ≤ posI f t k) (n : Nat) (hn : k ≤ n) : cntN f t n = k := by
  induction n with
  | zero => have : k = 0 := by omega
            subst this; rfl
  | succ n ih =>
    by_cases e : k = n + 1
    · rw [← e]; exact cnt_run f t k h
    · have e2 := ih (by omega)
      unfold cntN; rw [e2, if_neg (by omega)]
theorem cover_end (f t : Int) (ha : alignB f t = true) (k : Nat) (hk : k ≤ 1000) (h : ∀ j, j < k → posI f t j < t) (he : t ≤ posI f t k) : coverL f t = sizesL f t k := by
  unfold coverL
  rw [cnt_stop f t k h he 1000 hk, if_pos (by simp [ha, he])]
theorem cover_long (f t : Int) (h : ∀ j, j ≤ 1000 → posI f t j < t) : coverL f t = [] := by
  unfold coverL
  rw [cnt_run f t 1000 (fun j hj => h j (by omega)), if_neg]
  have := h 1000 (by omega)
  simp only [Bool.and_eq_true, decide_eq_true_eq]
  omega
theorem cover_odd (f t : Int) (ha : alignB f t = false) : coverL f t = [] := by unfold coverL; rw [ha]; rfl
theorem cover_len (f t : Int) : (coverL f t).length ≤ 1000 := by
  unfold coverL; split
  · rw [sizesL_length]
    have : ∀ n, cntN f t n ≤ n := by
      intro n; induction n with
      | zero => simp [cntN]
      | succ n ih => unfold cntN; split <;> omega
    exact this 1000
  · simp
/-- What the search from above finds. -/
theorem step_down (f t : Int) (s : Int) (h0 : 0 ≤ s) (h3 : s ≤ 3) (hu : ∀ j : Int, s < j → j ≤ 3 → okB f t j = false) (hs : s = 0 ∨ okB f t s = true) : stepI f t = s := by
  unfold stepI
  have e : s = 0 ∨ s = 1 ∨ s = 2 ∨ s = 3 := by omega
  rcases e with rfl | rfl | rfl | rfl
  · have a1 := hu 1 (by omega) (by omega)
    have a2 := hu 2 (by omega) (by omega)
    have a3 := hu 3 (by omega) (by omega)
    simp [gUp, a1, a2, a3]
  · have a2 := hu 2 (by omega) (by omega)
    have a3 := hu 3 (by omega) (by omega)
    have a1 : okB f t 1 = true := by rcases hs with h | h; (exact absurd h (by decide)); exact h
    simp [gUp, a1, a2, a3]
  · have a3 := hu 3 (by omega) (by omega)
    have a1 : okB f t 2 = true := by rcases hs with h | h; (exact absurd h (by decide)); exact h
    simp [gUp, a1, a3]
  · have a1 : okB f t 3 = true := by rcases hs with h | h; (exact absurd h (by decide)); exact h
    simp [gUp, a1]
/-- The cover's pages: each begins where it must, and they end at t. -/
theorem cover_walk (f t : Int) (k : Nat) (hk : k < (coverL f t).length) : coverL f t = sizesL f t (coverL f t).length ∧ (coverL f t)[k]? = some (stepI (posI f t k) t) ∧ startsB (posI f t k) (stepI (posI f t k) t) = true ∧ f ≤ posI f t k ∧ posI f t (k + 1) ≤ t := by
  have ha : alignB f t = true := by
    cases h : alignB f t
    · rw [cover_odd f t h] at hk; simp at hk
    · rfl
  have hall : ∀ n, n ≤ 1000 → ∃ m, m ≤ n ∧ cntN f t n = m ∧ (∀ j, j < m → posI f t j < t) := by
    intro n hn
    induction n with
    | zero => exact ⟨0, by omega, rfl, fun j hj => by omega⟩
    | succ n ih =>
      obtain ⟨m, a, b, c⟩ := ih (by omega)
      unfold cntN; rw [b]
      split
      · rename_i hlt
        exact ⟨m + 1, by omega, rfl, fun j hj => by
          by_cases e : j = m
          · rw [e]; exact hlt
          · exact c j (by omega)⟩
      · exact ⟨m, by omega, rfl, c⟩
  obtain ⟨m, m1, m2, m3⟩ := hall 1000 (by omega)
  have he : t ≤ posI f t m := by
    apply Classical.byContradiction; intro hn
    have : coverL f t = [] := by unfold coverL; rw [m2, if_neg (by simp [hn])]
    rw [this] at hk; simp at hk
  have hc := cover_end f t ha m m1 m3 he
  rw [hc, sizesL_length] at hk ⊢
  have hf := pos_facts f t ha k (fun j hj => m3 j (by omega))
  have hs := step_ok (posI f t k) t hf.1 (m3 k hk)
  unfold okB at hs
  simp only [Bool.and_eq_true, decide_eq_true_eq] at hs
  have hn := step_next (posI f t k) t hf.1 (m3 k hk)
  exact ⟨rfl, by simp [sizesL, hk], hs.1, hf.2.2, hn.2.1⟩
theorem cover_last (f t : Int) (h : (coverL f t).length ≠ 0) : posI f t (coverL f t).length = t := by
  have ha : alignB f t = true := by
    cases h2 : alignB f t
    · rw [cover_odd f t h2] at h; simp at h
    · rfl
  have hw := cover_walk f t ((coverL f t).length - 1) (by omega)
  have e : (coverL f t).length - 1 + 1 = (coverL f t).length := by omega
  rw [e] at hw
  have hle := hw.2.2.2.2
  apply Int.le_antisymm hle
  apply Classical.byContradiction; intro hn
  have hd : decide (t ≤ posI f t (cntN f t 1000)) = true := by
    cases h2 : decide (t ≤ posI f t (cntN f t 1000))
    · exfalso; apply h; unfold coverL; rw [h2]; simp
    · rfl
  have hlen : (coverL f t).length = cntN f t 1000 := by
    unfold coverL; rw [ha, hd]; simp [sizesL_length]
  rw [hlen] at hn
  simp only [decide_eq_true_eq] at hd
  exact hn hd
end Go.Proofs.YtgdagfhdimoklaaGreat.Fld
/-
  Contracts of package page's Cover and of the document's: each returns a new list of the cover's sizes; what was in memory stays. Conditions: words are below 2 to the 64.
-/
namespace Go.Proofs.YtgdagfhdimoklaaGreat.Fld
open Go.ChangeShapes Go.WideShapes Go.ChangeAt Go.RowKit
set_option maxHeartbeats 400000
theorem infoInt : (Tryz.prog.info? 3).map (fun i => (i.zero, i.size, i.bytes)) = some (some (.int .i64 0), 1, 8) := by kernel_rfl
def intsV (l : List Int) : List Value := l.map (Value.int .i64)
theorem intsV_snoc (l : List Int) (x : Int) : intsV (l ++ [x]) = intsV l ++ [.int .i64 x] := by simp [intsV]
theorem own_shape {w : World} {B : Nat} {e : TypeId} {z : Nat} {v : Value} {n : Nat} {xs : List Value} (h : w.ownsRow B e z v n xs) : ∃ ao cap, v = .slice ao n cap := by
  rcases h.2 with ⟨rfl, rfl⟩ | ⟨g, cap, cur, rfl, _⟩
  · exact ⟨none, 0, rfl⟩
  · exact ⟨_, _, rfl⟩
theorem own_below {w w' : World} {B : Nat} {e : TypeId} {z : Nat} {v : Value} {n : Nat} {xs : List Value} (h : w.ownsRow B e z v n xs) (hb : Below w.heap.size w w') : w'.ownsRow B e z v n xs := by
  refine ⟨h.1, ?_⟩
  rcases h.2 with hn | ⟨g, cap, cur, rfl, hb2, hg, rest⟩
  · exact .inl hn
  · refine .inr ⟨g, cap, cur, rfl, hb2, ?_, rest⟩
    rw [hb.block g (Array.getElem?_eq_some_iff.1 hg).1]; exact hg
theorem news_int (w : World) (t : TypeId) (v : Value) : ∀ j u, [v][j]? = some u → (w.alloc (.cells #[v] t)).cell? ((⟨w.heap.size, 0, none⟩ : Addr).add j) = some u := by
  intro j u hj
  match j, hj with
  | 0, hj =>
    simp at hj; subst hj
    exact (World.cell?_alloc_mark w #[v] t (0, 0) 0).trans rfl
theorem starts_zero (f : Int) : startsB f 0 = decide (f % 8192 = 0) := by simp [startsB, sizeB, bytesI]
end Go.Proofs.YtgdagfhdimoklaaGreat.Fld
/-
  Contracts of the document's Same at lists that are the same, and of the example that every law of layer 2 asks for at its end. Conditions: none.
-/
namespace Go.Proofs.YtgdagfhdimoklaaGreat.Fld
open Go.ChangeShapes Go.WideShapes Go.ChangeAt Go.RowKit
set_option maxHeartbeats 400000
theorem own_some {w : World} {B : Nat} {e : TypeId} {v : Value} {l : List Int} (h : w.ownsRow B e 1 v l.length (intsV l)) (hn : 0 < l.length) :
    ∃ g cap, v = .slice (some ⟨g, 0, none⟩) l.length cap ∧ l.length ≤ cap ∧ cap ≤ maxLen ∧ ∀ j (hj : j < l.length), w.cell? ⟨g, j, none⟩ = some (.int .i64 l[j]) := by
  rcases h.2 with ⟨_, h0⟩ | ⟨g, cap, cur, rfl, _, _, h1, h2, _, _⟩
  · omega
  · refine ⟨g, cap, rfl, h1, h2, fun j hj => ?_⟩
    rw [h.cellAt j (by omega)]
    simp [intsV, hj]
theorem cover_ex : coverL 0 81920 = [1, 0, 0] :=
  (cover_end 0 81920 (by kernel_rfl) 3 (by omega) (fun j hj => by
    have : j = 0 ∨ j = 1 ∨ j = 2 := by omega
    rcases this with rfl | rfl | rfl <;> decide) (by decide)).trans (by decide)
theorem hole_ex : holeB 8796093022208 = true := by decide
end Go.Proofs.YtgdagfhdimoklaaGreat.Fld
