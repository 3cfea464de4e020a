/-
  YtgdagfhdimoklaaGreatGE: the contracts and plain facts of several texts, laid together. Conditions: those that each theorem names.
-/
import Derived.Test.YtgdagfhdimoklaaGreatGA
import Derived.Test.YtgdagfhdimoklaaGreatGB
import Derived.Test.YtgdagfhdimoklaaGreatRows
import Derived.RangeFuncNested
import Derived.RangeFuncCalls
import Derived.RangeFuncLeaves
import Derived.RangeFuncBox
import Derived.RangeFuncBound
import Derived.Shelf.Abstract
import Derived.Shelf.RegionOpen
import Derived.OwnWalkIn
import Derived.TacticsInMore
import Derived.LoopNIn
import Derived.LoopIn
import Derived.BigQuiet
import Derived.BigRegionIn
import Derived.WalkKit
import Derived.ProofKit
import Derived.Lib.Hide
import Derived.Test.YtgdagfhdimoklaaGreatGC
import Derived.Test.YtgdagfhdimoklaaGreatGD
import Derived.Deep.RegionHeld3
/-
  Plain facts on TSBs: how many places there are, the address that a place and a tag tell, what a place's words are read as, what is found and listed. Conditions: none.
-/
namespace Go.Proofs.YtgdagfhdimoklaaGreat.Ts
open Fld
open Pt (idxI idx_bd slotI lastI)
open Go.ChangeShapes Go.WideShapes Go.ChangeAt Go.RowKit
/-- Two words at a place. -/
structure Pl where
  t : Int
  d : Int
def Pl.none : Pl := ⟨9223372036854775807, 0⟩
structure Pl.U (x : Pl) : Prop where
  t0 : 0 ≤ x.t
  t1 : x.t ≤ 18446744073709551615
  d0 : 0 ≤ x.d
  d1 : x.d ≤ 18446744073709551615
theorem Pl.none_U : Pl.none.U := ⟨by decide, by decide, by decide, by decide⟩
def setP (T : Nat → Pl) (i : Nat) (x : Pl) : Nat → Pl := fun j => if j = i then x else T j
theorem setP_at (T : Nat → Pl) (i : Nat) (x : Pl) : setP T i x i = x := if_pos rfl
theorem setP_ne {T : Nat → Pl} {i j : Nat} {x : Pl} (h : j ≠ i) : setP T i x j = T j := if_neg h
theorem setP_twice (T : Nat → Pl) (i : Nat) (x y : Pl) : setP (setP T i x) i y = setP T i y := by
  funext j; unfold setP; split <;> rfl
theorem setP_U {T : Nat → Pl} (h : ∀ i, (T i).U) {x : Pl} (hx : x.U) (i : Nat) : ∀ j, (setP T i x j).U := fun j => by
  unfold setP; split
  · exact hx
  · exact h j
/-! ### How many places -/
def leastI (s : Int) : Int := if s = 0 then 512 else if s = 1 then 64 else if s = 2 then 8 else if s = 3 then 1 else 0
def twoP (g : Int) : Int := if g = 0 then 1 else if g = 1 then 2 else if g = 2 then 4 else if g = 3 then 8 else 0
def placesI (s g : Int) : Int := leastI s * twoP g
theorem least_bytes {s : Int} (h : sizeB s = true) : leastI s * bytesI s = 4194304 := by
  rcases sizeB_true h with rfl | rfl | rfl | rfl <;> rfl
theorem least_pos {s : Int} (h : sizeB s = true) : 1 ≤ leastI s ∧ leastI s ≤ 512 := by
  rcases sizeB_true h with rfl | rfl | rfl | rfl <;> simp [leastI]
theorem twoP_or {g : Int} (h0 : 0 ≤ g) (h1 : g ≤ 3) : (g = 0 ∧ twoP g = 1) ∨ (g = 1 ∧ twoP g = 2) ∨ (g = 2 ∧ twoP g = 4) ∨ (g = 3 ∧ twoP g = 8) := by
  have : g = 0 ∨ g = 1 ∨ g = 2 ∨ g = 3 := by omega
  rcases this with rfl | rfl | rfl | rfl <;> simp [twoP]
theorem places_no {s g : Int} (h : ¬ (sizeB s = true ∧ 0 ≤ g ∧ g ≤ 3)) : placesI s g = 0 := by
  unfold placesI
  by_cases hs : sizeB s = true
  · have h' : ¬ (0 ≤ g ∧ g ≤ 3) := fun k => h ⟨hs, k⟩
    have : twoP g = 0 := by
      unfold twoP
      rw [if_neg (by omega), if_neg (by omega), if_neg (by omega), if_neg (by omega)]
    rw [this, Int.mul_zero]
  · have h2 := sizeB_false (by simpa using hs)
    have : leastI s = 0 := by
      unfold leastI
      rw [if_neg (by omega), if_neg (by omega), if_neg (by omega), if_neg (by omega)]
    rw [this, Int.zero_mul]
theorem places_bd {s g : Int} (hs : sizeB s = true) (g0 : 0 ≤ g) (g1 : g ≤ 3) : 1 ≤ placesI s g ∧ placesI s g ≤ 4096 := by
  unfold placesI
  have h1 := least_pos hs
  rcases twoP_or g0 g1 with ⟨_, e⟩ | ⟨_, e⟩ | ⟨_, e⟩ | ⟨_, e⟩ <;> rw [e] <;> omega
/-- What does not change of a TSB: the memory's size, the beginning, how many places, the size, the grade. -/
structure Par where
  S : Nat
  b : Nat
  n : Nat
  s : Int
  g : Int
structure Par.Ok (p : Par) : Prop where
  hs : sizeB p.s = true
  g0 : 0 ≤ p.g
  g1 : p.g ≤ 3
  hn : (p.n : Int) = placesI p.s p.g
  al : p.b % 16 = 0
  is : p.b + 16 * p.n ≤ p.S
  le : p.S ≤ 2199023255552
theorem Par.Ok.n_bd {p : Par} (h : p.Ok) : 1 ≤ p.n ∧ p.n ≤ 4096 := by
  have h1 := places_bd h.hs h.g0 h.g1
  have h2 := h.hn
  omega
def Par.pl (p : Par) (va : Int) : Nat := (idxI va p.s p.n).toNat
theorem Par.Ok.idx {p : Par} (h : p.Ok) (va : Int) : idxI va p.s p.n = (p.pl va : Int) ∧ p.pl va < p.n := by
  have h1 := h.n_bd
  have h2 := idx_bd va p.s p.n (by omega)
  unfold Par.pl
  omega
theorem Par.Ok.least {p : Par} (h : p.Ok) (x : Int) : x % (p.n : Int) % leastI p.s = x % leastI p.s := by
  rw [h.hn]
  exact Int.emod_emod_of_dvd _ ⟨twoP p.g, rfl⟩
/-! ### The address of a place -/
def hiI (t : Int) : Int := if 2097152 ≤ t % 4194304 then 18446726481523507200 else 0
def adrI (s i t : Int) : Int := t % 4194304 * 4194304 + hiI t + i % leastI s * bytesI s
theorem adr_bd (s i t : Int) (hs : sizeB s = true) : 0 ≤ adrI s i t ∧ adrI s i t ≤ 18446744073709551615 ∧ holeB (adrI s i t) = false ∧ tagI (adrI s i t) = t % 4194304 ∧ adrI s i t % bytesI s = 0 := by
  unfold adrI hiI holeB tagI
  rw [decide_eq_false_iff_not]
  rcases sizeB_true hs with rfl | rfl | rfl | rfl <;> (simp only [bytesI, leastI, if_true, Int.reduceEq, if_false]; clear hs; split <;> omega)
theorem adr_own {p : Par} (h : p.Ok) {va t : Int} (v0 : 0 ≤ va) (v1 : va ≤ 18446744073709551615) (hh : holeB va = false) (hv : va % bytesI p.s = 0) (ht : t % 4194304 = tagI va) : adrI p.s (p.pl va) t = va := by
  have h1 := (h.idx va).1
  unfold adrI hiI
  rw [← h1]
  unfold idxI
  rw [h.least, ht]
  unfold holeB at hh
  rw [decide_eq_false_iff_not] at hh
  unfold tagI
  have hs := h.hs
  generalize p.s = s at *
  clear h1 ht h
  rcases sizeB_true hs with rfl | rfl | rfl | rfl <;> (simp only [bytesI, leastI, if_true, Int.reduceEq, if_false] at hv ⊢; clear hs; split <;> omega)
/-- Addresses of one place and one tag are of one page. -/
theorem page_place {p : Par} (h : p.Ok) {x y : Int} (x0 : 0 ≤ x) (x1 : x ≤ 18446744073709551615) (y0 : 0 ≤ y) (y1 : y ≤ 18446744073709551615) (hx : holeB x = false) (hy : holeB y = false) (ht : tagI x = tagI y) (hp : p.pl x = p.pl y) : baseI x p.s = baseI y p.s := by
  have e1 := (h.idx x).1
  have e2 := (h.idx y).1
  rw [hp, ← e2] at e1
  unfold idxI at e1
  have e3 := congrArg (· % leastI p.s) e1
  simp only [h.least] at e3
  have e4 := (tag_same x y x0 x1 y0 y1 hx hy).1 ht
  have hs := h.hs
  generalize p.s = s at *
  clear e1 e2 ht hp h hx hy
  unfold baseI at *
  rw [if_pos (by decide), if_pos (by decide)] at e4
  rw [hs]
  rcases sizeB_true hs with rfl | rfl | rfl | rfl <;> (simp only [bytesI, leastI, if_true, Int.reduceEq, if_false] at e3 e4 ⊢; clear hs; omega)
/-- A page's addresses have one place. -/
theorem place_page {p : Par} {x y : Int} (hs : sizeB p.s = true) (h : baseI x p.s = baseI y p.s) : p.pl x = p.pl y := by
  unfold Par.pl idxI
  rw [(base_eq hs).1 h]
theorem base_hole_of (x s : Int) (hs : sizeB s = true) (h : holeB (baseI x s) = false) : holeB x = false := by
  unfold holeB baseI at *
  rw [decide_eq_false_iff_not] at *
  rw [hs] at h
  rcases sizeB_true hs with rfl | rfl | rfl | rfl <;> (simp only [bytesI, if_true, Int.reduceEq, if_false] at h; clear hs; omega)
/-! ### What a place's words are read as -/
def rdB (s : Int) (x : Pl) (va : Int) : Bool := Ent.readN x.t x.d va == 0 && (Ent.ofW x.t x.d va).size == s
def rdE (s : Int) (x : Pl) (va : Int) : Ent := if rdB s x va then Ent.ofW x.t x.d va else Ent.zero
theorem rdB_iff {s : Int} {x : Pl} {va : Int} : rdB s x va = true ↔ (holeB va = false ∧ bitI x.d 63 ≠ 0 ∧ Ent.areB x.t x.d va = true) ∧ (Ent.ofW x.t x.d va).size = s := by
  unfold rdB
  rw [Bool.and_eq_true, beq_iff_eq, beq_iff_eq]
  refine and_congr_left fun _ => ?_
  unfold Ent.readN
  cases holeB va
  · simp only [Bool.false_eq_true, if_false]
    by_cases h1 : bitI x.d 63 = 0
    · rw [if_pos h1]; simp [h1]
    · rw [if_neg h1]
      cases Ent.areB x.t x.d va <;> simp [h1]
  · simp
def Ent.pl (e : Ent) : Pl := ⟨e.tagW, e.dataW⟩
theorem ent_pl_U {e : Ent} (h : e.Fit) : (Ent.pl e).U := by
  have h1 := Ent.tag_bd h
  have h2 := Ent.data_bd h
  exact ⟨h1.1, h1.2, by show 0 ≤ e.dataW; omega, h2.2⟩
theorem locked_no (s d va : Int) (d0 : 0 ≤ d) : rdB s ⟨9223372036854775807, d⟩ va = false := by
  cases h : rdB s ⟨9223372036854775807, d⟩ va
  · rfl
  · obtain ⟨⟨_, _, h3⟩, _⟩ := rdB_iff.1 h
    unfold Ent.areB at h3
    simp only [Bool.and_eq_true, beq_iff_eq] at h3
    have hp : 0 ≤ (Ent.ofW 9223372036854775807 d va).pa := by
      show 0 ≤ getI d 13 28 * 8192
      rw [getI_at _ 13 28 8192 268435456 (by decide) d0 (by decide) (by decide)]
      omega
    exact absurd h3.1.2 (Ent.tag_bad (Ent.fit h3.1.1 hp))
theorem rd_tag {s : Int} {e : Ent} (h : e.Ok) {va : Int} (hr : rdB s (Ent.pl e) va = true) : holeB va = false ∧ tagI va = tagI e.va := by
  obtain ⟨⟨h1, _, h3⟩, _⟩ := rdB_iff.1 hr
  unfold Ent.areB at h3
  simp only [Bool.and_eq_true, beq_iff_eq] at h3
  obtain ⟨⟨a, b⟩, c⟩ := h3
  have hp : 0 ≤ (Ent.ofW (Ent.pl e).t (Ent.pl e).d va).pa := by
    show 0 ≤ getI e.dataW 13 28 * 8192
    rw [(Ent.data_fields h.fit).2.1]; exact h.fit.p0
  have hf := Ent.fit a hp
  have h5 := (Ent.tag_fields hf).2.1
  rw [b] at h5
  have h6 := (Ent.tag_fields h.fit).2.1
  have h7 : tagI (Ent.ofW (Ent.pl e).t (Ent.pl e).d va).va = tagI e.va := h5.symm.trans h6
  refine ⟨h1, ?_⟩
  rw [← h7]
  have hz : sizeB (getI (Ent.pl e).d 61 2) = true := sizeB_mk ⟨hf.s0, hf.s1⟩
  show tagI va = tagI (baseI va (getI (Ent.pl e).d 61 2))
  have q := tag_base (baseI va (getI (Ent.pl e).d 61 2))
  rw [(base_base va _ 3 hz (by decide) (by have := (sizeB_true hz); omega)).1, tag_base] at q
  exact q
theorem rd_self {e : Ent} (h : e.Ok) {va : Int} (hb : baseI va e.size = e.va) : rdB e.size (Ent.pl e) va = true ∧ rdE e.size (Ent.pl e) va = e := by
  have hh : holeB va = false := base_hole_of va e.size h.size (by rw [hb]; exact h.hole)
  have ho : Ent.ofW (Ent.pl e).t (Ent.pl e).d va = e := Ent.ofW_self h.may h.fit.p0 va hb
  have hr : rdB e.size (Ent.pl e) va = true := by
    refine rdB_iff.2 ⟨⟨hh, ?_, ?_⟩, by rw [ho]⟩
    · rw [show (Ent.pl e).d = e.dataW from rfl, (Ent.data_fields h.fit).2.2]; decide
    · unfold Ent.areB
      rw [ho, h.may]
      simp [Ent.pl]
  exact ⟨hr, by unfold rdE; rw [if_pos hr, ho]⟩
/-! ### What is found -/
def fndB (p : Par) (T : Nat → Pl) (va ctx : Int) : Bool := rdB p.s (T (p.pl va)) va && (rdE p.s (T (p.pl va)) va).hitsB va ctx
def fndE (p : Par) (T : Nat → Pl) (va ctx : Int) : Ent := if fndB p T va ctx then rdE p.s (T (p.pl va)) va else Ent.zero
theorem holds_base {e : Ent} {va : Int} (h : e.Ok) (hh : e.holdsB va = true) : baseI va e.size = e.va := by
  unfold Ent.holdsB at hh
  rw [Bool.and_eq_true] at hh
  have h2 := hh.2
  rw [in_walk, Bool.and_eq_true, beq_iff_eq] at h2
  rw [h2.2]
  have := h.vs
  unfold baseI
  rw [h.size]
  simp only [if_true]
  exact Int.ediv_mul_cancel (Int.dvd_of_emod_eq_zero this)
theorem hits_holds {e : Ent} {va ctx : Int} (h : e.hitsB va ctx = true) : e.holdsB va = true := by
  unfold Ent.hitsB at h
  rw [Bool.and_eq_true] at h
  exact h.1
theorem hits_place {p : Par} {e : Ent} {va ctx : Int} (h : e.Ok) (he : e.size = p.s) (hh : e.hitsB va ctx = true) : p.pl va = p.pl e.va := by
  have h1 := holds_base h (hits_holds hh)
  refine place_page (he ▸ h.size) ?_
  rw [← he, h1]
  have := h.vs
  unfold baseI
  rw [h.size]
  simp only [if_true]
  exact (Int.ediv_mul_cancel (Int.dvd_of_emod_eq_zero this)).symm
theorem base_self {e : Ent} (h : e.Ok) : baseI e.va e.size = e.va := by
  have := h.vs
  unfold baseI
  rw [h.size]
  simp only [if_true]
  exact Int.ediv_mul_cancel (Int.dvd_of_emod_eq_zero this)
/-- At a place that has an entry's words, just its addresses are found, in its contexts. -/
theorem find_at {p : Par} (hp : p.Ok) {T : Nat → Pl} {e : Ent} (h : e.Ok) (he : e.size = p.s) (hT : T (p.pl e.va) = Ent.pl e) {va ctx : Int} (v0 : 0 ≤ va) (v1 : va ≤ 18446744073709551615) (hv : p.pl va = p.pl e.va) :
    fndB p T va ctx = e.hitsB va ctx ∧ (e.hitsB va ctx = true → fndE p T va ctx = e) := by
  have key : fndB p T va ctx = e.hitsB va ctx := by
    unfold fndB
    rw [hv, hT]
    cases hr : rdB p.s (Ent.pl e) va
    · cases hh : e.hitsB va ctx
      · rfl
      · have := (rd_self h (holds_base h (hits_holds hh))).1
        rw [he, hr] at this; cases this
    · obtain ⟨a, b⟩ := rd_tag h hr
      have hb := page_place hp v0 v1 h.v0 h.v1 a h.hole b hv
      rw [← he, base_self h] at hb
      rw [← he, (rd_self h hb).2]; rfl
  refine ⟨key, fun hh => ?_⟩
  unfold fndE
  rw [key, hh, hv, hT, ← he]
  exact (rd_self h (holds_base h (hits_holds hh))).2
theorem find_locked {p : Par} {T : Nat → Pl} {va ctx d : Int} (d0 : 0 ≤ d) (hT : T (p.pl va) = ⟨9223372036854775807, d⟩) : fndB p T va ctx = false := by
  unfold fndB; rw [hT, locked_no _ _ _ d0]; rfl
theorem fndE_no {p : Par} {T : Nat → Pl} {va ctx : Int} (h : fndB p T va ctx = false) : fndE p T va ctx = Ent.zero := by unfold fndE; rw [h]; rfl
/-! ### What a place has at its own address, and the list -/
def ownB (p : Par) (T : Nat → Pl) (i : Nat) : Bool := p.pl (adrI p.s i (T i).t) == i && rdB p.s (T i) (adrI p.s i (T i).t)
def ownE (p : Par) (T : Nat → Pl) (i : Nat) : Ent := rdE p.s (T i) (adrI p.s i (T i).t)
def lstP (p : Par) (T : Nat → Pl) : Nat → List Ent
  | 0 => []
  | k + 1 => if ownB p T k then lstP p T k ++ [ownE p T k] else lstP p T k
theorem lst_hit {p : Par} {T : Nat → Pl} {k : Nat} (h : ownB p T k = true) : lstP p T (k + 1) = lstP p T k ++ [ownE p T k] := if_pos h
theorem lst_miss {p : Par} {T : Nat → Pl} {k : Nat} (h : ¬ ownB p T k = true) : lstP p T (k + 1) = lstP p T k := if_neg h
theorem lst_le (p : Par) (T : Nat → Pl) (k : Nat) : (lstP p T k).length ≤ k := by
  induction k with
  | zero => exact Nat.le_refl _
  | succ k ih =>
    unfold lstP
    split
    · simp; omega
    · omega
theorem lst_mem {p : Par} {T : Nat → Pl} {k : Nat} {e : Ent} : e ∈ lstP p T k ↔ ∃ i, i < k ∧ ownB p T i = true ∧ ownE p T i = e := by
  induction k with
  | zero => exact ⟨fun h => by simp [lstP] at h, fun ⟨_, h, _⟩ => absurd h (Nat.not_lt_zero _)⟩
  | succ k ih =>
    by_cases h : ownB p T k = true
    · rw [lst_hit h, List.mem_append, ih, List.mem_singleton]
      constructor
      · rintro (⟨i, a, b, c⟩ | rfl)
        · exact ⟨i, by omega, b, c⟩
        · exact ⟨k, by omega, h, rfl⟩
      · rintro ⟨i, a, b, c⟩
        by_cases e : i = k
        · subst e; exact .inr c.symm
        · exact .inl ⟨i, by omega, b, c⟩
    · rw [lst_miss h, ih]
      constructor
      · rintro ⟨i, a, b, c⟩; exact ⟨i, by omega, b, c⟩
      · rintro ⟨i, a, b, c⟩
        by_cases e : i = k
        · subst e; exact absurd b h
        · exact ⟨i, by omega, b, c⟩
def lckN (T : Nat → Pl) : Nat → Nat
  | 0 => 0
  | k + 1 => if (T k).t = 9223372036854775807 then lckN T k + 1 else lckN T k
theorem lck_hit {T : Nat → Pl} {k : Nat} (h : (T k).t = 9223372036854775807) : lckN T (k + 1) = lckN T k + 1 := if_pos h
theorem lck_miss {T : Nat → Pl} {k : Nat} (h : ¬ (T k).t = 9223372036854775807) : lckN T (k + 1) = lckN T k := if_neg h
theorem lck_le (T : Nat → Pl) (k : Nat) : lckN T k ≤ k := by
  induction k with
  | zero => exact Nat.le_refl _
  | succ k ih => unfold lckN; split <;> omega
theorem lck_all {T : Nat → Pl} {k : Nat} (h : ∀ i, i < k → (T i).t = 9223372036854775807) : lckN T k = k := by
  induction k with
  | zero => rfl
  | succ k ih => rw [lck_hit (h k (by omega)), ih (fun i hi => h i (by omega))]
def ctxB (c : Int) (e : Ent) : Bool := e.ctx == c && !e.att.global
def gonB (p : Par) (T : Nat → Pl) (c : Int) (i : Nat) : Bool := ownB p T i && ctxB c (ownE p T i)
/-- A context's entries at the first k places gone. -/
def drpT (p : Par) (T : Nat → Pl) (c : Int) (k : Nat) : Nat → Pl := fun i => if i < k ∧ gonB p T c i = true then Pl.none else T i
def drpN (p : Par) (T : Nat → Pl) (c : Int) : Nat → Nat
  | 0 => 0
  | k + 1 => if gonB p T c k then drpN p T c k + 1 else drpN p T c k
theorem drpN_le (p : Par) (T : Nat → Pl) (c : Int) (k : Nat) : drpN p T c k ≤ k := by
  induction k with
  | zero => exact Nat.le_refl _
  | succ k ih => unfold drpN; split <;> omega
theorem drpT_zero (p : Par) (T : Nat → Pl) (c : Int) : drpT p T c 0 = T := by funext i; unfold drpT; rw [if_neg (by omega)]
theorem drpT_hit {p : Par} {T : Nat → Pl} {c : Int} {k : Nat} (h : gonB p T c k = true) : drpT p T c (k + 1) = setP (drpT p T c k) k Pl.none := by
  funext i
  show (if i < k + 1 ∧ gonB p T c i = true then Pl.none else T i) = (if i = k then Pl.none else if i < k ∧ gonB p T c i = true then Pl.none else T i)
  by_cases e : i = k
  · subst e; rw [if_pos ⟨by omega, h⟩, if_pos rfl]
  · rw [if_neg e]
    by_cases h2 : i < k ∧ gonB p T c i = true
    · rw [if_pos h2, if_pos ⟨by omega, h2.2⟩]
    · rw [if_neg h2, if_neg (fun hh => h2 ⟨by omega, hh.2⟩)]
theorem drpT_miss {p : Par} {T : Nat → Pl} {c : Int} {k : Nat} (h : ¬ gonB p T c k = true) : drpT p T c (k + 1) = drpT p T c k := by
  funext i; unfold drpT
  by_cases e : i = k
  · subst e; rw [if_neg (fun hh => h hh.2), if_neg (fun hh => h hh.2)]
  · by_cases h2 : i < k ∧ gonB p T c i = true
    · rw [if_pos h2, if_pos ⟨by omega, h2.2⟩]
    · rw [if_neg h2, if_neg (fun hh => h2 ⟨by omega, hh.2⟩)]
theorem drpT_at {p : Par} {T : Nat → Pl} {c : Int} {k i : Nat} (h : k ≤ i) : drpT p T c k i = T i := by unfold drpT; rw [if_neg (by omega)]
theorem drpT_U {p : Par} {T : Nat → Pl} (h : ∀ i, (T i).U) (c : Int) (k : Nat) : ∀ i, (drpT p T c k i).U := fun i => by
  unfold drpT; split
  · exact Pl.none_U
  · exact h i
end Go.Proofs.YtgdagfhdimoklaaGreat.Ts
/-
  A range over an iterator that yields by numbers, where the loop's body is left at its end alone and may change what the iterator reads; regions within a round that draw their order and only read. Conditions: the iterator keeps its word 'IterN'.
-/
namespace Go.Proofs.YtgdagfhdimoklaaGreat.Ts
open Go.ChangeShapes Go.WideShapes Go.ChangeAt Go.RowKit
/-! ### Regions that only read, within a round -/
theorem wpOpIn_of_qOp {P : Program} {ops : Array Oper} {C : World → Prop} {i n l : Nat} {a : Act} {K : Act → Prop} {K' : Act → World → Prop} {Q' : Exit → Act → World → Prop} {w : World} (hd : ∀ (j : Nat) (o : Oper) (c : Call), ops[j]? = some o → o.op ≠ .defer c) (hC : C w) (h : ∀ a w', C w' → K a → K' a w') (hh : qOp P ops C i K a) : wpOpIn (Fence.wide.inRound l) n P ops Q' i K' a w := by
  unfold qOp at hh
  unfold wpOpIn
  cases ho : ops[i]? with
  | none => simp only [ho] at hh ⊢; exact h _ _ hC hh
  | some o =>
    simp only [ho] at hh ⊢
    by_cases hw : Region.wanted o (yielded ops a.tmps) = true
    · simp only [hw, if_true] at hh ⊢
      obtain ⟨v, h1, h2⟩ := hh
      have h3 := h1 w hC
      unfold Oper.quietAt at h3
      unfold Oper.wpIn
      refine ⟨fun _ _ => trivial, ?_⟩
      rw [Oper.semAt_plain _ _ _ (fun c => hd i o c ho)]
      generalize (execOp a.eval o).run P w = r at *
      cases r with
      | ok n w' =>
        cases n <;> simp only [Oper.quietUpon] at h3 <;> simp only [Oper.uponIn]
        case value u =>
          obtain ⟨e1, e2⟩ := h3
          rw [e1, e2]
          exact h _ _ hC h2
        case skip =>
          obtain ⟨e1, e2⟩ := h3
          rw [e1, ← e2]
          exact h _ _ hC h2
        case enter f args =>
          obtain ⟨e1, hc⟩ := h3
          rw [e1]
          refine ⟨fun hh => absurd (show Fence.wide.depth.isSome = true from hh) (by decide), CallsIn.inRound l (callsIn_wide.2 (hc.mono fun e w'' ⟨he, hw''⟩ => ?_))⟩
          subst he; exact h _ _ hw'' h2
      | halt x w' => simp only [Oper.quietUpon] at h3
    · have hw' : Region.wanted o (yielded ops a.tmps) = false := by simpa using hw
      simp only [hw', Bool.false_eq_true, if_false] at hh ⊢
      exact ⟨fun _ _ => trivial, h _ _ hC hh⟩
theorem wpAnyIn_of_quiet {P : Program} {ops : Array Oper} {md : Region.Mode} {C : World → Prop} {n l : Nat} {Q : Act → Prop} {Q' : Exit → Act → World → Prop} (hd : ∀ (j : Nat) (o : Oper) (c : Call), ops[j]? = some o → o.op ≠ .defer c) (hQ : ∀ a w, C w → Q a → Q' .normal a w) : ∀ (fuel : Nat) (listed : Array Bool) (a : Act) (w : World), C w →
    wpAnyQ P md ops C Q fuel listed a → wpAnyIn (Fence.wide.inRound l) n P md ops Q' fuel listed a w
  | 0, _, _, _, hw, h => ⟨h.1, hQ _ _ hw h.2⟩
  | fuel + 1, _, _, _, hw, h => ⟨fun h0 => hQ _ _ hw (h.1 h0), fun i hi => wpOpIn_of_qOp hd hw (fun a' w' hw' => wpAnyIn_of_quiet hd hQ fuel _ a' w' hw') (h.2 i hi)⟩
def noDefer (o : Oper) : Bool := match o.op with | .defer _ => false | _ => true
theorem region_quiet_round {P : Program} {n l id : Nat} {Q : Exit → Act → World → Prop} {a : Act} {w : World} {ol : List Oper} (hm : P.follows .mixedOrders = true) (hB : Region.lexB .any ol.toArray = true) (hd : ol.all noDefer = true)
    (h : wpQuiet P ol.toArray (fun w' => ∃ n, w' = w.drewN n) (fun a' => ∀ w', (∃ n, w' = w.drewN n) → Q .normal a' w') ol a) : (Code.region id ol.toArray true).wpIn (Fence.wide.inRound l) n P Q a w := by
  simp only [Region.lexB, Bool.and_eq_true] at hB
  have hd' : ∀ (j : Nat) (o : Oper) (c : Call), ol.toArray[j]? = some o → o.op ≠ .defer c := fun j o c ho hc => by
    have hm' : o ∈ ol := by rw [List.getElem?_toArray] at ho; exact List.mem_of_getElem? ho
    have := List.all_eq_true.1 hd o hm'
    unfold noDefer at this
    rw [hc] at this; cases this
  refine wpIn_region_any hm (wpAnyIn_of_quiet (C := fun w' => ∃ n, w' = w.drewN n) (Q := fun a' => ∀ w', (∃ n, w' = w.drewN n) → Q .normal a' w') hd' (fun _ w' hw' h => h w' hw') _ _ _ _ ⟨1, rfl⟩ ?_)
  have := wpAnyQ_lex (C := fun w' => ∃ n, w' = w.drewN n) (md := .any) hB.1 ol 0 (Array.replicate ol.toArray.size false) a (by simp) (by simpa using hB.2) h
  simpa using this
/-! ### The loop -/
theorem wide_fn (f : Nat) : Fence.wide.fn f := trivial
def Lp (o : Obj) : Prop := match o with | .loop _ => True | .deferred _ => True | _ => False
def Sp (o : Obj) : Prop := match o with | .loop _ => True | .deferred _ => True | .cells c _ _ => c.size = 1 | _ => False
/-- Loops' own blocks, and boxes of one cell, from B on stay. -/
def Stay (B : Nat) (W W' : World) : Prop := ∀ (k : Nat) (o : Obj), B ≤ k → W.heap[k]? = some o → Sp o → W'.heap[k]? = some o
theorem Stay.refl (B : Nat) (W : World) : Stay B W W := fun _ _ _ h _ => h
theorem Stay.trans {B : Nat} {U V W : World} (h : Stay B U V) (k : Stay B V W) : Stay B U W := fun i o hi ho hl => k i o hi (h i o hi ho hl) hl
theorem Stay.mono {B C : Nat} {V W : World} (h : Stay B V W) (hC : B ≤ C) : Stay C V W := fun i o hi ho hl => h i o (Nat.le_trans hC hi) ho hl
theorem Stay.put {B l : Nat} (V : World) (o : Obj) (hB : l < B) : Stay B V (V.putObj l o) := fun k _ hk ho _ => (World.putObj_heap_other (by omega)).trans ho
theorem Stay.cell {B : Nat} (V : World) (p : Addr) (u : Value) (hB : p.block < B) : Stay B V (V.setCell p u) := fun k _ hk ho _ => (Below.heap_setCell _ _ _ _ (by omega)).trans ho
theorem Stay.grown {B : Nat} {V V' : World} {row : Option Nat} (hg : V.grownBy V' row) (hr : ∀ j, row = some j → j < B ∨ ∀ o, V.heap[j]? = some o → ¬ Sp o) : Stay B V V' := fun k o hk ho hs =>
  (hg.block k (Array.getElem?_eq_some_iff.1 ho).1 (fun e => by
    rcases hr k e.symm with h | h
    · omega
    · exact h o ho hs)).trans ho
theorem Stay.below {B : Nat} {V W : World} (h : Below V.heap.size V W) : Stay B V W := fun i _ _ ho _ => (h.block i (Array.getElem?_eq_some_iff.1 ho).1).trans ho
/-- All stays but loops' own blocks from B on, and what is new. -/
structure Soft (B : Nat) (V V' : World) : Prop where
  os : V'.os = V.os
  tape : V'.tape = V.tape
  output : V'.output = V.output
  size : V.heap.size ≤ V'.heap.size
  block : ∀ k, k < V.heap.size → (k < B ∨ ∀ o, V.heap[k]? = some o → ¬ Lp o) → V'.heap[k]? = V.heap[k]?
theorem Soft.below {B : Nat} {V V' : World} (h : Below V.heap.size V V') : Soft B V V' := ⟨h.os, h.tape, h.output, h.size, fun k hk _ => h.block k hk⟩
theorem Soft.put {B l : Nat} {V : World} {o o' : Obj} (h : V.heap[l]? = some o) (hl : Lp o) (hB : B ≤ l) : Soft B V (V.putObj l o') :=
  ⟨rfl, rfl, rfl, by simp, fun k _ hk => World.putObj_heap_other (by
    rintro rfl
    rcases hk with hk | hk
    · omega
    · exact hk _ h hl)⟩
theorem Soft.mono {B C : Nat} {V V' : World} (h : Soft C V V') (hB : B ≤ C) : Soft B V V' := ⟨h.os, h.tape, h.output, h.size, fun k hk hc => h.block k hk (hc.imp (fun h => Nat.lt_of_lt_of_le h hB) id)⟩
def Firm (B : Nat) (I : World → Prop) : Prop := ∀ V V', I V → Soft B V V' → I V'
theorem Firm.mono {B C : Nat} {I : World → Prop} (h : Firm B I) (hB : B ≤ C) : Firm C I := fun V V' hi hs => h V V' hi (hs.mono hB)
theorem Firm.and {B : Nat} {I K : World → Prop} (h : Firm B I) (k : Firm B K) : Firm B (fun W => I W ∧ K W) := fun V V' hs hv => ⟨h V V' hs.1 hv, k V V' hs.2 hv⟩
theorem Firm.pure (B : Nat) (p : Prop) : Firm B (fun _ => p) := fun _ _ h _ => h
theorem Firm.cells (B b : Nat) (c : Array Value) (t : TypeId) (f : Nat × Nat) : Firm B (fun W => W.heap[b]? = some (.cells c t f)) := fun _ _ h hv => (hv.block b (Array.getElem?_eq_some_iff.1 h).1 (.inr fun o ho => by rw [h] at ho; cases ho; exact id)).trans h
theorem Firm.low {B : Nat} {I : World → Prop} (h : Firm B I) {V V' : World} (hi : I V) (hb : Below V.heap.size V V') : I V' := h _ _ hi (Soft.below hb)
/-- The blocks of a world w stay (all are old). -/
theorem Firm.since (w : World) {B : Nat} (hB : w.heap.size ≤ B) (p : Nat → Prop) : Firm B (fun W => W.os = w.os ∧ W.tape = w.tape ∧ W.output = w.output ∧ w.heap.size ≤ W.heap.size ∧ ∀ k, k < w.heap.size → p k → W.heap[k]? = w.heap[k]?) := fun V V' h hv =>
  ⟨hv.os.trans h.1, hv.tape.trans h.2.1, hv.output.trans h.2.2.1, Nat.le_trans h.2.2.2.1 hv.size, fun k hk hp => (hv.block k (Nat.lt_of_lt_of_le hk h.2.2.2.1) (.inl (by omega))).trans (h.2.2.2.2 k hk hp)⟩
/-- What an iterator does that yields by numbers i < N that are live, what 'enc i' says; it reads what Rd tells. -/
def IterN (n gf : Nat) (bnd lb : Array Value) (enc : Nat → Array Value) (live : Nat → Prop) (N : Nat) (Rd : Nat → World → Prop) : Prop :=
  ∀ (l : Nat) (J : Nat → World → Prop) (W : World), (∀ i V, J i V → Rd i V) → (∀ i, Firm W.heap.size (J i)) →
    (∀ i V, J i V → i < N → ¬ live i → J (i + 1) V) →
    (∀ m i V, J i V → i < N → live i → YieldAt Fence.wide m Tryz.prog l (enc i) V fun e V' => e = .returned (.bool true) ∧ J (i + 1) V' ∧ Stay W.heap.size V V') →
    J 0 W →
    CallsIn Fence.wide n Tryz.prog gf (bnd ++ #[.func (.yield l) #[] #[]] ++ lb) W fun e W' => (∃ v, e = .returned v) ∧ J N W'
/-- The two blocks that a range over a function keeps for itself. -/
structure Two (W : World) (l D : Nat) (r : Loop) : Prop where
  lp : W.heap[l]? = some (.loop r)
  df : W.heap[D]? = some (.deferred (some []))
theorem Two.put {W : World} {l D : Nat} {r : Loop} (h : Two W l D r) (r' : Loop) (hne : D ≠ l) : Two (W.putObj l (.loop r')) l D r' :=
  ⟨World.putObj_heap_same (Array.getElem?_eq_some_iff.1 h.lp).1, (World.putObj_heap_other hne).trans h.df⟩
theorem Two.keep {W W' : World} {B l D : Nat} {r : Loop} (h : Two W l D r) (k : Stay B W W') (hl : B ≤ l) (hD : B ≤ D) : Two W' l D r :=
  ⟨k l _ hl h.lp trivial, k D _ hD h.df trivial⟩
theorem Two.firm {l D B : Nat} {r : Loop} (hl : l < B) (hD : D < B) : Firm B (fun W => Two W l D r) := fun _ _ h hv =>
  ⟨(hv.block l (Array.getElem?_eq_some_iff.1 h.lp).1 (.inl hl)).trans h.lp, (hv.block D (Array.getElem?_eq_some_iff.1 h.df).1 (.inl hD)).trans h.df⟩
def lastMark (D : Nat) (a : Act) : Act := { a with defers := { target := .collected D, args := #[] } :: a.defers }
/-- How a round's body must be left. -/
def endBy (B : Nat) (I : World → Prop) (W : World) : Exit → Act → World → Prop
  | .normal, _, W' => Stay B W W' ∧ I W'
  | .ret, _, _ => False
  | .exit _, _, _ => False
  | .goto _, _, _ => False
  | .panic _, _, _ => False
  | .outgrown, _, _ => False
theorem range_it {n : Nat} {g : Operand} {ps : Array Tmp} {assign body : Code} {Q : Exit → Act → World → Prop} {a : Act} {w : World}
    {gf : Nat} {bnd lb : Array Value} (hg : a.eval g = .func (.func gf) bnd lb) (eg : ∀ args w, (callFunc gf args).run Tryz.prog w = .ok (.enter gf args) w)
    {enc : Nat → Array Value} {live : Nat → Prop} {N : Nat} {Rd : Nat → World → Prop} (hit : ∀ n, IterN n gf bnd lb enc live N Rd) (hps : ∀ s, (enc s).size = ps.size)
    (I : Nat → World → Prop) (hRd : ∀ i W, I i W → Rd i W) (hI : ∀ i, Firm w.heap.size (I i)) (hskip : ∀ i V, I i V → i < N → ¬ live i → I (i + 1) V) (h0 : I 0 w)
    (Ax : Nat → Act → World → Prop) (hAx : ∀ i a', Firm w.heap.size (Ax i a'))
    (hassign : ∀ (m l i : Nat) (W : World) (K : Act → World → Prop), I i W → i < N → live i → (∀ a' W', Stay w.heap.size W W' → I i W' → Ax i a' W' → K a' W') →
      assign.wpIn (Fence.wide.inRound l) m Tryz.prog (Exit.then K (fun _ _ _ => False)) { tmps := (ps.zip (enc i)).foldl (fun t (p, v) => t.setIfInBounds p v) a.tmps, defers := [] } W)
    (hbody : ∀ (m l i : Nat) (a' : Act) (W : World), I i W → Ax i a' W → i < N → live i → body.wpIn (Fence.wide.inRound l) m Tryz.prog (endBy w.heap.size (I (i + 1)) W) a' W)
    (hdone : ∀ (W : World), I N W → W.heap[w.heap.size]? = some (.deferred (some [])) → Q .normal (lastMark w.heap.size a) W) :
    (Code.rangeFunc g ps assign body).wpIn Fence.wide n Tryz.prog Q a w := by
  refine wpIn_rangeFunc fun fn hfn => ?_
  obtain ⟨M, hM⟩ : ∃ M : LoopState → Option Code → Loop, ∀ st pe, M st pe = { state := st, pending := pe, fn, tmps := a.tmps, params := ps, assign, body, defers := w.heap.size } := ⟨_, fun _ _ => rfl⟩
  obtain ⟨V, hV⟩ : ∃ V, (w.alloc (.deferred (some []))).alloc (.loop (M .ready none)) = V := ⟨_, rfl⟩
  have hv : Two V (w.heap.size + 1) w.heap.size (M .ready none) := by
    refine ⟨?_, ?_⟩
    · have := World.alloc_heap_new (w.alloc (.deferred (some []))) (.loop (M .ready none))
      rwa [hV, World.size_alloc] at this
    · rw [← hV]; exact (Below.heap_alloc _ _ _ (by simp)).trans (World.alloc_heap_new w _)
  have bv : Below w.heap.size w V := by rw [← hV]; exact ((Below.refl _ w).alloc (Nat.le_refl _) _).alloc (by simp) _
  have iv : I 0 V := (hI 0).low h0 bv
  have hsz : V.heap.size = w.heap.size + 1 + 1 := by rw [← hV]; simp
  refine ⟨w.heap.size + 1, [{ target := .collected w.heap.size, args := #[] }], V, { target := .fn (.func gf) lb, args := bnd ++ #[.func (.yield (w.heap.size + 1)) #[] #[]] }, V, gf, bnd ++ #[.func (.yield (w.heap.size + 1)) #[] #[]] ++ lb, V, ?_, ?_, ?_, ?_, fun h => absurd h (by decide), ?_⟩
  · rw [← hV, hM]; exact run_enterLoop_outer _ _ _ _ _
  · simp only [resolve, hg]; simp [go_sem]
  · intro f' _; trivial
  · simp [invoke, go_sem, eg]
  refine (hit (n - 1) (w.heap.size + 1) (fun s W => I s W ∧ Two W (w.heap.size + 1) w.heap.size (M .ready none)) V (fun i U h => hRd i U h.1)
    (fun i => Firm.and (fun U U' hu hs => hI i U U' hu (hs.mono (by omega))) (Two.firm (by omega) (by omega))) (fun i U h hn hl => ⟨hskip i U h.1 hn hl, h.2⟩) ?_ ⟨iv, hv⟩).mono ?_
  · rintro m s W ⟨hi, ht⟩ hsN hlive
    have hy := run_yield (P := Tryz.prog) (args := enc s) ht.lp (by rw [hM]; exact hps s)
    rw [hM] at hy
    refine ⟨fn, _, assign, body, hy, roundIn_of_wpIn hfn (hassign _ _ s W _ hi hsN hlive fun a' W1 st1 i1 x1 => ?_)⟩
    clear hy
    have t1 := ht.keep st1 (by omega) (Nat.le_refl _)
    refine ⟨_, run_beginRound t1.lp (by rw [hM]), ?_⟩
    have hbusy : ({ M .ready none with state := LoopState.busy } : Loop) = M .busy none := by rw [hM, hM]
    rw [hbusy]
    have t2 := t1.put (M .busy none) (by omega)
    have s2 : Soft w.heap.size W1 (W1.putObj (w.heap.size + 1) (.loop (M .busy none))) := Soft.put t1.lp trivial (by omega)
    have i2 := hI s _ _ i1 s2
    have x2 := hAx s a' _ _ x1 s2
    refine wpIn_mono (hbody _ _ s a' _ i2 x2 hsN hlive) ?_
    rintro e a3 W3 hp
    cases e with
    | normal =>
      obtain ⟨k3, i3⟩ := hp
      have t3 := t2.keep k3 (by omega) (Nat.le_refl _)
      have he := run_endRound (P := Tryz.prog) none t3.lp
      rw [show ({ M .busy none with state := if (none : Option Code).isNone then LoopState.ready else .done, pending := none } : Loop) = M .ready none by rw [hM, hM]; rfl] at he
      refine ⟨_, _, he, rfl, ⟨hI (s + 1) _ _ i3 (Soft.put t3.lp trivial (by omega)), t3.put _ (by omega)⟩, ?_⟩
      intro k o hk ho hl
      rw [hsz] at hk
      have h1 := st1 k o (by omega) ho hl
      have h2 : (W1.putObj (w.heap.size + 1) (.loop (M .busy none))).heap[k]? = some o := (World.putObj_heap_other (by omega)).trans h1
      have h3 := k3 k o (by omega) h2 hl
      exact (World.putObj_heap_other (by omega)).trans h3
    | ret => exact hp.elim
    | exit id => exact hp.elim
    | goto t => exact hp.elim
    | panic ch => exact hp.elim
    | outgrown => exact hp.elim
  · rintro e W2 ⟨⟨v, rfl⟩, hi, ht⟩
    have he := run_endLoop (P := Tryz.prog) ht.lp (by rw [hM]; simp)
    rw [show (M .ready none).pending = none by rw [hM]] at he
    exact ⟨none, _, he, hdone _ (hI N _ _ hi (Soft.put ht.lp trivial (by omega))) (ht.put _ (by omega)).df⟩
end Go.Proofs.YtgdagfhdimoklaaGreat.Ts
/-
  What it means that a world holds a TSB: its struct's cells, and a memory whose words at the places are T's. Conditions: none.
-/
namespace Go.Proofs.YtgdagfhdimoklaaGreat.Ts
open Fld
open Pt (idxI idx_bd slotI lastI)
open Mem (MemAt MemTo word setW)
open Go.ChangeShapes Go.WideShapes Go.ChangeAt Go.RowKit
set_option maxHeartbeats 1000000
set_option maxRecDepth 100000
theorem cell_row {w : World} {b : Nat} (i : Nat) {c : Array Value} {t : TypeId} {f : Nat × Nat} {v : Value} (h : w.heap[b]? = some (.cells c t f)) (hv : c[i]? = some v) : w.cell? ⟨b, i, none⟩ = some v := by
  simp [World.cell?, h, hv]
/-- The struct's cells. -/
structure RowP (w : World) (st sb : Nat) (p : Par) : Prop where
  row : w.heap[st]? = some (.cells #[.pointer (some ⟨sb, 0, none⟩), .int .u64 (p.b : Int), .int .i64 p.s, .int .i64 p.g] 70 (0, 0))
theorem RowP.lt {w : World} {st sb : Nat} {p : Par} (h : RowP w st sb p) : st < w.heap.size := (Array.getElem?_eq_some_iff.1 h.row).1
theorem RowP.cells {w : World} {st sb : Nat} {p : Par} (h : RowP w st sb p) : w.cell? ⟨st, 0, none⟩ = some (.pointer (some ⟨sb, 0, none⟩)) ∧ w.cell? ⟨st, 1, none⟩ = some (.int .u64 (p.b : Int)) ∧ w.cell? ⟨st, 2, none⟩ = some (.int .i64 p.s) ∧ w.cell? ⟨st, 3, none⟩ = some (.int .i64 p.g) :=
  ⟨cell_row 0 h.row rfl, cell_row 1 h.row rfl, cell_row 2 h.row rfl, cell_row 3 h.row rfl⟩
theorem RowP.drewN {w : World} {st sb : Nat} {p : Par} (h : RowP w st sb p) (n : Nat) : RowP (w.drewN n) st sb p := ⟨h.row⟩
theorem RowP.low {w w' : World} {st sb : Nat} {p : Par} (h : RowP w st sb p) (hb : Below w.heap.size w w') : RowP w' st sb p := ⟨(hb.block _ h.lt).trans h.row⟩
theorem RowP.firm (B st sb : Nat) (p : Par) : Firm B (fun W => RowP W st sb p) := fun V V' h hv => ⟨Firm.cells B st _ _ _ V V' h.row hv⟩
/-- The words of the places. -/
def PlAt (g : Nat → Nat) (p : Par) (T : Nat → Pl) : Prop := ∀ i, i < p.n → ((word g (p.b + 16 * i) : Nat) : Int) = (T i).t ∧ ((word g (p.b + 16 * i + 8) : Nat) : Int) = (T i).d
structure TsbAt (w : World) (st sb bm : Nat) (p : Par) (T : Nat → Pl) : Prop where
  ok : p.Ok
  row : RowP w st sb p
  mem : ∃ g, MemAt w sb bm p.S g ∧ PlAt g p T
theorem TsbAt.lt {w : World} {st sb bm : Nat} {p : Par} {T : Nat → Pl} (h : TsbAt w st sb bm p T) : st < w.heap.size ∧ sb < w.heap.size ∧ bm < w.heap.size ∧ st ≠ sb ∧ st ≠ bm ∧ bm ≠ sb := by
  obtain ⟨g, hm, _⟩ := h.mem
  refine ⟨h.row.lt, hm.lt.1, hm.lt.2, ?_, ?_, hm.ne⟩
  · rintro rfl
    obtain ⟨m, _, h1⟩ := hm.row
    rw [h.row.row] at h1
    simp at h1
  · rintro rfl
    obtain ⟨D, ⟨es, clock, h2, _⟩, _⟩ := hm.words
    rw [h.row.row] at h2; cases h2
theorem TsbAt.U {w : World} {st sb bm : Nat} {p : Par} {T : Nat → Pl} (h : TsbAt w st sb bm p T) {i : Nat} (hi : i < p.n) : (T i).U := by
  obtain ⟨g, hm, hp⟩ := h.mem
  obtain ⟨a, b⟩ := hp i hi
  have h1 := Mem.word_lt g hm.good.lt (p.b + 16 * i)
  have h2 := Mem.word_lt g hm.good.lt (p.b + 16 * i + 8)
  exact ⟨by omega, by omega, by omega, by omega⟩
theorem TsbAt.same {w w' : World} {st sb bm : Nat} {p : Par} {T : Nat → Pl} (h : TsbAt w st sb bm p T) (h0 : w'.heap[st]? = w.heap[st]?) (h1 : w'.heap[sb]? = w.heap[sb]?) (h2 : w'.heap[bm]? = w.heap[bm]?) : TsbAt w' st sb bm p T := by
  obtain ⟨g, hm, hp⟩ := h.mem
  exact ⟨h.ok, ⟨h0.trans h.row.row⟩, g, hm.same h1 h2, hp⟩
theorem TsbAt.drewN {w : World} {st sb bm : Nat} {p : Par} {T : Nat → Pl} (h : TsbAt w st sb bm p T) (n : Nat) : TsbAt (w.drewN n) st sb bm p T := h.same rfl rfl rfl
theorem TsbAt.drew {w : World} {st sb bm : Nat} {p : Par} {T : Nat → Pl} (h : TsbAt w st sb bm p T) : TsbAt w.drew st sb bm p T := h.same rfl rfl rfl
theorem TsbAt.low {w w' : World} {st sb bm : Nat} {p : Par} {T : Nat → Pl} (h : TsbAt w st sb bm p T) (hb : Below w.heap.size w w') : TsbAt w' st sb bm p T :=
  h.same (hb.block _ h.lt.1) (hb.block _ h.lt.2.1) (hb.block _ h.lt.2.2.1)
theorem TsbAt.soft {w w' : World} {B st sb bm : Nat} {p : Par} {T : Nat → Pl} (h : TsbAt w st sb bm p T) (hs : Soft B w w') : TsbAt w' st sb bm p T := by
  have hl := h.lt
  obtain ⟨g, hm, hp⟩ := h.mem
  obtain ⟨m, _, h1⟩ := hm.row
  obtain ⟨D, ⟨es, clock, h2, _⟩, _⟩ := hm.words
  exact h.same (hs.block _ hl.1 (.inr fun o ho => by rw [h.row.row] at ho; cases ho; exact id)) (hs.block _ hl.2.1 (.inr fun o ho => by rw [h1] at ho; cases ho; exact id)) (hs.block _ hl.2.2.1 (.inr fun o ho => by rw [h2] at ho; cases ho; exact id))
theorem TsbAt.congr {w : World} {st sb bm : Nat} {p : Par} {T U : Nat → Pl} (h : TsbAt w st sb bm p T) (he : ∀ i, i < p.n → T i = U i) : TsbAt w st sb bm p U := by
  obtain ⟨g, hm, hp⟩ := h.mem
  exact ⟨h.ok, h.row, g, hm, fun i hi => by rw [← he i hi]; exact hp i hi⟩
/-- What a call does to a TSB. -/
def TsbTo (w w' : World) (st sb bm : Nat) (p : Par) (T : Nat → Pl) : Prop := ∃ bm', TsbAt w' st sb bm' p T ∧ (bm' = bm ∨ w.heap.size ≤ bm') ∧ Mem.Turn w w' sb bm
theorem TsbAt.to {w : World} {st sb bm : Nat} {p : Par} {T : Nat → Pl} (h : TsbAt w st sb bm p T) : TsbTo w w st sb bm p T := ⟨bm, h, .inl rfl, Mem.Turn.refl _ _ _⟩
theorem turn_low {w w' : World} (sb bm : Nat) (hb : Below w.heap.size w w') : Mem.Turn w w' sb bm := ⟨hb.os, hb.tape, hb.output, hb.size, fun k hk _ _ => hb.block k hk⟩
theorem turn_drewN {a b : World} {sb bm : Nat} (h : Mem.Turn a b sb bm) (n : Nat) : Mem.Turn a (b.drewN n) sb bm := ⟨h.os, h.tape, h.output, h.size, h.block⟩
theorem TsbAt.to_low {w w' : World} {st sb bm : Nat} {p : Par} {T : Nat → Pl} (h : TsbAt w st sb bm p T) (hb : Below w.heap.size w w') : TsbTo w w' st sb bm p T := ⟨bm, h.low hb, .inl rfl, turn_low _ _ hb⟩
theorem TsbTo.trans {u v w : World} {st sb bm bm1 : Nat} {p : Par} {T' : Nat → Pl} (hb : bm1 = bm ∨ u.heap.size ≤ bm1) (t : Mem.Turn u v sb bm) (h2 : TsbTo v w st sb bm1 p T') : TsbTo u w st sb bm p T' := by
  obtain ⟨b, a1, a2, a3⟩ := h2
  refine ⟨b, a1, ?_, t.trans a3 hb⟩
  rcases a2 with rfl | a2
  · exact hb
  · exact .inr (Nat.le_trans t.size a2)
theorem TsbTo.undrew {w w' : World} {st sb bm : Nat} {p : Par} {T : Nat → Pl} (h : TsbTo w.drew w' st sb bm p T) : TsbTo w w' st sb bm p T := by
  obtain ⟨b, a1, a2, a3⟩ := h
  exact ⟨b, a1, a2, ⟨a3.os, a3.tape, a3.output, a3.size, a3.block⟩⟩
theorem TsbTo.undrewN {w w' : World} {n st sb bm : Nat} {p : Par} {T : Nat → Pl} (h : TsbTo (w.drewN n) w' st sb bm p T) : TsbTo w w' st sb bm p T := by
  obtain ⟨b, a1, a2, a3⟩ := h
  exact ⟨b, a1, a2, ⟨a3.os, a3.tape, a3.output, a3.size, a3.block⟩⟩
theorem TsbTo.unlow {w v w' : World} {st sb bm : Nat} {p : Par} {T : Nat → Pl} (hb : Below w.heap.size w v) (h : TsbTo v w' st sb bm p T) : TsbTo w w' st sb bm p T := TsbTo.trans (.inl rfl) (turn_low _ _ hb) h
theorem TsbTo.cong {w w' : World} {st sb bm : Nat} {p : Par} {T U : Nat → Pl} (h : TsbTo w w' st sb bm p T) (he : T = U) : TsbTo w w' st sb bm p U := he ▸ h
theorem stay_turn {w w' : World} {B st sb bm : Nat} {p : Par} {T : Nat → Pl} (h : TsbAt w st sb bm p T) (ht : Mem.Turn w w' sb bm) : Stay B w w' := fun k o _ ho hs => by
  obtain ⟨g, hm, _⟩ := h.mem
  refine (ht.block k (Array.getElem?_eq_some_iff.1 ho).1 ?_ ?_).trans ho
  · rintro rfl
    obtain ⟨m, _, h1⟩ := hm.row
    rw [h1] at ho; cases ho
    exact absurd hs (by show ¬ (_ = _); simp)
  · rintro rfl
    obtain ⟨D, ⟨es, clock, h2, _⟩, _⟩ := hm.words
    rw [h2] at ho; cases ho; exact hs
/-- Where a place stands. -/
theorem slot_at {p : Par} (h : p.Ok) (va : Int) : slotI (p.b : Int) (idxI va p.s p.n) = ((p.b + 16 * p.pl va : Nat) : Int) := by
  obtain ⟨e, hl⟩ := h.idx va
  have h1 := h.is
  have h2 := h.le
  rw [e]
  unfold slotI
  rw [if_pos (by omega)]
  omega
theorem put_tag {g : Nat → Nat} (hg : ∀ a, g a < 256) {p : Par} (h : p.Ok) {T : Nat → Pl} (hp : PlAt g p T) {i : Nat} (_hi : i < p.n) {v : Int} (v0 : 0 ≤ v) (v1 : v < 18446744073709551616) : PlAt (setW g (p.b + 16 * i) v.toNat) p (setP T i ⟨v, (T i).d⟩) := by
  have ha := h.al
  intro j hj
  obtain ⟨a, b⟩ := hp j hj
  by_cases e : j = i
  · subst e
    rw [setP_at, Mem.word_setW_same hg _ (by omega), Mem.word_setW_other (by omega) (by omega) (by omega)]
    exact ⟨Int.toNat_of_nonneg v0, b⟩
  · rw [setP_ne e, Mem.word_setW_other (by omega) (by omega) (by omega), Mem.word_setW_other (by omega) (by omega) (by omega)]
    exact ⟨a, b⟩
theorem put_data {g : Nat → Nat} (hg : ∀ a, g a < 256) {p : Par} (h : p.Ok) {T : Nat → Pl} (hp : PlAt g p T) {i : Nat} (_hi : i < p.n) {v : Int} (v0 : 0 ≤ v) (v1 : v < 18446744073709551616) : PlAt (setW g (p.b + 16 * i + 8) v.toNat) p (setP T i ⟨(T i).t, v⟩) := by
  have ha := h.al
  intro j hj
  obtain ⟨a, b⟩ := hp j hj
  by_cases e : j = i
  · subst e
    rw [setP_at, Mem.word_setW_same hg _ (by omega), Mem.word_setW_other (by omega) (by omega) (by omega)]
    exact ⟨a, Int.toNat_of_nonneg v0⟩
  · rw [setP_ne e, Mem.word_setW_other (by omega) (by omega) (by omega), Mem.word_setW_other (by omega) (by omega) (by omega)]
    exact ⟨a, b⟩
/-- A memory that a call has changed, and what stands at the places then. -/
theorem to_of {w w' : World} {st sb bm : Nat} {p : Par} {T : Nat → Pl} {g : Nat → Nat} (ok : p.Ok) (row : RowP w st sb p) (hne : st ≠ sb) (hne2 : st ≠ bm) (h : MemTo w w' sb bm p.S g) (hp : PlAt g p T) : TsbTo w w' st sb bm p T := by
  obtain ⟨b, a1, a2, a3⟩ := h
  exact ⟨b, ⟨ok, ⟨(a3.block _ row.lt hne hne2).trans row.row⟩, g, a1, hp⟩, a2, a3⟩
/-! ### The memory's calls, at a place -/
theorem place_in {p : Par} (h : p.Ok) {i : Nat} (hi : i < p.n) (k : Nat) (hk : k ≤ 16) : p.b + 16 * i + k ≤ p.S ∧ p.b + 16 * i + k < 18446744073709551616 := by
  have h1 := h.is
  have h2 := h.le
  omega
theorem word_at {w : World} {st sb bm : Nat} {p : Par} {T : Nat → Pl} (h : TsbAt w st sb bm p T) {i : Nat} (hi : i < p.n) :
    Calls Tryz.prog 62 #[.pointer (some ⟨sb, 0, none⟩), .int .u64 ((p.b + 16 * i : Nat) : Int)] w fun e w' => e = .returned (.tuple #[.int .u64 (T i).t, .int .i64 0]) ∧ w = w' := by
  obtain ⟨g, hm, hp⟩ := h.mem
  have hin := place_in h.ok hi 16 (Nat.le_refl _)
  have ha := h.ok.al
  have hy : Mem.mayI p.S ((p.b + 16 * i : Nat) : Int) 8 8 = 0 := Mem.may_ok (by omega) (by omega)
  refine (Mem.word_any sb bm p.S g _ w hm (by omega) (by omega)).mono ?_
  rintro e w' ⟨rfl, rfl⟩
  unfold Mem.rdW; rw [if_pos hy, hy, Int.toNat_natCast, (hp i hi).1]; exact ⟨rfl, rfl⟩
theorem pair_at {w : World} {st sb bm : Nat} {p : Par} {T : Nat → Pl} (h : TsbAt w st sb bm p T) {i : Nat} (hi : i < p.n) :
    Calls Tryz.prog 49 #[.pointer (some ⟨sb, 0, none⟩), .int .u64 ((p.b + 16 * i : Nat) : Int)] w fun e w' => e = .returned (.tuple #[.int .u64 (T i).t, .int .u64 (T i).d, .int .i64 0]) ∧ ∃ n, w' = w.drewN n := by
  obtain ⟨g, hm, hp⟩ := h.mem
  have hin := place_in h.ok hi 16 (Nat.le_refl _)
  have ha := h.ok.al
  have hy : Mem.mayI p.S ((p.b + 16 * i : Nat) : Int) 16 16 = 0 := Mem.may_ok (by omega) (by omega)
  refine (Mem.pair_any sb bm p.S g _ w hm (by omega) (by omega)).mono ?_
  rintro e w' ⟨rfl, n, rfl⟩
  unfold Mem.rdP; rw [if_pos hy, if_pos hy, hy, Int.toNat_natCast, Nat.add_zero, (hp i hi).1, (hp i hi).2]; exact ⟨rfl, n, rfl⟩
theorem putTag_at {w : World} {st sb bm : Nat} {p : Par} {T : Nat → Pl} (h : TsbAt w st sb bm p T) {i : Nat} (hi : i < p.n) (v : Int) (v0 : 0 ≤ v) (v1 : v ≤ 18446744073709551615) :
    Calls Tryz.prog 58 #[.pointer (some ⟨sb, 0, none⟩), .int .u64 ((p.b + 16 * i : Nat) : Int), .int .u64 v] w fun e w' => e = .returned (.int .i64 0) ∧ TsbTo w w' st sb bm p (setP T i ⟨v, (T i).d⟩) := by
  obtain ⟨g, hm, hp⟩ := h.mem
  have hl := h.lt
  have hin := place_in h.ok hi 16 (Nat.le_refl _)
  have ha := h.ok.al
  have hy : Mem.mayI p.S ((p.b + 16 * i : Nat) : Int) 8 8 = 0 := Mem.may_ok (by omega) (by omega)
  refine (Mem.putWord_any sb bm p.S g _ v w hm (by omega) (by omega) v0 (by omega)).mono ?_
  rintro e w' ⟨rfl, M⟩
  unfold Mem.stW at M; rw [if_pos hy, Int.toNat_natCast] at M
  exact ⟨by rw [hy], to_of h.ok h.row hl.2.2.2.1 hl.2.2.2.2.1 M (put_tag hm.good.lt h.ok hp hi v0 (by omega))⟩
theorem putData_at {w : World} {st sb bm : Nat} {p : Par} {T : Nat → Pl} (h : TsbAt w st sb bm p T) {i : Nat} (hi : i < p.n) (v : Int) (v0 : 0 ≤ v) (v1 : v ≤ 18446744073709551615) :
    Calls Tryz.prog 58 #[.pointer (some ⟨sb, 0, none⟩), .int .u64 (((p.b + 16 * i : Nat) : Int) + 8), .int .u64 v] w fun e w' => e = .returned (.int .i64 0) ∧ TsbTo w w' st sb bm p (setP T i ⟨(T i).t, v⟩) := by
  obtain ⟨g, hm, hp⟩ := h.mem
  have hl := h.lt
  have hin := place_in h.ok hi 16 (Nat.le_refl _)
  have ha := h.ok.al
  have hy : Mem.mayI p.S (((p.b + 16 * i : Nat) : Int) + 8) 8 8 = 0 := Mem.may_ok (by omega) (by omega)
  refine (Mem.putWord_any sb bm p.S g _ v w hm (by omega) (by omega) v0 (by omega)).mono ?_
  rintro e w' ⟨rfl, M⟩
  unfold Mem.stW at M; rw [if_pos hy, show (((p.b + 16 * i : Nat) : Int) + 8).toNat = p.b + 16 * i + 8 by omega] at M
  exact ⟨by rw [hy], to_of h.ok h.row hl.2.2.2.1 hl.2.2.2.2.1 M (put_data hm.good.lt h.ok hp hi v0 (by omega))⟩
/-- Whatever stands in the memory: a place is made empty. -/
theorem putPair_raw {w : World} {st sb bm : Nat} {p : Par} {g : Nat → Nat} (ok : p.Ok) (row : RowP w st sb p) (hm : MemAt w sb bm p.S g) (hne : st ≠ sb) (hne2 : st ≠ bm) {T : Nat → Pl} (hp : PlAt g p T) {i : Nat} (hi : i < p.n) :
    Calls Tryz.prog 81 #[.pointer (some ⟨sb, 0, none⟩), .int .u64 ((p.b + 16 * i : Nat) : Int), .int .u64 9223372036854775807, .int .u64 0] w fun e w' => e = .returned (.int .i64 0) ∧ TsbTo w w' st sb bm p (setP T i Pl.none) := by
  have hin := place_in ok hi 16 (Nat.le_refl _)
  have ha := ok.al
  have hy : Mem.mayI p.S ((p.b + 16 * i : Nat) : Int) 16 16 = 0 := Mem.may_ok (by omega) (by omega)
  refine (Mem.putPair_any sb bm p.S g _ 9223372036854775807 0 w hm (by omega) (by omega) (by omega) (by omega) (by omega) (by omega)).mono ?_
  rintro e w' ⟨rfl, M⟩
  unfold Mem.stP at M; rw [if_pos hy, Int.toNat_natCast] at M
  have q1 := put_tag hm.good.lt ok hp hi (v := 9223372036854775807) (by omega) (by omega)
  have q2 := put_data (Mem.setW_lt hm.good.lt _ _) ok q1 hi (v := 0) (by omega) (by omega)
  rw [setP_twice, setP_at] at q2
  exact ⟨by rw [hy], to_of ok row hne hne2 M q2⟩
theorem putPair_at {w : World} {st sb bm : Nat} {p : Par} {T : Nat → Pl} (h : TsbAt w st sb bm p T) {i : Nat} (hi : i < p.n) :
    Calls Tryz.prog 81 #[.pointer (some ⟨sb, 0, none⟩), .int .u64 ((p.b + 16 * i : Nat) : Int), .int .u64 9223372036854775807, .int .u64 0] w fun e w' => e = .returned (.int .i64 0) ∧ TsbTo w w' st sb bm p (setP T i Pl.none) := by
  obtain ⟨g, hm, hp⟩ := h.mem
  have hl := h.lt
  exact putPair_raw h.ok h.row hm hl.2.2.2.1 hl.2.2.2.2.1 hp hi
end Go.Proofs.YtgdagfhdimoklaaGreat.Ts
/-
  Contracts of Places, Len, Base, Grade, slot, tag, address, entry, empty and may of package tsb. Conditions: they read a TSB that is there; addresses are below 2 to the 64.
-/
namespace Go.Proofs.YtgdagfhdimoklaaGreat.Ts
open Fld
open Pt (idxI idx_bd slotI lastI)
open Mem (MemAt MemTo word setW)
open Go.ChangeShapes Go.WideShapes Go.ChangeAt Go.RowKit
set_option maxHeartbeats 2000000
set_option maxRecDepth 100000
theorem ret_i {i k : Int} (h : i = k) : Ending.returned (.int .i64 i) = .returned (.int .i64 k) := by rw [h]
theorem ret_u {i k : Int} (h : i = k) : Ending.returned (.int .u64 i) = .returned (.int .u64 k) := by rw [h]
theorem ret_b {i k : Bool} (h : i = k) : Ending.returned (.bool i) = .returned (.bool k) := by rw [h]
theorem places_any (s g : Int) (w : World) :
    Calls Tryz.prog 33 #[.int .i64 s, .int .i64 g] w fun e w' => e = .returned (.int .i64 (placesI s g)) ∧ w = w' := by
  have CM := Lib.hid (fun w => pmay_any s w)
  have CB := Lib.hid (fun w => bytes_any s w)
  have C3 := Lib.hid (fun w => bytes_any 3 w)
  cases hs : sizeB s
  · have H := Lib.hid (show (0 : Int) = placesI s g from (places_no (by rw [hs]; simp)).symm)
    rw [hs] at CM
    clear CB C3
    go_enter Tryz.func33, Tryz.ntmps33
    go_wp2_with (go_at_call 60; refine (CM.out _).mono ?_; rintro e w' ⟨rfl, rfl⟩)
    go_ret
    exact ⟨ret_i H.out, rfl⟩
  · rw [hs] at CM
    by_cases h0 : g < 0
    · have H := Lib.hid (show (0 : Int) = placesI s g from (places_no (fun h => by omega)).symm)
      clear CB C3
      go_enter Tryz.func33, Tryz.ntmps33
      go_wp2_with (go_at_call 60; refine (CM.out _).mono ?_; rintro e w' ⟨rfl, rfl⟩)
      go_ret
      exact ⟨ret_i H.out, rfl⟩
    · by_cases h1 : 4 ≤ g
      · have H := Lib.hid (show (0 : Int) = placesI s g from (places_no (fun h => by omega)).symm)
        clear CB C3
        go_enter Tryz.func33, Tryz.ntmps33
        go_wp2_with (go_at_call 60; refine (CM.out _).mono ?_; rintro e w' ⟨rfl, rfl⟩)
        go_ret
        exact ⟨ret_i H.out, rfl⟩
      · have hg : g = 0 ∨ g = 1 ∨ g = 2 ∨ g = 3 := by omega
        have hb3 : bytesI 3 = 4194304 := rfl
        rw [hb3] at C3
        rcases sizeB_true hs with rfl | rfl | rfl | rfl <;> rcases hg with rfl | rfl | rfl | rfl
        all_goals
          clear hs h0 h1 hb3
          (try rw [show bytesI 0 = 8192 from rfl] at CB)
          (try rw [show bytesI 1 = 65536 from rfl] at CB)
          (try rw [show bytesI 2 = 524288 from rfl] at CB)
          (try rw [show bytesI 3 = 4194304 from rfl] at CB)
          go_enter Tryz.func33, Tryz.ntmps33
          go_wp2_with (first | (go_at_call 60; refine (CM.out _).mono ?_; rintro e w' ⟨rfl, rfl⟩) | (go_at_call 61; (with_reducible refine (C3.out _).mono ?_); rintro e w' ⟨rfl, rfl⟩) | (go_at_call 61; (with_reducible refine (CB.out _).mono ?_); rintro e w' ⟨rfl, rfl⟩))
          go_ret
          exact ⟨rfl, rfl⟩
theorem len_any {st sb : Nat} {p : Par} (hp : p.Ok) (w : World) (h : RowP w st sb p) :
    Calls Tryz.prog 7 #[.pointer (some ⟨st, 0, none⟩)] w fun e w' => e = .returned (.int .i64 (p.n : Int)) ∧ ∃ m, w' = w.drewN m := by
  have C := Lib.hid (fun w => places_any p.s p.g w)
  rw [← hp.hn] at C
  obtain ⟨c0, c1, c2, c3⟩ := h.cells
  clear hp h
  go_enter Tryz.func7, Tryz.ntmps7
  go_wp2_with fail
  go_quiet ((go_at_call 33; refine (C.out _).mono ?_; rintro e w' ⟨rfl, rfl⟩; exact ⟨rfl, _, rfl⟩))
  go_wp2_with fail
  go_ret
  exact ⟨rfl, _, rfl⟩
theorem tslot_any {st sb : Nat} {p : Par} (hp : p.Ok) (va : Int) (v0 : 0 ≤ va) (v1 : va ≤ 18446744073709551615) (w : World) (h : RowP w st sb p) :
    Calls Tryz.prog 51 #[.pointer (some ⟨st, 0, none⟩), .int .u64 va] w fun e w' => e = .returned (.int .u64 ((p.b + 16 * p.pl va : Nat) : Int)) ∧ ∃ m, w' = w.drewN m := by
  have hn := hp.n_bd
  have hb1 := hp.is
  have hb2 := hp.le
  have CL := Lib.hid (fun n => len_any hp (w.drewN n) (h.drewN n))
  have CS := Lib.hid (fun w => Pt.slot_any (p.b : Int) (p.n : Int) va p.s (by omega) (by omega) v0 v1 hp.hs (by omega) (by omega) w)
  rw [slot_at hp] at CS
  obtain ⟨c0, c1, c2, c3⟩ := h.cells
  generalize p.b + 16 * p.pl va = A at *
  clear hp h hn hb1 hb2
  go_enter Tryz.func51, Tryz.ntmps51
  go_wp2_with fail
  go_quiet (first | (go_at_call 7; (with_reducible refine (CL.out _).mono ?_); rintro e w' ⟨rfl, m, rfl⟩; exact ⟨rfl, _, by rw [World.drewN_drewN]⟩) | (go_at_call 78; (with_reducible refine (CS.out _).mono ?_); rintro e w' ⟨rfl, m, rfl⟩; exact ⟨rfl, _, by rw [World.drewN_drewN]⟩))
  go_wp2_with fail
  go_ret
  exact ⟨rfl, _, rfl⟩
theorem tag_any {st sb bm : Nat} {p : Par} {T : Nat → Pl} (w : World) (h : TsbAt w st sb bm p T) {i : Nat} (hi : i < p.n) :
    Calls Tryz.prog 35 #[.pointer (some ⟨st, 0, none⟩), .int .u64 ((p.b + 16 * i : Nat) : Int)] w fun e w' => e = .returned (.int .u64 (T i).t) ∧ w = w' := by
  have C := Lib.hid (word_at h hi)
  obtain ⟨c0, c1, c2, c3⟩ := h.row.cells
  generalize p.b + 16 * i = A at *
  clear h
  go_enter Tryz.func35, Tryz.ntmps35
  go_wp2_with (go_at_call 62; refine C.out.mono ?_; rintro e w' ⟨rfl, rfl⟩)
  go_ret
  exact ⟨rfl, rfl⟩
end Go.Proofs.YtgdagfhdimoklaaGreat.Ts
/-
  Contracts of address, empty and entry of package tsb. Conditions: they read a TSB that is there; addresses and words are below 2 to the 64.
-/
namespace Go.Proofs.YtgdagfhdimoklaaGreat.Ts
open Fld
open Pt (idxI idx_bd slotI lastI)
open Mem (MemAt MemTo word setW)
open Tl (res_ent ret_entB box_below)
open Go.ChangeShapes Go.WideShapes Go.ChangeAt Go.RowKit
set_option maxHeartbeats 2000000
set_option maxRecDepth 100000
/-- The address, laid bit by bit. -/
theorem adr_walk (s i t : Int) (hs : sizeB s = true) (i0 : 0 ≤ i) (_i1 : i < 4096) (t0 : 0 ≤ t) (_t1 : t ≤ 18446744073709551615) :
    (0 ≤ putI 0 (bitsI s) (22 - bitsI s) i ∧ putI 0 (bitsI s) (22 - bitsI s) i ≤ 18446744073709551615) ∧ (0 ≤ putI (putI 0 (bitsI s) (22 - bitsI s) i) 22 22 t ∧ putI (putI 0 (bitsI s) (22 - bitsI s) i) 22 22 t ≤ 18446744073709551615) ∧
    (getI (putI (putI 0 (bitsI s) (22 - bitsI s) i) 22 22 t) 43 1 == 1) = decide (2097152 ≤ t % 4194304) ∧
    (2097152 ≤ t % 4194304 → bits .or .u64 (putI (putI 0 (bitsI s) (22 - bitsI s) i) 22 22 t) (maskI 44 20) = adrI s i t) ∧
    (¬ 2097152 ≤ t % 4194304 → putI (putI 0 (bitsI s) (22 - bitsI s) i) 22 22 t = adrI s i t) := by
  have h1 : putI 0 (bitsI s) (22 - bitsI s) i = i % leastI s * bytesI s := by
    rcases sizeB_true hs with rfl | rfl | rfl | rfl
    · rw [show bitsI 0 = 13 from rfl, show (22 : Int) - 13 = 9 from rfl, putI_at 0 13 9 i 8192 512 (by decide) (by decide) (by decide) i0 (by decide) (by decide), show leastI 0 = 512 from rfl, show bytesI 0 = 8192 from rfl]; omega
    · rw [show bitsI 1 = 16 from rfl, show (22 : Int) - 16 = 6 from rfl, putI_at 0 16 6 i 65536 64 (by decide) (by decide) (by decide) i0 (by decide) (by decide), show leastI 1 = 64 from rfl, show bytesI 1 = 65536 from rfl]; omega
    · rw [show bitsI 2 = 19 from rfl, show (22 : Int) - 19 = 3 from rfl, putI_at 0 19 3 i 524288 8 (by decide) (by decide) (by decide) i0 (by decide) (by decide), show leastI 2 = 8 from rfl, show bytesI 2 = 524288 from rfl]; omega
    · rw [show bitsI 3 = 22 from rfl, show (22 : Int) - 22 = 0 from rfl, show leastI 3 = 1 from rfl, show bytesI 3 = 4194304 from rfl]
      unfold putI
      rw [if_neg (by decide)]; omega
  have hb : 0 ≤ i % leastI s * bytesI s ∧ i % leastI s * bytesI s < 4194304 := by
    rcases sizeB_true hs with rfl | rfl | rfl | rfl <;> simp only [bytesI, leastI, if_true, Int.reduceEq, if_false] <;> omega
  rw [h1]
  generalize hA : i % leastI s * bytesI s = A at *
  have h2 : putI A 22 22 t = A + t % 4194304 * 4194304 := by
    rw [putI_at A 22 22 t 4194304 4194304 (by decide) (by omega) (by omega) t0 (by decide) (by decide)]; omega
  rw [h2]
  have h3 : getI (A + t % 4194304 * 4194304) 43 1 = if 2097152 ≤ t % 4194304 then 1 else 0 := by
    rw [getI_at _ 43 1 8796093022208 2 (by decide) (by omega) (by decide) (by decide)]
    split <;> omega
  rw [h3]
  refine ⟨by omega, by omega, ?_, fun h => ?_, fun h => ?_⟩
  · by_cases h : 2097152 ≤ t % 4194304 <;> simp [h]
  · rw [or_mask _ 44 20 (by omega) (by omega) (by decide), putI_at _ 44 20 allOnes 17592186044416 1048576 (by decide) (by omega) (by omega) (by decide) (by decide) (by decide)]
    unfold adrI hiI
    rw [if_pos h, hA, show (allOnes : Int) = 18446744073709551615 from rfl]
    omega
  · unfold adrI hiI
    rw [if_neg h, hA]; omega
theorem address_any {st sb : Nat} {p : Par} (hp : p.Ok) (i : Nat) (hi : i < 4096) (t : Int) (t0 : 0 ≤ t) (t1 : t ≤ 18446744073709551615) (w : World) (h : RowP w st sb p) :
    Calls Tryz.prog 64 #[.pointer (some ⟨st, 0, none⟩), .int .i64 (i : Int), .int .u64 t] w fun e w' => e = .returned (.int .u64 (adrI p.s i t)) ∧ ∃ m, w' = w.drewN m := by
  obtain ⟨⟨a0, a1⟩, ⟨b0, b1⟩, hbit, hhi, hlo⟩ := adr_walk p.s i t hp.hs (by omega) (by omega) t0 t1
  have hbt := bits_bd p.s
  have CB := Lib.hid (fun w => bits_any p.s w)
  have C3 := Lib.hid (fun w => bits_any 3 w)
  rw [show bitsI 3 = 22 from rfl] at C3
  have CP1 := Lib.hid (fun w => put_any 0 (bitsI p.s) (22 - bitsI p.s) i (by omega) (by omega) (by omega) (by omega) w)
  generalize putI 0 (bitsI p.s) (22 - bitsI p.s) i = A at *
  have CP2 := Lib.hid (fun w => put_any A 22 22 t a0 a1 t0 t1 w)
  generalize putI A 22 22 t = B at *
  have CG := Lib.hid (fun w => Pt.qbit_any B 43 b0 b1 w)
  rw [hbit] at CG
  have CM := Lib.hid (fun w => mask_any 44 20 w)
  obtain ⟨c0, c1, c2, c3⟩ := h.cells
  generalize maskI 44 20 = K at *
  generalize bitsI p.s = b at *
  generalize adrI p.s i t = R at *
  have hw : IntKind.i64.wrap (22 - b) = 22 - b := by simp [IntKind.wrap, IntKind.signed, IntKind.bits]; omega
  clear h hbit hp
  by_cases hh : 2097152 ≤ t % 4194304
  · have H := Lib.hid (hhi hh)
    rw [decide_eq_true hh] at CG
    clear hhi hlo hh
    go_enter Tryz.func64, Tryz.ntmps64
    go_wp2_with (first | (go_at_call 83; (with_reducible refine (C3.out _).mono ?_); rintro e w' ⟨rfl, rfl⟩) | (go_at_call 83; (with_reducible refine (CB.out _).mono ?_); rintro e w' ⟨rfl, rfl⟩) | (go_at_call 86; (with_reducible refine (CP2.out _).mono ?_); rintro e w' ⟨rfl, rfl⟩) | (go_at_call 86; (with_reducible refine (CP1.out _).mono ?_); rintro e w' ⟨rfl, rfl⟩) | (go_at_call 87; refine (CG.out _).mono ?_; rintro e w' ⟨rfl, m, rfl⟩) | (go_at_call 63; refine (CM.out _).mono ?_; rintro e w' ⟨rfl, rfl⟩))
    go_ret
    exact ⟨ret_u H.out, m, rfl⟩
  · have H := Lib.hid (hlo hh)
    rw [decide_eq_false hh] at CG
    clear hhi hlo hh
    go_enter Tryz.func64, Tryz.ntmps64
    go_wp2_with (first | (go_at_call 83; (with_reducible refine (C3.out _).mono ?_); rintro e w' ⟨rfl, rfl⟩) | (go_at_call 83; (with_reducible refine (CB.out _).mono ?_); rintro e w' ⟨rfl, rfl⟩) | (go_at_call 86; (with_reducible refine (CP2.out _).mono ?_); rintro e w' ⟨rfl, rfl⟩) | (go_at_call 86; (with_reducible refine (CP1.out _).mono ?_); rintro e w' ⟨rfl, rfl⟩) | (go_at_call 87; refine (CG.out _).mono ?_; rintro e w' ⟨rfl, m, rfl⟩) | (go_at_call 63; refine (CM.out _).mono ?_; rintro e w' ⟨rfl, rfl⟩))
    go_ret
    exact ⟨ret_u H.out, m, rfl⟩
theorem empty_any {st sb bm : Nat} {p : Par} {T : Nat → Pl} (w : World) (h : TsbAt w st sb bm p T) {i : Nat} (hi : i < p.n) :
    Calls Tryz.prog 57 #[.pointer (some ⟨st, 0, none⟩), .int .u64 ((p.b + 16 * i : Nat) : Int)] w fun e w' => e = .returned (.tuple #[]) ∧ TsbTo w w' st sb bm p (setP T i Pl.none) := by
  have C := Lib.hid (putPair_at h.drew hi)
  obtain ⟨c0, c1, c2, c3⟩ := h.row.cells
  generalize p.b + 16 * i = A at *
  clear h
  go_enter Tryz.func57, Tryz.ntmps57
  go_region_with (first | (go_at_call 36; refine (tbad_any _).mono ?_; rintro e w' ⟨rfl, rfl⟩) | (go_at_call 81; refine C.out.mono ?_; rintro e w' ⟨rfl, hT⟩))
  all_goals
    go_wp2
    go_end0
    exact ⟨rfl, hT.undrew⟩
end Go.Proofs.YtgdagfhdimoklaaGreat.Ts
/-
  Contracts of entry, may and Find of package tsb. Conditions: they read a TSB that is there; addresses and words are below 2 to the 64.
-/
namespace Go.Proofs.YtgdagfhdimoklaaGreat.Ts
open Fld
open Pt (idxI idx_bd slotI lastI)
open Mem (MemAt MemTo word setW)
open Tl (res_ent ret_entB box_below)
open Go.ChangeShapes Go.WideShapes Go.ChangeAt Go.RowKit
set_option maxHeartbeats 2000000
set_option maxRecDepth 100000
theorem entry_any {st sb bm : Nat} {p : Par} {T : Nat → Pl} (w : World) (h : TsbAt w st sb bm p T) {i : Nat} (hi : i < p.n) (va : Int) (v0 : 0 ≤ va) (v1 : va ≤ 18446744073709551615) :
    Calls Tryz.prog 50 #[.pointer (some ⟨st, 0, none⟩), .int .u64 ((p.b + 16 * i : Nat) : Int), .int .u64 va] w fun e w' => e = .returned (.tuple #[.agg #[.int .i64 (rdE p.s (T i) va).size, .int .i64 (rdE p.s (T i) va).ctx, .int .u64 (rdE p.s (T i) va).va, .int .u64 (rdE p.s (T i) va).pa, .bool (rdE p.s (T i) va).att.write, .bool (rdE p.s (T i) va).att.priv, .bool (rdE p.s (T i) va).att.exec, .bool (rdE p.s (T i) va).att.lock, .bool (rdE p.s (T i) va).att.global, .bool (rdE p.s (T i) va).att.quiet, .bool (rdE p.s (T i) va).valid], .bool (rdB p.s (T i) va)]) ∧ Below w.heap.size w w' := by
  have U := h.U hi
  have B1 : Below w.heap.size w (w.alloc (.cells #[.int .i64 0, .int .i64 0, .int .u64 0, .int .u64 0, .bool false, .bool false, .bool false, .bool false, .bool false, .bool false, .bool false] 35)) := (Below.refl _ _).alloc (Nat.le_refl _) _
  have R1 : RowE (w.alloc (.cells #[.int .i64 0, .int .i64 0, .int .u64 0, .int .u64 0, .bool false, .bool false, .bool false, .bool false, .bool false, .bool false, .bool false] 35)) w.heap.size Ent.zero := RowE.new w Ent.zero
  have H1 := h.low B1
  obtain ⟨c0, c1, c2, c3⟩ := H1.row.cells
  have CP := Lib.hid (pair_at H1 hi)
  have CR := Lib.hid (fun W => tread_any (T i).t (T i).d va U.t0 U.t1 U.d0 U.d1 v0 v1 W)
  have hB := Lib.hid (show rdB p.s (T i) va = (Ent.readN (T i).t (T i).d va == 0 && (Ent.ofW (T i).t (T i).d va).size == p.s) from rfl)
  have hE := Lib.hid (show rdE p.s (T i) va = if rdB p.s (T i) va then Ent.ofW (T i).t (T i).d va else Ent.zero from rfl)
  have hX := Lib.hid (show Ent.readE (T i).t (T i).d va = if Ent.readN (T i).t (T i).d va = 0 then Ent.ofW (T i).t (T i).d va else Ent.zero from rfl)
  generalize rdE p.s (T i) va = RE at *
  generalize rdB p.s (T i) va = RB at *
  generalize Ent.readN (T i).t (T i).d va = RN at *
  generalize Ent.ofW (T i).t (T i).d va = RO at *
  generalize Ent.readE (T i).t (T i).d va = RX at *
  generalize p.b + 16 * i = A at *
  clear h
  go_enter Tryz.func50, Tryz.ntmps50
  go_wp2_with fail
  refine CP.out.mono ?_; rintro r w1 ⟨rfl, n1, rfl⟩
  have R2 := R1.drewN n1
  have B2 := below_drewN B1 n1
  have H2 := H1.drewN n1
  clear R1 B1 H1 CP c0 c1 c2 c3
  generalize World.drewN _ n1 = W2 at *
  go_wp2_with fail
  refine (CR.out _).mono ?_; rintro r w3 ⟨rfl, hb3⟩
  have R3 := R2.below hb3 R2.lt
  have B3 := B2.trans (hb3.mono B2.size)
  have H3 := H2.low hb3
  clear R2 B2 H2 hb3 CR
  have hsz := R3.lt
  by_cases hn : RN = 0
  · have hXO := hX.out
    rw [if_pos hn] at hXO
    subst hXO
    subst hn
    by_cases hs : RX.size = p.s
    · have hRB := hB.out
      rw [show ((0 : Int) == 0) = true from rfl, hs, beq_self_eq_true] at hRB
      have hRE := hE.out
      rw [hRB] at hRE
      have HRB := Lib.hid (show RB = true from hRB)
      have HRE := Lib.hid (show RE = RX from hRE)
      have hs' := Lib.hid hs
      clear hB hE hX hRB hRE hs
      have N4 := RowE.new w3 RX
      have NB : Below w3.heap.size w3 (w3.alloc (.cells #[.int .i64 RX.size, .int .i64 RX.ctx, .int .u64 RX.va, .int .u64 RX.pa, .bool RX.att.write, .bool RX.att.priv, .bool RX.att.exec, .bool RX.att.lock, .bool RX.att.global, .bool RX.att.quiet, .bool RX.valid] 35)) := (Below.refl _ _).alloc (Nat.le_refl _) _
      have R4 := R3.below NB hsz
      have B4 := B3.trans (NB.mono B3.size)
      obtain ⟨q0, q1, q2, q3⟩ := (H3.low NB).row.cells
      obtain ⟨d0, d1, d2, d3, d4, d5, d6, d7, d8, d9, d10⟩ := N4.cells
      clear NB R3 B3 H3
      go_wp2_with fail
      generalize World.alloc w3 _ = W4 at *
      have hs := hs'.out
      go_quiet (fail)
      clear hs
      have R5 := R4.drewN nq
      have B5 := below_drewN B4 nq
      have N5 := N4.drewN nq
      clear R4 B4 N4 d0 d1 d2 d3 d4 d5 d6 d7 d8 d9 d10 q0 q1 q2 q3
      generalize World.drewN _ nq = W5 at *
      obtain ⟨d0, d1, d2, d3, d4, d5, d6, d7, d8, d9, d10⟩ := N5.cells
      obtain ⟨r0, r1, r2, r3, r4, r5, r6, r7, r8, r9, r10⟩ := R5.cells
      have fr : ∀ i, W5.frozen? ⟨w.heap.size, i, none⟩ = false := R5.frozen
      go_wp2_with fail
      have RR := RowE.setAll (e := RX) R5
      (try simp only [Exit.inBlock, Exit.then])
      refine bodyPost_ret (res_ent rfl _ _ _ _ rfl RR) rfl ?_; exact ⟨ret_entB HRE.out HRB.out, box_below (X := w) (Nat.le_refl _) B5⟩
    · have hRB := hB.out
      rw [beq_false_of_ne hs, Bool.and_false] at hRB
      have hRE := hE.out
      rw [hRB] at hRE
      have HRB := Lib.hid (show RB = false from hRB)
      have HRE := Lib.hid (show RE = Ent.zero from hRE)
      have hs' := Lib.hid hs
      clear hB hE hX hRB hRE hs
      have N4 := RowE.new w3 RX
      have NB : Below w3.heap.size w3 (w3.alloc (.cells #[.int .i64 RX.size, .int .i64 RX.ctx, .int .u64 RX.va, .int .u64 RX.pa, .bool RX.att.write, .bool RX.att.priv, .bool RX.att.exec, .bool RX.att.lock, .bool RX.att.global, .bool RX.att.quiet, .bool RX.valid] 35)) := (Below.refl _ _).alloc (Nat.le_refl _) _
      have R4 := R3.below NB hsz
      have B4 := B3.trans (NB.mono B3.size)
      obtain ⟨q0, q1, q2, q3⟩ := (H3.low NB).row.cells
      obtain ⟨d0, d1, d2, d3, d4, d5, d6, d7, d8, d9, d10⟩ := N4.cells
      clear NB R3 B3 H3
      go_wp2_with fail
      generalize World.alloc w3 _ = W4 at *
      have hs := hs'.out
      go_quiet (fail)
      clear hs
      have R5 := R4.drewN nq
      have B5 := below_drewN B4 nq
      clear R4 B4 N4 d0 d1 d2 d3 d4 d5 d6 d7 d8 d9 d10 q0 q1 q2 q3
      have hs2 : (RX.size != p.s) = true := bne_iff_ne.2 hs'.out
      generalize World.drewN _ nq = W5 at *
      obtain ⟨r0, r1, r2, r3, r4, r5, r6, r7, r8, r9, r10⟩ := R5.cells
      have fr : ∀ i, W5.frozen? ⟨w.heap.size, i, none⟩ = false := R5.frozen
      go_wp2_with fail
      have RR := RowE.setAll (e := Ent.zero) R5
      (try simp only [Exit.inBlock, Exit.then])
      refine bodyPost_ret (res_ent rfl _ _ _ _ rfl RR) rfl ?_; exact ⟨ret_entB HRE.out HRB.out, box_below (X := w) (e := Ent.zero) (Nat.le_refl _) B5⟩
  · have hXO := hX.out
    rw [if_neg hn] at hXO
    subst hXO
    have hRB := hB.out
    rw [beq_false_of_ne hn, Bool.false_and] at hRB
    have hRE := hE.out
    rw [hRB] at hRE
    have HRB := Lib.hid (show RB = false from hRB)
    have HRE := Lib.hid (show RE = Ent.zero from hRE)
    clear hB hE hX hRB hRE
    have N4 := RowE.new w3 Ent.zero
    have NB : Below w3.heap.size w3 (w3.alloc (.cells #[.int .i64 0, .int .i64 0, .int .u64 0, .int .u64 0, .bool false, .bool false, .bool false, .bool false, .bool false, .bool false, .bool false] 35)) := (Below.refl _ _).alloc (Nat.le_refl _) _
    have R4 := R3.below NB hsz
    have B4 := B3.trans (NB.mono B3.size)
    obtain ⟨q0, q1, q2, q3⟩ := (H3.low NB).row.cells
    clear NB R3 B3 H3 N4
    go_wp2_with fail
    (try simp only [show Ent.zero.size = 0 from rfl, show Ent.zero.ctx = 0 from rfl, show Ent.zero.va = 0 from rfl, show Ent.zero.pa = 0 from rfl, show Ent.zero.att = ⟨false, false, false, false, false, false⟩ from rfl, show Ent.zero.valid = false from rfl])
    generalize World.alloc w3 _ = W4 at *
    go_quiet (fail)
    have R5 := R4.drewN nq
    have B5 := below_drewN B4 nq
    clear R4 B4 q0 q1 q2 q3
    generalize World.drewN _ nq = W5 at *
    obtain ⟨r0, r1, r2, r3, r4, r5, r6, r7, r8, r9, r10⟩ := R5.cells
    have fr : ∀ i, W5.frozen? ⟨w.heap.size, i, none⟩ = false := R5.frozen
    go_wp2_with fail
    have RR := RowE.setAll (e := Ent.zero) R5
    (try simp only [Exit.inBlock, Exit.then])
    refine bodyPost_ret (res_ent rfl _ _ _ _ rfl RR) rfl ?_; exact ⟨ret_entB HRE.out HRB.out, box_below (X := w) (e := Ent.zero) (Nat.le_refl _) B5⟩
end Go.Proofs.YtgdagfhdimoklaaGreat.Ts
/-
  Contracts of Find, may, Lock, PutData, PutTag, Insert and Drop of package tsb. Conditions: they read a TSB that is there; addresses and words are below 2 to the 64.
-/
namespace Go.Proofs.YtgdagfhdimoklaaGreat.Ts
open Fld
open Pt (idxI idx_bd slotI lastI)
open Mem (MemAt MemTo word setW)
open Tl (res_ent ret_entB box_below)
open Go.ChangeShapes Go.WideShapes Go.ChangeAt Go.RowKit
set_option maxHeartbeats 2000000
set_option maxRecDepth 100000
theorem rdE_bd (s : Int) (x : Pl) (va : Int) (v0 : 0 ≤ va) (v1 : va ≤ 18446744073709551615) : 0 ≤ (rdE s x va).va ∧ (rdE s x va).va ≤ 18446744073709551615 := by
  unfold rdE
  split
  · have := base_bd va (getI x.d 61 2) v0 v1
    exact ⟨this.1, Int.le_trans this.2 v1⟩
  · exact ⟨by decide, by decide⟩
theorem find_any {st sb bm : Nat} {p : Par} {T : Nat → Pl} (va ctx : Int) (v0 : 0 ≤ va) (v1 : va ≤ 18446744073709551615) (w : World) (h : TsbAt w st sb bm p T) :
    Calls Tryz.prog 23 #[.pointer (some ⟨st, 0, none⟩), .int .u64 va, .int .i64 ctx] w fun e w' => e = .returned (.tuple #[.agg #[.int .i64 (fndE p T va ctx).size, .int .i64 (fndE p T va ctx).ctx, .int .u64 (fndE p T va ctx).va, .int .u64 (fndE p T va ctx).pa, .bool (fndE p T va ctx).att.write, .bool (fndE p T va ctx).att.priv, .bool (fndE p T va ctx).att.exec, .bool (fndE p T va ctx).att.lock, .bool (fndE p T va ctx).att.global, .bool (fndE p T va ctx).att.quiet, .bool (fndE p T va ctx).valid], .bool (fndB p T va ctx)]) ∧ Below w.heap.size w w' := by
  have B1 : Below w.heap.size w (w.alloc (.cells #[.int .i64 0, .int .i64 0, .int .u64 0, .int .u64 0, .bool false, .bool false, .bool false, .bool false, .bool false, .bool false, .bool false] 35)) := (Below.refl _ _).alloc (Nat.le_refl _) _
  have R1 : RowE (w.alloc (.cells #[.int .i64 0, .int .i64 0, .int .u64 0, .int .u64 0, .bool false, .bool false, .bool false, .bool false, .bool false, .bool false, .bool false] 35)) w.heap.size Ent.zero := RowE.new w Ent.zero
  have H1 := h.low B1
  have hpl := (h.ok.idx va).2
  have CS := Lib.hid (fun W (hW : TsbAt W st sb bm p T) => tslot_any hW.ok va v0 v1 W hW.row)
  have CE := Lib.hid (fun W (hW : TsbAt W st sb bm p T) => entry_any W hW hpl va v0 v1)
  have hbd := rdE_bd p.s (T (p.pl va)) va v0 v1
  have hF := Lib.hid (show fndB p T va ctx = (rdB p.s (T (p.pl va)) va && (rdE p.s (T (p.pl va)) va).hitsB va ctx) from rfl)
  have hE := Lib.hid (show fndE p T va ctx = if fndB p T va ctx then rdE p.s (T (p.pl va)) va else Ent.zero from rfl)
  have CH := Lib.hid (fun W => thits_any (rdE p.s (T (p.pl va)) va) va ctx hbd.1 hbd.2 v0 v1 W)
  generalize rdE p.s (T (p.pl va)) va = RE at *
  generalize rdB p.s (T (p.pl va)) va = RB at *
  generalize RE.hitsB va ctx = HB at *
  generalize fndB p T va ctx = FB at *
  generalize fndE p T va ctx = FE at *
  generalize p.b + 16 * p.pl va = A at *
  clear h hbd
  go_enter Tryz.func23, Tryz.ntmps23
  go_wp2_with fail
  refine (CS.out _ H1).mono ?_; rintro r w1 ⟨rfl, n1, rfl⟩
  have R2 := R1.drewN n1
  have B2 := below_drewN B1 n1
  have H2 := H1.drewN n1
  clear R1 B1 H1 CS
  generalize World.drewN _ n1 = W2 at *
  go_wp2_with fail
  refine (CE.out _ H2).mono ?_; rintro r w3 ⟨rfl, hb3⟩
  have R3 := R2.below hb3 R2.lt
  have B3 := B2.trans (hb3.mono B2.size)
  clear R2 B2 H2 hb3 CE
  have hsz := R3.lt
  have N4 := RowE.new w3 RE
  have NB : Below w3.heap.size w3 (w3.alloc (.cells #[.int .i64 RE.size, .int .i64 RE.ctx, .int .u64 RE.va, .int .u64 RE.pa, .bool RE.att.write, .bool RE.att.priv, .bool RE.att.exec, .bool RE.att.lock, .bool RE.att.global, .bool RE.att.quiet, .bool RE.valid] 35)) := (Below.refl _ _).alloc (Nat.le_refl _) _
  have R4 := R3.below NB hsz
  have B4 := B3.trans (NB.mono B3.size)
  clear NB R3 B3
  cases RB
  · have hFO := hF.out
    rw [Bool.false_and] at hFO
    have hEO := hE.out
    rw [hFO] at hEO
    have HF := Lib.hid hFO
    have HE := Lib.hid (show FE = Ent.zero from hEO)
    clear hF hE hFO hEO CH N4
    go_upto_if 27 with (fail)
    generalize World.alloc w3 _ = W4 at *
    obtain ⟨r0, r1, r2, r3, r4, r5, r6, r7, r8, r9, r10⟩ := R4.cells
    have fr : ∀ i, W4.frozen? ⟨w.heap.size, i, none⟩ = false := R4.frozen
    go_wp2_with fail
    have RR := RowE.setAll (e := Ent.zero) R4
    (try simp only [Exit.inBlock, Exit.then])
    refine bodyPost_ret (res_ent rfl _ _ _ _ rfl RR) rfl ?_; exact ⟨ret_entB HE.out HF.out, box_below (X := w) (e := Ent.zero) (Nat.le_refl _) B4⟩
  · obtain ⟨d0, d1, d2, d3, d4, d5, d6, d7, d8, d9, d10⟩ := N4.cells
    go_wp2_with fail
    refine (CH.out _).mono ?_; rintro r w5 ⟨rfl, hb5⟩
    have R5 := R4.below hb5 R4.lt
    have N5 := N4.below hb5 N4.lt
    have B5 := B4.trans (hb5.mono B4.size)
    clear R4 N4 B4 hb5 CH d0 d1 d2 d3 d4 d5 d6 d7 d8 d9 d10
    cases HB
    · have hFO := hF.out
      rw [Bool.and_false] at hFO
      have hEO := hE.out
      rw [hFO] at hEO
      have HF := Lib.hid hFO
      have HE := Lib.hid (show FE = Ent.zero from hEO)
      clear hF hE hFO hEO N5
      obtain ⟨r0, r1, r2, r3, r4, r5, r6, r7, r8, r9, r10⟩ := R5.cells
      have fr : ∀ i, w5.frozen? ⟨w.heap.size, i, none⟩ = false := R5.frozen
      go_wp2_with fail
      have RR := RowE.setAll (e := Ent.zero) R5
      (try simp only [Exit.inBlock, Exit.then])
      refine bodyPost_ret (res_ent rfl _ _ _ _ rfl RR) rfl ?_; exact ⟨ret_entB HE.out HF.out, box_below (X := w) (e := Ent.zero) (Nat.le_refl _) B5⟩
    · have hFO := hF.out
      rw [Bool.and_true] at hFO
      have hEO := hE.out
      rw [hFO] at hEO
      have HF := Lib.hid hFO
      have HE := Lib.hid (show FE = RE from hEO)
      clear hF hE hFO hEO
      obtain ⟨d0, d1, d2, d3, d4, d5, d6, d7, d8, d9, d10⟩ := N5.cells
      obtain ⟨r0, r1, r2, r3, r4, r5, r6, r7, r8, r9, r10⟩ := R5.cells
      have fr : ∀ i, w5.frozen? ⟨w.heap.size, i, none⟩ = false := R5.frozen
      go_wp2_with fail
      have RR := RowE.setAll (e := RE) R5
      (try simp only [Exit.inBlock, Exit.then])
      refine bodyPost_ret (res_ent rfl _ _ _ _ rfl RR) rfl ?_; exact ⟨ret_entB HE.out HF.out, box_below (X := w) (Nat.le_refl _) B5⟩
/-! ### A call under way: the TSB, and a boxed entry -/
structure KX (w wr : World) (st sb bm : Nat) (p : Par) (T : Nat → Pl) : Prop where
  bel : Below w.heap.size w wr
  tsb : TsbAt wr st sb bm p T
theorem KX.drew {w wr : World} {st sb bm : Nat} {p : Par} {T : Nat → Pl} (h : KX w wr st sb bm p T) : KX w wr.drew st sb bm p T := ⟨h.bel.drew, h.tsb.drew⟩
theorem KX.drewN {w wr : World} {st sb bm : Nat} {p : Par} {T : Nat → Pl} (h : KX w wr st sb bm p T) (n : Nat) : KX w (wr.drewN n) st sb bm p T := ⟨below_drewN h.bel n, h.tsb.drewN n⟩
theorem KX.call {w wr w' : World} {st sb bm : Nat} {p : Par} {T : Nat → Pl} (h : KX w wr st sb bm p T) (hb : Below wr.heap.size wr w') : KX w w' st sb bm p T := ⟨h.bel.trans (hb.mono h.bel.size), h.tsb.low hb⟩
theorem KX.sc {w wr : World} {st sb bm : Nat} {p : Par} {T : Nat → Pl} (h : KX w wr st sb bm p T) : wr.cell? ⟨st, 0, none⟩ = some (.pointer (some ⟨sb, 0, none⟩)) ∧ wr.cell? ⟨st, 2, none⟩ = some (.int .i64 p.s) := ⟨h.tsb.row.cells.1, h.tsb.row.cells.2.2.1⟩
/-- The TSB has turned. -/
structure KY (w wr : World) (st sb bm : Nat) (p : Par) (T : Nat → Pl) : Prop where
  too : TsbTo w wr st sb bm p T
theorem KY.sc {w wr : World} {st sb bm : Nat} {p : Par} {T : Nat → Pl} (h : KY w wr st sb bm p T) : wr.cell? ⟨st, 0, none⟩ = some (.pointer (some ⟨sb, 0, none⟩)) ∧ wr.cell? ⟨st, 2, none⟩ = some (.int .i64 p.s) := by
  obtain ⟨b, ht, _⟩ := h.too
  exact ⟨ht.row.cells.1, ht.row.cells.2.2.1⟩
theorem KX.turn {w wr w' : World} {st sb bm : Nat} {p : Par} {T U : Nat → Pl} (h : KX w wr st sb bm p T) (ht : TsbTo wr w' st sb bm p U) : KY w w' st sb bm p U := ⟨TsbTo.unlow h.bel ht⟩
/-- Beside the TSB a boxed entry. -/
structure BX (w wr : World) (eb : Nat) (e : Ent) (st sb bm : Nat) (p : Par) (T : Nat → Pl) : Prop where
  kx : KX w wr st sb bm p T
  box : RowE wr eb e
theorem BX.drew {w wr : World} {eb st sb bm : Nat} {e : Ent} {p : Par} {T : Nat → Pl} (h : BX w wr eb e st sb bm p T) : BX w wr.drew eb e st sb bm p T := ⟨h.kx.drew, h.box.drewN 1⟩
theorem BX.drewN {w wr : World} {eb st sb bm : Nat} {e : Ent} {p : Par} {T : Nat → Pl} (h : BX w wr eb e st sb bm p T) (n : Nat) : BX w (wr.drewN n) eb e st sb bm p T := ⟨h.kx.drewN n, h.box.drewN n⟩
theorem BX.call {w wr w' : World} {eb st sb bm : Nat} {e : Ent} {p : Par} {T : Nat → Pl} (h : BX w wr eb e st sb bm p T) (hb : Below wr.heap.size wr w') : BX w w' eb e st sb bm p T := ⟨h.kx.call hb, h.box.below hb h.box.lt⟩
theorem BX.sc {w wr : World} {eb st sb bm : Nat} {e : Ent} {p : Par} {T : Nat → Pl} (h : BX w wr eb e st sb bm p T) : (wr.cell? ⟨eb, 0, none⟩ = some (.int .i64 e.size) ∧ wr.cell? ⟨eb, 1, none⟩ = some (.int .i64 e.ctx) ∧ wr.cell? ⟨eb, 2, none⟩ = some (.int .u64 e.va) ∧ wr.cell? ⟨eb, 3, none⟩ = some (.int .u64 e.pa) ∧ wr.cell? ⟨eb, 4, none⟩ = some (.bool e.att.write) ∧ wr.cell? ⟨eb, 5, none⟩ = some (.bool e.att.priv) ∧ wr.cell? ⟨eb, 6, none⟩ = some (.bool e.att.exec) ∧ wr.cell? ⟨eb, 7, none⟩ = some (.bool e.att.lock) ∧ wr.cell? ⟨eb, 8, none⟩ = some (.bool e.att.global) ∧ wr.cell? ⟨eb, 9, none⟩ = some (.bool e.att.quiet) ∧ wr.cell? ⟨eb, 10, none⟩ = some (.bool e.valid)) ∧ wr.cell? ⟨st, 0, none⟩ = some (.pointer (some ⟨sb, 0, none⟩)) ∧ wr.cell? ⟨st, 2, none⟩ = some (.int .i64 p.s) := ⟨h.box.cells, h.kx.sc⟩
theorem BX.start {w : World} {st sb bm : Nat} {p : Par} {T : Nat → Pl} (h : TsbAt w st sb bm p T) (e : Ent) : BX w (w.alloc (.cells #[.int .i64 e.size, .int .i64 e.ctx, .int .u64 e.va, .int .u64 e.pa, .bool e.att.write, .bool e.att.priv, .bool e.att.exec, .bool e.att.lock, .bool e.att.global, .bool e.att.quiet, .bool e.valid] 35)) w.heap.size e st sb bm p T :=
  ⟨⟨(Below.refl _ _).alloc (Nat.le_refl _) _, h.low ((Below.refl _ _).alloc (Nat.le_refl _) _)⟩, RowE.new w e⟩
structure BY (w wr : World) (eb : Nat) (e : Ent) (st sb bm : Nat) (p : Par) (T : Nat → Pl) : Prop where
  ky : KY w wr st sb bm p T
  box : RowE wr eb e
theorem BY.sc {w wr : World} {eb st sb bm : Nat} {e : Ent} {p : Par} {T : Nat → Pl} (h : BY w wr eb e st sb bm p T) : (wr.cell? ⟨eb, 0, none⟩ = some (.int .i64 e.size) ∧ wr.cell? ⟨eb, 1, none⟩ = some (.int .i64 e.ctx) ∧ wr.cell? ⟨eb, 2, none⟩ = some (.int .u64 e.va) ∧ wr.cell? ⟨eb, 3, none⟩ = some (.int .u64 e.pa) ∧ wr.cell? ⟨eb, 4, none⟩ = some (.bool e.att.write) ∧ wr.cell? ⟨eb, 5, none⟩ = some (.bool e.att.priv) ∧ wr.cell? ⟨eb, 6, none⟩ = some (.bool e.att.exec) ∧ wr.cell? ⟨eb, 7, none⟩ = some (.bool e.att.lock) ∧ wr.cell? ⟨eb, 8, none⟩ = some (.bool e.att.global) ∧ wr.cell? ⟨eb, 9, none⟩ = some (.bool e.att.quiet) ∧ wr.cell? ⟨eb, 10, none⟩ = some (.bool e.valid)) ∧ wr.cell? ⟨st, 0, none⟩ = some (.pointer (some ⟨sb, 0, none⟩)) ∧ wr.cell? ⟨st, 2, none⟩ = some (.int .i64 p.s) := ⟨h.box.cells, h.ky.sc⟩
theorem row_turn {w w' : World} {st sb bm eb : Nat} {e : Ent} {p : Par} {T : Nat → Pl} (hb : RowE w eb e) (h : TsbAt w st sb bm p T) (ht : Mem.Turn w w' sb bm) : RowE w' eb e := by
  obtain ⟨g, hm, hp⟩ := h.mem
  refine ⟨(ht.block eb hb.lt ?_ ?_).trans hb.row⟩
  · rintro rfl
    obtain ⟨m, _, h1⟩ := hm.row
    rw [hb.row] at h1; simp at h1
  · rintro rfl
    obtain ⟨D, ⟨es, clock, h2, _⟩, _⟩ := hm.words
    rw [hb.row] at h2; cases h2
theorem BX.turn {w wr w' : World} {eb st sb bm : Nat} {e : Ent} {p : Par} {T U : Nat → Pl} (h : BX w wr eb e st sb bm p T) (ht : TsbTo wr w' st sb bm p U) : BY w w' eb e st sb bm p U := by
  refine ⟨h.kx.turn ht, ?_⟩
  obtain ⟨b, _, _, a3⟩ := ht
  exact row_turn h.box h.kx.tsb a3
end Go.Proofs.YtgdagfhdimoklaaGreat.Ts
/-
  Contracts of may, Lock, PutData, PutTag, Insert and Drop of package tsb. Conditions: they read a TSB that is there; addresses and words are below 2 to the 64.
-/
namespace Go.Proofs.YtgdagfhdimoklaaGreat.Ts
open Fld
open Pt (idxI idx_bd slotI lastI)
open Mem (MemAt MemTo word setW)
open Tl (res_ent ret_entB box_below)
open Go.ChangeShapes Go.WideShapes Go.ChangeAt Go.RowKit
set_option maxHeartbeats 2000000
set_option maxRecDepth 100000
/-- May an entry be here? -/
def mayT (p : Par) (e : Ent) : Bool := e.mayB && e.size == p.s
theorem mayT_ok {p : Par} {e : Ent} (h : mayT p e = true) (v0 : 0 ≤ e.va) (v1 : e.va ≤ 18446744073709551615) (p0 : 0 ≤ e.pa) : e.Ok ∧ e.size = p.s := by
  unfold mayT at h
  rw [Bool.and_eq_true, beq_iff_eq] at h
  exact ⟨Ent.ok_of h.1 p0 v0 v1, h.2⟩
theorem may_any {st sb bm : Nat} {p : Par} {T : Nat → Pl} (e : Ent) (v0 : 0 ≤ e.va) (v1 : e.va ≤ 18446744073709551615) (p0 : 0 ≤ e.pa) (p1 : e.pa ≤ 18446744073709551615) (w : World) (h : TsbAt w st sb bm p T) :
    Calls Tryz.prog 41 #[.pointer (some ⟨st, 0, none⟩), .agg #[.int .i64 e.size, .int .i64 e.ctx, .int .u64 e.va, .int .u64 e.pa, .bool e.att.write, .bool e.att.priv, .bool e.att.exec, .bool e.att.lock, .bool e.att.global, .bool e.att.quiet, .bool e.valid]] w fun r w' => r = .returned (.bool (mayT p e)) ∧ Below w.heap.size w w' := by
  have C := Lib.hid (fun W => tmay_any e v0 v1 p0 p1 W)
  have D1 := BX.start h e
  have hM := Lib.hid (show mayT p e = (e.mayB && e.size == p.s) from rfl)
  generalize mayT p e = M at *
  obtain ⟨⟨d0, d1, d2, d3, d4, d5, d6, d7, d8, d9, d10⟩, q0, q2⟩ := D1.sc
  cases hm : e.mayB
  · have HM := Lib.hid (show M = false from by rw [hM.out, hm]; rfl)
    rw [hm] at C
    clear hM hm h
    go_enter Tryz.func41, Tryz.ntmps41
    go_wp2_with fail
    first
      | (go_region_with (go_at_call 69; (with_reducible refine (C.out _).mono ?_); rintro r w' ⟨rfl, hb⟩))
      | fail
    all_goals
      have D2 := D1.drew.call hb
      go_wp2_with fail
      go_ret
      exact ⟨ret_b HM.out.symm, D2.kx.bel⟩
  · rw [hm] at C
    have HM := Lib.hid (show M = (e.size == p.s) from by rw [hM.out, hm]; rfl)
    clear hM hm h
    go_enter Tryz.func41, Tryz.ntmps41
    go_wp2_with fail
    go_region_held3 (fun w1 => (w1.cell? ⟨w.heap.size, 0, none⟩ = some (.int .i64 e.size) ∧ w1.cell? ⟨w.heap.size, 1, none⟩ = some (.int .i64 e.ctx) ∧ w1.cell? ⟨w.heap.size, 2, none⟩ = some (.int .u64 e.va) ∧ w1.cell? ⟨w.heap.size, 3, none⟩ = some (.int .u64 e.pa) ∧ w1.cell? ⟨w.heap.size, 4, none⟩ = some (.bool e.att.write) ∧ w1.cell? ⟨w.heap.size, 5, none⟩ = some (.bool e.att.priv) ∧ w1.cell? ⟨w.heap.size, 6, none⟩ = some (.bool e.att.exec) ∧ w1.cell? ⟨w.heap.size, 7, none⟩ = some (.bool e.att.lock) ∧ w1.cell? ⟨w.heap.size, 8, none⟩ = some (.bool e.att.global) ∧ w1.cell? ⟨w.heap.size, 9, none⟩ = some (.bool e.att.quiet) ∧ w1.cell? ⟨w.heap.size, 10, none⟩ = some (.bool e.valid)) ∧ w1.cell? ⟨st, 0, none⟩ = some (.pointer (some ⟨sb, 0, none⟩)) ∧ w1.cell? ⟨st, 2, none⟩ = some (.int .i64 p.s)) ((refine BX.sc (w := w) (bm := bm) (T := T) ?_; (repeat (first | (with_reducible assumption) | (with_reducible refine BX.drew ?_) | (with_reducible refine BX.call ?_ (by assumption))))))
      ((go_at_call 69; (with_reducible refine (C.out _).mono ?_); rintro r w' ⟨rfl, hb⟩))
    all_goals
      have D2 := D1.drew.call hb
      go_wp2_with fail
      go_ret
      exact ⟨ret_b HM.out.symm, D2.kx.bel⟩
theorem lock_any {st sb bm : Nat} {p : Par} {T : Nat → Pl} (va : Int) (v0 : 0 ≤ va) (v1 : va ≤ 18446744073709551615) (w : World) (h : TsbAt w st sb bm p T) :
    Calls Tryz.prog 29 #[.pointer (some ⟨st, 0, none⟩), .int .u64 va] w fun r w' => r = .returned (.tuple #[]) ∧ TsbTo w w' st sb bm p (setP T (p.pl va) ⟨9223372036854775807, (T (p.pl va)).d⟩) := by
  have hpl := (h.ok.idx va).2
  have K0 : KX w w st sb bm p T := ⟨Below.refl _ _, h⟩
  obtain ⟨q0, q2⟩ := K0.sc
  have CS := Lib.hid (fun W (hW : KX w W st sb bm p T) => tslot_any hW.tsb.ok va v0 v1 W hW.tsb.row)
  have CW := Lib.hid (fun W (hW : KX w W st sb bm p T) => (putTag_at hW.tsb hpl 9223372036854775807 (by omega) (by omega)).mono (fun e W' (q : e = .returned (.int .i64 0) ∧ TsbTo W W' st sb bm p (setP T (p.pl va) ⟨9223372036854775807, (T (p.pl va)).d⟩)) => (⟨q.1, hW.turn q.2⟩ : e = .returned (.int .i64 0) ∧ KY w W' st sb bm p (setP T (p.pl va) ⟨9223372036854775807, (T (p.pl va)).d⟩))))
  generalize setP T (p.pl va) ⟨9223372036854775807, (T (p.pl va)).d⟩ = U at *
  generalize p.b + 16 * p.pl va = A at *
  clear h
  go_enter Tryz.func29, Tryz.ntmps29
  go_region_held3 (fun w1 => w1.cell? ⟨st, 0, none⟩ = some (.pointer (some ⟨sb, 0, none⟩)) ∧ w1.cell? ⟨st, 2, none⟩ = some (.int .i64 p.s)) (first | (refine KX.sc (w := w) (bm := bm) (T := T) ?_; (repeat (first | (with_reducible assumption) | (with_reducible refine KX.drew ?_) | (with_reducible refine KX.drewN ?_ _))); done) | (refine KY.sc (w := w) (bm := bm) (T := U) ?_; with_reducible assumption))
    (first | (go_at_call 51; (with_reducible refine (CS.out _ (by (repeat (first | (with_reducible assumption) | (with_reducible refine KX.drew ?_) | (with_reducible refine KX.drewN ?_ _))))).mono ?_); rintro r w' ⟨rfl, m, rfl⟩) | (go_at_call 36; refine (tbad_any _).mono ?_; rintro e w' ⟨rfl, rfl⟩) | (go_at_call 58; (with_reducible refine (CW.out _ (by (repeat (first | (with_reducible assumption) | (with_reducible refine KX.drew ?_) | (with_reducible refine KX.drewN ?_ _))))).mono ?_); rintro r w' ⟨rfl, hY⟩))
  all_goals
    go_wp2_with fail
    go_end0
    exact ⟨rfl, hY.too⟩
end Go.Proofs.YtgdagfhdimoklaaGreat.Ts
/-
  Contracts of PutData, PutTag, Insert and Drop of package tsb. Conditions: they read a TSB that is there; addresses and words are below 2 to the 64.
-/
namespace Go.Proofs.YtgdagfhdimoklaaGreat.Ts
open Fld
open Pt (idxI idx_bd slotI lastI)
open Mem (MemAt MemTo word setW)
open Tl (res_ent ret_entB box_below)
open Go.ChangeShapes Go.WideShapes Go.ChangeAt Go.RowKit
set_option maxHeartbeats 2000000
set_option maxRecDepth 100000
def datT (p : Par) (T : Nat → Pl) (e : Ent) : Nat → Pl := if mayT p e then setP T (p.pl e.va) ⟨(T (p.pl e.va)).t, e.dataW⟩ else T
def tagT (p : Par) (T : Nat → Pl) (e : Ent) : Nat → Pl := if mayT p e then setP T (p.pl e.va) ⟨e.tagW, (T (p.pl e.va)).d⟩ else T
def insT (p : Par) (T : Nat → Pl) (e : Ent) : Nat → Pl := if mayT p e then setP T (p.pl e.va) (Ent.pl e) else T
def lokT (p : Par) (T : Nat → Pl) (va : Int) : Nat → Pl := setP T (p.pl va) ⟨9223372036854775807, (T (p.pl va)).d⟩
def errP (p : Par) (e : Ent) : Int := if mayT p e then 0 else 1
theorem ins_row (p : Par) (T : Nat → Pl) (e : Ent) (h : mayT p e = true) : tagT p (datT p (lokT p T e.va) e) e = insT p T e := by
  unfold tagT datT insT
  rw [if_pos h, if_pos h, if_pos h]
  unfold lokT
  rw [setP_at, setP_twice, setP_at, setP_twice]; rfl
structure EntU (e : Ent) : Prop where
  v0 : 0 ≤ e.va
  v1 : e.va ≤ 18446744073709551615
  p0 : 0 ≤ e.pa
  p1 : e.pa ≤ 18446744073709551615
theorem putData_any {st sb bm : Nat} {p : Par} {T : Nat → Pl} (e : Ent) (u : EntU e) (w : World) (h : TsbAt w st sb bm p T) :
    Calls Tryz.prog 42 #[.pointer (some ⟨st, 0, none⟩), .agg #[.int .i64 e.size, .int .i64 e.ctx, .int .u64 e.va, .int .u64 e.pa, .bool e.att.write, .bool e.att.priv, .bool e.att.exec, .bool e.att.lock, .bool e.att.global, .bool e.att.quiet, .bool e.valid]] w fun r w' => r = .returned (.int .i64 (errP p e)) ∧ TsbTo w w' st sb bm p (datT p T e) := by
  have D1 := BX.start h e
  have CM := Lib.hid (fun W (hW : BX w W w.heap.size e st sb bm p T) => may_any e u.v0 u.v1 u.p0 u.p1 W hW.kx.tsb)
  have hE := Lib.hid (show errP p e = if mayT p e then 0 else 1 from rfl)
  have hT := Lib.hid (show datT p T e = if mayT p e then setP T (p.pl e.va) ⟨(T (p.pl e.va)).t, e.dataW⟩ else T from rfl)
  generalize errP p e = EE at *
  generalize datT p T e = TT at *
  cases hm : mayT p e
  · rw [hm] at CM
    have HE := Lib.hid (show EE = 1 from by rw [hE.out, hm]; rfl)
    have HT := Lib.hid (show TT = T from by rw [hT.out, hm]; rfl)
    clear hE hT hm h
    obtain ⟨⟨d0, d1, d2, d3, d4, d5, d6, d7, d8, d9, d10⟩, q0, q2⟩ := D1.sc
    go_enter Tryz.func42, Tryz.ntmps42
    go_wp2_with fail
    refine (CM.out _ D1).mono ?_; rintro r w2 ⟨rfl, hb2⟩
    have D2 := D1.call hb2
    go_wp2_with fail
    go_ret
    exact ⟨ret_i HE.out.symm, by rw [HT.out]; exact TsbTo.unlow D2.kx.bel D2.kx.tsb.to⟩
  · obtain ⟨ok, hs⟩ := mayT_ok hm u.v0 u.v1 u.p0
    rw [hm] at CM
    have HE := Lib.hid (show EE = 0 from by rw [hE.out, hm]; rfl)
    have HT := Lib.hid (show TT = setP T (p.pl e.va) ⟨(T (p.pl e.va)).t, e.dataW⟩ from by rw [hT.out, hm]; rfl)
    have hdb := Ent.data_bd ok.fit
    have hpl := (h.ok.idx e.va).2
    have hpb := place_in h.ok hpl 16 (Nat.le_refl _)
    have CD := Lib.hid (fun W => tdata_any e u.p0 u.p1 W)
    rw [Ent.dataG_fit ok.fit ok.valid] at CD
    have CS := Lib.hid (fun W (hW : BX w W w.heap.size e st sb bm p T) => tslot_any hW.kx.tsb.ok e.va u.v0 u.v1 W hW.kx.tsb.row)
    have CW := Lib.hid (fun W (hW : BX w W w.heap.size e st sb bm p T) => (putData_at hW.kx.tsb hpl e.dataW (by omega) (by omega)).mono (fun r W' (q : r = .returned (.int .i64 0) ∧ TsbTo W W' st sb bm p (setP T (p.pl e.va) ⟨(T (p.pl e.va)).t, e.dataW⟩)) => (⟨q.1, hW.turn q.2⟩ : r = .returned (.int .i64 0) ∧ BY w W' w.heap.size e st sb bm p (setP T (p.pl e.va) ⟨(T (p.pl e.va)).t, e.dataW⟩))))
    generalize setP T (p.pl e.va) ⟨(T (p.pl e.va)).t, e.dataW⟩ = U at *
    have hpb' : ((p.b + 16 * p.pl e.va : Nat) : Int) + 8 ≤ 18446744073709551615 := by omega
    generalize p.b + 16 * p.pl e.va = A at *
    rw [show (A : Int) + 8 = IntKind.u64.wrap ((A : Int) + 8) from by simp [IntKind.wrap, IntKind.signed, IntKind.bits]; omega] at CW
    generalize e.dataW = DD at *
    clear hE hT hm h ok hs hpb hpl hdb
    obtain ⟨⟨d0, d1, d2, d3, d4, d5, d6, d7, d8, d9, d10⟩, q0, q2⟩ := D1.sc
    go_enter Tryz.func42, Tryz.ntmps42
    go_wp2_with fail
    refine (CM.out _ D1).mono ?_; rintro r w2 ⟨rfl, hb2⟩
    have D2 := D1.call hb2
    clear D1 hb2 CM d0 d1 d2 d3 d4 d5 d6 d7 d8 d9 d10 q0 q2
    obtain ⟨⟨d0, d1, d2, d3, d4, d5, d6, d7, d8, d9, d10⟩, q0, q2⟩ := D2.sc
    go_wp2_with fail
    go_region_held3 (fun w1 => (w1.cell? ⟨w.heap.size, 0, none⟩ = some (.int .i64 e.size) ∧ w1.cell? ⟨w.heap.size, 1, none⟩ = some (.int .i64 e.ctx) ∧ w1.cell? ⟨w.heap.size, 2, none⟩ = some (.int .u64 e.va) ∧ w1.cell? ⟨w.heap.size, 3, none⟩ = some (.int .u64 e.pa) ∧ w1.cell? ⟨w.heap.size, 4, none⟩ = some (.bool e.att.write) ∧ w1.cell? ⟨w.heap.size, 5, none⟩ = some (.bool e.att.priv) ∧ w1.cell? ⟨w.heap.size, 6, none⟩ = some (.bool e.att.exec) ∧ w1.cell? ⟨w.heap.size, 7, none⟩ = some (.bool e.att.lock) ∧ w1.cell? ⟨w.heap.size, 8, none⟩ = some (.bool e.att.global) ∧ w1.cell? ⟨w.heap.size, 9, none⟩ = some (.bool e.att.quiet) ∧ w1.cell? ⟨w.heap.size, 10, none⟩ = some (.bool e.valid)) ∧ w1.cell? ⟨st, 0, none⟩ = some (.pointer (some ⟨sb, 0, none⟩)) ∧ w1.cell? ⟨st, 2, none⟩ = some (.int .i64 p.s)) (first | (refine BX.sc (w := w) (bm := bm) (T := T) ?_; (repeat (first | (with_reducible assumption) | (with_reducible refine BX.drew ?_) | (with_reducible refine BX.drewN ?_ _) | (with_reducible refine BX.call ?_ (by assumption)))); done) | (refine BY.sc (w := w) (bm := bm) (T := U) ?_; with_reducible assumption))
      (first | (go_at_call 51; (with_reducible refine (CS.out _ (by (repeat (first | (with_reducible assumption) | (with_reducible refine BX.drew ?_) | (with_reducible refine BX.drewN ?_ _) | (with_reducible refine BX.call ?_ (by assumption)))))).mono ?_); rintro r w' ⟨rfl, m, rfl⟩) | (go_at_call 70; (with_reducible refine (CD.out _).mono ?_); rintro e w' ⟨rfl, hb⟩) | (go_at_call 58; (with_reducible refine (CW.out _ (by (repeat (first | (with_reducible assumption) | (with_reducible refine BX.drew ?_) | (with_reducible refine BX.drewN ?_ _) | (with_reducible refine BX.call ?_ (by assumption)))))).mono ?_); rintro r w' ⟨rfl, hY⟩))
    all_goals
      go_wp2_with fail
      go_ret
      exact ⟨ret_i HE.out.symm, by rw [HT.out]; exact hY.ky.too⟩
theorem putTag_any {st sb bm : Nat} {p : Par} {T : Nat → Pl} (e : Ent) (u : EntU e) (w : World) (h : TsbAt w st sb bm p T) :
    Calls Tryz.prog 43 #[.pointer (some ⟨st, 0, none⟩), .agg #[.int .i64 e.size, .int .i64 e.ctx, .int .u64 e.va, .int .u64 e.pa, .bool e.att.write, .bool e.att.priv, .bool e.att.exec, .bool e.att.lock, .bool e.att.global, .bool e.att.quiet, .bool e.valid]] w fun r w' => r = .returned (.int .i64 (errP p e)) ∧ TsbTo w w' st sb bm p (tagT p T e) := by
  have D1 := BX.start h e
  have CM := Lib.hid (fun W (hW : BX w W w.heap.size e st sb bm p T) => may_any e u.v0 u.v1 u.p0 u.p1 W hW.kx.tsb)
  have hE := Lib.hid (show errP p e = if mayT p e then 0 else 1 from rfl)
  have hT := Lib.hid (show tagT p T e = if mayT p e then setP T (p.pl e.va) ⟨e.tagW, (T (p.pl e.va)).d⟩ else T from rfl)
  generalize errP p e = EE at *
  generalize tagT p T e = TT at *
  cases hm : mayT p e
  · rw [hm] at CM
    have HE := Lib.hid (show EE = 1 from by rw [hE.out, hm]; rfl)
    have HT := Lib.hid (show TT = T from by rw [hT.out, hm]; rfl)
    clear hE hT hm h
    obtain ⟨⟨d0, d1, d2, d3, d4, d5, d6, d7, d8, d9, d10⟩, q0, q2⟩ := D1.sc
    go_enter Tryz.func43, Tryz.ntmps43
    go_wp2_with fail
    refine (CM.out _ D1).mono ?_; rintro r w2 ⟨rfl, hb2⟩
    have D2 := D1.call hb2
    go_wp2_with fail
    go_ret
    exact ⟨ret_i HE.out.symm, by rw [HT.out]; exact TsbTo.unlow D2.kx.bel D2.kx.tsb.to⟩
  · obtain ⟨ok, hs⟩ := mayT_ok hm u.v0 u.v1 u.p0
    rw [hm] at CM
    have HE := Lib.hid (show EE = 0 from by rw [hE.out, hm]; rfl)
    have HT := Lib.hid (show TT = setP T (p.pl e.va) ⟨e.tagW, (T (p.pl e.va)).d⟩ from by rw [hT.out, hm]; rfl)
    have hdb := Ent.tag_bd ok.fit
    have hpl := (h.ok.idx e.va).2
    have CD := Lib.hid (fun W => ttag_any e u.v0 u.v1 W)
    rw [Ent.tagG_fit ⟨ok.fit.c0, ok.fit.c1⟩] at CD
    have CS := Lib.hid (fun W (hW : BX w W w.heap.size e st sb bm p T) => tslot_any hW.kx.tsb.ok e.va u.v0 u.v1 W hW.kx.tsb.row)
    have CW := Lib.hid (fun W (hW : BX w W w.heap.size e st sb bm p T) => (putTag_at hW.kx.tsb hpl e.tagW (by omega) (by omega)).mono (fun r W' (q : r = .returned (.int .i64 0) ∧ TsbTo W W' st sb bm p (setP T (p.pl e.va) ⟨e.tagW, (T (p.pl e.va)).d⟩)) => (⟨q.1, hW.turn q.2⟩ : r = .returned (.int .i64 0) ∧ BY w W' w.heap.size e st sb bm p (setP T (p.pl e.va) ⟨e.tagW, (T (p.pl e.va)).d⟩))))
    generalize setP T (p.pl e.va) ⟨e.tagW, (T (p.pl e.va)).d⟩ = U at *
    generalize p.b + 16 * p.pl e.va = A at *
    generalize e.tagW = DD at *
    clear hE hT hm h ok hs hpl hdb
    obtain ⟨⟨d0, d1, d2, d3, d4, d5, d6, d7, d8, d9, d10⟩, q0, q2⟩ := D1.sc
    go_enter Tryz.func43, Tryz.ntmps43
    go_wp2_with fail
    refine (CM.out _ D1).mono ?_; rintro r w2 ⟨rfl, hb2⟩
    have D2 := D1.call hb2
    clear D1 hb2 CM d0 d1 d2 d3 d4 d5 d6 d7 d8 d9 d10 q0 q2
    obtain ⟨⟨d0, d1, d2, d3, d4, d5, d6, d7, d8, d9, d10⟩, q0, q2⟩ := D2.sc
    go_wp2_with fail
    go_region_held3 (fun w1 => (w1.cell? ⟨w.heap.size, 0, none⟩ = some (.int .i64 e.size) ∧ w1.cell? ⟨w.heap.size, 1, none⟩ = some (.int .i64 e.ctx) ∧ w1.cell? ⟨w.heap.size, 2, none⟩ = some (.int .u64 e.va) ∧ w1.cell? ⟨w.heap.size, 3, none⟩ = some (.int .u64 e.pa) ∧ w1.cell? ⟨w.heap.size, 4, none⟩ = some (.bool e.att.write) ∧ w1.cell? ⟨w.heap.size, 5, none⟩ = some (.bool e.att.priv) ∧ w1.cell? ⟨w.heap.size, 6, none⟩ = some (.bool e.att.exec) ∧ w1.cell? ⟨w.heap.size, 7, none⟩ = some (.bool e.att.lock) ∧ w1.cell? ⟨w.heap.size, 8, none⟩ = some (.bool e.att.global) ∧ w1.cell? ⟨w.heap.size, 9, none⟩ = some (.bool e.att.quiet) ∧ w1.cell? ⟨w.heap.size, 10, none⟩ = some (.bool e.valid)) ∧ w1.cell? ⟨st, 0, none⟩ = some (.pointer (some ⟨sb, 0, none⟩)) ∧ w1.cell? ⟨st, 2, none⟩ = some (.int .i64 p.s)) (first | (refine BX.sc (w := w) (bm := bm) (T := T) ?_; (repeat (first | (with_reducible assumption) | (with_reducible refine BX.drew ?_) | (with_reducible refine BX.drewN ?_ _) | (with_reducible refine BX.call ?_ (by assumption)))); done) | (refine BY.sc (w := w) (bm := bm) (T := U) ?_; with_reducible assumption))
      (first | (go_at_call 51; (with_reducible refine (CS.out _ (by (repeat (first | (with_reducible assumption) | (with_reducible refine BX.drew ?_) | (with_reducible refine BX.drewN ?_ _) | (with_reducible refine BX.call ?_ (by assumption)))))).mono ?_); rintro r w' ⟨rfl, m, rfl⟩) | (go_at_call 71; (with_reducible refine (CD.out _).mono ?_); rintro e w' ⟨rfl, hb⟩) | (go_at_call 58; (with_reducible refine (CW.out _ (by (repeat (first | (with_reducible assumption) | (with_reducible refine BX.drew ?_) | (with_reducible refine BX.drewN ?_ _) | (with_reducible refine BX.call ?_ (by assumption)))))).mono ?_); rintro r w' ⟨rfl, hY⟩))
    all_goals
      go_wp2_with fail
      go_ret
      exact ⟨ret_i HE.out.symm, by rw [HT.out]; exact hY.ky.too⟩
theorem insert_any {st sb bm : Nat} {p : Par} {T : Nat → Pl} (e : Ent) (u : EntU e) (w : World) (h : TsbAt w st sb bm p T) :
    Calls Tryz.prog 15 #[.pointer (some ⟨st, 0, none⟩), .agg #[.int .i64 e.size, .int .i64 e.ctx, .int .u64 e.va, .int .u64 e.pa, .bool e.att.write, .bool e.att.priv, .bool e.att.exec, .bool e.att.lock, .bool e.att.global, .bool e.att.quiet, .bool e.valid]] w fun r w' => r = .returned (.int .i64 (errP p e)) ∧ TsbTo w w' st sb bm p (insT p T e) := by
  have D1 := BX.start h e
  have CM := Lib.hid (fun W (hW : BX w W w.heap.size e st sb bm p T) => may_any e u.v0 u.v1 u.p0 u.p1 W hW.kx.tsb)
  have hE := Lib.hid (show errP p e = if mayT p e then 0 else 1 from rfl)
  cases hm : mayT p e
  · rw [hm] at CM
    have HE := Lib.hid (show errP p e = 1 from by rw [hE.out, hm]; rfl)
    have HT := Lib.hid (show insT p T e = T from by unfold insT; rw [hm]; rfl)
    generalize errP p e = EE at *
    generalize insT p T e = TT at *
    clear hE hm h
    obtain ⟨⟨d0, d1, d2, d3, d4, d5, d6, d7, d8, d9, d10⟩, q0, q2⟩ := D1.sc
    go_enter Tryz.func15, Tryz.ntmps15
    go_wp2_with fail
    refine (CM.out _ D1).mono ?_; rintro r w2 ⟨rfl, hb2⟩
    have D2 := D1.call hb2
    go_wp2_with fail
    go_ret
    exact ⟨ret_i HE.out.symm, by rw [HT.out]; exact TsbTo.unlow D2.kx.bel D2.kx.tsb.to⟩
  · rw [hm] at CM
    have HT := Lib.hid (ins_row p T e hm)
    have CL := Lib.hid (fun W (hW : BX w W w.heap.size e st sb bm p T) => lock_any e.va u.v0 u.v1 W hW.kx.tsb)
    rw [show setP T (p.pl e.va) ⟨9223372036854775807, (T (p.pl e.va)).d⟩ = lokT p T e.va from rfl] at CL
    have CD := Lib.hid (fun W b (hW : TsbAt W st sb b p (lokT p T e.va)) => putData_any e u W hW)
    have CT := Lib.hid (fun W b (hW : TsbAt W st sb b p (datT p (lokT p T e.va) e)) => putTag_any e u W hW)
    generalize tagT p (datT p (lokT p T e.va) e) e = T3 at *
    generalize datT p (lokT p T e.va) e = T2 at *
    generalize lokT p T e.va = T1 at *
    generalize insT p T e = TT at *
    clear hE hm h
    obtain ⟨⟨d0, d1, d2, d3, d4, d5, d6, d7, d8, d9, d10⟩, q0, q2⟩ := D1.sc
    generalize errP p e = EE at *
    go_enter Tryz.func15, Tryz.ntmps15
    go_wp2_with fail
    refine (CM.out _ D1).mono ?_; rintro r w2 ⟨rfl, hb2⟩
    have D2 := D1.call hb2
    clear D1 hb2 CM d0 d1 d2 d3 d4 d5 d6 d7 d8 d9 d10 q0 q2
    obtain ⟨⟨d0, d1, d2, d3, d4, d5, d6, d7, d8, d9, d10⟩, q0, q2⟩ := D2.sc
    go_wp2_with fail
    refine (CL.out _ D2).mono ?_; rintro r w3 ⟨rfl, b3, t3, n3, u3⟩
    have x3 := row_turn D2.box D2.kx.tsb u3
    clear CL d0 d1 d2 d3 d4 d5 d6 d7 d8 d9 d10 q0 q2
    obtain ⟨d0, d1, d2, d3, d4, d5, d6, d7, d8, d9, d10⟩ := x3.cells
    go_wp2_with fail
    refine (CD.out _ _ t3).mono ?_; rintro r w4 ⟨rfl, b4, t4, n4, u4⟩
    have x4 := row_turn x3 t3 u4
    clear CD d0 d1 d2 d3 d4 d5 d6 d7 d8 d9 d10 x3
    obtain ⟨d0, d1, d2, d3, d4, d5, d6, d7, d8, d9, d10⟩ := x4.cells
    go_wp2_with fail
    refine (CT.out _ _ t4).mono ?_; rintro r w5 ⟨rfl, hT5⟩
    clear d0 d1 d2 d3 d4 d5 d6 d7 d8 d9 d10 x4
    go_wp2_with fail
    go_ret
    exact ⟨rfl, by rw [← HT.out]; exact TsbTo.unlow D2.kx.bel (TsbTo.trans n3 u3 (TsbTo.trans n4 u4 hT5))⟩
/-- What Drop leaves. -/
def dropT (p : Par) (T : Nat → Pl) (va ctx : Int) : Nat → Pl := if fndB p T va ctx then setP T (p.pl va) Pl.none else T
theorem drop_any {st sb bm : Nat} {p : Par} {T : Nat → Pl} (va ctx : Int) (v0 : 0 ≤ va) (v1 : va ≤ 18446744073709551615) (w : World) (h : TsbAt w st sb bm p T) :
    Calls Tryz.prog 26 #[.pointer (some ⟨st, 0, none⟩), .int .u64 va, .int .i64 ctx] w fun r w' => r = .returned (.bool (fndB p T va ctx)) ∧ TsbTo w w' st sb bm p (dropT p T va ctx) := by
  have hpl := (h.ok.idx va).2
  have CF := Lib.hid (find_any va ctx v0 v1 w h)
  have CS := Lib.hid (fun W (hW : TsbAt W st sb bm p T) => tslot_any hW.ok va v0 v1 W hW.row)
  have CE := Lib.hid (fun W (hW : TsbAt W st sb bm p T) => empty_any W hW hpl)
  have hT := Lib.hid (show dropT p T va ctx = if fndB p T va ctx then setP T (p.pl va) Pl.none else T from rfl)
  generalize fndE p T va ctx = FE at *
  generalize fndB p T va ctx = FB at *
  generalize dropT p T va ctx = TT at *
  generalize setP T (p.pl va) Pl.none = U at *
  generalize p.b + 16 * p.pl va = A at *
  cases FB
  · have HT := Lib.hid (show TT = T from hT.out)
    clear hT CS CE
    go_enter Tryz.func26, Tryz.ntmps26
    go_wp2_with fail
    refine CF.out.mono ?_; rintro r w1 ⟨rfl, hb1⟩
    have NB : Below w1.heap.size w1 (w1.alloc (.cells #[.int .i64 FE.size, .int .i64 FE.ctx, .int .u64 FE.va, .int .u64 FE.pa, .bool FE.att.write, .bool FE.att.priv, .bool FE.att.exec, .bool FE.att.lock, .bool FE.att.global, .bool FE.att.quiet, .bool FE.valid] 35)) := (Below.refl _ _).alloc (Nat.le_refl _) _
    have hb2 := hb1.trans (NB.mono hb1.size)
    clear NB hb1
    go_wp2_with fail
    go_ret
    exact ⟨rfl, by rw [HT.out]; exact h.to_low hb2⟩
  · have HT := Lib.hid (show TT = U from hT.out)
    clear hT
    go_enter Tryz.func26, Tryz.ntmps26
    go_wp2_with fail
    refine CF.out.mono ?_; rintro r w1 ⟨rfl, hb1⟩
    have NB : Below w1.heap.size w1 (w1.alloc (.cells #[.int .i64 FE.size, .int .i64 FE.ctx, .int .u64 FE.va, .int .u64 FE.pa, .bool FE.att.write, .bool FE.att.priv, .bool FE.att.exec, .bool FE.att.lock, .bool FE.att.global, .bool FE.att.quiet, .bool FE.valid] 35)) := (Below.refl _ _).alloc (Nat.le_refl _) _
    have hb2 := hb1.trans (NB.mono hb1.size)
    have h2 := h.low hb2
    clear NB hb1 CF
    go_wp2_with fail
    refine (CS.out _ h2).mono ?_; rintro r w3 ⟨rfl, m, rfl⟩
    go_wp2_with fail
    refine (CE.out _ (h2.drewN m)).mono ?_; rintro r w4 ⟨rfl, hT4⟩
    clear CS CE
    go_wp2_with fail
    go_ret
    exact ⟨rfl, by rw [HT.out]; exact TsbTo.unlow hb2 hT4.undrewN⟩
end Go.Proofs.YtgdagfhdimoklaaGreat.Ts
