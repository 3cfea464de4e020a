/-
  Contracts and plain facts: WMath. Conditions: each says its own.
-/
import Derived.Test.YtnbdoemnepfhdaaGreatR28
import Derived.Test.YtnbdoemnepfhdaaGreatR32
import Derived.Test.YtnbdoemnepfhdaaGreatR34
namespace Go.Proofs.YtnbdoemnepfhdaaGreat.Sw
open Fld Ts
open Mem (word)
open Frm (setT allB allB_mem setT_in setT_out)
open Go.RowKit
set_option maxHeartbeats 1000000
/-- How many frames. -/
def frI (s g : Int) : Int := (placesI s g * 16 + 8191) / 8192
theorem places_or (s g : Int) : placesI s g = 0 ∨ (sizeB s = true ∧ 0 ≤ g ∧ g ≤ 3 ∧ 1 ≤ placesI s g ∧ placesI s g ≤ 4096) := by
  by_cases h : sizeB s = true ∧ 0 ≤ g ∧ g ≤ 3
  · exact .inr ⟨h.1, h.2.1, h.2.2, places_bd h.1 h.2.1 h.2.2⟩
  · exact .inl (places_no h)
theorem places_nn (s g : Int) : 0 ≤ placesI s g ∧ placesI s g ≤ 4096 := by
  rcases places_or s g with h | ⟨_, _, _, h⟩ <;> omega
theorem fr_bd (s g : Int) : 0 ≤ frI s g ∧ frI s g ≤ 8 ∧ placesI s g * 16 ≤ 8192 * frI s g ∧ 8192 * frI s g ≤ placesI s g * 16 + 8191 ∧ (frI s g = 0 ↔ placesI s g = 0) := by
  have h := places_nn s g
  unfold frI
  omega
/-- A TSB: its struct's block, its first frame, size and grade, what stands at its places; the document's list of words. -/
structure Tb where
  st : Nat
  f : Nat
  s : Int
  g : Int
  T : Nat → Pl
  v : Value
  l : List Wd
def Tb.n (x : Tb) : Nat := (placesI x.s x.g).toNat
def Tb.k (x : Tb) : Nat := (frI x.s x.g).toNat
def Tb.q (x : Tb) (n : Nat) (o : Nat → Nat) : Par := ⟨8192 * n, 8192 * x.f, x.n, x.s, x.g, o⟩
def Tb.p (x : Tb) (n : Nat) : Par := x.q n fun _ => 0
structure Tb.In (x : Tb) (n : Nat) : Prop where
  hs : sizeB x.s = true
  g0 : 0 ≤ x.g
  g1 : x.g ≤ 3
  is : x.f + x.k ≤ n
theorem Tb.In.bd {x : Tb} {n : Nat} (h : x.In n) : 1 ≤ x.k ∧ x.k ≤ 8 ∧ 16 * x.n ≤ 8192 * x.k ∧ 1 ≤ x.n ∧ x.n ≤ 4096 ∧ (x.n : Int) = placesI x.s x.g ∧ (x.k : Int) = frI x.s x.g := by
  have h1 := places_bd h.hs h.g0 h.g1
  have h2 := fr_bd x.s x.g
  unfold Tb.k Tb.n
  omega
theorem Tb.In.ok {x : Tb} {n : Nat} (h : x.In n) (hn : n ≤ 1000) (o : Nat → Nat) : (x.q n o).Ok := by
  have h1 := h.bd
  have h2 := h.is
  exact ⟨h.hs, h.g0, h.g1, h1.2.2.2.2.2.1, by show 8192 * x.f % 16 = 0; omega, by show 8192 * x.f + 16 * x.n ≤ 8192 * n; omega, by show 8192 * n ≤ 2199023255552; omega⟩
theorem row_q {w : World} {st sb n m : Nat} {x : Tb} {o u : Nat → Nat} (h : RowP w st sb (x.q n o)) : RowP w st sb (x.q m u) := ⟨h.row⟩
/-- The ranges of two TSBs part. -/
def Ap (x y : Tb) : Prop := x.f + x.k ≤ y.f ∨ y.f + y.k ≤ x.f
theorem Ap.symm {x y : Tb} (h : Ap x y) : Ap y x := Or.symm h
/-- What is said of TSBs in one memory with the bytes g, in so many frames, of which F are taken. -/
structure Fit (n : Nat) (g : Nat → Nat) (F : Nat → Bool) (L : List Tb) : Prop where
  le : n ≤ 1000
  mem : ∀ x ∈ L, x.In n
  tk : ∀ x ∈ L, ∀ j, x.f ≤ j → j < x.f + x.k → F j = true
  ap : L.Pairwise Ap
  pl : ∀ x ∈ L, ∀ i, i < x.n → ((word g (8192 * x.f + 16 * i) : Nat) : Int) = (x.T i).t ∧ ((word g (8192 * x.f + 16 * i + 8) : Nat) : Int) = (x.T i).d
  gd : ∀ x ∈ L, Gd (x.p n) x.T
  tie : ∀ x ∈ L, Tie (x.p n) x.l x.T
  ze : ∀ a, (∀ x ∈ L, a < 8192 * x.f ∨ 8192 * (x.f + x.k) ≤ a) → g a = 0
theorem Fit.at {n : Nat} {g : Nat → Nat} {F : Nat → Bool} {L : List Tb} (h : Fit n g F L) {x : Tb} (hx : x ∈ L) : PlAt g (x.q n g) x.T := ⟨h.pl x hx, fun _ _ => rfl⟩
theorem Fit.new (n : Nat) (hn : n ≤ 1000) : Fit n (fun _ => 0) (fun _ => false) [] := ⟨hn, by simp, by simp, .nil, by simp, by simp, by simp, fun _ _ => rfl⟩
theorem Fit.perm {n : Nat} {g : Nat → Nat} {F : Nat → Bool} {L M : List Tb} (h : Fit n g F L) (hp : L.Perm M) : Fit n g F M :=
  ⟨h.le, fun x hx => h.mem x (hp.mem_iff.2 hx), fun x hx => h.tk x (hp.mem_iff.2 hx), hp.pairwise h.ap (fun {_ _} => Ap.symm), fun x hx => h.pl x (hp.mem_iff.2 hx), fun x hx => h.gd x (hp.mem_iff.2 hx), fun x hx => h.tie x (hp.mem_iff.2 hx), fun a ha => h.ze a fun x hx => ha x (hp.mem_iff.1 hx)⟩
theorem ap_of {x y : Tb} {n : Nat} {F : Nat → Bool} (hx : x.In n) (hy : y.In n) (h1 : ∀ j, x.f ≤ j → j < x.f + x.k → F j = true) (h2 : ∀ j, y.f ≤ j → j < y.f + y.k → F j = false) : Ap x y := by
  have a := hx.bd
  have b := hy.bd
  unfold Ap
  rcases Nat.lt_or_ge y.f (x.f + x.k) with c | c
  · rcases Nat.lt_or_ge x.f (y.f + y.k) with d | d
    · have e1 := h1 (max x.f y.f) (by omega) (by omega)
      have e2 := h2 (max x.f y.f) (by omega) (by omega)
      rw [e1] at e2; cases e2
    · exact .inr d
  · exact .inl c
/-- Bytes that stay leave a TSB's words. -/
theorem pl_same {x : Tb} {g h : Nat → Nat} {n : Nat} (hx : x.In n) (hg : ∀ a, 8192 * x.f ≤ a → a < 8192 * (x.f + x.k) → h a = g a) {T : Nat → Pl} (hp : ∀ i, i < x.n → ((word g (8192 * x.f + 16 * i) : Nat) : Int) = (T i).t ∧ ((word g (8192 * x.f + 16 * i + 8) : Nat) : Int) = (T i).d) :
    ∀ i, i < x.n → ((word h (8192 * x.f + 16 * i) : Nat) : Int) = (T i).t ∧ ((word h (8192 * x.f + 16 * i + 8) : Nat) : Int) = (T i).d := by
  intro i hi
  have b := hx.bd
  obtain ⟨c, d⟩ := hp i hi
  exact ⟨by rw [Mem.word_ext (g' := g) (fun j hj => hg _ (by omega) (by omega))]; exact c, by rw [Mem.word_ext (g' := g) (fun j hj => hg _ (by omega) (by omega))]; exact d⟩
/-- A TSB more. -/
theorem Fit.add {n : Nat} {g h : Nat → Nat} {F : Nat → Bool} {L : List Tb} (hf : Fit n g F L) {x : Tb} (hx : x.In n) (hF : ∀ j, x.f ≤ j → j < x.f + x.k → F j = false) (hp : PlAt h (x.q n g) x.T) (hT : Gd (x.p n) x.T) (ht : Tie (x.p n) x.l x.T) : Fit n h (setT F x.f x.k true) (L ++ [x]) := by
  have bdx := hx.bd
  have hap : ∀ y ∈ L, Ap y x := fun y hy => ap_of (hf.mem y hy) hx (hf.tk y hy) hF
  have hout : ∀ a, a < 8192 * x.f ∨ 8192 * (x.f + x.k) ≤ a → h a = g a := fun a ha => hp.out a (by show a < 8192 * x.f ∨ 8192 * x.f + 16 * x.n ≤ a; omega)
  have hm : ∀ y, y ∈ L ++ [x] → y ∈ L ∨ y = x := fun y hy => by simpa using hy
  refine ⟨hf.le, fun y hy => ?_, fun y hy => ?_, ?_, fun y hy => ?_, fun y hy => ?_, fun y hy => ?_, fun a ha => ?_⟩
  · rcases hm y hy with e | rfl
    · exact hf.mem y e
    · exact hx
  · rcases hm y hy with e | rfl
    · intro j a b
      by_cases c : x.f ≤ j ∧ j < x.f + x.k
      · exact setT_in c.1 c.2
      · rw [setT_out (by omega)]; exact hf.tk y e j a b
    · intro j a b; exact setT_in a b
  · exact List.pairwise_append.2 ⟨hf.ap, List.pairwise_singleton _ _, fun y hy z hz => by rw [List.mem_singleton.1 hz]; exact hap y hy⟩
  · rcases hm y hy with e | rfl
    · have := hap y e
      unfold Ap at this
      exact pl_same (hf.mem y e) (fun a a1 a2 => hout a (by omega)) (hf.pl y e)
    · exact hp.pl
  · rcases hm y hy with e | rfl
    · exact hf.gd y e
    · exact hT
  · rcases hm y hy with e | rfl
    · exact hf.tie y e
    · exact ht
  · rw [hout a (ha x (by simp))]; exact hf.ze a fun y hy => ha y (by simp [hy])
theorem ap_mid {A B : List Tb} {x : Tb} (h : (A ++ x :: B).Pairwise Ap) : ∀ y, y ∈ A ∨ y ∈ B → Ap x y := fun y hy => by
  obtain ⟨_, h2, h3⟩ := List.pairwise_append.1 h
  rcases hy with e | e
  · exact (h3 y e x (by simp)).symm
  · exact (List.pairwise_cons.1 h2).1 y e
theorem mem_mid {A B : List Tb} {x y : Tb} (h : y ∈ A ++ x :: B) : y = x ∨ (y ∈ A ∨ y ∈ B) := by
  rcases List.mem_append.1 h with e | e
  · exact .inr (.inl e)
  · rcases List.mem_cons.1 e with e | e
    · exact .inl e
    · exact .inr (.inr e)
theorem mid_mem {A B : List Tb} {x y : Tb} (h : y = x ∨ (y ∈ A ∨ y ∈ B)) : y ∈ A ++ x :: B := by
  rcases h with rfl | e | e <;> simp [*]
/-- A TSB is gone. -/
theorem Fit.del {n : Nat} {g : Nat → Nat} {F : Nat → Bool} {A B : List Tb} {x : Tb} (hf : Fit n g F (A ++ x :: B)) : Fit n (Mem.clr g (8192 * x.f) (8192 * x.k)) (setT F x.f x.k false) (A ++ B) := by
  have hap := ap_mid hf.ap
  have hm : ∀ y, y ∈ A ++ B → (y ∈ A ∨ y ∈ B) := fun y hy => List.mem_append.1 hy
  have hM : ∀ y, y ∈ A ++ B → y ∈ A ++ x :: B := fun y hy => mid_mem (.inr (hm y hy))
  refine ⟨hf.le, fun y hy => hf.mem y (hM y hy), fun y hy j a b => ?_, ?_, fun y hy => ?_, fun y hy => hf.gd y (hM y hy), fun y hy => hf.tie y (hM y hy), fun a ha => ?_⟩
  · have := hap y (hm y hy)
    unfold Ap at this
    rw [setT_out (by omega)]; exact hf.tk y (hM y hy) j a b
  · obtain ⟨h1, h2, h3⟩ := List.pairwise_append.1 hf.ap
    exact List.pairwise_append.2 ⟨h1, (List.pairwise_cons.1 h2).2, fun y hy z hz => h3 y hy z (by simp [hz])⟩
  · have := hap y (hm y hy)
    unfold Ap at this
    exact pl_same (hf.mem y (hM y hy)) (fun a a1 a2 => by unfold Mem.clr; rw [if_neg (by omega)]) (hf.pl y (hM y hy))
  · unfold Mem.clr
    by_cases c : 8192 * x.f ≤ a ∧ a < 8192 * x.f + 8192 * x.k
    · rw [if_pos c]
    · rw [if_neg c]
      refine hf.ze a fun y hy => ?_
      rcases mem_mid hy with rfl | e
      · omega
      · exact ha y (List.mem_append.2 e)
/-- A TSB has other things at its places. -/
theorem Fit.put {n : Nat} {g h : Nat → Nat} {F : Nat → Bool} {A B : List Tb} {x y : Tb} (hf : Fit n g F (A ++ x :: B)) (e1 : y.f = x.f) (e2 : y.s = x.s) (e3 : y.g = x.g) (hp : PlAt h (x.q n g) y.T) (hT : Gd (x.p n) y.T) (ht : Tie (x.p n) y.l y.T) : Fit n h F (A ++ y :: B) := by
  have hx : x ∈ A ++ x :: B := mid_mem (.inl rfl)
  have hxi := hf.mem x hx
  have bdx := hxi.bd
  have en : y.n = x.n := by unfold Tb.n; rw [e2, e3]
  have ek : y.k = x.k := by unfold Tb.k; rw [e2, e3]
  have eq : ∀ o, y.q n o = x.q n o := fun o => by unfold Tb.q; rw [en, e1, e2, e3]
  have ep : y.p n = x.p n := eq _
  have hap := ap_mid hf.ap
  have hM : ∀ z, (z ∈ A ∨ z ∈ B) → z ∈ A ++ x :: B := fun z hz => mid_mem (.inr hz)
  have hout : ∀ a, a < 8192 * x.f ∨ 8192 * (x.f + x.k) ≤ a → h a = g a := fun a ha => hp.out a (by show a < 8192 * x.f ∨ 8192 * x.f + 16 * x.n ≤ a; omega)
  refine ⟨hf.le, fun z hz => ?_, fun z hz => ?_, ?_, fun z hz => ?_, fun z hz => ?_, fun z hz => ?_, fun a ha => ?_⟩
  · rcases mem_mid hz with rfl | e
    · exact ⟨by rw [e2]; exact hxi.hs, by rw [e3]; exact hxi.g0, by rw [e3]; exact hxi.g1, by rw [e1, ek]; exact hxi.is⟩
    · exact hf.mem z (hM z e)
  · rcases mem_mid hz with rfl | e
    · rw [e1, ek]; exact hf.tk x hx
    · exact hf.tk z (hM z e)
  · obtain ⟨h1, h2, h3⟩ := List.pairwise_append.1 hf.ap
    have t : ∀ z, Ap z x → Ap z y := fun z hz => by unfold Ap at *; rw [e1, ek]; exact hz
    refine List.pairwise_append.2 ⟨h1, List.pairwise_cons.2 ⟨fun z hz => (t z ((List.pairwise_cons.1 h2).1 z hz).symm).symm, (List.pairwise_cons.1 h2).2⟩, fun a ha z hz => ?_⟩
    rcases List.mem_cons.1 hz with rfl | e
    · exact t a (h3 a ha x (by simp))
    · exact h3 a ha z (by simp [e])
  · rcases mem_mid hz with rfl | e
    · rw [e1, en]; exact hp.pl
    · have := hap z e
      unfold Ap at this
      exact pl_same (hf.mem z (hM z e)) (fun a a1 a2 => hout a (by omega)) (hf.pl z (hM z e))
  · rcases mem_mid hz with rfl | e
    · rw [ep]; exact hT
    · exact hf.gd z (hM z e)
  · rcases mem_mid hz with rfl | e
    · rw [ep]; exact ht
    · exact hf.tie z (hM z e)
  · have := ha y (mid_mem (.inl rfl))
    rw [e1, ek] at this
    rw [hout a this]
    refine hf.ze a fun z hz => ?_
    rcases mem_mid hz with rfl | e
    · exact this
    · exact ha z (mid_mem (.inr e))
/-- A frame more is taken, that is none of a TSB's. -/
theorem Fit.more {n : Nat} {g : Nat → Nat} {F : Nat → Bool} {L : List Tb} (hf : Fit n g F L) (i k : Nat) : Fit n g (setT F i k true) L :=
  ⟨hf.le, hf.mem, fun x hx j a b => by
    by_cases c : i ≤ j ∧ j < i + k
    · exact setT_in c.1 c.2
    · rw [setT_out (by omega)]; exact hf.tk x hx j a b, hf.ap, hf.pl, hf.gd, hf.tie, hf.ze⟩
theorem lst_q {x : Tb} {n m : Nat} {o u : Nat → Nat} (T : Nat → Pl) (k : Nat) : lstP (x.q n o) T k = lstP (x.q m u) T k := by
  induction k with
  | zero => rfl
  | succ k ih =>
    unfold lstP
    rw [ih]
    rfl
theorem ins_q {x : Tb} {n m : Nat} {o u : Nat → Nat} (l : List Ent) : insAll (x.q n o) l = insAll (x.q m u) l := rfl
theorem gd_ins {p : Par} {T : Nat → Pl} (h : Gd p T) {e : Ent} (he : e.Ok) (hs : e.size = p.s) : Gd p (insT p T e) := fun i => by
  rw [ins_at he hs]
  by_cases c : i = p.pl e.va
  · rw [if_pos c]; exact .inr ⟨e, he, hs, c.symm, rfl⟩
  · rw [if_neg c]; exact h i
end Go.Proofs.YtnbdoemnepfhdaaGreat.Sw

