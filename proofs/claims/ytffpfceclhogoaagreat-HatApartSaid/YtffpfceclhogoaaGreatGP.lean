/-
  YtffpfceclhogoaaGreatGP: the contracts and plain facts of several texts, laid together. Conditions: those that each theorem names.
-/
import Derived.Test.YtffpfceclhogoaaGreatGA
import Derived.Test.YtffpfceclhogoaaGreatGM
import Derived.Test.YtffpfceclhogoaaGreatGN
import Derived.Test.YtffpfceclhogoaaGreatGO
import Derived.Test.YtffpfceclhogoaaGreatGK
namespace Go.Proofs.YtffpfceclhogoaaGreat.Hp
open Fld Hs
set_option maxRecDepth 10000
/-! ### Pages that may be -/
structure Val (p : Pg) : Prop where
  w : p.wf
  z : sizeB p.sz = true
  a : p.va % bytesI p.sz = 0
theorem Val.base {p : Pg} (h : Val p) : baseI p.va p.sz = p.va := by
  have := h.a; have h2 := bytes_pos h.z
  unfold baseI; rw [h.z]
  generalize bytesI p.sz = b at *
  have := Int.mul_ediv_add_emod p.va b
  rw [if_pos rfl, Int.mul_comm]; omega
theorem at_meet {x y : Pg} (hx : Val x) (hy : Val y) {va : Int} (h1 : baseI va x.sz = x.va) (h2 : baseI va y.sz = y.va) : meetB x.va x.sz y.va y.sz = true := by
  unfold meetB
  rw [hx.z, hy.z, in_walk, sizeB_mk (by have := sizeB_true hx.z; have := sizeB_true hy.z; omega), ← h1, ← h2,
    (base_base va x.sz (max x.sz y.sz) hx.z (sizeB_mk (by have := sizeB_true hx.z; have := sizeB_true hy.z; omega)) (by omega)).1,
    (base_base va y.sz (max x.sz y.sz) hy.z (sizeB_mk (by have := sizeB_true hx.z; have := sizeB_true hy.z; omega)) (by omega)).1]
  simp
theorem self_meet {x : Pg} (hx : Val x) : meetB x.va x.sz x.va x.sz = true := at_meet hx hx hx.base hx.base
theorem meet_ways {p x : Pg} (hp : Val p) (hx : Val x) : meetB p.va p.sz x.va x.sz = true ↔ baseI p.va x.sz = x.va ∨ (x.sz < p.sz ∧ baseI x.va p.sz = p.va) := by
  have bp := hp.base; have bx := hx.base
  constructor
  · intro h
    unfold meetB at h
    rw [hp.z, hx.z, in_walk] at h
    simp only [Bool.true_and, Bool.and_eq_true, beq_iff_eq] at h
    obtain ⟨_, h⟩ := h
    by_cases e : x.sz < p.sz
    · rw [show max p.sz x.sz = p.sz by omega, bp] at h
      exact .inr ⟨e, h.symm⟩
    · rw [show max p.sz x.sz = x.sz by omega, bx] at h
      exact .inl h
  · rintro (h | ⟨h1, h2⟩)
    · exact at_meet hp hx (va := p.va) bp h
    · exact at_meet hp hx (va := x.va) h2 bx
/-- The places of a lesser size within a page. -/
theorem slot_of {p x : Pg} (hp : Val p) (hx : Val x) (h1 : x.sz < p.sz) (h2 : baseI x.va p.sz = p.va) : ∃ j, j < slots p.sz.toNat x.sz.toNat ∧ x.va = p.va + (j : Int) * bytesI x.sz := by
  have a1 := hp.a; have a2 := hx.a
  have zp := sizeB_true hp.z; have zx := sizeB_true hx.z
  unfold baseI at h2; rw [hp.z, if_pos rfl] at h2
  have v0 := hx.w.v0
  generalize p.va = P at *
  generalize x.va = X at *
  generalize p.sz = s at *
  generalize x.sz = t at *
  have key : ∃ j : Int, 0 ≤ j ∧ j < (slots s.toNat t.toNat : Int) ∧ X = P + j * bytesI t := by
    rcases zp with rfl | rfl | rfl | rfl <;> rcases zx with rfl | rfl | rfl | rfl <;>
      first
      | (exfalso; omega)
      | (simp only [bytesI, Int.reduceEq, if_true, if_false] at *
         first
         | exact ⟨(X - P) / 8192, by omega, by simp only [slots, Int.reduceToNat, Nat.reduceSub, Nat.reducePow]; omega, by omega⟩
         | exact ⟨(X - P) / 65536, by omega, by simp only [slots, Int.reduceToNat, Nat.reduceSub, Nat.reducePow]; omega, by omega⟩
         | exact ⟨(X - P) / 524288, by omega, by simp only [slots, Int.reduceToNat, Nat.reduceSub, Nat.reducePow]; omega, by omega⟩)
  obtain ⟨j, j0, j1, e⟩ := key
  exact ⟨j.toNat, by omega, by rw [e, show ((j.toNat : Nat) : Int) = j by omega]⟩
theorem slot_in {p x : Pg} (hp : Val p) (hx : Val x) (h1 : x.sz < p.sz) {j : Nat} (hj : j < slots p.sz.toNat x.sz.toNat) (e : x.va = p.va + (j : Int) * bytesI x.sz) : baseI x.va p.sz = p.va := by
  have a1 := hp.a
  have zp := sizeB_true hp.z; have zx := sizeB_true hx.z
  unfold baseI; rw [hp.z, if_pos rfl]
  have v0 := hp.w.v0
  generalize p.va = P at *
  generalize x.va = X at *
  generalize p.sz = s at *
  generalize x.sz = t at *
  rcases zp with rfl | rfl | rfl | rfl <;> rcases zx with rfl | rfl | rfl | rfl <;>
    first
    | (exfalso; omega)
    | (simp only [bytesI, Int.reduceEq, if_true, if_false, slots, Int.reduceToNat, Nat.reduceSub, Nat.reducePow] at *; omega)
def kS (x : SPg) : Ky := keyP x.sp x.p
/-! ### A table and a list -/
structure HT (ns bl : Int) (n : Nat) (L : Nat → List Bk) (l : List SPg) (LT : Nat → List Hs.Bk) : Prop where
  n1 : 1 ≤ n
  inv : Inv n L
  mem : ∀ k v, MemT n L k v ↔ ∃ x ∈ l, k = kS x ∧ v = x.p
  len : lenL L n = l.length
  few : (l.length : Int) ≤ bl
  val : ∀ x ∈ l, Val x.p
  sp : ∀ x ∈ l, 0 ≤ x.sp ∧ x.sp < ns
  ns1 : ns ≤ 64
  ap : ∀ x ∈ l, ∀ y ∈ l, x.sp = y.sp → meetB x.p.va x.p.sz y.p.va y.p.sz = true → x = y
  nd : l.Nodup
  ch : ∀ i, i < n → LT i = (L i).map (fun b => ⟨b.k, 0⟩)
section
variable {ns bl : Int} {n : Nat} {L : Nat → List Bk} {l : List SPg} {LT : Nat → List Hs.Bk}
theorem HT.ok (h : HT ns bl n L l LT) {x : SPg} (hx : x ∈ l) : (kS x).Ok := by
  have hv := h.val x hx; have hs := h.sp x hx; have := h.ns1
  refine ⟨?_, hv.w.v0, hv.w.v1⟩
  unfold kmayB startsB kS keyP
  have h1 := hv.a
  simp only [Bool.and_eq_true, decide_eq_true_eq]
  exact ⟨⟨hs.1, by omega⟩, hv.z, h1⟩
theorem HT.get (h : HT ns bl n L l LT) {x : SPg} (hx : x ∈ l) : getB n L (kS x) = true ∧ getV n L (kS x) = x.p := by
  have := h.inv.get h.n1 (h.ok hx) ((h.mem _ _).2 ⟨x, hx, rfl, rfl⟩)
  exact ⟨this.1, this.2.1⟩
theorem HT.got (h : HT ns bl n L l LT) {k : Ky} (hk : getB n L k = true) : ∃ x ∈ l, k = kS x ∧ getV n L k = x.p := by
  have h0 := hk
  unfold getB at hk; simp only [Bool.and_eq_true] at hk
  obtain ⟨b, hb, rfl⟩ := has_mem.1 hk.2
  obtain ⟨x, hx, e1, _⟩ := (h.mem b.k b.v).1 hb
  exact ⟨x, hx, e1, by rw [e1]; exact (h.get hx).2⟩
/-- What stands at an address. -/
theorem isAt_iff {s va : Int} {x : SPg} : isAt s va x = true ↔ x.sp = s ∧ baseI va x.p.sz = x.p.va := by
  unfold isAt; simp
theorem HT.one (h : HT ns bl n L l LT) {s va : Int} {x y : SPg} (hx : x ∈ l) (hy : y ∈ l) (h1 : isAt s va x = true) (h2 : isAt s va y = true) : x = y := by
  obtain ⟨a1, a2⟩ := isAt_iff.1 h1
  obtain ⟨b1, b2⟩ := isAt_iff.1 h2
  exact h.ap x hx y hy (by rw [a1, b1]) (at_meet (h.val x hx) (h.val y hy) a2 b2)
theorem pos_iff {l : List SPg} {s va : Int} : posS l s va < l.length ↔ ∃ x ∈ l, isAt s va x = true := by
  constructor
  · intro h
    exact ⟨_, sat_mem h, first_yes _ _ h⟩
  · rintro ⟨x, hx, hi⟩
    obtain ⟨i, hi2, e⟩ := List.getElem_of_mem hx
    apply Decidable.byContradiction
    intro hn
    have hle : posS l s va = l.length := by have := first_le (fun i => isAt s va (sat l i)) l.length; unfold posS at hn ⊢; omega
    have := first_no (fun i => isAt s va (sat l i)) l.length i (by unfold posS at hle; rw [hle]; exact hi2)
    have es : sat l i = x := by simp [sat, hi2, e]
    rw [es, hi] at this; cases this
theorem HT.at (h : HT ns bl n L l LT) {s va : Int} {x : SPg} (hx : x ∈ l) (hi : isAt s va x = true) : sat l (posS l s va) = x :=
  have hp := pos_iff.2 ⟨x, hx, hi⟩
  h.one (sat_mem hp) hx (first_yes _ _ hp) hi
theorem kz_at {s va : Int} {x : SPg} (h : isAt s va x = true) (hz : sizeB x.p.sz = true) : kz s va x.p.sz.toNat = kS x := by
  obtain ⟨rfl, e⟩ := isAt_iff.1 h
  have : ((x.p.sz.toNat : Nat) : Int) = x.p.sz := by have := sizeB_true hz; omega
  unfold kz kS keyP; rw [this, e]
theorem HT.slot (h : HT ns bl n L l LT) {s va : Int} {z : Nat} (hg : getB n L (kz s va z) = true) : ∃ x ∈ l, isAt s va x = true ∧ x.p.sz = (z : Int) ∧ getV n L (kz s va z) = x.p := by
  obtain ⟨x, hx, e, ev⟩ := h.got hg
  unfold kz kS keyP at e
  injection e with e1 e2 e3
  exact ⟨x, hx, isAt_iff.2 ⟨e1.symm, by rw [← e3, e2]⟩, e3.symm, ev⟩
theorem HT.find (h : HT ns bl n L l LT) {s va : Int} {x : SPg} (hx : x ∈ l) (hi : isAt s va x = true) : findI n L s va = x.p.sz.toNat ∧ x.p.sz.toNat < 4 := by
  have hz := (h.val x hx).z
  have hlt : x.p.sz.toNat < 4 := by have := sizeB_true hz; omega
  refine ⟨first_here hlt (fun i hi2 => ?_) (by rw [kz_at hi hz]; exact (h.get hx).1), hlt⟩
  cases e : getB n L (kz s va i)
  · rfl
  · obtain ⟨y, hy, hiy, ez, _⟩ := h.slot e
    have := h.one hx hy hi hiy
    subst this; omega
theorem HT.find_no (h : HT ns bl n L l LT) {s va : Int} (hno : ∀ x ∈ l, isAt s va x = false) : findI n L s va = 4 :=
  first_none (fun z _ => by
    cases e : getB n L (kz s va z)
    · rfl
    · obtain ⟨y, hy, hiy, _, _⟩ := h.slot e
      rw [hno y hy] at hiy; cases hiy)
theorem at_or (l : List SPg) (s va : Int) : (∃ x ∈ l, isAt s va x = true) ∨ ∀ x ∈ l, isAt s va x = false := by
  by_cases h : ∃ x ∈ l, isAt s va x = true
  · exact .inl h
  · exact .inr (fun x hx => by cases e : isAt s va x; rfl; exact absurd ⟨x, hx, e⟩ h)
theorem no_pos {l : List SPg} {s va : Int} (h : ∀ x ∈ l, isAt s va x = false) : ¬ posS l s va < l.length := fun hp => by
  obtain ⟨x, hx, hi⟩ := pos_iff.1 hp
  rw [h x hx] at hi; cases hi
theorem HT.findB (h : HT ns bl n L l LT) (s va : Int) : findB ns n L s va = dfB ns l s va := by
  unfold Hp.findB dfB
  congr 1
  rcases at_or l s va with ⟨x, hx, hi⟩ | hno
  · have h1 := h.find hx hi
    have h2 := pos_iff.2 ⟨x, hx, hi⟩
    rw [decide_eq_true (by omega), decide_eq_true h2]
  · have h1 := h.find_no hno
    rw [decide_eq_false (by omega), decide_eq_false (no_pos hno)]
theorem HT.findV (h : HT ns bl n L l LT) (s va : Int) : findV ns n L s va = dfV ns l s va := by
  unfold Hp.findV dfV
  rw [h.findB]
  by_cases e : dfB ns l s va = true
  · rw [if_pos e, if_pos e]
    unfold dfB at e
    simp only [Bool.and_eq_true, decide_eq_true_eq] at e
    obtain ⟨x, hx, hi⟩ := pos_iff.1 e.2
    rw [(h.find hx hi).1, kz_at hi (h.val x hx).z, (h.get hx).2, h.at hx hi]
  · rw [if_neg e, if_neg e]
end
end Go.Proofs.YtffpfceclhogoaaGreat.Hp
namespace Go.Proofs.YtffpfceclhogoaaGreat.Hp
open Fld Hs
set_option maxRecDepth 10000
def ck (b : Bk) : Hs.Bk := ⟨b.k, 0⟩
theorem pos_map : ∀ (l : List Bk) (k : Ky), Hs.posN (l.map ck) k = posN l k
  | [], _ => rfl
  | b :: l, k => by
    show (if keyEq b.k k = true then 0 else Hs.posN (l.map ck) k + 1) = if keyEq b.k k = true then 0 else posN l k + 1
    rw [pos_map l k]
theorem has_map (l : List Bk) (k : Ky) : Hs.hasB (l.map ck) k = hasB l k := by
  unfold Hs.hasB hasB; rw [pos_map, List.length_map]
theorem all_map {L : Nat → List Bk} {LT : Nat → List Hs.Bk} : ∀ {n : Nat}, (∀ i, i < n → LT i = (L i).map ck) → Hs.allL LT n = (allL L n).map ck
  | 0, _ => rfl
  | n + 1, h => by unfold Hs.allL allL; rw [all_map (fun i hi => h i (by omega)), h n (by omega), List.map_append]
theorem lng_map {L : Nat → List Bk} {LT : Nat → List Hs.Bk} : ∀ {n : Nat}, (∀ i, i < n → LT i = (L i).map ck) → Hs.lngL LT n = lngL L n
  | 0, _ => rfl
  | n + 1, h => by unfold Hs.lngL lngL; rw [lng_map (fun i hi => h i (by omega)), h n (by omega), List.length_map]
section
variable {ns bl : Int} {n : Nat} {L : Nat → List Bk} {l : List SPg} {LT : Nat → List Hs.Bk}
theorem HT.chn (h : HT ns bl n L l LT) (k : Ky) : LT (chainN k n) = (L (chainN k n)).map ck := h.ch _ (chain_lt k h.n1)
theorem HT.getB' (h : HT ns bl n L l LT) (k : Ky) : Hs.getB n LT k = getB n L k := by
  unfold Hs.getB getB; rw [h.chn, has_map]
theorem HT.getN' (h : HT ns bl n L l LT) (k : Ky) : Hs.getN n LT k = getN n L k := by
  unfold Hs.getN getN; rw [h.getB', h.chn, pos_map, List.length_map]
theorem HT.look (h : HT ns bl n L l LT) (s va : Int) : ∀ z, dlookN n LT s va z = lookN n L s va z
  | 0 => rfl
  | z + 1 => by unfold dlookN lookN; rw [h.look s va z, h.getN']
theorem HT.lng (h : HT ns bl n L l LT) : Hs.lngL LT n = lngL L n := lng_map h.ch
theorem HT.lenT (h : HT ns bl n L l LT) : Hs.lenL LT n = lenL L n := by unfold Hs.lenL lenL; rw [all_map h.ch, List.length_map]
theorem HT.findN (h : HT ns bl n L l LT) (s va : Int) : findN ns n L s va = dfN ns l n LT s va := by
  unfold Hp.findN dfN
  by_cases e : isB ns s = true
  · rw [if_pos e, if_pos e, h.look, h.look]
    rcases at_or l s va with ⟨x, hx, hi⟩ | hno
    · have h1 := h.find hx hi
      have h2 := pos_iff.2 ⟨x, hx, hi⟩
      rw [if_pos (by omega), if_pos h2, h1.1, h.at hx hi]
    · have h1 := h.find_no hno
      rw [if_neg (by omega), if_neg (no_pos hno)]
  · rw [if_neg e, if_neg e]
theorem at_neg {l : List SPg} {s va : Int} : atI l s va < 0 ↔ ¬ posS l s va < l.length := by
  unfold atI; split <;> omega
theorem HT.atE (h : HT ns bl n L l LT) (s va : Int) : atE ns n L s va = whyE ns l s va := by
  unfold Hp.atE whyE
  rw [h.findB]
  unfold dfB
  cases e : isB ns s
  · rfl
  · simp only [Bool.true_eq_false, if_false, Bool.true_and, decide_eq_true_eq]
    by_cases hp : posS l s va < l.length
    · rw [if_pos hp, if_neg (fun hn => at_neg.1 hn hp)]
    · rw [if_neg hp, if_pos (at_neg.2 hp)]
/-! ### What may be mapped -/
theorem meetS_iff {l : List SPg} {s : Int} {p : Pg} : dmeetB l s p = true ↔ ∃ x ∈ l, x.sp = s ∧ meetB p.va p.sz x.p.va x.p.sz = true := by
  unfold dmeetB
  rw [decide_eq_true_eq]
  have e : ∀ x : SPg, isMeet s p x = true ↔ x.sp = s ∧ meetB p.va p.sz x.p.va x.p.sz = true := fun x => by unfold isMeet; simp
  constructor
  · intro h
    exact ⟨_, sat_mem h, (e _).1 (first_yes _ _ h)⟩
  · rintro ⟨x, hx, hi⟩
    obtain ⟨i, hi2, e2⟩ := List.getElem_of_mem hx
    apply Decidable.byContradiction
    intro hn
    have hle : firstN (fun i => isMeet s p (sat l i)) l.length = l.length := by have := first_le (fun i => isMeet s p (sat l i)) l.length; omega
    have := first_no (fun i => isMeet s p (sat l i)) l.length i (by rw [hle]; exact hi2)
    have es : sat l i = x := by simp [sat, hi2, e2]
    rw [es, (e x).2 hi] at this; cases this
theorem firstN_iff (f : Nat → Bool) (m : Nat) : firstN f m < m ↔ ∃ i, i < m ∧ f i = true := by
  constructor
  · intro h; exact ⟨_, h, first_yes f m h⟩
  · rintro ⟨i, hi, h⟩
    apply Decidable.byContradiction
    intro hn
    have hle : firstN f m = m := by have := first_le f m; omega
    have := first_no f m i (by omega)
    rw [h] at this; cases this
theorem HT.holds (h : HT ns bl n L l LT) {s : Int} {p : Pg} (hp : Val p) : holdB n L s p = true ↔ ∃ x ∈ l, x.sp = s ∧ x.p.sz < p.sz ∧ baseI x.p.va p.sz = p.va := by
  have hz := sizeB_true hp.z
  unfold holdB
  rw [decide_eq_true_eq, firstN_iff]
  constructor
  · rintro ⟨z, hz1, hz2⟩
    unfold holdZ at hz2
    rw [decide_eq_true_eq, firstN_iff] at hz2
    obtain ⟨j, hj, hb⟩ := hz2
    unfold slotB at hb
    obtain ⟨x, hx, e, _⟩ := h.got hb
    unfold kS keyP at e
    injection e with e1 e2 e3
    have ez : x.p.sz.toNat = z := by omega
    have hlt : x.p.sz < p.sz := by omega
    refine ⟨x, hx, e1.symm, hlt, slot_in hp (h.val x hx) hlt (j := j) (by rw [ez]; exact hj) (by rw [← e3]; exact e2.symm)⟩
  · rintro ⟨x, hx, es, hlt, hb⟩
    have hv := h.val x hx
    have hzx := sizeB_true hv.z
    obtain ⟨j, hj, e⟩ := slot_of hp hv hlt hb
    have ec : ((x.p.sz.toNat : Nat) : Int) = x.p.sz := by omega
    refine ⟨x.p.sz.toNat, by omega, ?_⟩
    unfold holdZ
    rw [decide_eq_true_eq, firstN_iff]
    refine ⟨j, hj, ?_⟩
    unfold slotB
    have := (h.get hx).1
    unfold kS keyP at this
    rw [es, e] at this
    rw [ec]; exact this
theorem HT.meets (h : HT ns bl n L l LT) {s : Int} {p : Pg} (hs : isB ns s = true) (hp : Val p) : meetsB ns n L s p = dmeetB l s p := by
  rw [Bool.eq_iff_iff, meetS_iff]
  unfold meetsB
  rw [Bool.or_eq_true, h.findB, h.holds hp]
  unfold dfB
  rw [hs, Bool.true_and, decide_eq_true_eq, pos_iff]
  constructor
  · rintro (⟨x, hx, hi⟩ | ⟨x, hx, es, h1, h2⟩)
    · obtain ⟨e1, e2⟩ := isAt_iff.1 hi
      exact ⟨x, hx, e1, (meet_ways hp (h.val x hx)).2 (.inl e2)⟩
    · exact ⟨x, hx, es, (meet_ways hp (h.val x hx)).2 (.inr ⟨h1, h2⟩)⟩
  · rintro ⟨x, hx, es, hm⟩
    rcases (meet_ways hp (h.val x hx)).1 hm with e | ⟨h1, h2⟩
    · exact .inl ⟨x, hx, isAt_iff.2 ⟨es, e⟩⟩
    · exact .inr ⟨x, hx, es, h1, h2⟩
theorem HT.mayE (h : HT ns bl n L l LT) (s : Int) (p : Pg) (hw : p.wf) : mayE ns bl n L s p = dmayE ns bl l s p := by
  have hlen := h.len; have hfew := h.few
  unfold Hp.mayE dmayE mayPaB startsB
  cases e1 : isB ns s
  · rfl
  cases e2 : sizeB p.sz
  · rfl
  by_cases e3 : p.pa < 2199023255552
  · rw [decide_eq_true e3]
    by_cases e4 : p.pa % bytesI p.sz = 0
    · rw [decide_eq_true e4]
      have e4' : (p.pa % bytesI p.sz == 0) = true := by simpa using e4
      rw [e4']
      simp only [Bool.and_self, Bool.true_eq_false, if_false, Bool.true_and]
      by_cases e5 : holeB p.va = true
      · rw [if_pos e5, if_pos e5]
      rw [if_neg e5, if_neg e5]
      by_cases e6 : p.va % bytesI p.sz = 0
      · rw [decide_eq_true e6]
        have e6' : (p.va % bytesI p.sz == 0) = true := by simpa using e6
        rw [e6', h.meets e1 ⟨hw, e2, e6⟩]
        simp only [Bool.true_eq_false, if_false]
        by_cases e7 : dmeetB l s p = true
        · rw [if_pos e7, if_pos e7]
        · rw [if_neg e7, if_neg e7]
          by_cases e8 : bl ≤ (l.length : Int)
          · rw [if_pos e8, if_pos (by omega)]
          · rw [if_neg e8, if_neg (by omega)]
      · have e6' : (p.va % bytesI p.sz == 0) = false := by simpa using e6
        rw [decide_eq_false e6, e6']
        simp
    · have e4' : (p.pa % bytesI p.sz == 0) = false := by simpa using e4
      rw [decide_eq_false e4, e4']
      simp
  · rw [decide_eq_false e3]
    simp
theorem may_zero {ns bl : Int} {l : List SPg} {s : Int} {p : Pg} (hw : p.wf) (h : dmayE ns bl l s p = 0) : isB ns s = true ∧ Val p ∧ dmeetB l s p = false ∧ (l.length : Int) < bl ∧ p.pa < 2199023255552 ∧ p.pa % bytesI p.sz = 0 ∧ holeB p.va = false := by
  unfold dmayE at h
  split at h; · cases h
  rename_i e1
  split at h; · cases h
  rename_i e2
  split at h; · cases h
  rename_i e3
  split at h; · cases h
  rename_i e4
  split at h; · cases h
  rename_i e5
  split at h; · cases h
  simp only [Bool.not_eq_false, Bool.and_eq_true, decide_eq_true_eq, beq_iff_eq] at e1 e2 e4
  exact ⟨e1.1.1, ⟨hw, e1.1.2, e4⟩, by simpa using e5, by omega, e1.2, e2, by simpa using e3⟩
end
end Go.Proofs.YtffpfceclhogoaaGreat.Hp
namespace Go.Proofs.YtffpfceclhogoaaGreat.Hp
open Fld Hs
set_option maxRecDepth 10000
/-! ### Lists whose things stand each once -/
theorem parts {α : Type} {l : List α} {i : Nat} {x : α} (h : l[i]? = some x) : l = l.take i ++ x :: l.drop (i + 1) := by
  obtain ⟨hi, e⟩ := List.getElem?_eq_some_iff.1 h
  rw [← e, ← List.drop_eq_getElem_cons hi, List.take_append_drop]
theorem mem_erase {α : Type} {l : List α} (hu : l.Nodup) {i : Nat} {x : α} (h : l[i]? = some x) {y : α} : y ∈ l.eraseIdx i ↔ y ∈ l ∧ y ≠ x := by
  have e1 := parts h
  rw [List.eraseIdx_eq_take_drop_succ, List.mem_append]
  generalize hA : l.take i = A at *
  generalize hB : l.drop (i + 1) = B at *
  rw [e1, List.nodup_append] at hu
  obtain ⟨_, h3, h4⟩ := hu
  rw [List.nodup_cons] at h3
  rw [e1, List.mem_append, List.mem_cons]
  constructor
  · rintro (hb | hb)
    · exact ⟨.inl hb, h4 y hb x List.mem_cons_self⟩
    · exact ⟨.inr (.inr hb), fun e => h3.1 (e ▸ hb)⟩
  · rintro ⟨hb | rfl | hb, hne⟩
    · exact .inl hb
    · exact absurd rfl hne
    · exact .inr hb
theorem mem_setI {α : Type} {l : List α} (hu : l.Nodup) {i : Nat} {x : α} (h : l[i]? = some x) (z : α) {y : α} : y ∈ l.set i z ↔ y = z ∨ (y ∈ l ∧ y ≠ x) := by
  have e1 := parts h
  obtain ⟨hi, _⟩ := List.getElem?_eq_some_iff.1 h
  rw [List.set_eq_take_append_cons_drop, if_pos hi, List.mem_append, List.mem_cons]
  have := mem_erase hu h (y := y)
  rw [List.eraseIdx_eq_take_drop_succ, List.mem_append] at this
  rw [← this]
  constructor
  · rintro (h1 | h1 | h1)
    · exact .inr (.inl h1)
    · exact .inl h1
    · exact .inr (.inr h1)
  · rintro (h1 | h1 | h1)
    · exact .inr (.inl h1)
    · exact .inl h1
    · exact .inr (.inr h1)
theorem nodup_setI {α : Type} {l : List α} (hu : l.Nodup) {i : Nat} {x : α} (h : l[i]? = some x) {z : α} (hz : z ∈ l → z = x) : (l.set i z).Nodup := by
  have e1 := parts h
  obtain ⟨hi, _⟩ := List.getElem?_eq_some_iff.1 h
  rw [List.set_eq_take_append_cons_drop, if_pos hi]
  have hm : ∀ y, y ∈ l.take i ∨ y ∈ l.drop (i + 1) → y ≠ z := by
    rintro y hy rfl
    have hy2 := (mem_erase hu h (y := y)).1 (by rw [List.eraseIdx_eq_take_drop_succ, List.mem_append]; exact hy)
    exact hy2.2 (hz hy2.1)
  generalize hA : l.take i = A at *
  generalize hB : l.drop (i + 1) = B at *
  rw [e1, List.nodup_append] at hu
  obtain ⟨h2, h3, h4⟩ := hu
  rw [List.nodup_cons] at h3
  rw [List.nodup_append]
  refine ⟨h2, List.nodup_cons.2 ⟨fun hb => hm z (.inr hb) rfl, h3.2⟩, fun a ha b hb => ?_⟩
  rcases List.mem_cons.1 hb with rfl | hb
  · exact hm a (.inl ha)
  · exact h4 a ha b (List.mem_cons_of_mem _ hb)
section
variable {ns bl : Int} {n : Nat} {L : Nat → List Bk} {l : List SPg} {LT : Nat → List Hs.Bk}
theorem key_inj {x y : SPg} (h : kS x = kS y) : x.sp = y.sp ∧ x.p.va = y.p.va ∧ x.p.sz = y.p.sz := by
  unfold kS keyP at h; injection h with a b c; exact ⟨a, b, c⟩
theorem HT.uniq (h : HT ns bl n L l LT) {x y : SPg} (hx : x ∈ l) (hy : y ∈ l) (e : kS x = kS y) : x = y := by
  obtain ⟨a, b, c⟩ := key_inj e
  refine h.ap x hx y hy a ?_
  rw [← b, ← c]; exact self_meet (h.val x hx)
/-! ### Map -/
theorem set_ck (L : Nat → List Bk) (c : Nat) (m : List Bk) (LT : Nat → List Hs.Bk) {i : Nat} (h : LT i = (L i).map ck) : Hs.setL LT c (m.map ck) i = (setL L c m i).map ck := by
  unfold Hs.setL setL; split
  · rfl
  · exact h
theorem HT.putE' (h : HT ns bl n L l LT) (k : Ky) : Hs.putE bl n LT k = putE bl n L k := by
  unfold Hs.putE putE; rw [h.chn, has_map, h.lenT]
theorem HT.put (h : HT ns bl n L l LT) {s : Int} {p : Pg} (hs : isB ns s = true) (hp : Val p) (hm : dmeetB l s p = false) (hr : (l.length : Int) < bl) :
    putE bl n L (keyP s p) = 0 ∧ HT ns bl n (putT bl n L (keyP s p) p) (l ++ [⟨s, p⟩]) (Hs.putT bl n LT ⟨s, baseI p.va p.sz, p.sz⟩ 0) := by
  have hsp : 0 ≤ s ∧ s < ns := by unfold isB at hs; simpa using hs
  have hns := h.ns1
  have hno : ∀ x ∈ l, x.sp = s → meetB p.va p.sz x.p.va x.p.sz = false := fun x hx e => by
    cases e2 : meetB p.va p.sz x.p.va x.p.sz
    · rfl
    · rw [meetS_iff.2 ⟨x, hx, e, e2⟩] at hm; cases hm
  have hok : (keyP s p).Ok := by
    refine ⟨?_, hp.w.v0, hp.w.v1⟩
    unfold kmayB startsB keyP
    simp only [Bool.and_eq_true, decide_eq_true_eq]
    exact ⟨⟨hsp.1, by omega⟩, hp.z, hp.a⟩
  have hlen := h.len
  rcases h.inv.put h.n1 hok p (by omega : (lenL L n : Int) < bl) with ⟨hE, hnm, hI, hM, hL⟩ | ⟨_, _, x, hx⟩
  · refine ⟨hE, h.n1, hI, fun k v => ?_, by rw [hL, List.length_append, hlen]; rfl, by rw [List.length_append]; simp; omega, ?_, ?_, hns, ?_, ?_, ?_⟩
    · rw [hM, h.mem]
      constructor
      · rintro (⟨x, hx, e⟩ | ⟨rfl, rfl⟩)
        · exact ⟨x, List.mem_append_left _ hx, e⟩
        · exact ⟨⟨s, v⟩, by simp, rfl, rfl⟩
      · rintro ⟨x, hx, e1, e2⟩
        rcases List.mem_append.1 hx with hx | hx
        · exact .inl ⟨x, hx, e1, e2⟩
        · obtain rfl : x = ⟨s, p⟩ := by simpa using hx
          exact .inr ⟨e1, e2⟩
    · intro x hx
      rcases List.mem_append.1 hx with hx | hx
      · exact h.val x hx
      · obtain rfl : x = ⟨s, p⟩ := by simpa using hx
        exact hp
    · intro x hx
      rcases List.mem_append.1 hx with hx | hx
      · exact h.sp x hx
      · obtain rfl : x = ⟨s, p⟩ := by simpa using hx
        exact hsp
    · intro x hx y hy e hm2
      rcases List.mem_append.1 hx with hx | hx <;> rcases List.mem_append.1 hy with hy | hy
      · exact h.ap x hx y hy e hm2
      · obtain rfl : y = ⟨s, p⟩ := by simpa using hy
        rw [meet_comm] at hm2
        rw [hno x hx e] at hm2; cases hm2
      · obtain rfl : x = ⟨s, p⟩ := by simpa using hx
        rw [hno y hy e.symm] at hm2; cases hm2
      · obtain rfl : x = ⟨s, p⟩ := by simpa using hx
        obtain rfl : y = ⟨s, p⟩ := by simpa using hy
        rfl
    · rw [List.nodup_append]
      refine ⟨h.nd, by simp, fun a ha b hb e => ?_⟩
      obtain rfl : b = ⟨s, p⟩ := by simpa using hb
      subst e
      have := hno _ ha rfl
      rw [self_meet hp] at this; cases this
    · intro i hi
      have ek : (⟨s, baseI p.va p.sz, p.sz⟩ : Ky) = keyP s p := by unfold keyP; rw [hp.base]
      have hE2 : Hs.putE bl n LT (keyP s p) = 0 := by rw [h.putE']; exact hE
      rw [ek]
      unfold Hs.putT putT
      rw [if_pos hE, if_pos hE2, h.chn]
      exact set_ck L _ (⟨keyP s p, p⟩ :: L (chainN (keyP s p) n)) LT (h.ch i hi)
  · exfalso
    obtain ⟨y, hy, e, _⟩ := (h.mem _ _).1 hx
    have e' : kS ⟨s, p⟩ = kS y := e
    obtain ⟨a, b, c⟩ := key_inj e'
    have := hno y hy a.symm
    dsimp only at b c
    rw [← b, ← c, self_meet hp] at this; cases this
theorem erase_map {α β : Type} (f : α → β) (m : List α) (i : Nat) : (m.map f).eraseIdx i = (m.eraseIdx i).map f := by
  rw [List.eraseIdx_eq_take_drop_succ, List.eraseIdx_eq_take_drop_succ, List.map_append, List.map_take, List.map_drop]
/-! ### Unmap -/
theorem HT.cut (h : HT ns bl n L l LT) {i : Nat} {x : SPg} (hi : l[i]? = some x) :
    setE n L (kS x) = 0 ∧ HT ns bl n (cutT n L (kS x)) (l.eraseIdx i) (Hs.cutT n LT ⟨x.sp, baseI x.p.va x.p.sz, x.p.sz⟩) := by
  have hx : x ∈ l := List.mem_of_getElem? hi
  obtain ⟨hil, _⟩ := List.getElem?_eq_some_iff.1 hi
  have hm := (h.mem _ _).2 ⟨x, hx, rfl, rfl⟩
  obtain ⟨hE, hI, hM, hL⟩ := h.inv.cut h.n1 (h.ok hx) hm
  have hle := List.length_eraseIdx_of_lt hil
  have hsub : ∀ y, y ∈ l.eraseIdx i → y ∈ l := fun y hy => List.mem_of_mem_eraseIdx hy
  have hlen := h.len; have hfew := h.few
  refine ⟨hE, h.n1, hI, fun k v => ?_, by omega, by omega, fun y hy => h.val y (hsub y hy), fun y hy => h.sp y (hsub y hy), h.ns1, fun y hy z hz => h.ap y (hsub y hy) z (hsub z hz), h.nd.sublist (List.eraseIdx_sublist ..), ?_⟩
  · rw [hM, h.mem]
    constructor
    · rintro ⟨⟨y, hy, e1, e2⟩, hne⟩
      exact ⟨y, (mem_erase h.nd hi).2 ⟨hy, fun e => hne (by rw [e1, e])⟩, e1, e2⟩
    · rintro ⟨y, hy, e1, e2⟩
      obtain ⟨hy1, hy2⟩ := (mem_erase h.nd hi).1 hy
      exact ⟨⟨y, hy1, e1, e2⟩, fun e => hy2 (h.uniq hy1 hx (by rw [← e1, e]))⟩
  · intro j hj
    have ek : (⟨x.sp, baseI x.p.va x.p.sz, x.p.sz⟩ : Ky) = kS x := by unfold kS keyP; rw [(h.val x hx).base]
    rw [ek]
    unfold Hs.cutT cutT
    rw [h.getB', (h.get hx).1, if_pos rfl, if_pos rfl, h.chn, pos_map, erase_map]
    exact set_ck L _ _ LT (h.ch j hj)
/-! ### A change of a page -/
theorem set_keys {m : List Bk} {k : Ky} (hh : hasB m k = true) (v : Pg) : (m.set (posN m k) ⟨k, v⟩).map Bk.k = m.map Bk.k := by
  rw [List.map_set]
  apply List.ext_getElem? 
  intro j
  rw [List.getElem?_set]
  split
  · rename_i e
    subst e
    have hl := has_lt hh
    have e2 : (m.map Bk.k)[posN m k]? = some k := by rw [List.getElem?_map, at_eq m _ hl]; simp [pos_key hh]
    rw [if_pos (by simpa using hl), e2]
  · rfl
theorem nodup_of_map {α β : Type} {f : α → β} {m : List α} (h : (m.map f).Nodup) : m.Nodup := by
  unfold List.Nodup at *
  rw [List.pairwise_map] at h
  exact h.imp (fun hab e => hab (by rw [e]))
theorem Inv.set (h : Inv n L) (hn : 1 ≤ n) {k : Ky} {v0 : Pg} (hk : k.Ok) (hm : MemT n L k v0) (v : Pg) :
    Inv n (setT n L k v) ∧ (∀ k' v', MemT n (setT n L k v) k' v' ↔ (k' = k ∧ v' = v) ∨ (MemT n L k' v' ∧ k' ≠ k)) := by
  have hb : getB n L k = true := (h.get hn hk hm).1
  have hh := has_yes h hn hm
  have hu := h.un _ (chain_lt k hn)
  have hT : setT n L k v = setL L (chainN k n) ((L (chainN k n)).set (posN (L (chainN k n)) k) ⟨k, v⟩) := by unfold setT; rw [if_pos hb]
  refine ⟨⟨fun i hi b hb2 => ?_, fun i hi => ?_⟩, fun k' v' => ?_⟩
  · rw [hT] at hb2
    by_cases f : i = chainN k n
    · subst f; rw [setL_same] at hb2
      rcases mem_set hb2 with rfl | hb2
      · rfl
      · exact h.pl _ hi b hb2
    · rw [setL_other _ _ f] at hb2; exact h.pl i hi b hb2
  · rw [hT]
    by_cases f : i = chainN k n
    · subst f; rw [setL_same, set_keys hh]; exact hu
    · rw [setL_other _ _ f]; exact h.un i hi
  · rw [hT, setL_mem]
    have hl := has_lt hh
    have hat := at_eq (L (chainN k n)) _ hl
    by_cases f : chainN k' n = chainN k n
    · rw [if_pos f, mem_setI (nodup_of_map hu) hat]
      have hkey := pos_key hh
      constructor
      · rintro (e | ⟨h1, h2⟩)
        · cases e; exact .inl ⟨rfl, rfl⟩
        · refine .inr ⟨by unfold MemT; rw [f]; exact h1, fun e => h2 ?_⟩
          have h3 := at_pos hu h1
          dsimp only at h3
          rw [e] at h3 ⊢
          exact h3.2.symm
      · rintro (⟨rfl, rfl⟩ | ⟨h1, h2⟩)
        · exact .inl rfl
        · refine .inr ⟨by unfold MemT at h1; rwa [f] at h1, fun e => h2 ?_⟩
          rw [← hkey, ← e]
    · rw [if_neg f]
      exact ⟨fun h1 => .inr ⟨h1, fun e => f (by rw [e])⟩, fun h1 => h1.elim (fun e => absurd (by rw [e.1]) f) (fun e => e.1)⟩
theorem HT.set (h : HT ns bl n L l LT) {i : Nat} {x : SPg} (hi : l[i]? = some x) {q : Pg} (hq : Val q) (e1 : q.va = x.p.va) (e2 : q.sz = x.p.sz) :
    setE n L (kS x) = 0 ∧ HT ns bl n (setT n L (kS x) q) (l.set i ⟨x.sp, q⟩) LT := by
  have hx : x ∈ l := List.mem_of_getElem? hi
  have hm := (h.mem _ _).2 ⟨x, hx, rfl, rfl⟩
  obtain ⟨hI, hM⟩ := h.inv.set h.n1 (h.ok hx) hm q
  have hg := (h.get hx).1
  have ek : kS ⟨x.sp, q⟩ = kS x := by unfold kS keyP; rw [e1, e2]
  have hmem : ∀ y, y ∈ l.set i ⟨x.sp, q⟩ ↔ y = ⟨x.sp, q⟩ ∨ (y ∈ l ∧ y ≠ x) := fun y => mem_setI h.nd hi _
  have hlen := h.len
  refine ⟨by unfold setE; rw [if_pos hg], h.n1, hI, fun k v => ?_, by rw [set_len h.n1, List.length_set]; exact hlen, by rw [List.length_set]; exact h.few, ?_, ?_, h.ns1, ?_, ?_, ?_⟩
  · rw [hM, h.mem]
    constructor
    · rintro (⟨rfl, rfl⟩ | ⟨⟨y, hy, a, b⟩, hne⟩)
      · exact ⟨_, (hmem _).2 (.inl rfl), ek.symm, rfl⟩
      · exact ⟨y, (hmem y).2 (.inr ⟨hy, fun e => hne (by rw [a, e])⟩), a, b⟩
    · rintro ⟨y, hy, a, b⟩
      rcases (hmem y).1 hy with rfl | ⟨hy1, hy2⟩
      · exact .inl ⟨by rw [a, ek], b⟩
      · exact .inr ⟨⟨y, hy1, a, b⟩, fun e => hy2 (h.uniq hy1 hx (by rw [← a, e]))⟩
  · intro y hy
    rcases (hmem y).1 hy with rfl | ⟨hy1, _⟩
    · exact hq
    · exact h.val y hy1
  · intro y hy
    rcases (hmem y).1 hy with rfl | ⟨hy1, _⟩
    · exact h.sp x hx
    · exact h.sp y hy1
  · intro y hy z hz e hmt
    rcases (hmem y).1 hy with rfl | ⟨hy1, hy2⟩ <;> rcases (hmem z).1 hz with rfl | ⟨hz1, hz2⟩
    · rfl
    · dsimp only at e hmt
      rw [e1, e2] at hmt
      exact absurd (h.ap x hx z hz1 e hmt).symm hz2
    · dsimp only at e hmt
      rw [e1, e2] at hmt
      exact absurd (h.ap y hy1 x hx e hmt) hy2
    · exact h.ap y hy1 z hz1 e hmt
  · refine nodup_setI h.nd hi (fun hz => ?_)
    exact h.uniq hz hx ek
  · intro j hj
    rw [h.ch j hj]
    unfold setT
    rw [if_pos hg]
    have hh : hasB (L (chainN (kS x) n)) (kS x) = true := by unfold getB at hg; simp only [Bool.and_eq_true] at hg; exact hg.2
    have hck : ∀ m : List Bk, m.map ck = (m.map Bk.k).map (fun k => (⟨k, 0⟩ : Hs.Bk)) := fun m => by rw [List.map_map]; rfl
    by_cases f : j = chainN (kS x) n
    · subst f
      rw [setL_same]
      show (L (chainN (kS x) n)).map ck = (((L (chainN (kS x) n)).set (posN (L (chainN (kS x) n)) (kS x)) ⟨kS x, q⟩)).map ck
      rw [hck, hck, set_keys hh]
    · rw [setL_other _ _ f]
/-! ### Resize -/
theorem HT.res (h : HT ns bl n L l LT) {m : Nat} (hm : 1 ≤ m) : HT ns bl m (resT L n m) l (Hs.resT LT n m) := by
  obtain ⟨hI, hM⟩ := h.inv.res h.n1 m
  refine ⟨hm, hI, fun k v => (hM k v).trans (h.mem k v), by rw [res_len hm]; exact h.len, h.few, h.val, h.sp, h.ns1, h.ap, h.nd, fun i _ => ?_⟩
  unfold Hs.resT resT
  rw [all_map h.ch, List.filter_map]
  rfl
theorem HT.new (ns bl : Int) (n : Nat) (hn : 1 ≤ n) (hb : 0 ≤ bl) (hs : ns ≤ 64) : HT ns bl n (fun _ => []) [] (fun _ => []) where
  n1 := hn
  inv := Inv.nil n
  mem := fun k v => ⟨fun h => absurd h (mem_nil n k v), fun ⟨x, hx, _⟩ => (by cases hx)⟩
  len := by unfold lenL; rw [all_empty (fun _ _ => rfl)]; rfl
  few := by simpa using hb
  val := fun x hx => (by cases hx)
  sp := fun x hx => (by cases hx)
  ns1 := hs
  ap := fun x hx => (by cases hx)
  nd := List.nodup_nil
  ch := fun _ _ => rfl
end
end Go.Proofs.YtffpfceclhogoaaGreat.Hp
namespace Go.Proofs.YtffpfceclhogoaaGreat.Hp
open Fld Hs
open Go.ChangeShapes Go.WideShapes Go.ChangeAt Go.RowKit Go.Maps
set_option maxHeartbeats 2000000
set_option maxRecDepth 100000
theorem spL_set : ∀ (l : List SPg) (j : Nat) (x : Pg), j < l.length → spL (l.set j ⟨(sat l j).sp, x⟩) = (((((((((((spL l).set (j * 12 + 1) (.int .u64 x.va)).set (j * 12 + 2) (.int .i64 x.sz)).set (j * 12 + 3) (.int .u64 x.pa)).set (j * 12 + 4) (.bool x.att.write)).set (j * 12 + 5) (.bool x.att.priv)).set (j * 12 + 6) (.bool x.att.exec)).set (j * 12 + 7) (.bool x.att.lock)).set (j * 12 + 8) (.bool x.att.global)).set (j * 12 + 9) (.bool x.att.quiet)).set (j * 12 + 10) (.bool x.ref)).set (j * 12 + 11) (.bool x.mod)
  | [], j, x, h => absurd h (Nat.not_lt_zero _)
  | b :: l, 0, x, _ => rfl
  | b :: l, j + 1, x, h => by
    rw [sat_cons, List.set_cons_succ]
    have := spL_set l j x (by simpa using h)
    simp only [spL, spC, List.cons_append, List.nil_append, this, show ∀ m, (j + 1) * 12 + m = (j * 12 + m) + 1 + 1 + 1 + 1 + 1 + 1 + 1 + 1 + 1 + 1 + 1 + 1 from fun m => by omega, List.set_cons_succ]
theorem own_sset {w : World} {B : Nat} {v : Value} {l : List SPg} {g : Nat} (h : w.ownsRow B 97 12 v l.length (spL l)) (hg : v.ownBlock = some g) {j : Nat} (hj : j < l.length) (x : Pg) :
    (((((((((((w.setCell ⟨g, j * 12 + 1, none⟩ (.int .u64 x.va)).setCell ⟨g, j * 12 + 2, none⟩ (.int .i64 x.sz)).setCell ⟨g, j * 12 + 3, none⟩ (.int .u64 x.pa)).setCell ⟨g, j * 12 + 4, none⟩ (.bool x.att.write)).setCell ⟨g, j * 12 + 5, none⟩ (.bool x.att.priv)).setCell ⟨g, j * 12 + 6, none⟩ (.bool x.att.exec)).setCell ⟨g, j * 12 + 7, none⟩ (.bool x.att.lock)).setCell ⟨g, j * 12 + 8, none⟩ (.bool x.att.global)).setCell ⟨g, j * 12 + 9, none⟩ (.bool x.att.quiet)).setCell ⟨g, j * 12 + 10, none⟩ (.bool x.ref)).setCell ⟨g, j * 12 + 11, none⟩ (.bool x.mod)).ownsRow B 97 12 v (l.set j ⟨(sat l j).sp, x⟩).length (spL (l.set j ⟨(sat l j).sp, x⟩)) ∧ (∀ k, k ≠ g → (((((((((((w.setCell ⟨g, j * 12 + 1, none⟩ (.int .u64 x.va)).setCell ⟨g, j * 12 + 2, none⟩ (.int .i64 x.sz)).setCell ⟨g, j * 12 + 3, none⟩ (.int .u64 x.pa)).setCell ⟨g, j * 12 + 4, none⟩ (.bool x.att.write)).setCell ⟨g, j * 12 + 5, none⟩ (.bool x.att.priv)).setCell ⟨g, j * 12 + 6, none⟩ (.bool x.att.exec)).setCell ⟨g, j * 12 + 7, none⟩ (.bool x.att.lock)).setCell ⟨g, j * 12 + 8, none⟩ (.bool x.att.global)).setCell ⟨g, j * 12 + 9, none⟩ (.bool x.att.quiet)).setCell ⟨g, j * 12 + 10, none⟩ (.bool x.ref)).setCell ⟨g, j * 12 + 11, none⟩ (.bool x.mod)).heap[k]? = w.heap[k]?) := by
  rcases h.2 with ⟨rfl, _⟩ | ⟨g', cap, cur, rfl, hb, hgg, hnc, hcm, hcs, htake⟩
  · cases hg
  · obtain rfl : g' = g := by simpa [Value.ownBlock] using hg
    have h0 := set_row hgg (j * 12 + 1) (.int .u64 x.va)
    have h1 := set_row h0 (j * 12 + 2) (.int .i64 x.sz)
    have h2 := set_row h1 (j * 12 + 3) (.int .u64 x.pa)
    have h3 := set_row h2 (j * 12 + 4) (.bool x.att.write)
    have h4 := set_row h3 (j * 12 + 5) (.bool x.att.priv)
    have h5 := set_row h4 (j * 12 + 6) (.bool x.att.exec)
    have h6 := set_row h5 (j * 12 + 7) (.bool x.att.lock)
    have h7 := set_row h6 (j * 12 + 8) (.bool x.att.global)
    have h8 := set_row h7 (j * 12 + 9) (.bool x.att.quiet)
    have h9 := set_row h8 (j * 12 + 10) (.bool x.ref)
    have h10 := set_row h9 (j * 12 + 11) (.bool x.mod)
    have hf : ∀ k, k ≠ g' → (((((((((((w.setCell ⟨g', j * 12 + 1, none⟩ (.int .u64 x.va)).setCell ⟨g', j * 12 + 2, none⟩ (.int .i64 x.sz)).setCell ⟨g', j * 12 + 3, none⟩ (.int .u64 x.pa)).setCell ⟨g', j * 12 + 4, none⟩ (.bool x.att.write)).setCell ⟨g', j * 12 + 5, none⟩ (.bool x.att.priv)).setCell ⟨g', j * 12 + 6, none⟩ (.bool x.att.exec)).setCell ⟨g', j * 12 + 7, none⟩ (.bool x.att.lock)).setCell ⟨g', j * 12 + 8, none⟩ (.bool x.att.global)).setCell ⟨g', j * 12 + 9, none⟩ (.bool x.att.quiet)).setCell ⟨g', j * 12 + 10, none⟩ (.bool x.ref)).setCell ⟨g', j * 12 + 11, none⟩ (.bool x.mod)).heap[k]? = w.heap[k]? := fun k hk => by
      rw [Below.heap_setCell _ _ _ _ hk, Below.heap_setCell _ _ _ _ hk, Below.heap_setCell _ _ _ _ hk, Below.heap_setCell _ _ _ _ hk, Below.heap_setCell _ _ _ _ hk, Below.heap_setCell _ _ _ _ hk, Below.heap_setCell _ _ _ _ hk, Below.heap_setCell _ _ _ _ hk, Below.heap_setCell _ _ _ _ hk, Below.heap_setCell _ _ _ _ hk, Below.heap_setCell _ _ _ _ hk]
    have htk : (((((((((((cur.setIfInBounds (j * 12 + 1) (.int .u64 x.va)).setIfInBounds (j * 12 + 2) (.int .i64 x.sz)).setIfInBounds (j * 12 + 3) (.int .u64 x.pa)).setIfInBounds (j * 12 + 4) (.bool x.att.write)).setIfInBounds (j * 12 + 5) (.bool x.att.priv)).setIfInBounds (j * 12 + 6) (.bool x.att.exec)).setIfInBounds (j * 12 + 7) (.bool x.att.lock)).setIfInBounds (j * 12 + 8) (.bool x.att.global)).setIfInBounds (j * 12 + 9) (.bool x.att.quiet)).setIfInBounds (j * 12 + 10) (.bool x.ref)).setIfInBounds (j * 12 + 11) (.bool x.mod)).toList.take (l.length * 12) = spL (l.set j ⟨(sat l j).sp, x⟩) := by
      rw [spL_set l j x hj, ← htake]
      simp only [Array.toList_setIfInBounds, List.take_set]
    have hsz : (((((((((((cur.setIfInBounds (j * 12 + 1) (.int .u64 x.va)).setIfInBounds (j * 12 + 2) (.int .i64 x.sz)).setIfInBounds (j * 12 + 3) (.int .u64 x.pa)).setIfInBounds (j * 12 + 4) (.bool x.att.write)).setIfInBounds (j * 12 + 5) (.bool x.att.priv)).setIfInBounds (j * 12 + 6) (.bool x.att.exec)).setIfInBounds (j * 12 + 7) (.bool x.att.lock)).setIfInBounds (j * 12 + 8) (.bool x.att.global)).setIfInBounds (j * 12 + 9) (.bool x.att.quiet)).setIfInBounds (j * 12 + 10) (.bool x.ref)).setIfInBounds (j * 12 + 11) (.bool x.mod)).size = cap * 12 := by simp only [Array.size_setIfInBounds]; exact hcs
    clear h0 h1 h2 h3 h4 h5 h6 h7 h8 h9
    generalize (((((((((((w.setCell ⟨g', j * 12 + 1, none⟩ (.int .u64 x.va)).setCell ⟨g', j * 12 + 2, none⟩ (.int .i64 x.sz)).setCell ⟨g', j * 12 + 3, none⟩ (.int .u64 x.pa)).setCell ⟨g', j * 12 + 4, none⟩ (.bool x.att.write)).setCell ⟨g', j * 12 + 5, none⟩ (.bool x.att.priv)).setCell ⟨g', j * 12 + 6, none⟩ (.bool x.att.exec)).setCell ⟨g', j * 12 + 7, none⟩ (.bool x.att.lock)).setCell ⟨g', j * 12 + 8, none⟩ (.bool x.att.global)).setCell ⟨g', j * 12 + 9, none⟩ (.bool x.att.quiet)).setCell ⟨g', j * 12 + 10, none⟩ (.bool x.ref)).setCell ⟨g', j * 12 + 11, none⟩ (.bool x.mod)) = W at *
    generalize (((((((((((cur.setIfInBounds (j * 12 + 1) (.int .u64 x.va)).setIfInBounds (j * 12 + 2) (.int .i64 x.sz)).setIfInBounds (j * 12 + 3) (.int .u64 x.pa)).setIfInBounds (j * 12 + 4) (.bool x.att.write)).setIfInBounds (j * 12 + 5) (.bool x.att.priv)).setIfInBounds (j * 12 + 6) (.bool x.att.exec)).setIfInBounds (j * 12 + 7) (.bool x.att.lock)).setIfInBounds (j * 12 + 8) (.bool x.att.global)).setIfInBounds (j * 12 + 9) (.bool x.att.quiet)).setIfInBounds (j * 12 + 10) (.bool x.ref)).setIfInBounds (j * 12 + 11) (.bool x.mod)) = C at *
    exact ⟨⟨by rw [spL_length], .inr ⟨g', cap, C, by rw [List.length_set], hb, h10, by rw [List.length_set]; exact hnc, hcm, hsz, by rw [List.length_set]; exact htk⟩⟩, hf⟩
section
variable {v : Value} {l : List SPg} {t : Value} {n : Nat} {LT : Nat → List Hs.Bk} {U : Nat → Value}
theorem dset_any (ns bl s va : Int) (v0 : 0 ≤ va) (v1 : va ≤ 18446744073709551615) (p : Pg) (hpw : p.wf) (hp : posS l s va < l.length) (w : World) (h : DH w v l t n LT U) :
    Calls Tryz.prog 77 #[.agg #[.int .i64 ns, v, .int .i64 bl, t], .int .i64 s, .int .u64 va, .agg #[.int .u64 p.va, .int .i64 p.sz, .int .u64 p.pa, .bool p.att.write, .bool p.att.priv, .bool p.att.exec, .bool p.att.lock, .bool p.att.global, .bool p.att.quiet, .bool p.ref, .bool p.mod]] w fun e w' => ∃ v', e = .returned (.agg #[.int .i64 ns, v', .int .i64 bl, t]) ∧ DH w' v' (l.set (posS l s va) ⟨(sat l (posS l s va)).sp, p⟩) t n LT U ∧ Below w.heap.size w w' := by
  obtain ⟨⟨ao, cap, rfl⟩, g2, cap2, rfl⟩ := h.shape
  have hl := h.few
  have hwf0 := h.wf
  have G := DG.new h ns bl p
  have NZ : Below ((w.alloc (.cells #[.int .i64 ns, .slice ao l.length cap, .int .i64 bl, .slice (some ⟨g2, 0, none⟩) n cap2] 30)).alloc (.cells #[.int .u64 p.va, .int .i64 p.sz, .int .u64 p.pa, .bool p.att.write, .bool p.att.priv, .bool p.att.exec, .bool p.att.lock, .bool p.att.global, .bool p.att.quiet, .bool p.ref, .bool p.mod] 38)).heap.size ((w.alloc (.cells #[.int .i64 ns, .slice ao l.length cap, .int .i64 bl, .slice (some ⟨g2, 0, none⟩) n cap2] 30)).alloc (.cells #[.int .u64 p.va, .int .i64 p.sz, .int .u64 p.pa, .bool p.att.write, .bool p.att.priv, .bool p.att.exec, .bool p.att.lock, .bool p.att.global, .bool p.att.quiet, .bool p.ref, .bool p.mod] 38)) (((w.alloc (.cells #[.int .i64 ns, .slice ao l.length cap, .int .i64 bl, .slice (some ⟨g2, 0, none⟩) n cap2] 30)).alloc (.cells #[.int .u64 p.va, .int .i64 p.sz, .int .u64 p.pa, .bool p.att.write, .bool p.att.priv, .bool p.att.exec, .bool p.att.lock, .bool p.att.global, .bool p.att.quiet, .bool p.ref, .bool p.mod] 38)).alloc (.cells #[.int .i64 0, .slice none 0 0, .int .i64 0, .slice none 0 0] 30)) := (Below.refl _ _).alloc (Nat.le_refl _) _
  have R := heap_alloc_new ((w.alloc (.cells #[.int .i64 ns, .slice ao l.length cap, .int .i64 bl, .slice (some ⟨g2, 0, none⟩) n cap2] 30)).alloc (.cells #[.int .u64 p.va, .int .i64 p.sz, .int .u64 p.pa, .bool p.att.write, .bool p.att.priv, .bool p.att.exec, .bool p.att.lock, .bool p.att.global, .bool p.att.quiet, .bool p.ref, .bool p.mod] 38)) (.cells #[.int .i64 0, .slice none 0 0, .int .i64 0, .slice none 0 0] 30)
  rw [World.size_alloc, World.size_alloc] at R
  have G0 := G.low NZ
  have C1 := Lib.hid (fun (W : World) (h : DG w W w.heap.size (w.heap.size + 1) ns bl (.slice ao l.length cap) l (.slice (some ⟨g2, 0, none⟩) n cap2) n LT U p) => dat_any ns bl s va v0 v1 W h.dx.dh)
  have hA : atI l s va = (posS l s va : Int) := by unfold atI; rw [if_pos hp]
  rw [hA] at C1
  generalize posS l s va = j at *
  clear h G NZ hA
  go_enter Tryz.func77, Tryz.ntmps77
  go_wp2_with fail
  generalize World.alloc (World.alloc (World.alloc w _) _) _ = W0 at *
  refine (C1.out _ G0).mono ?_; rintro e w1 ⟨rfl, hb1⟩
  have G1 := G0.low hb1
  have R1 := blk_low R hb1
  clear G0 R hb1 C1
  obtain ⟨v3, W2, hrun, ho3, hg3, hf3⟩ := s_append 25 w1 w1.heap.size (.slice none 0 0) ao cap [] l (World.ownsRow_nil _ _ _ 12) G1.dx.dh.own (Nat.le_refl _) (by simp; omega)
  rw [List.nil_append] at ho3
  have b12 : Below w1.heap.size w1 W2 := ⟨hg3.os, hg3.tape, hg3.output, hg3.size, fun q hq => hg3.block q hq (by simp [Value.ownBlock])⟩
  rcases own_form ho3 with ⟨_, h0⟩ | ⟨g3, cap3, rfl, hg3b, hnc3, hcm3⟩
  · omega
  have hq3 := (ho3.lt g3 hg3b).1
  obtain ⟨ho4, hf4⟩ := own_sset ho3 hg3b hp p
  have hfz : ∀ i, W2.frozen? ⟨g3, i, none⟩ = false := fun i => own_frozen ho3 hg3b i
  obtain ⟨u0, u1, u2, u3, u4, u5, u6, u7, u8, u9, u10, u11⟩ := own_sp (own_base ho3) hg3b hp
  unfold maxLen at hcm3
  have b14 : Below w1.heap.size w1 (((((((((((W2.setCell ⟨g3, j * 12 + 1, none⟩ (.int .u64 p.va)).setCell ⟨g3, j * 12 + 2, none⟩ (.int .i64 p.sz)).setCell ⟨g3, j * 12 + 3, none⟩ (.int .u64 p.pa)).setCell ⟨g3, j * 12 + 4, none⟩ (.bool p.att.write)).setCell ⟨g3, j * 12 + 5, none⟩ (.bool p.att.priv)).setCell ⟨g3, j * 12 + 6, none⟩ (.bool p.att.exec)).setCell ⟨g3, j * 12 + 7, none⟩ (.bool p.att.lock)).setCell ⟨g3, j * 12 + 8, none⟩ (.bool p.att.global)).setCell ⟨g3, j * 12 + 9, none⟩ (.bool p.att.quiet)).setCell ⟨g3, j * 12 + 10, none⟩ (.bool p.ref)).setCell ⟨g3, j * 12 + 11, none⟩ (.bool p.mod)) := (((((((((((b12.setCell (by exact hq3) _).setCell (by exact hq3) _).setCell (by exact hq3) _).setCell (by exact hq3) _).setCell (by exact hq3) _).setCell (by exact hq3) _).setCell (by exact hq3) _).setCell (by exact hq3) _).setCell (by exact hq3) _).setCell (by exact hq3) _).setCell (by exact hq3) _)
  obtain ⟨D5, k5, c5, f5⟩ := G1.dx.put1 (Nat.le_refl _) b14 (own_base ho4) (by simp; exact hl) (fun x hx => by
    rcases mem_set hx with rfl | hx
    · exact ⟨(hwf0 _ (sat_mem hp)).s0, (hwf0 _ (sat_mem hp)).s1, hpw⟩
    · exact hwf0 x hx)
  have R5 := (k5 _ (by omega)).trans (blk_low R1 b14)
  have hfl := Lib.hid (fill_H (ns := ns) (bl := bl) D5.dh D5.lo (by omega : w.heap.size ≤ w.heap.size + 1 + 1) R5 rfl)
  obtain ⟨x0, x1, x2, x3⟩ := G1.dx.cs
  obtain ⟨z0', z1', z2', z3'⟩ := D5.cs
  obtain ⟨y0, y1, y2, y3, y4, y5, y6, y7, y8, y9, y10⟩ := (G1.pg.low b12).cells
  obtain ⟨r0, r1, r2, r3, rf⟩ := four_H R5
  have hjl : (j : Int) < (l.length : Int) := by omega
  have hj0 : (0 : Int) ≤ (j : Int) := by omega
  have hrunW : ∀ W, W = w1 → (Builtin.append_ #[25, 25] 25 #[.slice none 0 0, .slice ao l.length cap]).run Tryz.prog W = .ok (.slice (some ⟨g3, 0, none⟩) l.length cap3) W2 := fun W e => by rw [e]; exact hrun
  have hlen5 : (l.set j ⟨(sat l j).sp, p⟩).length = l.length := List.length_set
  clear G1 R1 ho3 hg3 hf3 hf4 ho4 b12 b14 D5 k5 R5 hrun
  go_wp2_with (first
    | (at_builtin; refine Lib.wpList_append_run _ rfl _ _ 25 25 rfl _ _ rfl rfl _ _ (hrunW _ rfl) ?_))
  refine bodyPost_ret (results_cell_row rfl _ _ _ _ _ (0, 0) _ rfl hfl.out.1 Tryz.underlying30 (by kernel_rfl) (by kernel_rfl)) rfl ?_
  exact ⟨_, rfl, hfl.out.2.1, hfl.out.2.2⟩
end
end Go.Proofs.YtffpfceclhogoaaGreat.Hp
namespace Go.Proofs.YtffpfceclhogoaaGreat.Hp
open Fld Hs
set_option maxRecDepth 10000
section
variable {ns bl : Int} {n : Nat} {L : Nat → List Bk} {l : List SPg} {LT : Nat → List Hs.Bk}
theorem HT.map (h : HT ns bl n L l LT) (s : Int) {p : Pg} (hw : p.wf) : mapE ns bl n L s p = dmayE ns bl l s p ∧ HT ns bl n (mapT ns bl n L s p) (dmapL ns bl l s p) (dmapT ns bl l n LT s p) := by
  unfold mapE mapT dmapL dmapT
  rw [h.mayE s p hw]
  by_cases e : dmayE ns bl l s p = 0
  · rw [if_pos e, if_pos e, if_pos e, if_pos e]
    obtain ⟨h1, h2, h3, h4, _⟩ := may_zero hw e
    obtain ⟨a, b⟩ := h.put h1 h2 h3 h4
    exact ⟨by rw [a, e], b⟩
  · rw [if_neg e, if_neg e, if_neg e, if_neg e]
    exact ⟨rfl, h⟩
theorem why_parts {s va : Int} (h : whyE ns l s va = 0) : isB ns s = true ∧ posS l s va < l.length := by
  refine ⟨?_, why_pos h⟩
  unfold whyE at h
  split at h
  · cases h
  · rename_i e; simpa using e
theorem HT.gotV (h : HT ns bl n L l LT) {s va : Int} (e : whyE ns l s va = 0) : Hp.findV ns n L s va = (sat l (posS l s va)).p ∧ (sat l (posS l s va)).sp = s := by
  obtain ⟨h1, h2⟩ := why_parts e
  have hy := first_yes _ _ h2
  refine ⟨?_, (isAt_iff.1 hy).1⟩
  rw [h.findV]; unfold dfV dfB; rw [h1, decide_eq_true h2]; rfl
theorem HT.notV (h : HT ns bl n L l LT) {s va : Int} (e : whyE ns l s va ≠ 0) : Hp.findV ns n L s va = Pg.zero := by
  rw [h.findV]; unfold dfV
  rw [if_neg]
  intro hb
  unfold dfB at hb
  simp only [Bool.and_eq_true, decide_eq_true_eq] at hb
  apply e
  unfold whyE
  rw [hb.1, if_neg (by simp), if_neg (fun hn => at_neg.1 hn hb.2)]
theorem HT.dunV (h : HT ns bl n L l LT) (s va : Int) : Hp.findV ns n L s va = dunV ns l s va := by
  unfold Hp.dunV
  by_cases e : whyE ns l s va = 0
  · rw [if_pos e]; exact (h.gotV e).1
  · rw [if_neg e]; exact h.notV e
theorem zero_wf : Pg.zero.wf := ⟨by decide, by decide, by decide, by decide, by decide, by decide⟩
theorem HT.wfV (h : HT ns bl n L l LT) (s va : Int) : (Hp.findV ns n L s va).wf := by
  by_cases e : whyE ns l s va = 0
  · rw [(h.gotV e).1]
    exact (h.val _ (sat_mem (why_parts e).2)).w
  · rw [h.notV e]; exact zero_wf
theorem HT.unmap (h : HT ns bl n L l LT) (s va : Int) : unmE ns n L s va = whyE ns l s va ∧ HT ns bl n (unmT ns n L s va) (dunL ns l s va) (dunT ns l n LT s va) := by
  unfold unmE unmT dunL dunT
  rw [h.atE]
  by_cases e : whyE ns l s va = 0
  · rw [if_pos e, if_pos e, if_pos e, if_pos e]
    obtain ⟨h1, h2⟩ := h.gotV e
    have hi := sat_eq l _ (why_parts e).2
    obtain ⟨a, b⟩ := h.cut hi
    have ek : keyP s (Hp.findV ns n L s va) = kS (sat l (posS l s va)) := by unfold kS; rw [h1, h2]
    rw [ek]
    rw [h2] at b
    exact ⟨by rw [a, e], b⟩
  · rw [if_neg e, if_neg e, if_neg e, if_neg e]
    exact ⟨rfl, h⟩
def chL (ns : Int) (l : List SPg) (s va : Int) (f : Pg → Pg) : List SPg := if whyE ns l s va = 0 then l.set (posS l s va) ⟨s, f (sat l (posS l s va)).p⟩ else l
theorem HT.change (h : HT ns bl n L l LT) (s va : Int) (f : Pg → Pg) (hf : ∀ q, Val q → Val (f q) ∧ (f q).va = q.va ∧ (f q).sz = q.sz) : chE ns n L s va = whyE ns l s va ∧ HT ns bl n (chT ns n L s va f) (chL ns l s va f) LT := by
  unfold chE chT chL
  rw [h.atE]
  by_cases e : whyE ns l s va = 0
  · rw [if_pos e, if_pos e, if_pos e]
    obtain ⟨h1, h2⟩ := h.gotV e
    have hi := sat_eq l _ (why_parts e).2
    obtain ⟨a1, a2, a3⟩ := hf _ (h.val _ (sat_mem (why_parts e).2))
    obtain ⟨a, b⟩ := h.set hi a1 a2 a3
    have ek : keyP s (Hp.findV ns n L s va) = kS (sat l (posS l s va)) := by unfold kS; rw [h1, h2]
    rw [ek, h1]
    rw [h2] at b
    exact ⟨by rw [a, e], b⟩
  · rw [if_neg e, if_neg e, if_neg e]
    exact ⟨rfl, h⟩
/-! ### Pages -/
theorem sorted_one {a b : List Pg} (ha : a.Pairwise (fun x y => x.va < y.va)) (hb : b.Pairwise (fun x y => x.va < y.va)) (hm : ∀ x, x ∈ a ↔ x ∈ b) : a = b := by
  induction a generalizing b with
  | nil =>
    cases b with
    | nil => rfl
    | cons y b => have := (hm y).2 List.mem_cons_self; cases this
  | cons x a ih =>
    cases b with
    | nil => have := (hm x).1 List.mem_cons_self; cases this
    | cons y b =>
      rw [List.pairwise_cons] at ha hb
      have exy : x = y := by
        rcases List.mem_cons.1 ((hm x).1 List.mem_cons_self) with e | h1
        · exact e
        · rcases List.mem_cons.1 ((hm y).2 List.mem_cons_self) with e | h2
          · exact e.symm
          · have := hb.1 x h1; have := ha.1 y h2; omega
      subst exy
      rw [ih ha.2 hb.2 (fun z => ?_)]
      have := hm z
      rw [List.mem_cons, List.mem_cons] at this
      constructor
      · intro hz
        rcases this.1 (.inr hz) with e | h1
        · have := ha.1 z hz; rw [e] at this; omega
        · exact h1
      · intro hz
        rcases this.2 (.inr hz) with e | h1
        · have := hb.1 z hz; rw [e] at this; omega
        · exact h1
theorem HT.all_mem (h : HT ns bl n L l LT) {b : Bk} : b ∈ allL L n ↔ ∃ x ∈ l, b.k = kS x ∧ b.v = x.p := by
  rw [← h.mem, mem_all]
  constructor
  · rintro ⟨i, hi, hb⟩
    unfold MemT; rw [h.inv.pl i hi b hb]; exact hb
  · intro hb
    exact ⟨_, chain_lt b.k h.n1, hb⟩
theorem HT.filt_mem (h : HT ns bl n L l LT) {s : Int} {q : Pg} : q ∈ filtP s (allL L n) ↔ ∃ x ∈ l, x.sp = s ∧ x.p = q := by
  unfold filtP
  rw [List.mem_map]
  constructor
  · rintro ⟨b, hb, rfl⟩
    obtain ⟨hb, hs⟩ := List.mem_filter.1 hb
    obtain ⟨x, hx, e1, e2⟩ := h.all_mem.1 hb
    exact ⟨x, hx, by rw [e1] at hs; simpa [kS, keyP] using hs, e2.symm⟩
  · rintro ⟨x, hx, e, rfl⟩
    exact ⟨⟨kS x, x.p⟩, List.mem_filter.2 ⟨h.all_mem.2 ⟨x, hx, rfl, rfl⟩, by simpa [kS, keyP] using e⟩, rfl⟩
theorem HT.va_one (h : HT ns bl n L l LT) {x y : SPg} (hx : x ∈ l) (hy : y ∈ l) (hs : x.sp = y.sp) (e : x.p.va = y.p.va) : x = y := by
  refine h.ap x hx y hy hs ?_
  rw [(meet_ways (h.val x hx) (h.val y hy))]
  have := (h.val y hy).base
  rw [e]; exact .inl this
theorem HT.filt_va (h : HT ns bl n L l LT) (s : Int) : (filtP s (allL L n)).Pairwise (fun a b => a.va ≠ b.va) := by
  have hn := all_nodup h.inv n (Nat.le_refl _)
  unfold List.Nodup at hn
  rw [List.pairwise_map] at hn
  unfold filtP
  rw [List.pairwise_map]
  have h2 := hn.filter (fun b => b.k.sp == s)
  refine h2.imp_of_mem (fun {a b} ha hb hab e => hab ?_)
  obtain ⟨ha, has⟩ := List.mem_filter.1 ha
  obtain ⟨hb, hbs⟩ := List.mem_filter.1 hb
  obtain ⟨x, hx, a1, a2⟩ := h.all_mem.1 ha
  obtain ⟨y, hy, b1, b2⟩ := h.all_mem.1 hb
  have hsx : x.sp = s := by rw [a1] at has; simpa [kS, keyP] using has
  have hsy : y.sp = s := by rw [b1] at hbs; simpa [kS, keyP] using hbs
  have := h.va_one hx hy (by rw [hsx, hsy]) (by rw [← a2, ← b2]; exact e)
  rw [a1, b1, this]
theorem HT.ps_sorted (h : HT ns bl n L l LT) {s : Int} {ps : List Pg} (hp : ps.Perm (filtP s (allL L n))) (hs : ps.Pairwise (fun a b => a.va ≤ b.va)) : ps.Pairwise (fun a b => a.va < b.va) := by
  have h1 : ps.Pairwise (fun a b => a.va ≠ b.va) := (hp.pairwise_iff (fun {_ _} hne => Ne.symm hne)).2 (h.filt_va s)
  exact (hs.and h1).imp (fun ⟨a, b⟩ => by omega)
/-- Where a page is laid: behind those that are less, ahead of those that are more. -/
theorem kdn_spec {out : List Pg} (hs : out.Pairwise (fun a b => a.va < b.va)) (va : Int) : ∀ k, k ≤ out.length → (∀ i, kdn out va k ≤ i → i < k → va < (pat out i).va) ∧ (kdn out va k = 0 ∨ (pat out (kdn out va k - 1)).va ≤ va)
  | 0, _ => ⟨fun i _ h => absurd h (Nat.not_lt_zero _), .inl rfl⟩
  | k + 1, hk => by
    have ih := kdn_spec hs va k (by omega)
    unfold kdn
    split
    · rename_i hlt
      refine ⟨fun i h1 h2 => ?_, ih.2⟩
      by_cases e : i = k
      · rw [e]; exact hlt
      · exact ih.1 i h1 (by omega)
    · rename_i hge
      exact ⟨fun i h1 h2 => by omega, .inr (by simpa using (by omega : (pat out k).va ≤ va))⟩
theorem pat_get {out : List Pg} {i : Nat} (h : i < out.length) : out[i]? = some (pat out i) := by simp [pat, h]
theorem pat_lt {out : List Pg} (hs : out.Pairwise (fun a b => a.va < b.va)) {i j : Nat} (hij : i < j) (hj : j < out.length) : (pat out i).va < (pat out j).va := by
  have := List.pairwise_iff_getElem.1 hs i j (by omega) hj hij
  have e1 : out[i]'(by omega) = pat out i := by simp [pat, Nat.lt_trans hij hj]
  have e2 : out[j] = pat out j := by simp [pat, hj]
  rwa [e1, e2] at this
theorem insP_sorted {out : List Pg} (hs : out.Pairwise (fun a b => a.va < b.va)) {p : Pg} (hne : ∀ x ∈ out, x.va ≠ p.va) : (insP out p).Pairwise (fun a b => a.va < b.va) := by
  obtain ⟨h1, h2⟩ := kdn_spec hs p.va out.length (Nat.le_refl _)
  have hle := kdn_le out p.va out.length
  unfold insP
  generalize kdn out p.va out.length = k at *
  have hlow : ∀ x ∈ out.take k, x.va < p.va := fun x hx => by
    obtain ⟨i, hi, e⟩ := List.getElem_of_mem hx
    have hik : i < k := by rw [List.length_take] at hi; omega
    have hx2 : x = pat out i := by rw [← e, List.getElem_take]; simp [pat, (by omega : i < out.length)]
    have hxo := List.mem_of_mem_take hx
    have := hne x hxo
    rcases h2 with h2 | h2
    · omega
    · by_cases e3 : i = k - 1
      · rw [← e3, ← hx2] at h2; omega
      · have := pat_lt hs (show i < k - 1 by omega) (by omega)
        rw [← hx2] at this; omega
  have hhigh : ∀ x ∈ out.drop k, p.va < x.va := fun x hx => by
    obtain ⟨i, hi, e⟩ := List.getElem_of_mem hx
    rw [List.length_drop] at hi
    have hx2 : x = pat out (k + i) := by rw [← e, List.getElem_drop]; simp [pat, (by omega : k + i < out.length)]
    rw [hx2]; exact h1 _ (by omega) (by omega)
  rw [List.append_assoc, List.pairwise_append]
  refine ⟨hs.sublist (List.take_sublist ..), ?_, fun a ha b hb => ?_⟩
  · rw [List.singleton_append, List.pairwise_cons]
    exact ⟨hhigh, hs.sublist (List.drop_sublist ..)⟩
  · rcases List.mem_append.1 hb with hb | hb
    · obtain rfl : b = p := by simpa using hb
      exact hlow a ha
    · have := hlow a ha; have := hhigh b hb; omega
theorem insP_in {out : List Pg} {p x : Pg} (h : x ∈ out ∨ x = p) : x ∈ insP out p := by
  unfold insP
  rw [List.mem_append, List.mem_append]
  rcases h with h | rfl
  · rw [← List.take_append_drop (kdn out p.va out.length) out, List.mem_append] at h
    rcases h with h | h
    · exact .inl (.inl h)
    · exact .inr h
  · exact .inl (.inr (by simp))
theorem HT.dp (h : HT ns bl n L l LT) (s : Int) : ∀ j, j ≤ l.length → (dpgs (l.take j) s).Pairwise (fun a b => a.va < b.va) ∧ ∀ q, q ∈ dpgs (l.take j) s ↔ ∃ i, i < j ∧ (sat l i).sp = s ∧ (sat l i).p = q
  | 0, _ => ⟨by simp [dpgs], fun q => ⟨fun hq => by simp [dpgs] at hq, fun ⟨i, hi, _⟩ => absurd hi (Nat.not_lt_zero _)⟩⟩
  | j + 1, hj => by
    obtain ⟨h1, h2⟩ := h.dp s j (by omega)
    rw [dpgs_succ (by omega)]
    unfold stpP
    split
    · rename_i e
      refine ⟨insP_sorted h1 (fun x hx ev => ?_), fun q => ⟨fun hq => ?_, ?_⟩⟩
      · obtain ⟨i, hi, es, ep⟩ := (h2 x).1 hx
        have hij := h.va_one (sat_mem (by omega : i < l.length)) (sat_mem (by omega : j < l.length)) (by rw [es, e]) (by rw [ep]; exact ev)
        have g1 := sat_eq l i (by omega); have g2 := sat_eq l j (by omega)
        rw [hij, ← g2] at g1
        have := (List.getElem?_inj (by omega) h.nd).1 g1
        omega
      · rcases insP_mem hq with hq | rfl
        · obtain ⟨i, hi, e2⟩ := (h2 q).1 hq
          exact ⟨i, by omega, e2⟩
        · exact ⟨j, by omega, e, rfl⟩
      · rintro ⟨i, hi, es, ep⟩
        by_cases eij : i = j
        · subst eij; exact insP_in (.inr ep.symm)
        · exact insP_in (.inl ((h2 q).2 ⟨i, by omega, es, ep⟩))
    · rename_i e
      refine ⟨h1, fun q => (h2 q).trans ⟨fun ⟨i, hi, e2⟩ => ⟨i, by omega, e2⟩, fun ⟨i, hi, es, ep⟩ => ⟨i, ?_, es, ep⟩⟩⟩
      by_cases eij : i = j
      · subst eij; exact absurd es e
      · omega
theorem HT.dpgs_sorted (h : HT ns bl n L l LT) (s : Int) : (dpgs l s).Pairwise (fun a b => a.va < b.va) := by
  have := (h.dp s l.length (Nat.le_refl _)).1
  rwa [List.take_length] at this
theorem HT.dpgs_mem (h : HT ns bl n L l LT) {s : Int} {q : Pg} : q ∈ dpgs l s ↔ ∃ x ∈ l, x.sp = s ∧ x.p = q := by
  have := (h.dp s l.length (Nat.le_refl _)).2 q
  rw [List.take_length] at this
  rw [this]
  constructor
  · rintro ⟨i, hi, a, b⟩; exact ⟨_, sat_mem hi, a, b⟩
  · rintro ⟨x, hx, a, b⟩
    obtain ⟨i, hi, e⟩ := List.getElem_of_mem hx
    have es : sat l i = x := by simp [sat, hi, e]
    exact ⟨i, hi, by rw [es]; exact a, by rw [es]; exact b⟩
theorem HT.pages (h : HT ns bl n L l LT) {s : Int} {ps : List Pg} (hp : ps.Perm (filtP s (allL L n))) (hs : ps.Pairwise (fun a b => a.va ≤ b.va)) : ps = dpgs l s :=
  sorted_one (h.ps_sorted hp hs) (h.dpgs_sorted s) (fun x => by rw [hp.mem_iff, h.filt_mem, h.dpgs_mem])
/-! ### Destroy -/
theorem HT.cuts (s : Int) (hs : isB ns s = true) : ∀ (P : List Pg) {L : Nat → List Bk} {l : List SPg} {LT : Nat → List Hs.Bk}, HT ns bl n L l LT → P.Pairwise (fun a b => a.va < b.va) → (∀ p ∈ P, (⟨s, p⟩ : SPg) ∈ l) → HT ns bl n (cutsT n L s P) (ddS ns n s P (l, LT)).1 (ddS ns n s P (l, LT)).2
  | [], _, _, _, h, _, _ => h
  | p :: P, L, l, LT, h, hp, hm => by
    rw [List.pairwise_cons] at hp
    have hx := hm p List.mem_cons_self
    have hv := h.val _ hx
    have hi : isAt s p.va ⟨s, p⟩ = true := isAt_iff.2 ⟨rfl, hv.base⟩
    have hpos := pos_iff.2 ⟨_, hx, hi⟩
    have hat := h.at hx hi
    have hw : whyE ns l s p.va = 0 := by
      unfold whyE; rw [hs, if_neg (by simp), if_neg (fun hn => at_neg.1 hn hpos)]
    have hu := (h.unmap s p.va).2
    have eT : unmT ns n L s p.va = cutT n L (keyP s p) := by
      unfold unmT; rw [h.atE, if_pos hw, (h.gotV hw).1, hat]
    rw [eT] at hu
    have hl : ∀ q ∈ P, (⟨s, q⟩ : SPg) ∈ dunL ns l s p.va := fun q hq => by
      unfold dunL; rw [if_pos hw]
      refine (mem_erase h.nd (sat_eq l _ hpos)).2 ⟨hm q (List.mem_cons_of_mem _ hq), fun e => ?_⟩
      rw [hat] at e
      injection e with _ e
      have := hp.1 q hq
      rw [e] at this; omega
    exact HT.cuts s hs P hu hp.2 hl
theorem HT.destroy (h : HT ns bl n L l LT) {s : Int} (hs : isB ns s = true) : HT ns bl n (cutsT n L s (dpgs l s)) (ddR ns n l LT s).1 (ddR ns n l LT s).2 := by
  unfold ddR; rw [if_pos hs]
  refine HT.cuts s hs _ h (h.dpgs_sorted s) (fun p hp => ?_)
  obtain ⟨x, hx, rfl, rfl⟩ := h.dpgs_mem.1 hp
  exact hx
end
end Go.Proofs.YtffpfceclhogoaaGreat.Hp
