/-
  YtbhpljjogmagoaaGD: the contracts and plain facts of several texts, laid together. Conditions: those that each theorem names.
-/
import Derived.Test.YtbhpljjogmagoaaTteB
import Derived.Test.YtbhpljjogmagoaaTHits
import Derived.Test.YtbhpljjogmagoaaPList
import Derived.Lib.MinMax
import Derived.Lib.JoinLaws
import Derived.Deep.OwnRows
import Derived.RegionTactic
import Derived.ChangeAlike
import Derived.Laws.ResultCell
import Derived.BigQuiet
import Derived.Deep.RegionHeld3
import Derived.Deep.DeepCutAuto
import Derived.Shelf.Abstract
import Derived.Maps.AppendAt
/-
  A few entries at places, as a function of the place: what is counted, what goes, the first place, room. Plain facts. Conditions: none.
-/
namespace Go.Proofs.Ytbhpljjogmagoaa.Tl
open Fld
/-- Whether two entries part. -/
def partsB (a b : Ent) : Bool := !meetB a.va a.size b.va b.size || (!a.att.global && !b.att.global && a.ctx != b.ctx)
def setE (T : Nat → Ent) (i : Nat) (e : Ent) : Nat → Ent := fun k => if k = i then e else T k
theorem setE_at (T : Nat → Ent) (i : Nat) (e : Ent) : setE T i e i = e := if_pos rfl
theorem setE_ne {T : Nat → Ent} {i k : Nat} {e : Ent} (h : k ≠ i) : setE T i e k = T k := if_neg h
/-- Of how many valid entries a thing is so. -/
def cntE (T : Nat → Ent) (p : Ent → Bool) : Nat → Nat
  | 0 => 0
  | n + 1 => cntE T p n + if (T n).valid && p (T n) then 1 else 0
theorem cntE_le (T : Nat → Ent) (p : Ent → Bool) (n : Nat) : cntE T p n ≤ n := by
  induction n with
  | zero => exact Nat.le_refl _
  | succ n ih => unfold cntE; split <;> omega
theorem cntE_hit {T : Nat → Ent} {p : Ent → Bool} {n : Nat} (h : ((T n).valid && p (T n)) = true) : cntE T p (n + 1) = cntE T p n + 1 := by
  show cntE T p n + _ = _; rw [if_pos h]
theorem cntE_miss {T : Nat → Ent} {p : Ent → Bool} {n : Nat} (h : ((T n).valid && p (T n)) = false) : cntE T p (n + 1) = cntE T p n := by
  show cntE T p n + _ = _; rw [h]; rfl
theorem cntE_zero {T : Nat → Ent} {p : Ent → Bool} {n : Nat} : cntE T p n = 0 ↔ ∀ k, k < n → ((T k).valid && p (T k)) = false := by
  induction n with
  | zero => exact ⟨fun _ k hk => by omega, fun _ => rfl⟩
  | succ n ih =>
    cases h : ((T n).valid && p (T n))
    · rw [cntE_miss h, ih]
      refine ⟨fun a k hk => ?_, fun a k hk => a k (by omega)⟩
      by_cases e : k = n
      · rw [e]; exact h
      · exact a k (by omega)
    · rw [cntE_hit h]
      refine ⟨fun a => by omega, fun a => ?_⟩
      have := a n (by omega); rw [h] at this; cases this
theorem cntE_all {T : Nat → Ent} {p : Ent → Bool} {n : Nat} : cntE T p n = n ↔ ∀ k, k < n → ((T k).valid && p (T k)) = true := by
  induction n with
  | zero => exact ⟨fun _ k hk => by omega, fun _ => rfl⟩
  | succ n ih =>
    have hl := cntE_le T p n
    cases h : ((T n).valid && p (T n))
    · rw [cntE_miss h]
      refine ⟨fun a => by omega, fun a => ?_⟩
      have := a n (by omega); rw [h] at this; cases this
    · rw [cntE_hit h]
      refine ⟨fun a k hk => ?_, fun a => by rw [ih.2 fun k hk => a k (by omega)]⟩
      by_cases e : k = n
      · rw [e]; exact h
      · exact ih.1 (by omega) k (by omega)
theorem cntE_congr {T U : Nat → Ent} {p q : Ent → Bool} {n : Nat} (h : ∀ k, k < n → ((T k).valid && p (T k)) = ((U k).valid && q (U k))) : cntE T p n = cntE U q n := by
  induction n with
  | zero => rfl
  | succ n ih =>
    show cntE T p n + _ = cntE U q n + _
    rw [ih fun k hk => h k (by omega), h n (by omega)]
/-- Those of the first j that are to go are gone. -/
def dropE (T : Nat → Ent) (p : Ent → Bool) (j : Nat) : Nat → Ent := fun k => if decide (k < j) && ((T k).valid && p (T k)) then Ent.zero else T k
theorem dropE_zero (T : Nat → Ent) (p : Ent → Bool) : dropE T p 0 = T := by funext k; simp [dropE]
theorem dropE_ge {T : Nat → Ent} {p : Ent → Bool} {j k : Nat} (h : j ≤ k) : dropE T p j k = T k := by
  unfold dropE; rw [show decide (k < j) = false by simp; omega]; rfl
theorem dropE_hit {T : Nat → Ent} {p : Ent → Bool} {n : Nat} (h : ((T n).valid && p (T n)) = true) : setE (dropE T p n) n Ent.zero = dropE T p (n + 1) := by
  funext k
  unfold setE dropE
  by_cases e : k = n
  · subst e; rw [if_pos rfl, show decide (k < k + 1) = true by simp, h]; rfl
  · rw [if_neg e, show decide (k < n) = decide (k < n + 1) by simp; omega]
theorem dropE_miss {T : Nat → Ent} {p : Ent → Bool} {n : Nat} (h : ((T n).valid && p (T n)) = false) : dropE T p n = dropE T p (n + 1) := by
  funext k
  unfold dropE
  by_cases e : k = n
  · subst e; rw [h]; simp
  · rw [show decide (k < n) = decide (k < n + 1) by simp; omega]
theorem dropE_lt {T : Nat → Ent} {p : Ent → Bool} {j k : Nat} (h : k < j) : dropE T p j k = if (T k).valid && p (T k) then Ent.zero else T k := by
  unfold dropE; rw [show decide (k < j) = true by simpa using h]; rfl
theorem dropE_valid {T : Nat → Ent} {p : Ent → Bool} {j k : Nat} (h : (dropE T p j k).valid = true) : dropE T p j k = T k := by
  unfold dropE at *
  split at h
  · cases h
  · rw [if_neg (by assumption)]
/-- The first of n places of which a thing is so; n, where there is none. -/
def fst (T : Nat → Ent) (p : Ent → Bool) : Nat → Nat
  | 0 => 0
  | n + 1 => if fst T p n < n then fst T p n else if p (T n) then n else n + 1
theorem fst_spec (T : Nat → Ent) (p : Ent → Bool) (n : Nat) : fst T p n ≤ n ∧ (∀ k, k < fst T p n → p (T k) = false) ∧ (fst T p n < n → p (T (fst T p n)) = true) := by
  induction n with
  | zero => exact ⟨Nat.le_refl _, fun k hk => absurd hk (Nat.not_lt_zero k), fun h => absurd h (Nat.not_lt_zero 0)⟩
  | succ n ih =>
    obtain ⟨a, b, c⟩ := ih
    unfold fst
    by_cases h : fst T p n < n
    · rw [if_pos h]; exact ⟨by omega, b, fun _ => c h⟩
    · rw [if_neg h]
      have e : fst T p n = n := by omega
      rw [e] at b
      cases hp : p (T n)
      · rw [if_neg (by decide)]
        refine ⟨Nat.le_refl _, fun k hk => ?_, fun h => by omega⟩
        by_cases ek : k = n
        · rw [ek]; exact hp
        · exact b k (by omega)
      · rw [if_pos rfl]; exact ⟨by omega, b, fun _ => hp⟩
theorem fst_eq {T : Nat → Ent} {p : Ent → Bool} {n i : Nat} (h1 : i ≤ n) (h2 : ∀ k, k < i → p (T k) = false) (h3 : i < n → p (T i) = true) : fst T p n = i := by
  obtain ⟨a, b, c⟩ := fst_spec T p n
  rcases Nat.lt_trichotomy (fst T p n) i with h | h | h
  · have := h2 _ h; rw [c (by omega)] at this; cases this
  · exact h
  · have := b _ h; rw [h3 (by omega)] at this; cases this
theorem fst_none {T : Nat → Ent} {p : Ent → Bool} {n : Nat} : fst T p n = n ↔ ∀ k, k < n → p (T k) = false :=
  ⟨fun h k hk => (fst_spec T p n).2.1 k (by omega), fun h => fst_eq (Nat.le_refl _) h (fun h => by omega)⟩
theorem fst_congr {T U : Nat → Ent} {p q : Ent → Bool} {n : Nat} (h : ∀ k, k < n → p (T k) = q (U k)) : fst T p n = fst U q n := by
  obtain ⟨a, b, c⟩ := fst_spec U q n
  exact fst_eq a (fun k hk => by rw [h k (by omega)]; exact b k hk) (fun hi => by rw [h _ hi]; exact c hi)
/-- The places without a lock, rising. -/
def opens (T : Nat → Ent) (n : Nat) : List Int := ((List.range n).filter fun i => !(T i).att.lock).map Int.ofNat
theorem opens_hit {T : Nat → Ent} {n : Nat} (h : (T n).att.lock = false) : opens T (n + 1) = opens T n ++ [(n : Int)] := by
  unfold opens; rw [List.range_succ, List.filter_append, List.map_append]; simp [h]
theorem opens_miss {T : Nat → Ent} {n : Nat} (h : (T n).att.lock = true) : opens T (n + 1) = opens T n := by
  unfold opens; rw [List.range_succ, List.filter_append, List.map_append]; simp [h]
theorem opens_length (T : Nat → Ent) (n : Nat) : (opens T n).length ≤ n := by
  unfold opens; rw [List.length_map]; exact Nat.le_trans (List.length_filter_le _ _) (by simp)
theorem opens_mem {T : Nat → Ent} {n : Nat} {x : Int} : x ∈ opens T n ↔ ∃ i : Nat, i < n ∧ (T i).att.lock = false ∧ x = (i : Int) := by
  unfold opens
  simp only [List.mem_map, List.mem_filter, List.mem_range, Bool.not_eq_true']
  exact ⟨fun ⟨i, ⟨a, b⟩, c⟩ => ⟨i, a, b, c.symm⟩, fun ⟨i, a, b, c⟩ => ⟨i, ⟨a, b⟩, c.symm⟩⟩
theorem opens_none {T : Nat → Ent} {n : Nat} : (opens T n).length = 0 ↔ ∀ i, i < n → (T i).att.lock = true := by
  rw [List.length_eq_zero_iff, List.eq_nil_iff_forall_not_mem]
  constructor
  · intro h i hi
    cases e : (T i).att.lock
    · exact absurd (opens_mem.2 ⟨i, hi, e, rfl⟩) (h _)
    · rfl
  · intro h x hx
    obtain ⟨i, a, b, _⟩ := opens_mem.1 hx
    rw [h i a] at b; cases b
theorem opens_congr {T U : Nat → Ent} {n : Nat} (h : ∀ k, k < n → T k = U k) : opens T n = opens U n := by
  unfold opens
  congr 1
  apply List.filter_congr
  intro q hq
  rw [h q (List.mem_range.1 hq)]
/-- A pick's distance. -/
def pickP (p : Int) : Int := if p < 0 then -1 - p else p
theorem pickP_bd {p : Int} (h0 : -9223372036854775808 ≤ p) (h1 : p ≤ 9223372036854775807) : 0 ≤ pickP p ∧ pickP p ≤ 9223372036854775807 := by unfold pickP; split <;> omega
def pickN (T : Nat → Ent) (n : Nat) (p : Int) : Nat := (pickP p % ((opens T n).length : Int)).toNat
def roomI (T : Nat → Ent) (n : Nat) (p : Int) : Nat := if fst T (fun e => !e.valid) n < n then fst T (fun e => !e.valid) n else ((opens T n).getD (pickN T n p) 0).toNat
theorem pickN_lt {T : Nat → Ent} {n : Nat} (p : Int) (h : 0 < (opens T n).length) : pickN T n p < (opens T n).length := by
  unfold pickN
  have h1 := Int.emod_nonneg (pickP p) (show ((opens T n).length : Int) ≠ 0 by omega)
  have h2 := Int.emod_lt_of_pos (pickP p) (show (0 : Int) < ((opens T n).length : Int) by omega)
  omega
theorem pick_at {T : Nat → Ent} {n : Nat} (p : Int) (h : 0 < (opens T n).length) : ∃ i : Nat, i < n ∧ (T i).att.lock = false ∧ (opens T n).getD (pickN T n p) 0 = (i : Int) := by
  have hl := pickN_lt p h
  have hm : (opens T n).getD (pickN T n p) 0 ∈ opens T n := by
    rw [List.getD_eq_getElem?_getD, List.getElem?_eq_getElem hl]; exact List.getElem_mem hl
  obtain ⟨i, a, b, c⟩ := opens_mem.1 hm
  exact ⟨i, a, b, c⟩
/-- Where there is room: a place that is empty, or one without a lock. -/
def hasRoom (T : Nat → Ent) (n : Nat) : Prop := fst T (fun e => !e.valid) n < n ∨ 0 < (opens T n).length
theorem room_lt {T : Nat → Ent} {n : Nat} (p : Int) (h : hasRoom T n) : roomI T n p < n := by
  unfold roomI
  split
  · assumption
  · rcases h with h | h
    · contradiction
    · obtain ⟨i, a, _, c⟩ := pick_at p h
      rw [c]; simpa using a
/-! ### What is found -/
def findN (T : Nat → Ent) (n : Nat) (va ctx : Int) : Nat := fst T (fun e => e.hitsB va ctx) n
def findI (T : Nat → Ent) (n : Nat) (va ctx : Int) : Int := if findN T n va ctx < n then (findN T n va ctx : Int) else -1
def findE (T : Nat → Ent) (n : Nat) (va ctx : Int) : Ent := if findN T n va ctx < n then T (findN T n va ctx) else Ent.zero
/-! ### What is put -/
def hasB (n : Nat) (i : Int) : Bool := decide (0 ≤ i) && decide (i < n)
/-- What is in the way of an entry. -/
def wayB (e : Ent) (o : Ent) : Bool := !partsB e o
def putW (n : Nat) (T : Nat → Ent) (i : Int) (e : Ent) : Nat := fst (fun k => if (k : Int) = i then Ent.zero else T k) (fun o => o.valid && wayB e o) n
def putE (T : Nat → Ent) (n : Nat) (i : Int) (e : Ent) : Int := if e.mayB then if hasB n i then if putW n T i e < n then 9 else 0 else 5 else 1
def putT (T : Nat → Ent) (n : Nat) (i : Int) (e : Ent) : Nat → Ent := if putE T n i e = 0 then setE T i.toNat e else T
/-! ### What is inserted -/
def stuckB (T : Nat → Ent) (n : Nat) (e : Ent) : Bool := decide (0 < cntE T (fun o => o.att.lock && wayB e o) n) || decide (cntE T (fun o => o.att.lock) n = n)
def freeT (T : Nat → Ent) (n : Nat) (e : Ent) : Nat → Ent := dropE T (wayB e) n
def insE (T : Nat → Ent) (n : Nat) (e : Ent) : Int := if e.mayB then if stuckB T n e then 7 else 0 else 1
def insN (T : Nat → Ent) (n : Nat) (e : Ent) (p : Int) : Nat := if insE T n e = 0 then roomI (freeT T n e) n p else 0
def insT (T : Nat → Ent) (n : Nat) (e : Ent) (p : Int) : Nat → Ent := if insE T n e = 0 then setE (freeT T n e) (insN T n e p) e else T
/-- Where nothing stands in the way, what goes leaves room. -/
theorem free_room {T : Nat → Ent} {n : Nat} {e : Ent} (h : stuckB T n e = false) : hasRoom (freeT T n e) n := by
  unfold stuckB at h
  rw [Bool.or_eq_false_iff, decide_eq_false_iff_not, decide_eq_false_iff_not] at h
  obtain ⟨h1, h2⟩ := h
  have h1 : cntE T (fun o => o.att.lock && wayB e o) n = 0 := by omega
  rw [cntE_zero] at h1
  by_cases hf : fst (freeT T n e) (fun e => !e.valid) n < n
  · exact .inl hf
  · right
    rw [Nat.pos_iff_ne_zero]
    intro h0
    rw [opens_none] at h0
    have hall := fst_none.1 (show fst (freeT T n e) (fun e => !e.valid) n = n by have := (fst_spec (freeT T n e) (fun e => !e.valid) n).1; omega)
    refine h2 (cntE_all.2 fun k hk => ?_)
    have hv := hall k hk
    simp only [Bool.not_eq_false'] at hv
    have e1 := dropE_valid hv
    have hl := h0 k hk
    unfold freeT at hv hl
    rw [e1] at hv hl
    rw [hv, hl]; rfl
/-! ### Well made places -/
structure Ok (T : Nat → Ent) (n : Nat) : Prop where
  wf : ∀ k, k < n → (T k).wf
  may : ∀ k, k < n → (T k).valid = true → (T k).mayB = true
  zero : ∀ k, k < n → (T k).valid = false → T k = Ent.zero
  part : ∀ i k, i < n → k < n → i ≠ k → (T i).valid = true → (T k).valid = true → partsB (T i) (T k) = true
theorem zero_wf : Ent.zero.wf := by unfold Ent.wf Ent.zero; simp
theorem Ok.new (n : Nat) : Ok (fun _ => Ent.zero) n := ⟨fun _ _ => zero_wf, fun _ _ h => (by cases h), fun _ _ _ => rfl, fun _ _ _ _ _ h => (by cases h)⟩
theorem Ok.drop {T : Nat → Ent} {n : Nat} (h : Ok T n) (p : Ent → Bool) (j : Nat) : Ok (dropE T p j) n := by
  have hd : ∀ k, dropE T p j k = Ent.zero ∨ dropE T p j k = T k := fun k => by unfold dropE; split; exact .inl rfl; exact .inr rfl
  refine ⟨fun k hk => ?_, fun k hk hv => ?_, fun k hk hv => ?_, fun i k hi hk hne hi2 hk2 => ?_⟩
  · rcases hd k with e | e <;> rw [e]; exact zero_wf; exact h.wf k hk
  · have e := dropE_valid hv; rw [e] at hv ⊢; exact h.may k hk hv
  · rcases hd k with e | e
    · exact e
    · rw [e] at hv ⊢; exact h.zero k hk hv
  · have e1 := dropE_valid hi2; have e2 := dropE_valid hk2
    rw [e1] at hi2 ⊢; rw [e2] at hk2 ⊢
    exact h.part i k hi hk hne hi2 hk2
theorem meet_comm' (a s b t : Int) : meetB a s b t = meetB b t a s := by
  unfold meetB
  rw [Int.max_comm, Bool.and_comm (sizeB s)]
  congr 1
  unfold inB
  congr 1
  rw [decide_eq_decide]
  exact ⟨Eq.symm, Eq.symm⟩
theorem parts_comm (a b : Ent) : partsB a b = partsB b a := by
  unfold partsB
  rw [meet_comm', Bool.and_comm (!a.att.global), bne_comm]
theorem Ok.set {T : Nat → Ent} {n i : Nat} {e : Ent} (h : Ok T n) (hw : e.wf) (hm : e.mayB = true) (hp : ∀ k, k < n → k ≠ i → (T k).valid = true → partsB e (T k) = true) : Ok (setE T i e) n := by
  have hv : e.valid = true := by unfold Ent.mayB at hm; simp only [Bool.and_eq_true] at hm; exact hm.1.1.1.1.1.1.1
  refine ⟨fun k hk => ?_, fun k hk hv => ?_, fun k hk hv => ?_, fun a b ha hb hne ha2 hb2 => ?_⟩
  · by_cases hki : k = i
    · rw [hki, setE_at]; exact hw
    · rw [setE_ne hki]; exact h.wf k hk
  · by_cases hki : k = i
    · rw [hki, setE_at]; exact hm
    · rw [setE_ne hki] at hv ⊢; exact h.may k hk hv
  · by_cases hki : k = i
    · rw [hki, setE_at, ‹e.valid = true›] at hv; cases hv
    · rw [setE_ne hki] at hv ⊢; exact h.zero k hk hv
  · by_cases hai : a = i
    · have hbi : b ≠ i := fun e2 => hne (hai.trans e2.symm)
      rw [hai, setE_at, setE_ne hbi]; rw [setE_ne hbi] at hb2
      exact hp b hb hbi hb2
    · rw [setE_ne hai] at ha2 ⊢
      by_cases hbi : b = i
      · rw [hbi, setE_at, parts_comm]; exact hp a ha hai ha2
      · rw [setE_ne hbi] at hb2 ⊢; exact h.part a b ha hb hne ha2 hb2
theorem way_parts {T : Nat → Ent} {n : Nat} {e : Ent} {k : Nat} (hk : k < n) (hv : (freeT T n e k).valid = true) : partsB e (freeT T n e k) = true := by
  have e1 := dropE_valid hv
  unfold freeT at hv ⊢
  rw [dropE_lt hk] at e1
  cases hw : ((T k).valid && wayB e (T k))
  · rw [dropE_lt hk, hw] at hv ⊢
    simp only [Bool.false_eq_true, if_false] at hv ⊢
    rw [hv, Bool.true_and] at hw
    simpa [wayB] using hw
  · rw [dropE_lt hk, hw] at hv
    cases hv
theorem Ok.ins {T : Nat → Ent} {n : Nat} (h : Ok T n) {e : Ent} (hw : e.wf) (p : Int) : Ok (insT T n e p) n := by
  unfold insT
  split
  · rename_i h0
    have hm : e.mayB = true := by
      unfold insE at h0
      cases hm : e.mayB
      · rw [hm] at h0; cases h0
      · rfl
    exact (h.drop _ _).set hw hm fun k hk _ hv => way_parts hk hv
  · exact h
theorem Ok.put {T : Nat → Ent} {n : Nat} (h : Ok T n) {e : Ent} (hw : e.wf) (i : Int) : Ok (putT T n i e) n := by
  unfold putT
  split
  · rename_i h0
    unfold putE at h0
    cases hm : e.mayB
    · rw [hm] at h0; cases h0
    · rw [hm] at h0
      cases hb : hasB n i
      · rw [hb] at h0; cases h0
      · rw [hb] at h0
        simp only [if_true] at h0
        have hn : putW n T i e = n := by
          by_cases hc : putW n T i e < n
          · rw [if_pos hc] at h0; cases h0
          · have := (fst_spec (fun k => if (k : Int) = i then Ent.zero else T k) (fun o => o.valid && wayB e o) n).1
            unfold putW at *; omega
        unfold hasB at hb
        simp only [Bool.and_eq_true, decide_eq_true_eq] at hb
        refine h.set hw hm fun k hk hne hv => ?_
        have := fst_none.1 hn k hk
        rw [if_neg (by omega), hv, Bool.true_and] at this
        simpa [wayB] using this
  · exact h
theorem Ok.clear {T : Nat → Ent} {n : Nat} (h : Ok T n) (i : Nat) : Ok (setE T i Ent.zero) n := by
  have hd : ∀ k, setE T i Ent.zero k = Ent.zero ∨ setE T i Ent.zero k = T k := fun k => by unfold setE; split; exact .inl rfl; exact .inr rfl
  have hv' : ∀ k, (setE T i Ent.zero k).valid = true → setE T i Ent.zero k = T k := fun k hv => by
    rcases hd k with e | e
    · rw [e] at hv; cases hv
    · exact e
  refine ⟨fun k hk => ?_, fun k hk hv => ?_, fun k hk hv => ?_, fun i k hi hk hne hi2 hk2 => ?_⟩
  · rcases hd k with e | e <;> rw [e]; exact zero_wf; exact h.wf k hk
  · have e := hv' k hv; rw [e] at hv ⊢; exact h.may k hk hv
  · rcases hd k with e | e
    · exact e
    · rw [e] at hv ⊢; exact h.zero k hk hv
  · have e1 := hv' _ hi2; have e2 := hv' _ hk2
    rw [e1] at hi2 ⊢; rw [e2] at hk2 ⊢
    exact h.part _ _ hi hk hne hi2 hk2
end Go.Proofs.Ytbhpljjogmagoaa.Tl
/-
  Entries at places in memory: a struct with a list of entries. What stays when a call changes them. Conditions: none.
-/
namespace Go.Proofs.Ytbhpljjogmagoaa.Tl
open Fld
open Go.ChangeShapes Go.WideShapes Go.ChangeAt Go.RowKit
set_option maxHeartbeats 1000000
/-- An entry's cells. -/
def cellE (e : Ent) : Nat → Value
  | 0 => .int .i64 e.size
  | 1 => .int .i64 e.ctx
  | 2 => .int .u64 e.va
  | 3 => .int .u64 e.pa
  | 4 => .bool e.att.write
  | 5 => .bool e.att.priv
  | 6 => .bool e.att.exec
  | 7 => .bool e.att.lock
  | 8 => .bool e.att.global
  | 9 => .bool e.att.quiet
  | _ => .bool e.valid
def rowL (T : Nat → Ent) (n : Nat) : List Value := (List.range (n * 11)).map fun m => cellE (T (m / 11)) (m % 11)
def rowT (T : Nat → Ent) (n : Nat) : Array Value := (rowL T n).toArray
theorem rowL_length (T : Nat → Ent) (n : Nat) : (rowL T n).length = n * 11 := by simp [rowL]
theorem rowT_size (T : Nat → Ent) (n : Nat) : (rowT T n).size = n * 11 := by simp [rowT, rowL]
theorem rowL_get (T : Nat → Ent) {n m : Nat} (h : m < n * 11) : (rowL T n)[m]? = some (cellE (T (m / 11)) (m % 11)) := by simp [rowL, h]
theorem rowT_get (T : Nat → Ent) {n m : Nat} (h : m < n * 11) : (rowT T n)[m]? = some (cellE (T (m / 11)) (m % 11)) := by simp [rowT, rowL, h]
theorem rowT_at (T : Nat → Ent) {n i k : Nat} (hi : i < n) (hk : k < 11) : (rowT T n)[i * 11 + k]? = some (cellE (T i) k) := by
  rw [rowT_get T (by omega), show (i * 11 + k) / 11 = i by omega, show (i * 11 + k) % 11 = k by omega]
theorem rowT_part (T : Nat → Ent) {n i o : Nat} (hi : i < n) (ho : i * 11 = o) : PartE (rowT T n) o (T i) := by
  subst ho
  exact ⟨rowT_at T (k := 0) hi (by decide), rowT_at T hi (by decide), rowT_at T hi (by decide), rowT_at T hi (by decide), rowT_at T hi (by decide), rowT_at T hi (by decide), rowT_at T hi (by decide), rowT_at T hi (by decide), rowT_at T hi (by decide), rowT_at T hi (by decide), rowT_at T hi (by decide)⟩
theorem rowT_congr {T U : Nat → Ent} {n : Nat} (h : ∀ k, k < n → T k = U k) : rowT T n = rowT U n := by
  apply Array.ext_getElem?
  intro m
  by_cases hm : m < n * 11
  · rw [rowT_get T hm, rowT_get U hm, h _ (by omega)]
  · simp [rowT, rowL, hm]
theorem rowL_congr {T U : Nat → Ent} {n : Nat} (h : ∀ k, k < n → T k = U k) : rowL T n = rowL U n := by
  have := congrArg Array.toList (rowT_congr h); simpa [rowT] using this
/-- An entry that is laid into a row of cells, cell by cell. -/
def lay11 (c : Array Value) (o : Nat) (e : Ent) : Array Value := ((((((((((c.setIfInBounds o (.int .i64 e.size)).setIfInBounds (o + 1) (.int .i64 e.ctx)).setIfInBounds (o + 2) (.int .u64 e.va)).setIfInBounds (o + 3) (.int .u64 e.pa)).setIfInBounds (o + 4) (.bool e.att.write)).setIfInBounds (o + 5) (.bool e.att.priv)).setIfInBounds (o + 6) (.bool e.att.exec)).setIfInBounds (o + 7) (.bool e.att.lock)).setIfInBounds (o + 8) (.bool e.att.global)).setIfInBounds (o + 9) (.bool e.att.quiet)).setIfInBounds (o + 10) (.bool e.valid)
theorem lay11_size (c : Array Value) (o : Nat) (e : Ent) : (lay11 c o e).size = c.size := by simp [lay11]
theorem lay11_out (c : Array Value) (o : Nat) (e : Ent) {m : Nat} (h : m < o ∨ o + 11 ≤ m) : (lay11 c o e)[m]? = c[m]? := by
  unfold lay11
  iterate 11 rw [Array.getElem?_setIfInBounds_ne (by omega)]
theorem lay11_in (c : Array Value) (o : Nat) (e : Ent) (hc : o + 11 ≤ c.size) {k : Nat} (hk : k < 11) : (lay11 c o e)[o + k]? = some (cellE e k) := by
  have s : ∀ (d : Array Value) (i : Nat) (v : Value), i < d.size → (d.setIfInBounds i v)[i]? = some v := fun d i v h => by rw [Array.getElem?_setIfInBounds, if_pos rfl, if_pos h]
  have z : ∀ (d : Array Value) (i : Nat) (v : Value), (d.setIfInBounds i v).size = d.size := fun d i v => by simp
  unfold lay11
  have : k = 0 ∨ k = 1 ∨ k = 2 ∨ k = 3 ∨ k = 4 ∨ k = 5 ∨ k = 6 ∨ k = 7 ∨ k = 8 ∨ k = 9 ∨ k = 10 := by omega
  rcases this with rfl | rfl | rfl | rfl | rfl | rfl | rfl | rfl | rfl | rfl | rfl <;>
    ((repeat rw [Array.getElem?_setIfInBounds_ne (by omega)]); exact s _ _ _ (by (try simp only [z]); omega))
theorem lay11_row (T : Nat → Ent) {n i o : Nat} (hi : i < n) (ho : i * 11 = o) (e : Ent) : lay11 (rowT T n) o e = rowT (setE T i e) n := by
  subst ho
  apply Array.ext_getElem?
  intro m
  by_cases hm : m < n * 11
  · rw [rowT_get _ hm]
    by_cases h : m < i * 11 ∨ i * 11 + 11 ≤ m
    · rw [lay11_out _ _ _ h, rowT_get _ hm, setE_ne (by omega)]
    · obtain ⟨k, rfl⟩ : ∃ k, m = i * 11 + k := ⟨m - i * 11, by omega⟩
      rw [lay11_in _ _ _ (by rw [rowT_size]; omega) (by omega), show (i * 11 + k) / 11 = i by omega, show (i * 11 + k) % 11 = k by omega, setE_at]
  · rw [lay11_out _ _ _ (by omega)]
    simp [rowT, rowL, hm]
theorem heap_set {w : World} {b o : Nat} {c : Array Value} {e : TypeId} {f : Nat × Nat} (h : w.heap[b]? = some (.cells c e f)) (v : Value) : (w.setCell ⟨b, o, none⟩ v).heap[b]? = some (.cells (c.setIfInBounds o v) e f) := by
  simp [World.setCell, Array.getElem?_modify, h]
theorem heap_set11 {w : World} {b : Nat} {c : Array Value} {t : TypeId} {f : Nat × Nat} (o : Nat) (e : Ent) (h : w.heap[b]? = some (.cells c t f)) : (((((((((((w.setCell ⟨b, o, none⟩ (.int .i64 e.size)).setCell ⟨b, o + 1, none⟩ (.int .i64 e.ctx)).setCell ⟨b, o + 2, none⟩ (.int .u64 e.va)).setCell ⟨b, o + 3, none⟩ (.int .u64 e.pa)).setCell ⟨b, o + 4, none⟩ (.bool e.att.write)).setCell ⟨b, o + 5, none⟩ (.bool e.att.priv)).setCell ⟨b, o + 6, none⟩ (.bool e.att.exec)).setCell ⟨b, o + 7, none⟩ (.bool e.att.lock)).setCell ⟨b, o + 8, none⟩ (.bool e.att.global)).setCell ⟨b, o + 9, none⟩ (.bool e.att.quiet)).setCell ⟨b, o + 10, none⟩ (.bool e.valid)).heap[b]? = some (.cells (lay11 c o e) t f) := by
  have h0 := heap_set (o := o) h (.int .i64 e.size)
  have h1 := heap_set (o := o + 1) h0 (.int .i64 e.ctx)
  have h2 := heap_set (o := o + 2) h1 (.int .u64 e.va)
  have h3 := heap_set (o := o + 3) h2 (.int .u64 e.pa)
  have h4 := heap_set (o := o + 4) h3 (.bool e.att.write)
  have h5 := heap_set (o := o + 5) h4 (.bool e.att.priv)
  have h6 := heap_set (o := o + 6) h5 (.bool e.att.exec)
  have h7 := heap_set (o := o + 7) h6 (.bool e.att.lock)
  have h8 := heap_set (o := o + 8) h7 (.bool e.att.global)
  have h9 := heap_set (o := o + 9) h8 (.bool e.att.quiet)
  exact heap_set (o := o + 10) h9 (.bool e.valid)
theorem heap_far11 {w : World} {g b o : Nat} {e : Ent} (h : b ≠ g) : (((((((((((w.setCell ⟨g, o, none⟩ (.int .i64 e.size)).setCell ⟨g, o + 1, none⟩ (.int .i64 e.ctx)).setCell ⟨g, o + 2, none⟩ (.int .u64 e.va)).setCell ⟨g, o + 3, none⟩ (.int .u64 e.pa)).setCell ⟨g, o + 4, none⟩ (.bool e.att.write)).setCell ⟨g, o + 5, none⟩ (.bool e.att.priv)).setCell ⟨g, o + 6, none⟩ (.bool e.att.exec)).setCell ⟨g, o + 7, none⟩ (.bool e.att.lock)).setCell ⟨g, o + 8, none⟩ (.bool e.att.global)).setCell ⟨g, o + 9, none⟩ (.bool e.att.quiet)).setCell ⟨g, o + 10, none⟩ (.bool e.valid)).heap[b]? = w.heap[b]? := by
  rw [Below.heap_setCell _ _ _ _ h, Below.heap_setCell _ _ _ _ h, Below.heap_setCell _ _ _ _ h, Below.heap_setCell _ _ _ _ h, Below.heap_setCell _ _ _ _ h, Below.heap_setCell _ _ _ _ h, Below.heap_setCell _ _ _ _ h, Below.heap_setCell _ _ _ _ h, Below.heap_setCell _ _ _ _ h, Below.heap_setCell _ _ _ _ h, Below.heap_setCell _ _ _ _ h]
theorem size_set11 {w : World} {g o : Nat} {e : Ent} : (((((((((((w.setCell ⟨g, o, none⟩ (.int .i64 e.size)).setCell ⟨g, o + 1, none⟩ (.int .i64 e.ctx)).setCell ⟨g, o + 2, none⟩ (.int .u64 e.va)).setCell ⟨g, o + 3, none⟩ (.int .u64 e.pa)).setCell ⟨g, o + 4, none⟩ (.bool e.att.write)).setCell ⟨g, o + 5, none⟩ (.bool e.att.priv)).setCell ⟨g, o + 6, none⟩ (.bool e.att.exec)).setCell ⟨g, o + 7, none⟩ (.bool e.att.lock)).setCell ⟨g, o + 8, none⟩ (.bool e.att.global)).setCell ⟨g, o + 9, none⟩ (.bool e.att.quiet)).setCell ⟨g, o + 10, none⟩ (.bool e.valid)).heap.size = w.heap.size := by simp [World.setCell]
/-- Places at block bb, the struct at block sb: n of them, T says what stands there. -/
structure TlbAt (w : World) (sb bb n : Nat) (T : Nat → Ent) : Prop where
  s : w.heap[sb]? = some (.cells #[.slice (some ⟨bb, 0, none⟩) n n] 61 (0, 0))
  b : w.heap[bb]? = some (.cells (rowT T n) 33 (0, 0))
  pos : 1 ≤ n
  le : n ≤ 64
  ok : Ok T n
/-- Of what was in w all stays but block bb. -/
structure Turn (w w' : World) (bb : Nat) : Prop where
  os : w'.os = w.os
  tape : w'.tape = w.tape
  output : w'.output = w.output
  size : w.heap.size ≤ w'.heap.size
  block : ∀ k, k < w.heap.size → k ≠ bb → w'.heap[k]? = w.heap[k]?
theorem TlbAt.ne {w : World} {sb bb n : Nat} {T : Nat → Ent} (h : TlbAt w sb bb n T) : sb ≠ bb := by
  rintro rfl
  have e := h.s.symm.trans h.b
  injection e with e
  injection e with e _ _
  have := congrArg Array.size e
  have hp := h.pos
  simp [rowT_size] at this
  omega
theorem TlbAt.lt {w : World} {sb bb n : Nat} {T : Nat → Ent} (h : TlbAt w sb bb n T) : sb < w.heap.size ∧ bb < w.heap.size :=
  ⟨(Array.getElem?_eq_some_iff.1 h.s).1, (Array.getElem?_eq_some_iff.1 h.b).1⟩
theorem TlbAt.same {w w' : World} {sb bb n : Nat} {T : Nat → Ent} (h : TlbAt w sb bb n T) (h1 : w'.heap[sb]? = w.heap[sb]?) (h2 : w'.heap[bb]? = w.heap[bb]?) : TlbAt w' sb bb n T := ⟨h1.trans h.s, h2.trans h.b, h.pos, h.le, h.ok⟩
theorem TlbAt.below {w w' : World} {sb bb n B : Nat} {T : Nat → Ent} (h : TlbAt w sb bb n T) (k : Below B w w') (h1 : sb < B) (h2 : bb < B) : TlbAt w' sb bb n T := h.same (k.block _ h1) (k.block _ h2)
theorem TlbAt.low {w w' : World} {sb bb n : Nat} {T : Nat → Ent} (h : TlbAt w sb bb n T) (k : Below w.heap.size w w') : TlbAt w' sb bb n T := h.below k h.lt.1 h.lt.2
theorem TlbAt.c0 {w : World} {sb bb n : Nat} {T : Nat → Ent} (h : TlbAt w sb bb n T) : w.cell? ⟨sb, 0, none⟩ = some (.slice (some ⟨bb, 0, none⟩) n n) := by simp [World.cell?, h.s]
theorem TlbAt.cells {w : World} {sb bb n : Nat} {T : Nat → Ent} (h : TlbAt w sb bb n T) {i o : Nat} (hi : i < n) (ho : i * 11 = o) : w.cell? ⟨bb, o, none⟩ = some (.int .i64 (T i).size) ∧ w.cell? ⟨bb, o + 1, none⟩ = some (.int .i64 (T i).ctx) ∧ w.cell? ⟨bb, o + 2, none⟩ = some (.int .u64 (T i).va) ∧ w.cell? ⟨bb, o + 3, none⟩ = some (.int .u64 (T i).pa) ∧ w.cell? ⟨bb, o + 4, none⟩ = some (.bool (T i).att.write) ∧ w.cell? ⟨bb, o + 5, none⟩ = some (.bool (T i).att.priv) ∧ w.cell? ⟨bb, o + 6, none⟩ = some (.bool (T i).att.exec) ∧ w.cell? ⟨bb, o + 7, none⟩ = some (.bool (T i).att.lock) ∧ w.cell? ⟨bb, o + 8, none⟩ = some (.bool (T i).att.global) ∧ w.cell? ⟨bb, o + 9, none⟩ = some (.bool (T i).att.quiet) ∧ w.cell? ⟨bb, o + 10, none⟩ = some (.bool (T i).valid) := by
  have hP := rowT_part T hi ho
  have hc : ∀ {k : Nat} {v : Value}, (rowT T n)[k]? = some v → w.cell? ⟨bb, k, none⟩ = some v := fun {k v} hv => (cell_of_row _ _ k _ _ _ h.b).trans hv
  exact ⟨hc hP.c0, hc hP.c1, hc hP.c2, hc hP.c3, hc hP.c4, hc hP.c5, hc hP.c6, hc hP.c7, hc hP.c8, hc hP.c9, hc hP.c10⟩
theorem TlbAt.frozen {w : World} {sb bb n : Nat} {T : Nat → Ent} (h : TlbAt w sb bb n T) (j : Nat) : w.frozen? ⟨bb, j, none⟩ = false := by simp [World.frozen?, h.b]
theorem TlbAt.congr {w : World} {sb bb n : Nat} {T U : Nat → Ent} (h : TlbAt w sb bb n T) (hT : ∀ k, k < n → T k = U k) (hU : Ok U n) : TlbAt w sb bb n U := ⟨h.s, by rw [h.b, rowT_congr hT], h.pos, h.le, hU⟩
theorem TlbAt.put {w : World} {sb bb n : Nat} {T : Nat → Ent} (h : TlbAt w sb bb n T) {i o : Nat} (hi : i < n) (ho : i * 11 = o) {e : Ent} (hU : Ok (setE T i e) n) : TlbAt (((((((((((w.setCell ⟨bb, o, none⟩ (.int .i64 e.size)).setCell ⟨bb, o + 1, none⟩ (.int .i64 e.ctx)).setCell ⟨bb, o + 2, none⟩ (.int .u64 e.va)).setCell ⟨bb, o + 3, none⟩ (.int .u64 e.pa)).setCell ⟨bb, o + 4, none⟩ (.bool e.att.write)).setCell ⟨bb, o + 5, none⟩ (.bool e.att.priv)).setCell ⟨bb, o + 6, none⟩ (.bool e.att.exec)).setCell ⟨bb, o + 7, none⟩ (.bool e.att.lock)).setCell ⟨bb, o + 8, none⟩ (.bool e.att.global)).setCell ⟨bb, o + 9, none⟩ (.bool e.att.quiet)).setCell ⟨bb, o + 10, none⟩ (.bool e.valid)) sb bb n (setE T i e) :=
  ⟨(heap_far11 h.ne).trans h.s, by rw [heap_set11 o e h.b, lay11_row T hi ho], h.pos, h.le, hU⟩
theorem Turn.refl (w : World) (bb : Nat) : Turn w w bb := ⟨rfl, rfl, rfl, Nat.le_refl _, fun _ _ _ => rfl⟩
theorem Turn.trans {a b c : World} {bb : Nat} (h : Turn a b bb) (k : Turn b c bb) : Turn a c bb :=
  ⟨k.os.trans h.os, k.tape.trans h.tape, k.output.trans h.output, Nat.le_trans h.size k.size, fun i hi h1 =>
    (k.block i (Nat.lt_of_lt_of_le hi h.size) h1).trans (h.block i hi h1)⟩
theorem Turn.of_below {a b : World} (bb : Nat) (k : Below a.heap.size a b) : Turn a b bb := ⟨k.os, k.tape, k.output, k.size, fun i hi _ => k.block i hi⟩
theorem Turn.call {a b c : World} {bb : Nat} (h : Turn a b bb) (k : Below b.heap.size b c) : Turn a c bb := h.trans (Turn.of_below _ k)
theorem Turn.drewN {a b : World} {bb : Nat} (h : Turn a b bb) (m : Nat) : Turn a (b.drewN m) bb := ⟨h.os, h.tape, h.output, h.size, h.block⟩
theorem Turn.drew {a b : World} {bb : Nat} (h : Turn a b bb) : Turn a b.drew bb := ⟨h.os, h.tape, h.output, h.size, h.block⟩
theorem Turn.alloc {a b : World} {bb : Nat} (h : Turn a b bb) (o : Obj) : Turn a (b.alloc o) bb :=
  h.trans (Turn.of_below _ ((Below.refl _ _).alloc (Nat.le_refl _) o))
theorem Turn.setCell {a b : World} {bb : Nat} (h : Turn a b bb) {p : Addr} (hp : p.block = bb ∨ a.heap.size ≤ p.block) (u : Value) : Turn a (b.setCell p u) bb :=
  ⟨h.os, h.tape, h.output, by simpa [World.setCell] using h.size, fun i hi h1 => (Below.heap_setCell _ _ _ _ (by omega)).trans (h.block i hi h1)⟩
theorem Turn.set11 {a b : World} {bb g o : Nat} {e : Ent} (h : Turn a b bb) (hp : g = bb ∨ a.heap.size ≤ g) : Turn a (((((((((((b.setCell ⟨g, o, none⟩ (.int .i64 e.size)).setCell ⟨g, o + 1, none⟩ (.int .i64 e.ctx)).setCell ⟨g, o + 2, none⟩ (.int .u64 e.va)).setCell ⟨g, o + 3, none⟩ (.int .u64 e.pa)).setCell ⟨g, o + 4, none⟩ (.bool e.att.write)).setCell ⟨g, o + 5, none⟩ (.bool e.att.priv)).setCell ⟨g, o + 6, none⟩ (.bool e.att.exec)).setCell ⟨g, o + 7, none⟩ (.bool e.att.lock)).setCell ⟨g, o + 8, none⟩ (.bool e.att.global)).setCell ⟨g, o + 9, none⟩ (.bool e.att.quiet)).setCell ⟨g, o + 10, none⟩ (.bool e.valid)) bb := by
  iterate 11 refine Turn.setCell ?_ hp _
  exact h
/-- Places that were made behind B: nothing below B has turned. -/
theorem Turn.to_below {a b : World} {bb B : Nat} (h : Turn a b bb) (h1 : B ≤ bb) (hB : B ≤ a.heap.size) : Below B a b :=
  ⟨h.os, h.tape, h.output, h.size, fun k hk => h.block k (by omega) (by omega)⟩
/-- An entry is laid into a new box. -/
theorem box_below {w0 X w : World} {e : Ent} (h0 : w0.heap.size ≤ X.heap.size) (h : Below w0.heap.size w0 w) : Below w0.heap.size w0 (((((((((((w.setCell ⟨X.heap.size, 0, none⟩ (.int .i64 e.size)).setCell ⟨X.heap.size, 1, none⟩ (.int .i64 e.ctx)).setCell ⟨X.heap.size, 2, none⟩ (.int .u64 e.va)).setCell ⟨X.heap.size, 3, none⟩ (.int .u64 e.pa)).setCell ⟨X.heap.size, 4, none⟩ (.bool e.att.write)).setCell ⟨X.heap.size, 5, none⟩ (.bool e.att.priv)).setCell ⟨X.heap.size, 6, none⟩ (.bool e.att.exec)).setCell ⟨X.heap.size, 7, none⟩ (.bool e.att.lock)).setCell ⟨X.heap.size, 8, none⟩ (.bool e.att.global)).setCell ⟨X.heap.size, 9, none⟩ (.bool e.att.quiet)).setCell ⟨X.heap.size, 10, none⟩ (.bool e.valid)) := by
  iterate 11 refine below_setN ?_ h0
  exact h
/-- The box of a round: an entry in a new block. -/
theorem box_new (w : World) (e : Ent) : RowE ((((((((((((w.alloc (.cells #[.int .i64 0, .int .i64 0, .int .u64 0, .int .u64 0, .bool false, .bool false, .bool false, .bool false, .bool false, .bool false, .bool false] 33)).setCell ⟨w.heap.size, 0, none⟩ (.int .i64 e.size)).setCell ⟨w.heap.size, 1, none⟩ (.int .i64 e.ctx)).setCell ⟨w.heap.size, 2, none⟩ (.int .u64 e.va)).setCell ⟨w.heap.size, 3, none⟩ (.int .u64 e.pa)).setCell ⟨w.heap.size, 4, none⟩ (.bool e.att.write)).setCell ⟨w.heap.size, 5, none⟩ (.bool e.att.priv)).setCell ⟨w.heap.size, 6, none⟩ (.bool e.att.exec)).setCell ⟨w.heap.size, 7, none⟩ (.bool e.att.lock)).setCell ⟨w.heap.size, 8, none⟩ (.bool e.att.global)).setCell ⟨w.heap.size, 9, none⟩ (.bool e.att.quiet)).setCell ⟨w.heap.size, 10, none⟩ (.bool e.valid)) w.heap.size e ∧ Below w.heap.size w ((((((((((((w.alloc (.cells #[.int .i64 0, .int .i64 0, .int .u64 0, .int .u64 0, .bool false, .bool false, .bool false, .bool false, .bool false, .bool false, .bool false] 33)).setCell ⟨w.heap.size, 0, none⟩ (.int .i64 e.size)).setCell ⟨w.heap.size, 1, none⟩ (.int .i64 e.ctx)).setCell ⟨w.heap.size, 2, none⟩ (.int .u64 e.va)).setCell ⟨w.heap.size, 3, none⟩ (.int .u64 e.pa)).setCell ⟨w.heap.size, 4, none⟩ (.bool e.att.write)).setCell ⟨w.heap.size, 5, none⟩ (.bool e.att.priv)).setCell ⟨w.heap.size, 6, none⟩ (.bool e.att.exec)).setCell ⟨w.heap.size, 7, none⟩ (.bool e.att.lock)).setCell ⟨w.heap.size, 8, none⟩ (.bool e.att.global)).setCell ⟨w.heap.size, 9, none⟩ (.bool e.att.quiet)).setCell ⟨w.heap.size, 10, none⟩ (.bool e.valid)) :=
  ⟨RowE.setAll (RowE.new w Ent.zero), box_below (X := w) (Nat.le_refl _) ((Below.refl _ _).alloc (Nat.le_refl _) _)⟩
theorem infoE : (Try.prog.info? 33).map (fun i => (i.zero, i.size, i.bytes)) = some (some (.agg #[.int .i64 0, .int .i64 0, .int .u64 0, .int .u64 0, .bool false, .bool false, .bool false, .bool false, .bool false, .bool false, .bool false]), 11, 40) := by kernel_rfl
/-- The results of a function that answers an entry and one thing more. -/
theorem res_ent {fn : Func} {p u : Tmp} (h : fn.results = #[.cell p 33, .tmp u]) (tmps : Array Value) (w : World) (g : Nat) (e : Ent) (hp : tmps.getD p undef = .pointer (some ⟨g, 0, none⟩)) (hR : RowE w g e) :
    (results fn tmps).run Try.prog w = .ok (.tuple #[.agg #[.int .i64 e.size, .int .i64 e.ctx, .int .u64 e.va, .int .u64 e.pa, .bool e.att.write, .bool e.att.priv, .bool e.att.exec, .bool e.att.lock, .bool e.att.global, .bool e.att.quiet, .bool e.valid], tmps.getD u undef]) w := by
  have hl := run_loadVar_row (P := Try.prog) w g 33 33 _ (0, 0) _ hR.row Try.underlying33 (by kernel_rfl) (by kernel_rfl)
  rw [results_cell_tmp h, hp]
  simp only [asAddr, Sem.run_pure, Result.andThen_ok, hl]
theorem ret_entI {E F : Ent} {i k : Int} (h : E = F) (g : i = k) : Ending.returned (.tuple #[.agg #[.int .i64 F.size, .int .i64 F.ctx, .int .u64 F.va, .int .u64 F.pa, .bool F.att.write, .bool F.att.priv, .bool F.att.exec, .bool F.att.lock, .bool F.att.global, .bool F.att.quiet, .bool F.valid], .int .i64 k]) = .returned (.tuple #[.agg #[.int .i64 E.size, .int .i64 E.ctx, .int .u64 E.va, .int .u64 E.pa, .bool E.att.write, .bool E.att.priv, .bool E.att.exec, .bool E.att.lock, .bool E.att.global, .bool E.att.quiet, .bool E.valid], .int .i64 i]) := by subst h; subst g; rfl
theorem ret_entB {E F : Ent} {i k : Bool} (h : E = F) (g : i = k) : Ending.returned (.tuple #[.agg #[.int .i64 F.size, .int .i64 F.ctx, .int .u64 F.va, .int .u64 F.pa, .bool F.att.write, .bool F.att.priv, .bool F.att.exec, .bool F.att.lock, .bool F.att.global, .bool F.att.quiet, .bool F.valid], .bool k]) = .returned (.tuple #[.agg #[.int .i64 E.size, .int .i64 E.ctx, .int .u64 E.va, .int .u64 E.pa, .bool E.att.write, .bool E.att.priv, .bool E.att.exec, .bool E.att.lock, .bool E.att.global, .bool E.att.quiet, .bool E.valid], .bool i]) := by subst h; subst g; rfl
theorem ret_intI {E F i k : Int} (h : E = F) (g : i = k) : Ending.returned (.tuple #[.int .i64 F, .int .i64 k]) = .returned (.tuple #[.int .i64 E, .int .i64 i]) := by subst h; subst g; rfl
end Go.Proofs.Ytbhpljjogmagoaa.Tl
/-
  Contracts of New, Parts, Slots, has and Find of package tlb. Conditions: entries' words are below 2 to the 64; those that read places read places that are there.
-/
namespace Go.Proofs.Ytbhpljjogmagoaa.Tl
open Fld
open Go.ChangeShapes Go.WideShapes Go.ChangeAt Go.RowKit
set_option maxHeartbeats 1000000
set_option maxRecDepth 100000
theorem made_rowT (n : Nat) : madeCells (Value.cells (.agg #[.int .i64 0, .int .i64 0, .int .u64 0, .int .u64 0, .bool false, .bool false, .bool false, .bool false, .bool false, .bool false, .bool false])) (n * 11) = rowT (fun _ => Ent.zero) n := by
  apply Array.ext_getElem?
  intro m
  by_cases hm : m < n * 11
  · rw [rowT_get _ hm]
    have e : ∀ r, r < 11 → (#[Value.int .i64 0, .int .i64 0, .int .u64 0, .int .u64 0, .bool false, .bool false, .bool false, .bool false, .bool false, .bool false, .bool false])[r]! = cellE Ent.zero r := fun r hr => by
      have : r = 0 ∨ r = 1 ∨ r = 2 ∨ r = 3 ∨ r = 4 ∨ r = 5 ∨ r = 6 ∨ r = 7 ∨ r = 8 ∨ r = 9 ∨ r = 10 := by omega
      rcases this with rfl | rfl | rfl | rfl | rfl | rfl | rfl | rfl | rfl | rfl | rfl <;> rfl
    have h := e (m % 11) (by omega)
    have hs : (madeCells (Value.cells (.agg #[.int .i64 0, .int .i64 0, .int .u64 0, .int .u64 0, .bool false, .bool false, .bool false, .bool false, .bool false, .bool false, .bool false])) (n * 11))[m]? = some ((#[Value.int .i64 0, .int .i64 0, .int .u64 0, .int .u64 0, .bool false, .bool false, .bool false, .bool false, .bool false, .bool false, .bool false])[m % 11]!) := by
      simp only [madeCells, Array.getElem?_map, Array.getElem?_range, if_pos hm, Option.map_some]
      rfl
    rw [hs, h]
  · rw [Array.getElem?_eq_none (by rw [size_madeCells]; omega), Array.getElem?_eq_none (by rw [rowT_size]; omega)]
theorem run_makeE (n : Nat) (hn : n ≤ 64) (w : World) : (Instr.makeSlice 25 (.int .i64 (n : Int)) (.int .i64 (n : Int))).run Try.prog w = .ok (.slice (some ⟨w.heap.size, 0, none⟩) n n) (w.alloc (.cells (rowT (fun _ => Ent.zero) n) 33)) := by
  obtain ⟨i, hi, hzz⟩ := Option.map_eq_some_iff.1 infoE
  simp only [Prod.mk.injEq] at hzz
  obtain ⟨hz, hs, hb⟩ := hzz
  have := run_make (P := Try.prog) w 25 33 i _ Try.underlying25 hi hz .i64 .i64 n n (by omega) (Int.le_refl _) (by rw [hb]; omega) (by omega)
  rw [hs, Int.toNat_natCast, made_rowT] at this
  exact this
/-- How many places New makes. -/
def newN (n : Int) : Nat := (min (max n 1) 64).toNat
theorem newN_bd (n : Int) : 1 ≤ newN n ∧ newN n ≤ 64 := by unfold newN; omega
theorem new_any (n : Int) (w : World) :
    Calls Try.prog 10 #[.int .i64 n] w fun e w' => e = .returned (.pointer (some ⟨w.heap.size + 1, 0, none⟩)) ∧ TlbAt w' (w.heap.size + 1) w.heap.size (newN n) (fun _ => Ent.zero) ∧ Below w.heap.size w w' ∧ w.heap.size + 2 ≤ w'.heap.size := by
  obtain ⟨N, hN⟩ : ∃ N, newN n = N := ⟨_, rfl⟩
  have hbd := newN_bd n
  have hmn : min (max n 1) 64 = (N : Int) := by rw [← hN]; unfold newN; omega
  rw [hN] at hbd ⊢
  have hmk := fun w => run_makeE N hbd.2 w
  clear hN
  go_enter Try.func10, Try.ntmps10
  go_wp2
  go_ret
  refine ⟨rfl, ⟨?_, ?_, hbd.1, hbd.2, Ok.new _⟩, ((Below.refl _ _).alloc (Nat.le_refl _) _).alloc (by simp) _, by simp⟩
  · have := heap_alloc_new (w.alloc (.cells (rowT (fun _ => Ent.zero) N) 33)) (.cells #[.slice (some ⟨w.heap.size, 0, none⟩) N N] 61)
    simpa using this
  · have := heap_alloc_new w (.cells (rowT (fun _ => Ent.zero) N) 33)
    exact (Below.heap_alloc _ _ _ (by simp)).trans this
theorem parts_any (a b : Ent) (a0 : 0 ≤ a.va) (a1 : a.va ≤ 18446744073709551615) (b0 : 0 ≤ b.va) (b1 : b.va ≤ 18446744073709551615) (w : World) :
    Calls Try.prog 18 #[.agg #[.int .i64 a.size, .int .i64 a.ctx, .int .u64 a.va, .int .u64 a.pa, .bool a.att.write, .bool a.att.priv, .bool a.att.exec, .bool a.att.lock, .bool a.att.global, .bool a.att.quiet, .bool a.valid], .agg #[.int .i64 b.size, .int .i64 b.ctx, .int .u64 b.va, .int .u64 b.pa, .bool b.att.write, .bool b.att.priv, .bool b.att.exec, .bool b.att.lock, .bool b.att.global, .bool b.att.quiet, .bool b.valid]] w fun r w' => r = .returned (.bool (partsB a b)) ∧ Below w.heap.size w w' := by
  have H := Lib.hid (show partsB a b = (!meetB a.va a.size b.va b.size || (!a.att.global && !b.att.global && a.ctx != b.ctx)) from rfl)
  have hb : ∀ o o' : Obj, Below w.heap.size w ((w.alloc o).alloc o') := fun o o' => ((Below.refl _ _).alloc (Nat.le_refl _) _).alloc (by simp) _
  have M := fun W => meet_any a.va a.size b.va b.size a0 a1 b0 b1 W
  generalize partsB a b = R at *
  obtain ⟨s, c, v, p, ⟨wr, pr, ex, lk, gl, qu⟩, vd⟩ := a
  obtain ⟨s', c', v', p', ⟨wr', pr', ex', lk', gl', qu'⟩, vd'⟩ := b
  dsimp only at *
  generalize meetB v s v' s' = MT at *
  have M := Lib.hid M
  cases MT
  · go_enter Try.func18, Try.ntmps18
    go_wp2_with (go_at_call 42; refine (M.out _).mono ?_; rintro e w' ⟨rfl, rfl⟩)
    go_ret
    exact ⟨ret_bool H.out.symm, hb _ _⟩
  · cases gl <;> cases gl'
    · go_enter Try.func18, Try.ntmps18
      go_wp2_with (go_at_call 42; refine (M.out _).mono ?_; rintro e w' ⟨rfl, rfl⟩)
      go_ret
      exact ⟨ret_bool H.out.symm, hb _ _⟩
    all_goals
      go_enter Try.func18, Try.ntmps18
      go_wp2_with (go_at_call 42; refine (M.out _).mono ?_; rintro e w' ⟨rfl, rfl⟩)
      go_ret
      exact ⟨ret_bool H.out.symm, hb _ _⟩
theorem slots_any {sb bb n : Nat} {T : Nat → Ent} (w : World) (h : TlbAt w sb bb n T) :
    Calls Try.prog 27 #[.pointer (some ⟨sb, 0, none⟩)] w fun e w' => e = .returned (.int .i64 (n : Int)) ∧ w = w' := by
  have c0 := h.c0
  go_enter Try.func27, Try.ntmps27
  go_wp2
  go_ret
  exact ⟨rfl, rfl⟩
theorem has_any {sb bb n : Nat} {T : Nat → Ent} (i : Int) (w : World) (h : TlbAt w sb bb n T) :
    Calls Try.prog 50 #[.pointer (some ⟨sb, 0, none⟩), .int .i64 i] w fun e w' => e = .returned (.bool (hasB n i)) ∧ w = w' := by
  have c0 := h.c0
  have hle := h.le
  by_cases h0 : 0 ≤ i
  · by_cases h1 : i < (n : Int)
    · have E := Lib.hid (show hasB n i = true by unfold hasB; simp [h0, h1])
      go_enter Try.func50, Try.ntmps50
      go_wp2
      go_ret
      exact ⟨ret_bool E.out.symm, rfl⟩
    · have E := Lib.hid (show hasB n i = false by unfold hasB; simp [h1])
      go_enter Try.func50, Try.ntmps50
      go_wp2
      go_ret
      exact ⟨ret_bool E.out.symm, rfl⟩
  · have E := Lib.hid (show hasB n i = false by unfold hasB; simp [h0])
    go_enter Try.func50, Try.ntmps50
    go_wp2
    go_ret
    exact ⟨ret_bool E.out.symm, rfl⟩
end Go.Proofs.Ytbhpljjogmagoaa.Tl
/-
  Contract of Find of package tlb. Conditions: it reads places that are there.
-/
namespace Go.Proofs.Ytbhpljjogmagoaa.Tl
open Fld
open Go.ChangeShapes Go.WideShapes Go.ChangeAt Go.RowKit
set_option maxHeartbeats 1000000
set_option maxRecDepth 100000
theorem find_any {sb bb n : Nat} {T : Nat → Ent} (va ctx : Int) (x0 : 0 ≤ va) (x1 : va ≤ 18446744073709551615) (w : World) (h : TlbAt w sb bb n T) :
    Calls Try.prog 23 #[.pointer (some ⟨sb, 0, none⟩), .int .u64 va, .int .i64 ctx] w fun e w' => e = .returned (.tuple #[.agg #[.int .i64 (findE T n va ctx).size, .int .i64 (findE T n va ctx).ctx, .int .u64 (findE T n va ctx).va, .int .u64 (findE T n va ctx).pa, .bool (findE T n va ctx).att.write, .bool (findE T n va ctx).att.priv, .bool (findE T n va ctx).att.exec, .bool (findE T n va ctx).att.lock, .bool (findE T n va ctx).att.global, .bool (findE T n va ctx).att.quiet, .bool (findE T n va ctx).valid], .int .i64 (findI T n va ctx)]) ∧ Below w.heap.size w w' := by
  have hle := h.le
  have B1 : Below w.heap.size w (w.alloc (.cells #[.int .i64 0, .int .i64 0, .int .u64 0, .int .u64 0, .bool false, .bool false, .bool false, .bool false, .bool false, .bool false, .bool false] 33)) := (Below.refl _ _).alloc (Nat.le_refl _) _
  have R1 : RowE (w.alloc (.cells #[.int .i64 0, .int .i64 0, .int .u64 0, .int .u64 0, .bool false, .bool false, .bool false, .bool false, .bool false, .bool false, .bool false] 33)) w.heap.size Ent.zero := RowE.new w Ent.zero
  have H1 := h.low B1
  have c0 := H1.c0
  go_enter Try.func23, Try.ntmps23
  go_wp2_with fail
  generalize World.alloc w _ = W1 at B1 R1 H1 c0 ⊢
  clear c0
  go_loopw [15] (fun i wr => ∃ j : Nat, j ≤ n ∧ i = .int .i64 (j : Int) ∧ (∀ k, k < j → (T k).hitsB va ctx = false) ∧ RowE wr w.heap.size Ent.zero ∧ Below w.heap.size w wr) (fun i _ => n - (intOf i).toNat)
  case atStart => exact ⟨0, by omega, rfl, fun k hk => absurd hk (Nat.not_lt_zero k), R1, B1⟩
  case round =>
    clear R1 B1 H1
    obtain ⟨j, hj, rfl, hno, hR, hB⟩ := hrel
    have H := h.low hB
    by_cases hlt : j < n
    · obtain ⟨o, ho⟩ : ∃ o, j * 11 = o := ⟨_, rfl⟩
      obtain ⟨c0, c1, c2, c3, c4, c5, c6, c7, c8, c9, c10⟩ := H.cells hlt ho
      have hwf := (h.ok.wf j hlt).2.2.1
      have C := Lib.hid (fun W => thits_any (T j) va ctx hwf.1 hwf.2 x0 x1 W)
      have hlt' : (j : Int) < (n : Int) := by omega
      have hAE : (⟨bb, 0, none⟩ : Addr).add o = ⟨bb, o, none⟩ := by unfold Addr.add; split <;> simp_all
      have hsz := hR.lt
      have NR0 := RowE.new wr (T j)
      have NL0 : Below wr.heap.size wr (wr.alloc (.cells #[.int .i64 (T j).size, .int .i64 (T j).ctx, .int .u64 (T j).va, .int .u64 (T j).pa, .bool (T j).att.write, .bool (T j).att.priv, .bool (T j).att.exec, .bool (T j).att.lock, .bool (T j).att.global, .bool (T j).att.quiet, .bool (T j).valid] 33)) := (Below.refl _ _).alloc (Nat.le_refl _) _
      go_wp2_with fail
      refine (C.out _).mono ?_; rintro r w1 ⟨rfl, hb1⟩
      have NR := NR0.below hb1 (by simp)
      have NL := NL0.trans (hb1.mono (by simp))
      have hB1 := hB.trans (NL.mono hB.size)
      have hR1 := hR.below NL hsz
      clear NR0 NL0 hb1 C c0 c1 c2 c3 c4 c5 c6 c7 c8 c9 c10 hR hB H
      cases hh : (T j).hitsB va ctx
      · go_wp2_with fail
        go_roundw
        case rel => exact ⟨j + 1, by omega, by go_num, fun k hk => (by by_cases e : k = j; rw [e]; exact hh; exact hno k (by omega)), hR1, hB1⟩
        case measure => simp [intOf]; omega
      · have hF : findN T n va ctx = j := fst_eq hj hno fun _ => hh
        have hI := Lib.hid (show findI T n va ctx = (j : Int) by unfold findI; rw [hF, if_pos hlt])
        have hE := Lib.hid (show findE T n va ctx = T j by unfold findE; rw [hF, if_pos hlt])
        obtain ⟨c0, c1, c2, c3, c4, c5, c6, c7, c8, c9, c10⟩ := NR.cells
        obtain ⟨r0, r1, r2, r3, r4, r5, r6, r7, r8, r9, r10⟩ := hR1.cells
        have fr : ∀ i, w1.frozen? ⟨w.heap.size, i, none⟩ = false := hR1.frozen
        go_wp2_with fail
        have RR := RowE.setAll (e := T j) hR1
        (try simp only [Exit.inBlock, Exit.then])
        refine bodyPost_ret (res_ent rfl _ _ _ _ rfl RR) rfl ?_; exact ⟨ret_entI hE.out hI.out, box_below (X := w) (Nat.le_refl _) hB1⟩
    · obtain rfl : n = j := by omega
      have hF : findN T n va ctx = n := fst_none.2 hno
      have hI := Lib.hid (show findI T n va ctx = -1 by unfold findI; rw [hF, if_neg (by omega)])
      have hE := Lib.hid (show findE T n va ctx = Ent.zero by unfold findE; rw [hF, if_neg (by omega)])
      obtain ⟨r0, r1, r2, r3, r4, r5, r6, r7, r8, r9, r10⟩ := hR.cells
      have fr : ∀ i, wr.frozen? ⟨w.heap.size, i, none⟩ = false := hR.frozen
      go_wp2_with fail
      have RR := RowE.setAll (e := Ent.zero) hR
      (try simp only [Exit.inBlock, Exit.then])
      refine bodyPost_ret (res_ent rfl _ _ _ _ rfl RR) rfl ?_; exact ⟨ret_entI hE.out hI.out, box_below (X := w) (e := Ent.zero) (Nat.le_refl _) hB⟩
end Go.Proofs.Ytbhpljjogmagoaa.Tl
/-
  Contract of At of package tlb. Conditions: it reads places that are there.
-/
namespace Go.Proofs.Ytbhpljjogmagoaa.Tl
open Fld
open Go.ChangeShapes Go.WideShapes Go.ChangeAt Go.RowKit
set_option maxHeartbeats 2000000
set_option maxRecDepth 100000
/-- What stands at a place. -/
def atE (T : Nat → Ent) (n : Nat) (i : Int) : Ent := if hasB n i then T i.toNat else Ent.zero
theorem tlb_S {w : World} {sb bb n : Nat} {T : Nat → Ent} (h : TlbAt w sb bb n T) {i o : Nat} (hi : i < n) (ho : i * 11 = o) : w.cell? ⟨sb, 0, none⟩ = some (.slice (some ⟨bb, 0, none⟩) n n) ∧ w.cell? ⟨bb, o, none⟩ = some (.int .i64 (T i).size) ∧ w.cell? ⟨bb, o + 1, none⟩ = some (.int .i64 (T i).ctx) ∧ w.cell? ⟨bb, o + 2, none⟩ = some (.int .u64 (T i).va) ∧ w.cell? ⟨bb, o + 3, none⟩ = some (.int .u64 (T i).pa) ∧ w.cell? ⟨bb, o + 4, none⟩ = some (.bool (T i).att.write) ∧ w.cell? ⟨bb, o + 5, none⟩ = some (.bool (T i).att.priv) ∧ w.cell? ⟨bb, o + 6, none⟩ = some (.bool (T i).att.exec) ∧ w.cell? ⟨bb, o + 7, none⟩ = some (.bool (T i).att.lock) ∧ w.cell? ⟨bb, o + 8, none⟩ = some (.bool (T i).att.global) ∧ w.cell? ⟨bb, o + 9, none⟩ = some (.bool (T i).att.quiet) ∧ w.cell? ⟨bb, o + 10, none⟩ = some (.bool (T i).valid) := ⟨h.c0, h.cells hi ho⟩
theorem at_any {sb bb n : Nat} {T : Nat → Ent} (i : Int) (w : World) (h : TlbAt w sb bb n T) :
    Calls Try.prog 21 #[.pointer (some ⟨sb, 0, none⟩), .int .i64 i] w fun e w' => e = .returned (.tuple #[.agg #[.int .i64 (atE T n i).size, .int .i64 (atE T n i).ctx, .int .u64 (atE T n i).va, .int .u64 (atE T n i).pa, .bool (atE T n i).att.write, .bool (atE T n i).att.priv, .bool (atE T n i).att.exec, .bool (atE T n i).att.lock, .bool (atE T n i).att.global, .bool (atE T n i).att.quiet, .bool (atE T n i).valid], .bool (atE T n i).valid]) ∧ Below w.heap.size w w' := by
  have hle := h.le
  have B1 : Below w.heap.size w (w.alloc (.cells #[.int .i64 0, .int .i64 0, .int .u64 0, .int .u64 0, .bool false, .bool false, .bool false, .bool false, .bool false, .bool false, .bool false] 33)) := (Below.refl _ _).alloc (Nat.le_refl _) _
  have R1 : RowE (w.alloc (.cells #[.int .i64 0, .int .i64 0, .int .u64 0, .int .u64 0, .bool false, .bool false, .bool false, .bool false, .bool false, .bool false, .bool false] 33)) w.heap.size Ent.zero := RowE.new w Ent.zero
  have H1 := h.low B1
  cases hb : hasB n i
  · have hE := Lib.hid (show atE T n i = Ent.zero by unfold atE; rw [hb]; rfl)
    go_enter Try.func21, Try.ntmps21
    go_wp2_with fail
    generalize World.alloc w _ = W1 at B1 R1 H1 ⊢
    refine (has_any i W1 H1).mono ?_; rintro e w' ⟨rfl, rfl⟩
    rw [hb]
    obtain ⟨r0, r1, r2, r3, r4, r5, r6, r7, r8, r9, r10⟩ := R1.cells
    have fr : ∀ i, W1.frozen? ⟨w.heap.size, i, none⟩ = false := R1.frozen
    go_wp2_with fail
    have RR := RowE.setAll (e := Ent.zero) R1
    (try simp only [Exit.inBlock, Exit.then])
    refine bodyPost_ret (res_ent rfl _ _ _ _ rfl RR) rfl ?_
    exact ⟨ret_entB hE.out (by rw [hE.out]; rfl), box_below (X := w) (e := Ent.zero) (Nat.le_refl _) B1⟩
  · have hb' := hb
    unfold hasB at hb'
    simp only [Bool.and_eq_true, decide_eq_true_eq] at hb'
    obtain ⟨j, rfl⟩ : ∃ j : Nat, i = (j : Int) := ⟨i.toNat, by omega⟩
    have hlt : j < n := by omega
    have hE := Lib.hid (show atE T n (j : Int) = T j by unfold atE; rw [hb]; simp)
    obtain ⟨o, ho⟩ : ∃ o, j * 11 = o := ⟨_, rfl⟩
    have hlt' : (j : Int) < (n : Int) := by omega
    have hAE : (⟨bb, 0, none⟩ : Addr).add o = ⟨bb, o, none⟩ := by unfold Addr.add; split <;> simp_all
    go_enter Try.func21, Try.ntmps21
    go_wp2_with fail
    generalize World.alloc w _ = W1 at B1 R1 H1 ⊢
    refine (has_any (j : Int) W1 H1).mono ?_; rintro e w' ⟨rfl, rfl⟩
    rw [hb]
    obtain ⟨r0, r1, r2, r3, r4, r5, r6, r7, r8, r9, r10⟩ := R1.cells
    have fr : ∀ i, W1.frozen? ⟨w.heap.size, i, none⟩ = false := R1.frozen
    have c := H1.c0
    obtain ⟨c0, c1, c2, c3, c4, c5, c6, c7, c8, c9, c10⟩ := H1.cells hlt ho
    go_wp2_with fail
    have hn1 : bb ≠ w.heap.size := by have := h.lt; omega
    have hn2 : w.heap.size ≠ bb := by omega
    have hn3 : sb ≠ w.heap.size := by have := h.lt; omega
    have hn4 : w.heap.size ≠ sb := by omega
    go_region
    clear c c0 c1 c2 c3 c4 c5 c6 c7 c8 c9 c10 r0 r1 r2 r3 r4 r5 r6 r7 r8 r9 r10
    go_wp2_with fail
    have RR := (RowE.setAll (e := T j) R1).drew
    (try simp only [Exit.inBlock, Exit.then])
    refine bodyPost_ret (res_ent rfl _ _ _ _ rfl RR) rfl ?_
    exact ⟨ret_entB hE.out (by rw [hE.out]), (box_below (X := w) (e := T j) (Nat.le_refl _) B1).drew⟩
end Go.Proofs.Ytbhpljjogmagoaa.Tl
/-
  Contract of count of package tlb, for a closure that keeps its word. Conditions: it reads places that are there.
-/
namespace Go.Proofs.Ytbhpljjogmagoaa.Tl
open Fld
open Go.ChangeShapes Go.WideShapes Go.ChangeAt Go.RowKit
set_option maxHeartbeats 2000000
set_option maxRecDepth 100000
/-- A closure's word: it tells whether a thing is so of an entry, in each world that has what was there (but for block bb). -/
def Tells (g : Nat) (cap : Array Value) (p : Ent → Bool) (bb : Nat) (w : World) : Prop := ∀ (e : Ent) (W : World), e.wf → Turn w W bb → Calls Try.prog g (#[.agg #[.int .i64 e.size, .int .i64 e.ctx, .int .u64 e.va, .int .u64 e.pa, .bool e.att.write, .bool e.att.priv, .bool e.att.exec, .bool e.att.lock, .bool e.att.global, .bool e.att.quiet, .bool e.valid]] ++ cap) W fun r w' => r = .returned (.bool (p e)) ∧ Below W.heap.size W w'
theorem count_any {sb bb n : Nat} {T : Nat → Ent} (g : Nat) (cap : Array Value) (p : Ent → Bool) (w : World) (h : TlbAt w sb bb n T) (eg : ∀ args w, (callFunc g args).run Try.prog w = .ok (.enter g args) w) (hg : Tells g cap p bb w) :
    Calls Try.prog 47 #[.pointer (some ⟨sb, 0, none⟩), .func (.func g) #[] cap] w fun e w' => e = .returned (.int .i64 (cntE T p n : Int)) ∧ Below w.heap.size w w' := by
  have hle := h.le
  have c0 := h.c0
  go_enter Try.func47, Try.ntmps47
  go_wp2_with fail
  clear c0
  go_loopw [5, 13] (fun v i wr => ∃ j : Nat, j ≤ n ∧ i = .int .i64 (j : Int) ∧ v = .int .i64 (cntE T p j : Int) ∧ Below w.heap.size w wr) (fun _ i _ => n - (intOf i).toNat)
  case atStart => exact ⟨0, by omega, rfl, rfl, Below.refl _ _⟩
  case round =>
    obtain ⟨j, hj, rfl, rfl, hB⟩ := hrel
    have H := h.low hB
    have hcl := cntE_le T p j
    by_cases hlt : j < n
    · obtain ⟨o, ho⟩ : ∃ o, j * 11 = o := ⟨_, rfl⟩
      obtain ⟨c0, c1, c2, c3, c4, c5, c6, c7, c8, c9, c10⟩ := H.cells hlt ho
      have hwf := h.ok.wf j hlt
      have hlt' : (j : Int) < (n : Int) := by omega
      have hAE : (⟨bb, 0, none⟩ : Addr).add o = ⟨bb, o, none⟩ := by unfold Addr.add; split <;> simp_all
      have hcnt := Lib.hid (show cntE T p (j + 1) = cntE T p j + if (T j).valid && p (T j) then 1 else 0 from rfl)
      have hg' := Lib.hid (fun W => hg (T j) W hwf)
      generalize cntE T p j = c at *
      cases hv : (T j).valid
      · rw [hv] at hcnt c10
        go_wp2_with fail
        go_roundw
        case rel => exact ⟨j + 1, by omega, by go_num, by rw [hcnt.out]; simp, hB.alloc hB.size _⟩
        case measure => simp [intOf]; omega
      · rw [hv] at hcnt c10 hg'
        go_wp2_with fail
        have NR0 := RowE.new wr (T j)
        have NL0 : Below wr.heap.size wr (wr.alloc (.cells #[.int .i64 (T j).size, .int .i64 (T j).ctx, .int .u64 (T j).va, .int .u64 (T j).pa, .bool (T j).att.write, .bool (T j).att.priv, .bool (T j).att.exec, .bool (T j).att.lock, .bool (T j).att.global, .bool (T j).att.quiet, .bool (T j).valid] 33)) := (Below.refl _ _).alloc (Nat.le_refl _) _
        rw [hv] at NR0 NL0
        refine (hg'.out _ (Turn.of_below _ (hB.trans (NL0.mono hB.size)))).mono ?_; rintro r w1 ⟨rfl, hb1⟩
        have hB1 := hB.trans ((NL0.trans (hb1.mono (by simp))).mono hB.size)
        clear NR0 NL0 hb1 hg' c0 c1 c2 c3 c4 c5 c6 c7 c8 c9 c10 hB H hg
        cases hp : p (T j)
        · rw [hp] at hcnt
          go_wp2_with fail
          go_roundw
          case rel => exact ⟨j + 1, by omega, by go_num, by rw [hcnt.out]; simp, hB1⟩
          case measure => simp [intOf]; omega
        · rw [hp] at hcnt
          go_wp2_with fail
          go_roundw
          case rel => exact ⟨j + 1, by omega, by go_num, by rw [hcnt.out]; simp, hB1⟩
          case measure => simp [intOf]; omega
    · obtain rfl : n = j := by omega
      go_wp2_with fail
      go_ret
      exact ⟨rfl, hB⟩
/-- What drop does with the places. -/
theorem drop_any {sb bb n : Nat} {T : Nat → Ent} (g : Nat) (cap : Array Value) (p : Ent → Bool) (w : World) (h : TlbAt w sb bb n T) (eg : ∀ args w, (callFunc g args).run Try.prog w = .ok (.enter g args) w) (hg : Tells g cap p bb w) :
    Calls Try.prog 48 #[.pointer (some ⟨sb, 0, none⟩), .func (.func g) #[] cap] w fun e w' => e = .returned (.int .i64 (cntE T p n : Int)) ∧ TlbAt w' sb bb n (dropE T p n) ∧ Turn w w' bb := by
  have hle := h.le
  have c0 := h.c0
  obtain ⟨hsb, hbb⟩ := h.lt
  go_enter Try.func48, Try.ntmps48
  go_wp2_with fail
  clear c0
  go_loopw [5, 13] (fun v i wr => ∃ j : Nat, j ≤ n ∧ i = .int .i64 (j : Int) ∧ v = .int .i64 (cntE T p j : Int) ∧ TlbAt wr sb bb n (dropE T p j) ∧ Turn w wr bb) (fun _ i _ => n - (intOf i).toNat)
  case atStart => exact ⟨0, by omega, rfl, rfl, by rw [dropE_zero]; exact h, Turn.refl _ _⟩
  case round =>
    obtain ⟨j, hj, rfl, rfl, H, hB⟩ := hrel
    have hcl := cntE_le T p j
    by_cases hlt : j < n
    · obtain ⟨o, ho⟩ : ∃ o, j * 11 = o := ⟨_, rfl⟩
      have hcs := H.cells hlt ho
      rw [dropE_ge (Nat.le_refl j)] at hcs
      obtain ⟨c0, c1, c2, c3, c4, c5, c6, c7, c8, c9, c10⟩ := hcs
      have hwf := h.ok.wf j hlt
      have hlt' : (j : Int) < (n : Int) := by omega
      have hAE : (⟨bb, 0, none⟩ : Addr).add o = ⟨bb, o, none⟩ := by unfold Addr.add; split <;> simp_all
      have hcnt := Lib.hid (show cntE T p (j + 1) = cntE T p j + if (T j).valid && p (T j) then 1 else 0 from rfl)
      have hmiss := Lib.hid (fun h => dropE_miss (T := T) (p := p) (n := j) h)
      have hhit := Lib.hid (fun h => dropE_hit (T := T) (p := p) (n := j) h)
      have hok := Lib.hid (h.ok.drop p (j + 1))
      have hg' := Lib.hid (fun W => hg (T j) W hwf)
      generalize cntE T p j = c at *
      generalize dropE T p j = U at *
      cases hv : (T j).valid
      · rw [hv] at hcnt c10 hmiss
        go_wp2_with fail
        go_roundw
        case rel => exact ⟨j + 1, by omega, by go_num, by rw [hcnt.out]; simp, by rw [← hmiss.out rfl]; exact H.low ((Below.refl _ _).alloc (Nat.le_refl _) _), hB.alloc _⟩
        case measure => simp [intOf]; omega
      · rw [hv] at hcnt c10 hg' hmiss hhit
        go_wp2_with fail
        have NL0 : Below wr.heap.size wr (wr.alloc (.cells #[.int .i64 (T j).size, .int .i64 (T j).ctx, .int .u64 (T j).va, .int .u64 (T j).pa, .bool (T j).att.write, .bool (T j).att.priv, .bool (T j).att.exec, .bool (T j).att.lock, .bool (T j).att.global, .bool (T j).att.quiet, .bool (T j).valid] 33)) := (Below.refl _ _).alloc (Nat.le_refl _) _
        rw [hv] at NL0
        refine (hg'.out _ (hB.call NL0)).mono ?_; rintro r w1 ⟨rfl, hb1⟩
        have NL1 := NL0.trans (hb1.mono (by simp))
        have hB1 := hB.call NL1
        have H1 := H.low NL1
        clear NL0 hb1 hg' c0 c1 c2 c3 c4 c5 c6 c7 c8 c9 c10 hB H hg
        cases hp : p (T j)
        · rw [hp] at hcnt hmiss
          go_wp2_with fail
          go_roundw
          case rel => exact ⟨j + 1, by omega, by go_num, by rw [hcnt.out]; simp, by rw [← hmiss.out rfl]; exact H1, hB1⟩
          case measure => simp [intOf]; omega
        · rw [hp] at hcnt hhit
          have c := H1.c0
          obtain ⟨c0, c1, c2, c3, c4, c5, c6, c7, c8, c9, c10⟩ := H1.cells hlt ho
          have fr := H1.frozen
          go_wp2_with fail
          have hU := hhit.out rfl
          have H2 := H1.put hlt ho (e := Ent.zero) (by rw [hU]; exact hok.out)
          rw [hU] at H2
          have hB2 := hB1.set11 (g := bb) (o := o) (e := Ent.zero) (.inl rfl)
          go_roundw
          case rel => exact ⟨j + 1, by omega, by go_num, by rw [hcnt.out]; simp, H2, hB2⟩
          case measure => simp [intOf]; omega
    · obtain rfl : n = j := by omega
      go_wp2_with fail
      go_ret
      exact ⟨rfl, H, hB⟩
end Go.Proofs.Ytbhpljjogmagoaa.Tl
/-
  The closures of package tlb, and Locked, DemapAll, DemapPage, DemapContext. Conditions: they read places that are there; addresses are below 2 to the 64.
-/
namespace Go.Proofs.Ytbhpljjogmagoaa.Tl
open Fld
open Go.ChangeShapes Go.WideShapes Go.ChangeAt Go.RowKit Go.Shelf
set_option maxHeartbeats 2000000
set_option maxRecDepth 100000
theorem box1 (w : World) (o : Obj) : Below w.heap.size w (w.alloc o) := (Below.refl _ _).alloc (Nat.le_refl _) _
theorem lt_cell {w : World} {b o : Nat} {v : Value} (h : w.cell? ⟨b, o, none⟩ = some v) : b < w.heap.size := World.block_lt_of_cell? w ⟨b, o, none⟩ h
theorem turn_cell {w W : World} {bb b o : Nat} {v : Value} (h : Turn w W bb) (hb : b ≠ bb) (hc : w.cell? ⟨b, o, none⟩ = some v) : W.cell? ⟨b, o, none⟩ = some v := by
  have hlt : b < w.heap.size := lt_cell hc
  rw [World.cell?_of_block (a := ⟨b, o, none⟩) (h.block b hlt hb)]; exact hc
theorem tells_lock (bb : Nat) (w : World) : Tells 53 #[] (fun e => e.att.lock) bb w := by
  intro e W _ _
  obtain ⟨s, c, v, p, ⟨wr, pr, ex, lk, gl, qu⟩, vd⟩ := e
  dsimp only
  rw [Array.append_empty]
  go_enter Try.func53, Try.ntmps53
  go_wp2
  go_ret
  exact ⟨rfl, box1 _ _⟩
theorem tells_free (bb : Nat) (w : World) : Tells 51 #[] (fun e => !e.att.lock) bb w := by
  intro e W _ _
  obtain ⟨s, c, v, p, ⟨wr, pr, ex, lk, gl, qu⟩, vd⟩ := e
  dsimp only
  rw [Array.append_empty]
  go_enter Try.func51, Try.ntmps51
  go_wp2
  go_ret
  exact ⟨rfl, box1 _ _⟩
theorem tells_page (bb b1 b2 : Nat) (va ctx : Int) (x0 : 0 ≤ va) (x1 : va ≤ 18446744073709551615) (w : World) (h1 : b1 ≠ bb) (h2 : b2 ≠ bb) (c1 : w.cell? ⟨b1, 0, none⟩ = some (.int .u64 va)) (c2 : w.cell? ⟨b2, 0, none⟩ = some (.int .i64 ctx)) :
    Tells 54 #[.pointer (some ⟨b1, 0, none⟩), .pointer (some ⟨b2, 0, none⟩)] (fun e => e.hitsB va ctx) bb w := by
  intro e W hwf hT
  dsimp only
  have d1 := turn_cell hT h1 c1
  have d2 := turn_cell hT h2 c2
  have C := fun W => thits_any e va ctx hwf.2.2.1.1 hwf.2.2.1.2 x0 x1 W
  have l1 := lt_cell d1
  have l2 := lt_cell d2
  clear hwf hT c1 c2
  generalize e.hitsB va ctx = R at *
  obtain ⟨s, c, v, p, ⟨wr, pr, ex, lk, gl, qu⟩, vd⟩ := e
  dsimp only at *
  have C := Lib.hid C
  simp only [List.append_toArray, List.cons_append, List.nil_append]
  go_enter Try.func54, Try.ntmps54
  go_wp2_with fail
  refine (C.out _).mono ?_; rintro r w1 ⟨rfl, hb1⟩
  have hb2 := (box1 W _).trans (hb1.mono (by simp))
  clear d1 d2 l1 l2 hb1
  go_wp2_with fail
  go_ret
  exact ⟨rfl, hb2⟩
theorem tells_ctx (bb b1 : Nat) (ctx : Int) (w : World) (h1 : b1 ≠ bb) (c1 : w.cell? ⟨b1, 0, none⟩ = some (.int .i64 ctx)) :
    Tells 58 #[.pointer (some ⟨b1, 0, none⟩)] (fun e => !e.att.global && e.ctx == ctx) bb w := by
  intro e W _ hT
  have d1 := turn_cell hT h1 c1
  have l1 := lt_cell d1
  clear hT c1
  obtain ⟨s, c, v, p, ⟨wr, pr, ex, lk, gl, qu⟩, vd⟩ := e
  dsimp only
  simp only [List.append_toArray, List.cons_append, List.nil_append]
  cases gl
  · go_enter Try.func58, Try.ntmps58
    go_wp2
    go_ret
    exact ⟨rfl, box1 _ _⟩
  · go_enter Try.func58, Try.ntmps58
    go_wp2
    go_ret
    exact ⟨rfl, box1 _ _⟩
def lockB (e : Ent) : Bool := e.att.lock
theorem locked_any {sb bb n : Nat} {T : Nat → Ent} (w : World) (h : TlbAt w sb bb n T) :
    Calls Try.prog 24 #[.pointer (some ⟨sb, 0, none⟩)] w fun e w' => e = .returned (.int .i64 (cntE T (fun e => e.att.lock) n : Int)) ∧ Below w.heap.size w w' := by
  have C := Lib.hid (count_any 53 #[] _ w h (enters_of Try.func53 (by kernel_rfl) rfl) (tells_lock bb w))
  go_enter Try.func24, Try.ntmps24
  go_wp2_with fail
  refine C.out.mono ?_; rintro r w1 ⟨rfl, hb1⟩
  go_wp2_with fail
  go_ret
  exact ⟨rfl, hb1⟩
theorem dall_any {sb bb n : Nat} {T : Nat → Ent} (w : World) (h : TlbAt w sb bb n T) :
    Calls Try.prog 22 #[.pointer (some ⟨sb, 0, none⟩)] w fun e w' => e = .returned (.int .i64 (cntE T (fun e => !e.att.lock) n : Int)) ∧ TlbAt w' sb bb n (dropE T (fun e => !e.att.lock) n) ∧ Turn w w' bb := by
  have C := Lib.hid (drop_any 51 #[] _ w h (enters_of Try.func51 (by kernel_rfl) rfl) (tells_free bb w))
  go_enter Try.func22, Try.ntmps22
  go_wp2_with fail
  refine C.out.mono ?_; rintro r w1 ⟨rfl, hb1⟩
  go_wp2_with fail
  go_ret
  exact ⟨rfl, hb1⟩
theorem dpage_any {sb bb n : Nat} {T : Nat → Ent} (va ctx : Int) (x0 : 0 ≤ va) (x1 : va ≤ 18446744073709551615) (w : World) (h : TlbAt w sb bb n T) :
    Calls Try.prog 25 #[.pointer (some ⟨sb, 0, none⟩), .int .u64 va, .int .i64 ctx] w fun e w' => e = .returned (.int .i64 (cntE T (fun e => e.hitsB va ctx) n : Int)) ∧ TlbAt w' sb bb n (dropE T (fun e => e.hitsB va ctx) n) ∧ Turn w w' bb := by
  have hmf : ∀ (fn : Fn) (first cap : Array Value) (w : World), (Instr.makeFunc fn first cap).run Try.prog w = .ok (.func fn first cap) w := fun _ _ _ _ => rfl
  have hl := h.lt
  have c1 : ((w.alloc (.cells #[.int .u64 va] 29)).alloc (.cells #[.int .i64 ctx] 3)).cell? ⟨w.heap.size, 0, none⟩ = some (.int .u64 va) := by
    rw [World.cell?_alloc_past _ _ _ (by simp), World.cell?_alloc_at _ _ _ _ rfl]; rfl
  have c2 : ((w.alloc (.cells #[.int .u64 va] 29)).alloc (.cells #[.int .i64 ctx] 3)).cell? ⟨w.heap.size + 1, 0, none⟩ = some (.int .i64 ctx) := by
    rw [World.cell?_alloc_at _ _ _ _ (by simp)]; rfl
  have B : Below w.heap.size w ((w.alloc (.cells #[.int .u64 va] 29)).alloc (.cells #[.int .i64 ctx] 3)) := ((Below.refl _ _).alloc (Nat.le_refl _) _).alloc (by simp) _
  have C := Lib.hid (drop_any 54 _ _ _ (h.low B) (enters_of Try.func54 (by kernel_rfl) rfl) (tells_page bb _ _ va ctx x0 x1 _ (by omega) (by omega) c1 c2))
  clear c1 c2
  go_enter Try.func25, Try.ntmps25
  go_wp2_with fail
  refine C.out.mono ?_; rintro r w1 ⟨rfl, h1, t1⟩
  have t2 := (Turn.of_below bb B).trans t1
  clear B t1
  go_wp2_with fail
  go_ret
  exact ⟨rfl, h1, t2⟩
theorem dctx_any {sb bb n : Nat} {T : Nat → Ent} (ctx : Int) (w : World) (h : TlbAt w sb bb n T) :
    Calls Try.prog 34 #[.pointer (some ⟨sb, 0, none⟩), .int .i64 ctx] w fun e w' => e = .returned (.int .i64 (cntE T (fun e => !e.att.global && e.ctx == ctx) n : Int)) ∧ TlbAt w' sb bb n (dropE T (fun e => !e.att.global && e.ctx == ctx) n) ∧ Turn w w' bb := by
  have hmf : ∀ (fn : Fn) (first cap : Array Value) (w : World), (Instr.makeFunc fn first cap).run Try.prog w = .ok (.func fn first cap) w := fun _ _ _ _ => rfl
  have hl := h.lt
  have c1 : (w.alloc (.cells #[.int .i64 ctx] 3)).cell? ⟨w.heap.size, 0, none⟩ = some (.int .i64 ctx) := by
    rw [World.cell?_alloc_at _ _ _ _ rfl]; rfl
  have B := box1 w (.cells #[.int .i64 ctx] 3)
  have C := Lib.hid (drop_any 58 _ _ _ (h.low B) (enters_of Try.func58 (by kernel_rfl) rfl) (tells_ctx bb _ ctx _ (by omega) c1))
  clear c1
  go_enter Try.func34, Try.ntmps34
  go_wp2_with fail
  refine C.out.mono ?_; rintro r w1 ⟨rfl, h1, t1⟩
  have t2 := (Turn.of_below bb B).trans t1
  clear B t1
  go_wp2_with fail
  go_ret
  exact ⟨rfl, h1, t2⟩
end Go.Proofs.Ytbhpljjogmagoaa.Tl
/-
  Contract of room of package tlb. Conditions: it reads places of which one is empty or has no lock; the pick is an int.
-/
namespace Go.Proofs.Ytbhpljjogmagoaa.Tl
open Fld
open Go.ChangeShapes Go.WideShapes Go.ChangeAt Go.RowKit Go.Shelf
set_option maxHeartbeats 2000000
set_option maxRecDepth 100000
theorem room_any {sb bb n : Nat} {T : Nat → Ent} (p : Int) (p0 : -9223372036854775808 ≤ p) (p1 : p ≤ 9223372036854775807) (w : World) (h : TlbAt w sb bb n T) (hr : hasRoom T n) :
    Calls Try.prog 49 #[.pointer (some ⟨sb, 0, none⟩), .int .i64 p] w fun e w' => e = .returned (.int .i64 (roomI T n p : Int)) ∧ Below w.heap.size w w' := by
  obtain ⟨i0, hi, hz0, hz1, hz2⟩ := info_parts infoInt
  have hle := h.le
  have c0 := h.c0
  go_enter Try.func49, Try.ntmps49
  go_wp2_with fail
  clear c0
  go_loopw [5, 13] (fun v i wr => ∃ j : Nat, j ≤ n ∧ i = .int .i64 (j : Int) ∧ (∀ k, k < j → (T k).valid = true) ∧ wr.ownsRow w.heap.size 3 1 v (opens T j).length (intsV (opens T j)) ∧ Below w.heap.size w wr) (fun _ i _ => n - (intOf i).toNat)
  case atStart => exact ⟨0, by omega, rfl, fun k hk => absurd hk (Nat.not_lt_zero k), World.ownsRow_nil _ _ _ _, Below.refl _ _⟩
  case round =>
    obtain ⟨j, hj, rfl, hval, hown, hB⟩ := hrel
    have H := h.low hB
    have hlen := opens_length T j
    obtain ⟨ao, cap, rfl⟩ := own_shape hown
    by_cases hlt : j < n
    · obtain ⟨o, ho⟩ : ∃ o, j * 11 = o := ⟨_, rfl⟩
      obtain ⟨c0, c1, c2, c3, c4, c5, c6, c7, c8, c9, c10⟩ := H.cells hlt ho
      have hlt' : (j : Int) < (n : Int) := by omega
      have hAE : (⟨bb, 0, none⟩ : Addr).add o = ⟨bb, o, none⟩ := by unfold Addr.add; split <;> simp_all
      have hB1 := hB.alloc hB.size (.cells #[.int .i64 (T j).size, .int .i64 (T j).ctx, .int .u64 (T j).va, .int .u64 (T j).pa, .bool (T j).att.write, .bool (T j).att.priv, .bool (T j).att.exec, .bool (T j).att.lock, .bool (T j).att.global, .bool (T j).att.quiet, .bool (T j).valid] 33)
      have hO1 := hown.alloc (.cells #[.int .i64 (T j).size, .int .i64 (T j).ctx, .int .u64 (T j).va, .int .u64 (T j).pa, .bool (T j).att.write, .bool (T j).att.priv, .bool (T j).att.exec, .bool (T j).att.lock, .bool (T j).att.global, .bool (T j).att.quiet, .bool (T j).valid] 33)
      cases hv : (T j).valid
      · have hR := Lib.hid (show (roomI T n p : Int) = (j : Int) by
          have : fst T (fun e => !e.valid) n = j := fst_eq hj (fun k hk => by rw [hval k hk]; rfl) (fun _ => by rw [hv]; rfl)
          unfold roomI; rw [this, if_pos hlt])
        rw [hv] at c10 hB1
        clear hO1
        go_wp2_with fail
        go_ret
        exact ⟨ret_int hR.out.symm, hB1⟩
      · have hval1 : ∀ k, k < j + 1 → (T k).valid = true := fun k hk => by
          by_cases e : k = j
          · rw [e]; exact hv
          · exact hval k (by omega)
        rw [hv] at c10 hB1 hO1
        cases hk : (T j).att.lock
        · have HS := Lib.hid (opens_hit (T := T) (n := j) hk)
          rw [hk] at c7 hB1 hO1
          obtain ⟨m, hm⟩ : ∃ m, (opens T j).length = m := ⟨_, rfl⟩
          rw [hm] at hO1 hlen ⊢
          have HMM := Lib.hid hm
          clear hm hown hB H
          go_wp2_with (at_builtin; (refine wpList_append_own _ rfl _ _ 45 rfl w.heap.size 3 i0 (.int .i64 0) 1 8 Try.underlying45 hi hz0 hz1 hz2 rfl (by decide) _ _ _ rfl (by exact hO1.alloc _) ⟨wr.heap.size + 1, 0, none⟩ 1 1 [.int .i64 (j : Int)] rfl rfl (by have := news_int (wr.alloc (.cells #[.int .i64 (T j).size, .int .i64 (T j).ctx, .int .u64 (T j).va, .int .u64 (T j).pa, .bool (T j).att.write, .bool (T j).att.priv, .bool (T j).att.exec, .bool false, .bool (T j).att.global, .bool (T j).att.quiet, .bool true] 33)) 3 (.int .i64 (j : Int)); simpa using this) (by intro u hu; simp at hu; subst hu; rfl) (by unfold maxLen; omega) (by omega) (by have := hB1.size; simp at this ⊢; omega) ?_))
          · intro v' w1 hown' hgrow _
            have R1 : w1.ownsRow w.heap.size 3 1 v' (opens T (j + 1)).length (intsV (opens T (j + 1))) := by
              rw [HS.out, List.length_append, HMM.out, intsV_snoc]; exact hown'
            have R2 : Below w.heap.size w w1 := (hB1.alloc hB1.size _).grown hgrow (by have := hB1.size; simp at this ⊢; omega) (fun g hg => (hO1.lt g hg).1)
            clear hown' hgrow hO1 hB1
            go_wp2
            go_roundw
            case rel => exact ⟨j + 1, by omega, by go_num, hval1, R1, R2⟩
            case measure => simp [intOf]; omega
        · have HM := Lib.hid (opens_miss (T := T) (n := j) hk)
          rw [hk] at c7 hB1 hO1
          go_wp2_with fail
          go_roundw
          case rel => exact ⟨j + 1, by omega, by go_num, hval1, by rw [HM.out]; exact hO1, hB1⟩
          case measure => simp [intOf]; omega
    · obtain rfl : n = j := by omega
      have hall : fst T (fun e => !e.valid) n = n := fst_none.2 fun k hk => by rw [hval k hk]; rfl
      have hpos : 0 < (opens T n).length := by
        rcases hr with h1 | h1
        · omega
        · exact h1
      obtain ⟨g, cap2, hsl, hcap, hmx, hcl⟩ := own_some hown hpos
      have hpk := pickN_lt p hpos
      have hcell := hcl _ hpk
      obtain ⟨q, hq1, hq2, hq3⟩ := pick_at p hpos
      have hR := Lib.hid (show (roomI T n p : Int) = (q : Int) by unfold roomI; rw [hall, if_neg (by omega), hq3]; simp)
      have hgl : (opens T n)[pickN T n p] = (q : Int) := by
        rw [List.getD_eq_getElem?_getD, List.getElem?_eq_getElem hpk] at hq3; exact hq3
      rw [hgl] at hcell
      obtain ⟨m, hm⟩ : ∃ m, (opens T n).length = m := ⟨_, rfl⟩
      have hpd := pickP_bd p0 p1
      have hPN : (pickP p).tmod (m : Int) = (pickN T n p : Int) := by
        unfold pickN; rw [hm, Int.tmod_eq_emod_of_nonneg hpd.1, Int.toNat_of_nonneg (Int.emod_nonneg _ (by omega))]
      rw [hsl, hm]
      rw [hm] at hpk hpos hlen
      generalize pickN T n p = kk at *
      have hAE : (⟨g, 0, none⟩ : Addr).add kk = ⟨g, kk, none⟩ := by unfold Addr.add; split <;> simp_all
      by_cases hneg : p < 0
      · have e1 : pickP p = -1 - p := by unfold pickP; rw [if_pos hneg]
        rw [e1] at hPN hpd
        clear hown hcl hgl hq3 hsl
        go_wp2_with fail
        go_ret
        exact ⟨ret_int hR.out.symm, hB⟩
      · have e1 : pickP p = p := by unfold pickP; rw [if_neg hneg]
        rw [e1] at hPN hpd
        clear hown hcl hgl hq3 hsl
        go_wp2_with fail
        go_ret
        exact ⟨ret_int hR.out.symm, hB⟩
end Go.Proofs.Ytbhpljjogmagoaa.Tl
/-
  Lists of entries that a call made itself: their cells, what is appended, and put at a place. Conditions: none.
-/
namespace Go.Proofs.Ytbhpljjogmagoaa.Tl
open Fld
open Go.ChangeShapes Go.WideShapes Go.ChangeAt Go.RowKit Go.Shelf
set_option maxHeartbeats 1000000
set_option maxRecDepth 100000
def eleven (e : Ent) : List Value := [.int .i64 e.size, .int .i64 e.ctx, .int .u64 e.va, .int .u64 e.pa, .bool e.att.write, .bool e.att.priv, .bool e.att.exec, .bool e.att.lock, .bool e.att.global, .bool e.att.quiet, .bool e.valid]
theorem eleven_get (e : Ent) {k : Nat} (hk : k < 11) : (eleven e)[k]? = some (cellE e k) := by
  have : k = 0 ∨ k = 1 ∨ k = 2 ∨ k = 3 ∨ k = 4 ∨ k = 5 ∨ k = 6 ∨ k = 7 ∨ k = 8 ∨ k = 9 ∨ k = 10 := by omega
  rcases this with rfl | rfl | rfl | rfl | rfl | rfl | rfl | rfl | rfl | rfl | rfl <;> rfl
theorem rowL_snoc {T : Nat → Ent} {n : Nat} {e : Ent} (h : T n = e) : rowL T (n + 1) = rowL T n ++ eleven e := by
  apply List.ext_getElem?
  intro m
  by_cases hm : m < n * 11
  · rw [rowL_get T (by omega), List.getElem?_append_left (by rw [rowL_length]; omega), rowL_get T hm]
  · rw [List.getElem?_append_right (by rw [rowL_length]; omega), rowL_length]
    by_cases h2 : m < (n + 1) * 11
    · rw [rowL_get T h2, show m / 11 = n by omega, eleven_get e (by omega), h, show m - n * 11 = m % 11 by omega]
    · rw [List.getElem?_eq_none (by rw [rowL_length]; omega), List.getElem?_eq_none (by show 11 ≤ _; omega)]
theorem rowL_nil (T : Nat → Ent) : rowL T 0 = [] := rfl
theorem cell_one (e : Ent) (k : Nat) : (cellE e k).oneCell' = true := by unfold cellE; split <;> rfl
theorem row_one (T : Nat → Ent) (n : Nat) : ∀ u ∈ rowL T n, u.oneCell' = true := by
  intro u hu
  unfold rowL at hu
  rw [List.mem_map] at hu
  obtain ⟨m, _, rfl⟩ := hu
  exact cell_one _ _
theorem eleven_one (e : Ent) : ∀ u ∈ eleven e, u.oneCell' = true := by
  intro u hu
  simp only [eleven, List.mem_cons, List.not_mem_nil, or_false] at hu
  rcases hu with rfl | rfl | rfl | rfl | rfl | rfl | rfl | rfl | rfl | rfl | rfl <;> rfl
/-- A list of n entries that lies in new memory (from block B on). -/
abbrev DocAt (w : World) (B : Nat) (v : Value) (n : Nat) (R : Nat → Ent) : Prop := w.ownsRow B 33 11 v n (rowL R n)
theorem doc_at {w : World} {B n : Nat} {v : Value} {R : Nat → Ent} (h : DocAt w B v n R) (hn : 1 ≤ n) :
    ∃ g cap, v = .slice (some ⟨g, 0, none⟩) n cap ∧ n ≤ cap ∧ cap ≤ maxLen ∧ B ≤ g ∧ g < w.heap.size ∧ (∀ i o, i < n → i * 11 = o → w.cell? ⟨g, o, none⟩ = some (.int .i64 (R i).size) ∧ w.cell? ⟨g, o + 1, none⟩ = some (.int .i64 (R i).ctx) ∧ w.cell? ⟨g, o + 2, none⟩ = some (.int .u64 (R i).va) ∧ w.cell? ⟨g, o + 3, none⟩ = some (.int .u64 (R i).pa) ∧ w.cell? ⟨g, o + 4, none⟩ = some (.bool (R i).att.write) ∧ w.cell? ⟨g, o + 5, none⟩ = some (.bool (R i).att.priv) ∧ w.cell? ⟨g, o + 6, none⟩ = some (.bool (R i).att.exec) ∧ w.cell? ⟨g, o + 7, none⟩ = some (.bool (R i).att.lock) ∧ w.cell? ⟨g, o + 8, none⟩ = some (.bool (R i).att.global) ∧ w.cell? ⟨g, o + 9, none⟩ = some (.bool (R i).att.quiet) ∧ w.cell? ⟨g, o + 10, none⟩ = some (.bool (R i).valid)) ∧ (∀ j, w.frozen? ⟨g, j, none⟩ = false) := by
  have h0 := h
  rcases h.2 with ⟨_, h0⟩ | ⟨g, cap, cur, rfl, hB, hg, h1, h2, _, _⟩
  · omega
  · refine ⟨g, cap, rfl, h1, h2, hB, (Array.getElem?_eq_some_iff.1 hg).1, fun i o hi ho => ?_, fun j => by simp [World.frozen?, hg]⟩
    subst ho
    have hc : ∀ k, k < 11 → w.cell? ⟨g, i * 11 + k, none⟩ = some (cellE (R i) k) := fun k hk => by
      rw [h0.cellAt (i * 11 + k) (by omega), rowL_get R (by omega), show (i * 11 + k) / 11 = i by omega, show (i * 11 + k) % 11 = k by omega]
    exact ⟨hc 0 (by decide), hc 1 (by decide), hc 2 (by decide), hc 3 (by decide), hc 4 (by decide), hc 5 (by decide), hc 6 (by decide), hc 7 (by decide), hc 8 (by decide), hc 9 (by decide), hc 10 (by decide)⟩
theorem doc_news {w : World} {B n g cap : Nat} {R : Nat → Ent} (h : DocAt w B (.slice (some ⟨g, 0, none⟩) n cap) n R) : ∀ j u, (rowL R n)[j]? = some u → w.cell? ((⟨g, 0, none⟩ : Addr).add j) = some u := by
  intro j u hj
  have hl : j < n * 11 := by
    have := (List.getElem?_eq_some_iff.1 hj).1; rwa [rowL_length] at this
  have ha : (⟨g, 0, none⟩ : Addr).add j = ⟨g, j, none⟩ := by unfold Addr.add; split <;> simp_all
  rw [ha, h.cellAt j hl]; exact hj
/-- An entry is put at a place of the list. -/
theorem doc_put {w : World} {B n g cap : Nat} {R : Nat → Ent} (h : DocAt w B (.slice (some ⟨g, 0, none⟩) n cap) n R) {i o : Nat} (hi : i < n) (ho : i * 11 = o) (e : Ent) : DocAt (((((((((((w.setCell ⟨g, o, none⟩ (.int .i64 e.size)).setCell ⟨g, o + 1, none⟩ (.int .i64 e.ctx)).setCell ⟨g, o + 2, none⟩ (.int .u64 e.va)).setCell ⟨g, o + 3, none⟩ (.int .u64 e.pa)).setCell ⟨g, o + 4, none⟩ (.bool e.att.write)).setCell ⟨g, o + 5, none⟩ (.bool e.att.priv)).setCell ⟨g, o + 6, none⟩ (.bool e.att.exec)).setCell ⟨g, o + 7, none⟩ (.bool e.att.lock)).setCell ⟨g, o + 8, none⟩ (.bool e.att.global)).setCell ⟨g, o + 9, none⟩ (.bool e.att.quiet)).setCell ⟨g, o + 10, none⟩ (.bool e.valid)) B (.slice (some ⟨g, 0, none⟩) n cap) n (setE R i e) := by
  refine ⟨by rw [rowL_length], ?_⟩
  rcases h.2 with ⟨hv, _⟩ | ⟨g', cap', cur, hv, hB, hg, h1, h2, h3, h4⟩
  · cases hv
  · simp only [Value.slice.injEq, Option.some.injEq, Addr.mk.injEq, and_true, true_and] at hv
    obtain ⟨rfl, rfl⟩ := hv
    refine .inr ⟨g, cap, _, rfl, hB, heap_set11 o e hg, h1, h2, by rw [lay11_size]; exact h3, ?_⟩
    subst ho
    apply List.ext_getElem?
    intro m
    have hcur : ∀ m, m < n * 11 → cur[m]? = some (cellE (R (m / 11)) (m % 11)) := fun m hm => by
      rw [← rowL_get R hm, ← h4, List.getElem?_take, if_pos hm, Array.getElem?_toList]
    have hsz : n * 11 ≤ cur.size := by rw [h3]; exact Nat.mul_le_mul_right 11 h1
    rw [List.getElem?_take]
    by_cases hm : m < n * 11
    · rw [if_pos hm, Array.getElem?_toList, rowL_get _ hm]
      by_cases hq : m < i * 11 ∨ i * 11 + 11 ≤ m
      · rw [lay11_out _ _ _ hq, hcur m hm, setE_ne (by omega)]
      · obtain ⟨k, rfl⟩ : ∃ k, m = i * 11 + k := ⟨m - i * 11, by omega⟩
        rw [lay11_in _ _ _ (by omega) (by omega), show (i * 11 + k) / 11 = i by omega, show (i * 11 + k) % 11 = k by omega, setE_at]
    · rw [if_neg hm, List.getElem?_eq_none (by rw [rowL_length]; omega)]
theorem doc_low {w : World} {B C n : Nat} {v : Value} {R : Nat → Ent} (h : DocAt w B v n R) (hC : C ≤ B) : DocAt w C v n R := by
  refine ⟨h.1, ?_⟩
  rcases h.2 with hn | ⟨g, cap, cur, rfl, hb2, rest⟩
  · exact .inl hn
  · exact .inr ⟨g, cap, cur, rfl, by omega, rest⟩
theorem doc_below {w w' : World} {B n : Nat} {v : Value} {R : Nat → Ent} (h : DocAt w B v n R) (hb : Below w.heap.size w w') : DocAt w' B v n R := own_below h hb
theorem doc_turn {w w' : World} {B n bb : Nat} {v : Value} {R : Nat → Ent} (h : DocAt w B v n R) (ht : Turn w w' bb) (hb : bb < B) : DocAt w' B v n R := by
  refine ⟨h.1, ?_⟩
  rcases h.2 with hn | ⟨g, cap, cur, rfl, hb2, hg, rest⟩
  · exact .inl hn
  · exact .inr ⟨g, cap, cur, rfl, hb2, (ht.block g (Array.getElem?_eq_some_iff.1 hg).1 (by omega)).trans hg, rest⟩
theorem doc_congr {w : World} {B n : Nat} {v : Value} {R S : Nat → Ent} (h : DocAt w B v n R) (he : ∀ k, k < n → R k = S k) : DocAt w B v n S := by
  unfold DocAt; rw [← rowL_congr he]; exact h
/-- An entry that was laid into a new block: its cells. -/
theorem cell_eleven_new (w : World) (e : Ent) (t : TypeId) : ∀ j u, (eleven e)[j]? = some u → (w.alloc (.cells #[.int .i64 e.size, .int .i64 e.ctx, .int .u64 e.va, .int .u64 e.pa, .bool e.att.write, .bool e.att.priv, .bool e.att.exec, .bool e.att.lock, .bool e.att.global, .bool e.att.quiet, .bool e.valid] t)).cell? ((⟨w.heap.size, 0, none⟩ : Addr).add j) = some u := by
  intro j u hj
  have ha : (⟨w.heap.size, 0, none⟩ : Addr).add j = ⟨w.heap.size, j, none⟩ := by unfold Addr.add; split <;> simp_all
  rw [ha, cell_of_row _ _ j _ _ _ (heap_alloc_new w _)]
  rw [← hj, ← List.getElem?_toArray]; rfl
end Go.Proofs.Ytbhpljjogmagoaa.Tl
/-
  Contract of List of package tlb. Conditions: it reads places that are there.
-/
namespace Go.Proofs.Ytbhpljjogmagoaa.Tl
open Fld
open Go.ChangeShapes Go.WideShapes Go.ChangeAt Go.RowKit Go.Shelf
set_option maxHeartbeats 2000000
set_option maxRecDepth 100000
/-- All entries, as their places rise. -/
def vals (T : Nat → Ent) (n : Nat) : List Ent := ((List.range n).map T).filter fun e => e.valid
def nthE (l : List Ent) : Nat → Ent := fun i => l.getD i Ent.zero
theorem vals_hit {T : Nat → Ent} {n : Nat} (h : (T n).valid = true) : vals T (n + 1) = vals T n ++ [T n] := by
  unfold vals; rw [List.range_succ, List.map_append, List.filter_append]; simp [h]
theorem vals_miss {T : Nat → Ent} {n : Nat} (h : (T n).valid = false) : vals T (n + 1) = vals T n := by
  unfold vals; rw [List.range_succ, List.map_append, List.filter_append]; simp [h]
theorem vals_length (T : Nat → Ent) (n : Nat) : (vals T n).length = cntE T (fun _ => true) n := by
  induction n with
  | zero => rfl
  | succ n ih =>
    cases h : (T n).valid
    · rw [vals_miss h, ih, cntE_miss (by rw [h]; rfl)]
    · rw [vals_hit h, List.length_append, ih, cntE_hit (by rw [h]; rfl)]; rfl
theorem vals_le (T : Nat → Ent) (n : Nat) : (vals T n).length ≤ n := by rw [vals_length]; exact cntE_le _ _ _
theorem vals_mem {T : Nat → Ent} {n : Nat} {e : Ent} : e ∈ vals T n ↔ ∃ i, i < n ∧ T i = e ∧ e.valid = true := by
  unfold vals
  simp only [List.mem_filter, List.mem_map, List.mem_range]
  exact ⟨fun ⟨⟨i, a, b⟩, c⟩ => ⟨i, a, b, c⟩, fun ⟨i, a, b, c⟩ => ⟨⟨i, a, b⟩, c⟩⟩
abbrev ListAt (w : World) (B : Nat) (v : Value) (l : List Ent) : Prop := DocAt w B v l.length (nthE l)
theorem rowL_list (l : List Ent) (e : Ent) : rowL (nthE (l ++ [e])) (l ++ [e]).length = rowL (nthE l) l.length ++ eleven e := by
  rw [show (l ++ [e]).length = l.length + 1 by simp, rowL_snoc (e := e) (by simp [nthE])]
  rw [rowL_congr (T := nthE (l ++ [e])) (U := nthE l)]
  intro k hk
  simp [nthE, List.getElem?_append_left hk]
theorem list_nil (w : World) (B : Nat) : ListAt w B (.slice none 0 0) [] := World.ownsRow_nil _ _ _ _
theorem list_any {sb bb n : Nat} {T : Nat → Ent} (w : World) (h : TlbAt w sb bb n T) :
    Calls Try.prog 15 #[.pointer (some ⟨sb, 0, none⟩)] w fun e w' => ∃ v, e = .returned v ∧ ListAt w' w.heap.size v (vals T n) ∧ Below w.heap.size w w' := by
  obtain ⟨i0, hi, hz0, hz1, hz2⟩ := info_parts infoE
  have hle := h.le
  have c0 := h.c0
  go_enter Try.func15, Try.ntmps15
  go_wp2_with fail
  clear c0
  go_loopw [3, 11] (fun v i wr => ∃ j : Nat, j ≤ n ∧ i = .int .i64 (j : Int) ∧ ListAt wr w.heap.size v (vals T j) ∧ Below w.heap.size w wr) (fun _ i _ => n - (intOf i).toNat)
  case atStart => exact ⟨0, by omega, rfl, list_nil _ _, Below.refl _ _⟩
  case round =>
    obtain ⟨j, hj, rfl, hown, hB⟩ := hrel
    have H := h.low hB
    have hlen := vals_le T j
    obtain ⟨ao, cap, rfl⟩ := own_shape hown
    by_cases hlt : j < n
    · obtain ⟨o, ho⟩ : ∃ o, j * 11 = o := ⟨_, rfl⟩
      obtain ⟨c0, c1, c2, c3, c4, c5, c6, c7, c8, c9, c10⟩ := H.cells hlt ho
      have hlt' : (j : Int) < (n : Int) := by omega
      have hAE : (⟨bb, 0, none⟩ : Addr).add o = ⟨bb, o, none⟩ := by unfold Addr.add; split <;> simp_all
      have hB1 := hB.alloc hB.size (.cells #[.int .i64 (T j).size, .int .i64 (T j).ctx, .int .u64 (T j).va, .int .u64 (T j).pa, .bool (T j).att.write, .bool (T j).att.priv, .bool (T j).att.exec, .bool (T j).att.lock, .bool (T j).att.global, .bool (T j).att.quiet, .bool (T j).valid] 33)
      have hO1 := hown.alloc (.cells #[.int .i64 (T j).size, .int .i64 (T j).ctx, .int .u64 (T j).va, .int .u64 (T j).pa, .bool (T j).att.write, .bool (T j).att.priv, .bool (T j).att.exec, .bool (T j).att.lock, .bool (T j).att.global, .bool (T j).att.quiet, .bool (T j).valid] 33)
      cases hv : (T j).valid
      · have HM := Lib.hid (vals_miss (T := T) (n := j) hv)
        rw [hv] at c10 hB1 hO1
        go_wp2_with fail
        go_roundw
        case rel => exact ⟨j + 1, by omega, by go_num, by rw [HM.out]; exact hO1, hB1⟩
        case measure => simp [intOf]; omega
      · have HS := Lib.hid (vals_hit (T := T) (n := j) hv)
        have HC := Lib.hid (cell_eleven_new (wr.alloc (.cells #[.int .i64 (T j).size, .int .i64 (T j).ctx, .int .u64 (T j).va, .int .u64 (T j).pa, .bool (T j).att.write, .bool (T j).att.priv, .bool (T j).att.exec, .bool (T j).att.lock, .bool (T j).att.global, .bool (T j).att.quiet, .bool (T j).valid] 33)) (T j) 33)
        have HE := Lib.hid (rowL_list (vals T j) (T j))
        have HO := Lib.hid (eleven_one (T j))
        rw [hv] at c10 hB1 hO1 HC
        obtain ⟨m, hm⟩ : ∃ m, (vals T j).length = m := ⟨_, rfl⟩
        rw [hm] at hlen ⊢
        have hO2 := hO1
        rw [hm] at hO2
        have HMM := Lib.hid hm
        clear hm hown hB H hO1
        go_wp2_with (at_builtin; (refine wpList_append_own_at _ rfl _ _ 25 rfl w.heap.size 33 i0 _ 11 40 Try.underlying25 hi hz0 hz1 hz2 rfl (by decide) _ _ _ rfl (by exact hO2.alloc _) ⟨wr.heap.size + 1, 0, none⟩ 1 1 (eleven (T j)) rfl rfl (by have := HC.out; simpa using this) HO.out (by unfold maxLen; omega) (by omega) (by have := hB1.size; simp at this ⊢; omega) ?_))
        · intro v' w1 hown' hgrow _ _
          have R1 : ListAt w1 w.heap.size v' (vals T (j + 1)) := by
            unfold ListAt DocAt
            rw [HS.out, HE.out, List.length_append, HMM.out]; exact hown'
          have R2 : Below w.heap.size w w1 := (hB1.alloc hB1.size _).grown hgrow (by have := hB1.size; simp at this ⊢; omega) (fun g hg => (hO2.lt g hg).1)
          clear hown' hgrow hO2 hB1 HC HE HO
          go_wp2
          go_roundw
          case rel => exact ⟨j + 1, by omega, by go_num, R1, R2⟩
          case measure => simp [intOf]; omega
    · obtain rfl : n = j := by omega
      go_wp2_with fail
      go_ret
      exact ⟨_, rfl, hown, hB⟩
end Go.Proofs.Ytbhpljjogmagoaa.Tl
