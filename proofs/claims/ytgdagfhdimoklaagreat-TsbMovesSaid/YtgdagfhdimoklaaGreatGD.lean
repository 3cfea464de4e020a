/-
  YtgdagfhdimoklaaGreatGD: the contracts and plain facts of several texts, laid together. Conditions: those that each theorem names.
-/
import Derived.Test.YtgdagfhdimoklaaGreatGB
import Derived.Lib.MinMax
import Derived.Lib.JoinLaws
import Derived.Deep.OwnRows
import Derived.RegionTactic
import Derived.ChangeAlike
import Derived.Laws.ResultCell
import Derived.BigQuiet
import Derived.Deep.RegionHeld3
import Derived.Deep.DeepCutAuto
import Derived.Shelf.Abstract
import Derived.Maps.AppendAt
import Derived.Laws.EntriesVeiled
import Derived.ShutString
import Derived.Deep.Slices
import Derived.Deep.Fields
import Derived.ChangeSame
import Derived.OpenShut
/-
  A few entries at places, as a function of the place: what is counted, what goes, the first place, room. Plain facts. Conditions: none.
-/
namespace Go.Proofs.YtgdagfhdimoklaaGreat.Tl
open Fld
/-- Whether two entries part. -/
def partsB (a b : Ent) : Bool := !meetB a.va a.size b.va b.size || (!a.att.global && !b.att.global && a.ctx != b.ctx)
def setE (T : Nat → Ent) (i : Nat) (e : Ent) : Nat → Ent := fun k => if k = i then e else T k
theorem setE_at (T : Nat → Ent) (i : Nat) (e : Ent) : setE T i e i = e := if_pos rfl
theorem setE_ne {T : Nat → Ent} {i k : Nat} {e : Ent} (h : k ≠ i) : setE T i e k = T k := if_neg h
/-- Of how many valid entries a thing is so. -/
def cntE (T : Nat → Ent) (p : Ent → Bool) : Nat → Nat
  | 0 => 0
  | n + 1 => cntE T p n + if (T n).valid && p (T n) then 1 else 0
theorem cntE_le (T : Nat → Ent) (p : Ent → Bool) (n : Nat) : cntE T p n ≤ n := by
  induction n with
  | zero => exact Nat.le_refl _
  | succ n ih => unfold cntE; split <;> omega
theorem cntE_hit {T : Nat → Ent} {p : Ent → Bool} {n : Nat} (h : ((T n).valid && p (T n)) = true) : cntE T p (n + 1) = cntE T p n + 1 := by
  show cntE T p n + _ = _; rw [if_pos h]
theorem cntE_miss {T : Nat → Ent} {p : Ent → Bool} {n : Nat} (h : ((T n).valid && p (T n)) = false) : cntE T p (n + 1) = cntE T p n := by
  show cntE T p n + _ = _; rw [h]; rfl
theorem cntE_zero {T : Nat → Ent} {p : Ent → Bool} {n : Nat} : cntE T p n = 0 ↔ ∀ k, k < n → ((T k).valid && p (T k)) = false := by
  induction n with
  | zero => exact ⟨fun _ k hk => by omega, fun _ => rfl⟩
  | succ n ih =>
    cases h : ((T n).valid && p (T n))
    · rw [cntE_miss h, ih]
      refine ⟨fun a k hk => ?_, fun a k hk => a k (by omega)⟩
      by_cases e : k = n
      · rw [e]; exact h
      · exact a k (by omega)
    · rw [cntE_hit h]
      refine ⟨fun a => by omega, fun a => ?_⟩
      have := a n (by omega); rw [h] at this; cases this
theorem cntE_all {T : Nat → Ent} {p : Ent → Bool} {n : Nat} : cntE T p n = n ↔ ∀ k, k < n → ((T k).valid && p (T k)) = true := by
  induction n with
  | zero => exact ⟨fun _ k hk => by omega, fun _ => rfl⟩
  | succ n ih =>
    have hl := cntE_le T p n
    cases h : ((T n).valid && p (T n))
    · rw [cntE_miss h]
      refine ⟨fun a => by omega, fun a => ?_⟩
      have := a n (by omega); rw [h] at this; cases this
    · rw [cntE_hit h]
      refine ⟨fun a k hk => ?_, fun a => by rw [ih.2 fun k hk => a k (by omega)]⟩
      by_cases e : k = n
      · rw [e]; exact h
      · exact ih.1 (by omega) k (by omega)
theorem cntE_congr {T U : Nat → Ent} {p q : Ent → Bool} {n : Nat} (h : ∀ k, k < n → ((T k).valid && p (T k)) = ((U k).valid && q (U k))) : cntE T p n = cntE U q n := by
  induction n with
  | zero => rfl
  | succ n ih =>
    show cntE T p n + _ = cntE U q n + _
    rw [ih fun k hk => h k (by omega), h n (by omega)]
/-- Those of the first j that are to go are gone. -/
def dropE (T : Nat → Ent) (p : Ent → Bool) (j : Nat) : Nat → Ent := fun k => if decide (k < j) && ((T k).valid && p (T k)) then Ent.zero else T k
theorem dropE_zero (T : Nat → Ent) (p : Ent → Bool) : dropE T p 0 = T := by funext k; simp [dropE]
theorem dropE_ge {T : Nat → Ent} {p : Ent → Bool} {j k : Nat} (h : j ≤ k) : dropE T p j k = T k := by
  unfold dropE; rw [show decide (k < j) = false by simp; omega]; rfl
theorem dropE_hit {T : Nat → Ent} {p : Ent → Bool} {n : Nat} (h : ((T n).valid && p (T n)) = true) : setE (dropE T p n) n Ent.zero = dropE T p (n + 1) := by
  funext k
  unfold setE dropE
  by_cases e : k = n
  · subst e; rw [if_pos rfl, show decide (k < k + 1) = true by simp, h]; rfl
  · rw [if_neg e, show decide (k < n) = decide (k < n + 1) by simp; omega]
theorem dropE_miss {T : Nat → Ent} {p : Ent → Bool} {n : Nat} (h : ((T n).valid && p (T n)) = false) : dropE T p n = dropE T p (n + 1) := by
  funext k
  unfold dropE
  by_cases e : k = n
  · subst e; rw [h]; simp
  · rw [show decide (k < n) = decide (k < n + 1) by simp; omega]
theorem dropE_lt {T : Nat → Ent} {p : Ent → Bool} {j k : Nat} (h : k < j) : dropE T p j k = if (T k).valid && p (T k) then Ent.zero else T k := by
  unfold dropE; rw [show decide (k < j) = true by simpa using h]; rfl
theorem dropE_valid {T : Nat → Ent} {p : Ent → Bool} {j k : Nat} (h : (dropE T p j k).valid = true) : dropE T p j k = T k := by
  unfold dropE at *
  split at h
  · cases h
  · rw [if_neg (by assumption)]
/-- The first of n places of which a thing is so; n, where there is none. -/
def fst (T : Nat → Ent) (p : Ent → Bool) : Nat → Nat
  | 0 => 0
  | n + 1 => if fst T p n < n then fst T p n else if p (T n) then n else n + 1
theorem fst_spec (T : Nat → Ent) (p : Ent → Bool) (n : Nat) : fst T p n ≤ n ∧ (∀ k, k < fst T p n → p (T k) = false) ∧ (fst T p n < n → p (T (fst T p n)) = true) := by
  induction n with
  | zero => exact ⟨Nat.le_refl _, fun k hk => absurd hk (Nat.not_lt_zero k), fun h => absurd h (Nat.not_lt_zero 0)⟩
  | succ n ih =>
    obtain ⟨a, b, c⟩ := ih
    unfold fst
    by_cases h : fst T p n < n
    · rw [if_pos h]; exact ⟨by omega, b, fun _ => c h⟩
    · rw [if_neg h]
      have e : fst T p n = n := by omega
      rw [e] at b
      cases hp : p (T n)
      · rw [if_neg (by decide)]
        refine ⟨Nat.le_refl _, fun k hk => ?_, fun h => by omega⟩
        by_cases ek : k = n
        · rw [ek]; exact hp
        · exact b k (by omega)
      · rw [if_pos rfl]; exact ⟨by omega, b, fun _ => hp⟩
theorem fst_eq {T : Nat → Ent} {p : Ent → Bool} {n i : Nat} (h1 : i ≤ n) (h2 : ∀ k, k < i → p (T k) = false) (h3 : i < n → p (T i) = true) : fst T p n = i := by
  obtain ⟨a, b, c⟩ := fst_spec T p n
  rcases Nat.lt_trichotomy (fst T p n) i with h | h | h
  · have := h2 _ h; rw [c (by omega)] at this; cases this
  · exact h
  · have := b _ h; rw [h3 (by omega)] at this; cases this
theorem fst_none {T : Nat → Ent} {p : Ent → Bool} {n : Nat} : fst T p n = n ↔ ∀ k, k < n → p (T k) = false :=
  ⟨fun h k hk => (fst_spec T p n).2.1 k (by omega), fun h => fst_eq (Nat.le_refl _) h (fun h => by omega)⟩
theorem fst_congr {T U : Nat → Ent} {p q : Ent → Bool} {n : Nat} (h : ∀ k, k < n → p (T k) = q (U k)) : fst T p n = fst U q n := by
  obtain ⟨a, b, c⟩ := fst_spec U q n
  exact fst_eq a (fun k hk => by rw [h k (by omega)]; exact b k hk) (fun hi => by rw [h _ hi]; exact c hi)
/-- The places without a lock, rising. -/
def opens (T : Nat → Ent) (n : Nat) : List Int := ((List.range n).filter fun i => !(T i).att.lock).map Int.ofNat
theorem opens_hit {T : Nat → Ent} {n : Nat} (h : (T n).att.lock = false) : opens T (n + 1) = opens T n ++ [(n : Int)] := by
  unfold opens; rw [List.range_succ, List.filter_append, List.map_append]; simp [h]
theorem opens_miss {T : Nat → Ent} {n : Nat} (h : (T n).att.lock = true) : opens T (n + 1) = opens T n := by
  unfold opens; rw [List.range_succ, List.filter_append, List.map_append]; simp [h]
theorem opens_length (T : Nat → Ent) (n : Nat) : (opens T n).length ≤ n := by
  unfold opens; rw [List.length_map]; exact Nat.le_trans (List.length_filter_le _ _) (by simp)
theorem opens_mem {T : Nat → Ent} {n : Nat} {x : Int} : x ∈ opens T n ↔ ∃ i : Nat, i < n ∧ (T i).att.lock = false ∧ x = (i : Int) := by
  unfold opens
  simp only [List.mem_map, List.mem_filter, List.mem_range, Bool.not_eq_true']
  exact ⟨fun ⟨i, ⟨a, b⟩, c⟩ => ⟨i, a, b, c.symm⟩, fun ⟨i, a, b, c⟩ => ⟨i, ⟨a, b⟩, c.symm⟩⟩
theorem opens_none {T : Nat → Ent} {n : Nat} : (opens T n).length = 0 ↔ ∀ i, i < n → (T i).att.lock = true := by
  rw [List.length_eq_zero_iff, List.eq_nil_iff_forall_not_mem]
  constructor
  · intro h i hi
    cases e : (T i).att.lock
    · exact absurd (opens_mem.2 ⟨i, hi, e, rfl⟩) (h _)
    · rfl
  · intro h x hx
    obtain ⟨i, a, b, _⟩ := opens_mem.1 hx
    rw [h i a] at b; cases b
theorem opens_congr {T U : Nat → Ent} {n : Nat} (h : ∀ k, k < n → T k = U k) : opens T n = opens U n := by
  unfold opens
  congr 1
  apply List.filter_congr
  intro q hq
  rw [h q (List.mem_range.1 hq)]
/-- A pick's distance. -/
def pickP (p : Int) : Int := if p < 0 then -1 - p else p
theorem pickP_bd {p : Int} (h0 : -9223372036854775808 ≤ p) (h1 : p ≤ 9223372036854775807) : 0 ≤ pickP p ∧ pickP p ≤ 9223372036854775807 := by unfold pickP; split <;> omega
def pickN (T : Nat → Ent) (n : Nat) (p : Int) : Nat := (pickP p % ((opens T n).length : Int)).toNat
def roomI (T : Nat → Ent) (n : Nat) (p : Int) : Nat := if fst T (fun e => !e.valid) n < n then fst T (fun e => !e.valid) n else ((opens T n).getD (pickN T n p) 0).toNat
theorem pickN_lt {T : Nat → Ent} {n : Nat} (p : Int) (h : 0 < (opens T n).length) : pickN T n p < (opens T n).length := by
  unfold pickN
  have h1 := Int.emod_nonneg (pickP p) (show ((opens T n).length : Int) ≠ 0 by omega)
  have h2 := Int.emod_lt_of_pos (pickP p) (show (0 : Int) < ((opens T n).length : Int) by omega)
  omega
theorem pick_at {T : Nat → Ent} {n : Nat} (p : Int) (h : 0 < (opens T n).length) : ∃ i : Nat, i < n ∧ (T i).att.lock = false ∧ (opens T n).getD (pickN T n p) 0 = (i : Int) := by
  have hl := pickN_lt p h
  have hm : (opens T n).getD (pickN T n p) 0 ∈ opens T n := by
    rw [List.getD_eq_getElem?_getD, List.getElem?_eq_getElem hl]; exact List.getElem_mem hl
  obtain ⟨i, a, b, c⟩ := opens_mem.1 hm
  exact ⟨i, a, b, c⟩
/-- Where there is room: a place that is empty, or one without a lock. -/
def hasRoom (T : Nat → Ent) (n : Nat) : Prop := fst T (fun e => !e.valid) n < n ∨ 0 < (opens T n).length
theorem room_lt {T : Nat → Ent} {n : Nat} (p : Int) (h : hasRoom T n) : roomI T n p < n := by
  unfold roomI
  split
  · assumption
  · rcases h with h | h
    · contradiction
    · obtain ⟨i, a, _, c⟩ := pick_at p h
      rw [c]; simpa using a
/-! ### What is found -/
def findN (T : Nat → Ent) (n : Nat) (va ctx : Int) : Nat := fst T (fun e => e.hitsB va ctx) n
def findI (T : Nat → Ent) (n : Nat) (va ctx : Int) : Int := if findN T n va ctx < n then (findN T n va ctx : Int) else -1
def findE (T : Nat → Ent) (n : Nat) (va ctx : Int) : Ent := if findN T n va ctx < n then T (findN T n va ctx) else Ent.zero
/-! ### What is put -/
def hasB (n : Nat) (i : Int) : Bool := decide (0 ≤ i) && decide (i < n)
/-- What is in the way of an entry. -/
def wayB (e : Ent) (o : Ent) : Bool := !partsB e o
def putW (n : Nat) (T : Nat → Ent) (i : Int) (e : Ent) : Nat := fst (fun k => if (k : Int) = i then Ent.zero else T k) (fun o => o.valid && wayB e o) n
def putE (T : Nat → Ent) (n : Nat) (i : Int) (e : Ent) : Int := if e.mayB then if hasB n i then if putW n T i e < n then 9 else 0 else 5 else 1
def putT (T : Nat → Ent) (n : Nat) (i : Int) (e : Ent) : Nat → Ent := if putE T n i e = 0 then setE T i.toNat e else T
/-! ### What is inserted -/
def stuckB (T : Nat → Ent) (n : Nat) (e : Ent) : Bool := decide (0 < cntE T (fun o => o.att.lock && wayB e o) n) || decide (cntE T (fun o => o.att.lock) n = n)
def freeT (T : Nat → Ent) (n : Nat) (e : Ent) : Nat → Ent := dropE T (wayB e) n
def insE (T : Nat → Ent) (n : Nat) (e : Ent) : Int := if e.mayB then if stuckB T n e then 7 else 0 else 1
def insN (T : Nat → Ent) (n : Nat) (e : Ent) (p : Int) : Nat := if insE T n e = 0 then roomI (freeT T n e) n p else 0
def insT (T : Nat → Ent) (n : Nat) (e : Ent) (p : Int) : Nat → Ent := if insE T n e = 0 then setE (freeT T n e) (insN T n e p) e else T
/-- Where nothing stands in the way, what goes leaves room. -/
theorem free_room {T : Nat → Ent} {n : Nat} {e : Ent} (h : stuckB T n e = false) : hasRoom (freeT T n e) n := by
  unfold stuckB at h
  rw [Bool.or_eq_false_iff, decide_eq_false_iff_not, decide_eq_false_iff_not] at h
  obtain ⟨h1, h2⟩ := h
  have h1 : cntE T (fun o => o.att.lock && wayB e o) n = 0 := by omega
  rw [cntE_zero] at h1
  by_cases hf : fst (freeT T n e) (fun e => !e.valid) n < n
  · exact .inl hf
  · right
    rw [Nat.pos_iff_ne_zero]
    intro h0
    rw [opens_none] at h0
    have hall := fst_none.1 (show fst (freeT T n e) (fun e => !e.valid) n = n by have := (fst_spec (freeT T n e) (fun e => !e.valid) n).1; omega)
    refine h2 (cntE_all.2 fun k hk => ?_)
    have hv := hall k hk
    simp only [Bool.not_eq_false'] at hv
    have e1 := dropE_valid hv
    have hl := h0 k hk
    unfold freeT at hv hl
    rw [e1] at hv hl
    rw [hv, hl]; rfl
/-! ### Well made places -/
structure Ok (T : Nat → Ent) (n : Nat) : Prop where
  wf : ∀ k, k < n → (T k).wf
  may : ∀ k, k < n → (T k).valid = true → (T k).mayB = true
  zero : ∀ k, k < n → (T k).valid = false → T k = Ent.zero
  part : ∀ i k, i < n → k < n → i ≠ k → (T i).valid = true → (T k).valid = true → partsB (T i) (T k) = true
theorem zero_wf : Ent.zero.wf := by unfold Ent.wf Ent.zero; simp
theorem Ok.new (n : Nat) : Ok (fun _ => Ent.zero) n := ⟨fun _ _ => zero_wf, fun _ _ h => (by cases h), fun _ _ _ => rfl, fun _ _ _ _ _ h => (by cases h)⟩
theorem Ok.drop {T : Nat → Ent} {n : Nat} (h : Ok T n) (p : Ent → Bool) (j : Nat) : Ok (dropE T p j) n := by
  have hd : ∀ k, dropE T p j k = Ent.zero ∨ dropE T p j k = T k := fun k => by unfold dropE; split; exact .inl rfl; exact .inr rfl
  refine ⟨fun k hk => ?_, fun k hk hv => ?_, fun k hk hv => ?_, fun i k hi hk hne hi2 hk2 => ?_⟩
  · rcases hd k with e | e <;> rw [e]; exact zero_wf; exact h.wf k hk
  · have e := dropE_valid hv; rw [e] at hv ⊢; exact h.may k hk hv
  · rcases hd k with e | e
    · exact e
    · rw [e] at hv ⊢; exact h.zero k hk hv
  · have e1 := dropE_valid hi2; have e2 := dropE_valid hk2
    rw [e1] at hi2 ⊢; rw [e2] at hk2 ⊢
    exact h.part i k hi hk hne hi2 hk2
theorem meet_comm' (a s b t : Int) : meetB a s b t = meetB b t a s := by
  unfold meetB
  rw [Int.max_comm, Bool.and_comm (sizeB s)]
  congr 1
  unfold inB
  congr 1
  rw [decide_eq_decide]
  exact ⟨Eq.symm, Eq.symm⟩
theorem parts_comm (a b : Ent) : partsB a b = partsB b a := by
  unfold partsB
  rw [meet_comm', Bool.and_comm (!a.att.global), bne_comm]
theorem Ok.set {T : Nat → Ent} {n i : Nat} {e : Ent} (h : Ok T n) (hw : e.wf) (hm : e.mayB = true) (hp : ∀ k, k < n → k ≠ i → (T k).valid = true → partsB e (T k) = true) : Ok (setE T i e) n := by
  have hv : e.valid = true := by unfold Ent.mayB at hm; simp only [Bool.and_eq_true] at hm; exact hm.1.1.1.1.1.1.1
  refine ⟨fun k hk => ?_, fun k hk hv => ?_, fun k hk hv => ?_, fun a b ha hb hne ha2 hb2 => ?_⟩
  · by_cases hki : k = i
    · rw [hki, setE_at]; exact hw
    · rw [setE_ne hki]; exact h.wf k hk
  · by_cases hki : k = i
    · rw [hki, setE_at]; exact hm
    · rw [setE_ne hki] at hv ⊢; exact h.may k hk hv
  · by_cases hki : k = i
    · rw [hki, setE_at, ‹e.valid = true›] at hv; cases hv
    · rw [setE_ne hki] at hv ⊢; exact h.zero k hk hv
  · by_cases hai : a = i
    · have hbi : b ≠ i := fun e2 => hne (hai.trans e2.symm)
      rw [hai, setE_at, setE_ne hbi]; rw [setE_ne hbi] at hb2
      exact hp b hb hbi hb2
    · rw [setE_ne hai] at ha2 ⊢
      by_cases hbi : b = i
      · rw [hbi, setE_at, parts_comm]; exact hp a ha hai ha2
      · rw [setE_ne hbi] at hb2 ⊢; exact h.part a b ha hb hne ha2 hb2
theorem way_parts {T : Nat → Ent} {n : Nat} {e : Ent} {k : Nat} (hk : k < n) (hv : (freeT T n e k).valid = true) : partsB e (freeT T n e k) = true := by
  have e1 := dropE_valid hv
  unfold freeT at hv ⊢
  rw [dropE_lt hk] at e1
  cases hw : ((T k).valid && wayB e (T k))
  · rw [dropE_lt hk, hw] at hv ⊢
    simp only [Bool.false_eq_true, if_false] at hv ⊢
    rw [hv, Bool.true_and] at hw
    simpa [wayB] using hw
  · rw [dropE_lt hk, hw] at hv
    cases hv
theorem Ok.ins {T : Nat → Ent} {n : Nat} (h : Ok T n) {e : Ent} (hw : e.wf) (p : Int) : Ok (insT T n e p) n := by
  unfold insT
  split
  · rename_i h0
    have hm : e.mayB = true := by
      unfold insE at h0
      cases hm : e.mayB
      · rw [hm] at h0; cases h0
      · rfl
    exact (h.drop _ _).set hw hm fun k hk _ hv => way_parts hk hv
  · exact h
theorem Ok.put {T : Nat → Ent} {n : Nat} (h : Ok T n) {e : Ent} (hw : e.wf) (i : Int) : Ok (putT T n i e) n := by
  unfold putT
  split
  · rename_i h0
    unfold putE at h0
    cases hm : e.mayB
    · rw [hm] at h0; cases h0
    · rw [hm] at h0
      cases hb : hasB n i
      · rw [hb] at h0; cases h0
      · rw [hb] at h0
        simp only [if_true] at h0
        have hn : putW n T i e = n := by
          by_cases hc : putW n T i e < n
          · rw [if_pos hc] at h0; cases h0
          · have := (fst_spec (fun k => if (k : Int) = i then Ent.zero else T k) (fun o => o.valid && wayB e o) n).1
            unfold putW at *; omega
        unfold hasB at hb
        simp only [Bool.and_eq_true, decide_eq_true_eq] at hb
        refine h.set hw hm fun k hk hne hv => ?_
        have := fst_none.1 hn k hk
        rw [if_neg (by omega), hv, Bool.true_and] at this
        simpa [wayB] using this
  · exact h
theorem Ok.clear {T : Nat → Ent} {n : Nat} (h : Ok T n) (i : Nat) : Ok (setE T i Ent.zero) n := by
  have hd : ∀ k, setE T i Ent.zero k = Ent.zero ∨ setE T i Ent.zero k = T k := fun k => by unfold setE; split; exact .inl rfl; exact .inr rfl
  have hv' : ∀ k, (setE T i Ent.zero k).valid = true → setE T i Ent.zero k = T k := fun k hv => by
    rcases hd k with e | e
    · rw [e] at hv; cases hv
    · exact e
  refine ⟨fun k hk => ?_, fun k hk hv => ?_, fun k hk hv => ?_, fun i k hi hk hne hi2 hk2 => ?_⟩
  · rcases hd k with e | e <;> rw [e]; exact zero_wf; exact h.wf k hk
  · have e := hv' k hv; rw [e] at hv ⊢; exact h.may k hk hv
  · rcases hd k with e | e
    · exact e
    · rw [e] at hv ⊢; exact h.zero k hk hv
  · have e1 := hv' _ hi2; have e2 := hv' _ hk2
    rw [e1] at hi2 ⊢; rw [e2] at hk2 ⊢
    exact h.part _ _ hi hk hne hi2 hk2
end Go.Proofs.YtgdagfhdimoklaaGreat.Tl
/-
  Entries at places in memory: a struct with a list of entries. What stays when a call changes them. Conditions: none.
-/
namespace Go.Proofs.YtgdagfhdimoklaaGreat.Tl
open Fld
open Go.ChangeShapes Go.WideShapes Go.ChangeAt Go.RowKit
set_option maxHeartbeats 1000000
/-- An entry's cells. -/
def cellE (e : Ent) : Nat → Value
  | 0 => .int .i64 e.size
  | 1 => .int .i64 e.ctx
  | 2 => .int .u64 e.va
  | 3 => .int .u64 e.pa
  | 4 => .bool e.att.write
  | 5 => .bool e.att.priv
  | 6 => .bool e.att.exec
  | 7 => .bool e.att.lock
  | 8 => .bool e.att.global
  | 9 => .bool e.att.quiet
  | _ => .bool e.valid
def rowL (T : Nat → Ent) (n : Nat) : List Value := (List.range (n * 11)).map fun m => cellE (T (m / 11)) (m % 11)
def rowT (T : Nat → Ent) (n : Nat) : Array Value := (rowL T n).toArray
theorem rowL_length (T : Nat → Ent) (n : Nat) : (rowL T n).length = n * 11 := by simp [rowL]
theorem rowT_size (T : Nat → Ent) (n : Nat) : (rowT T n).size = n * 11 := by simp [rowT, rowL]
theorem rowL_get (T : Nat → Ent) {n m : Nat} (h : m < n * 11) : (rowL T n)[m]? = some (cellE (T (m / 11)) (m % 11)) := by simp [rowL, h]
theorem rowT_get (T : Nat → Ent) {n m : Nat} (h : m < n * 11) : (rowT T n)[m]? = some (cellE (T (m / 11)) (m % 11)) := by simp [rowT, rowL, h]
theorem rowT_at (T : Nat → Ent) {n i k : Nat} (hi : i < n) (hk : k < 11) : (rowT T n)[i * 11 + k]? = some (cellE (T i) k) := by
  rw [rowT_get T (by omega), show (i * 11 + k) / 11 = i by omega, show (i * 11 + k) % 11 = k by omega]
theorem rowT_part (T : Nat → Ent) {n i o : Nat} (hi : i < n) (ho : i * 11 = o) : PartE (rowT T n) o (T i) := by
  subst ho
  exact ⟨rowT_at T (k := 0) hi (by decide), rowT_at T hi (by decide), rowT_at T hi (by decide), rowT_at T hi (by decide), rowT_at T hi (by decide), rowT_at T hi (by decide), rowT_at T hi (by decide), rowT_at T hi (by decide), rowT_at T hi (by decide), rowT_at T hi (by decide), rowT_at T hi (by decide)⟩
theorem rowT_congr {T U : Nat → Ent} {n : Nat} (h : ∀ k, k < n → T k = U k) : rowT T n = rowT U n := by
  apply Array.ext_getElem?
  intro m
  by_cases hm : m < n * 11
  · rw [rowT_get T hm, rowT_get U hm, h _ (by omega)]
  · simp [rowT, rowL, hm]
theorem rowL_congr {T U : Nat → Ent} {n : Nat} (h : ∀ k, k < n → T k = U k) : rowL T n = rowL U n := by
  have := congrArg Array.toList (rowT_congr h); simpa [rowT] using this
/-- An entry that is laid into a row of cells, cell by cell. -/
def lay11 (c : Array Value) (o : Nat) (e : Ent) : Array Value := ((((((((((c.setIfInBounds o (.int .i64 e.size)).setIfInBounds (o + 1) (.int .i64 e.ctx)).setIfInBounds (o + 2) (.int .u64 e.va)).setIfInBounds (o + 3) (.int .u64 e.pa)).setIfInBounds (o + 4) (.bool e.att.write)).setIfInBounds (o + 5) (.bool e.att.priv)).setIfInBounds (o + 6) (.bool e.att.exec)).setIfInBounds (o + 7) (.bool e.att.lock)).setIfInBounds (o + 8) (.bool e.att.global)).setIfInBounds (o + 9) (.bool e.att.quiet)).setIfInBounds (o + 10) (.bool e.valid)
theorem lay11_size (c : Array Value) (o : Nat) (e : Ent) : (lay11 c o e).size = c.size := by simp [lay11]
theorem lay11_out (c : Array Value) (o : Nat) (e : Ent) {m : Nat} (h : m < o ∨ o + 11 ≤ m) : (lay11 c o e)[m]? = c[m]? := by
  unfold lay11
  iterate 11 rw [Array.getElem?_setIfInBounds_ne (by omega)]
theorem lay11_in (c : Array Value) (o : Nat) (e : Ent) (hc : o + 11 ≤ c.size) {k : Nat} (hk : k < 11) : (lay11 c o e)[o + k]? = some (cellE e k) := by
  have s : ∀ (d : Array Value) (i : Nat) (v : Value), i < d.size → (d.setIfInBounds i v)[i]? = some v := fun d i v h => by rw [Array.getElem?_setIfInBounds, if_pos rfl, if_pos h]
  have z : ∀ (d : Array Value) (i : Nat) (v : Value), (d.setIfInBounds i v).size = d.size := fun d i v => by simp
  unfold lay11
  have : k = 0 ∨ k = 1 ∨ k = 2 ∨ k = 3 ∨ k = 4 ∨ k = 5 ∨ k = 6 ∨ k = 7 ∨ k = 8 ∨ k = 9 ∨ k = 10 := by omega
  rcases this with rfl | rfl | rfl | rfl | rfl | rfl | rfl | rfl | rfl | rfl | rfl <;>
    ((repeat rw [Array.getElem?_setIfInBounds_ne (by omega)]); exact s _ _ _ (by (try simp only [z]); omega))
theorem lay11_row (T : Nat → Ent) {n i o : Nat} (hi : i < n) (ho : i * 11 = o) (e : Ent) : lay11 (rowT T n) o e = rowT (setE T i e) n := by
  subst ho
  apply Array.ext_getElem?
  intro m
  by_cases hm : m < n * 11
  · rw [rowT_get _ hm]
    by_cases h : m < i * 11 ∨ i * 11 + 11 ≤ m
    · rw [lay11_out _ _ _ h, rowT_get _ hm, setE_ne (by omega)]
    · obtain ⟨k, rfl⟩ : ∃ k, m = i * 11 + k := ⟨m - i * 11, by omega⟩
      rw [lay11_in _ _ _ (by rw [rowT_size]; omega) (by omega), show (i * 11 + k) / 11 = i by omega, show (i * 11 + k) % 11 = k by omega, setE_at]
  · rw [lay11_out _ _ _ (by omega)]
    simp [rowT, rowL, hm]
theorem heap_set {w : World} {b o : Nat} {c : Array Value} {e : TypeId} {f : Nat × Nat} (h : w.heap[b]? = some (.cells c e f)) (v : Value) : (w.setCell ⟨b, o, none⟩ v).heap[b]? = some (.cells (c.setIfInBounds o v) e f) := by
  simp [World.setCell, Array.getElem?_modify, h]
theorem heap_set11 {w : World} {b : Nat} {c : Array Value} {t : TypeId} {f : Nat × Nat} (o : Nat) (e : Ent) (h : w.heap[b]? = some (.cells c t f)) : (((((((((((w.setCell ⟨b, o, none⟩ (.int .i64 e.size)).setCell ⟨b, o + 1, none⟩ (.int .i64 e.ctx)).setCell ⟨b, o + 2, none⟩ (.int .u64 e.va)).setCell ⟨b, o + 3, none⟩ (.int .u64 e.pa)).setCell ⟨b, o + 4, none⟩ (.bool e.att.write)).setCell ⟨b, o + 5, none⟩ (.bool e.att.priv)).setCell ⟨b, o + 6, none⟩ (.bool e.att.exec)).setCell ⟨b, o + 7, none⟩ (.bool e.att.lock)).setCell ⟨b, o + 8, none⟩ (.bool e.att.global)).setCell ⟨b, o + 9, none⟩ (.bool e.att.quiet)).setCell ⟨b, o + 10, none⟩ (.bool e.valid)).heap[b]? = some (.cells (lay11 c o e) t f) := by
  have h0 := heap_set (o := o) h (.int .i64 e.size)
  have h1 := heap_set (o := o + 1) h0 (.int .i64 e.ctx)
  have h2 := heap_set (o := o + 2) h1 (.int .u64 e.va)
  have h3 := heap_set (o := o + 3) h2 (.int .u64 e.pa)
  have h4 := heap_set (o := o + 4) h3 (.bool e.att.write)
  have h5 := heap_set (o := o + 5) h4 (.bool e.att.priv)
  have h6 := heap_set (o := o + 6) h5 (.bool e.att.exec)
  have h7 := heap_set (o := o + 7) h6 (.bool e.att.lock)
  have h8 := heap_set (o := o + 8) h7 (.bool e.att.global)
  have h9 := heap_set (o := o + 9) h8 (.bool e.att.quiet)
  exact heap_set (o := o + 10) h9 (.bool e.valid)
theorem heap_far11 {w : World} {g b o : Nat} {e : Ent} (h : b ≠ g) : (((((((((((w.setCell ⟨g, o, none⟩ (.int .i64 e.size)).setCell ⟨g, o + 1, none⟩ (.int .i64 e.ctx)).setCell ⟨g, o + 2, none⟩ (.int .u64 e.va)).setCell ⟨g, o + 3, none⟩ (.int .u64 e.pa)).setCell ⟨g, o + 4, none⟩ (.bool e.att.write)).setCell ⟨g, o + 5, none⟩ (.bool e.att.priv)).setCell ⟨g, o + 6, none⟩ (.bool e.att.exec)).setCell ⟨g, o + 7, none⟩ (.bool e.att.lock)).setCell ⟨g, o + 8, none⟩ (.bool e.att.global)).setCell ⟨g, o + 9, none⟩ (.bool e.att.quiet)).setCell ⟨g, o + 10, none⟩ (.bool e.valid)).heap[b]? = w.heap[b]? := by
  rw [Below.heap_setCell _ _ _ _ h, Below.heap_setCell _ _ _ _ h, Below.heap_setCell _ _ _ _ h, Below.heap_setCell _ _ _ _ h, Below.heap_setCell _ _ _ _ h, Below.heap_setCell _ _ _ _ h, Below.heap_setCell _ _ _ _ h, Below.heap_setCell _ _ _ _ h, Below.heap_setCell _ _ _ _ h, Below.heap_setCell _ _ _ _ h, Below.heap_setCell _ _ _ _ h]
theorem size_set11 {w : World} {g o : Nat} {e : Ent} : (((((((((((w.setCell ⟨g, o, none⟩ (.int .i64 e.size)).setCell ⟨g, o + 1, none⟩ (.int .i64 e.ctx)).setCell ⟨g, o + 2, none⟩ (.int .u64 e.va)).setCell ⟨g, o + 3, none⟩ (.int .u64 e.pa)).setCell ⟨g, o + 4, none⟩ (.bool e.att.write)).setCell ⟨g, o + 5, none⟩ (.bool e.att.priv)).setCell ⟨g, o + 6, none⟩ (.bool e.att.exec)).setCell ⟨g, o + 7, none⟩ (.bool e.att.lock)).setCell ⟨g, o + 8, none⟩ (.bool e.att.global)).setCell ⟨g, o + 9, none⟩ (.bool e.att.quiet)).setCell ⟨g, o + 10, none⟩ (.bool e.valid)).heap.size = w.heap.size := by simp [World.setCell]
/-- Of what was in w all stays but block bb. -/
structure Turn (w w' : World) (bb : Nat) : Prop where
  os : w'.os = w.os
  tape : w'.tape = w.tape
  output : w'.output = w.output
  size : w.heap.size ≤ w'.heap.size
  block : ∀ k, k < w.heap.size → k ≠ bb → w'.heap[k]? = w.heap[k]?
theorem Turn.refl (w : World) (bb : Nat) : Turn w w bb := ⟨rfl, rfl, rfl, Nat.le_refl _, fun _ _ _ => rfl⟩
theorem Turn.trans {a b c : World} {bb : Nat} (h : Turn a b bb) (k : Turn b c bb) : Turn a c bb :=
  ⟨k.os.trans h.os, k.tape.trans h.tape, k.output.trans h.output, Nat.le_trans h.size k.size, fun i hi h1 =>
    (k.block i (Nat.lt_of_lt_of_le hi h.size) h1).trans (h.block i hi h1)⟩
theorem Turn.of_below {a b : World} (bb : Nat) (k : Below a.heap.size a b) : Turn a b bb := ⟨k.os, k.tape, k.output, k.size, fun i hi _ => k.block i hi⟩
theorem Turn.call {a b c : World} {bb : Nat} (h : Turn a b bb) (k : Below b.heap.size b c) : Turn a c bb := h.trans (Turn.of_below _ k)
theorem Turn.drewN {a b : World} {bb : Nat} (h : Turn a b bb) (m : Nat) : Turn a (b.drewN m) bb := ⟨h.os, h.tape, h.output, h.size, h.block⟩
theorem Turn.drew {a b : World} {bb : Nat} (h : Turn a b bb) : Turn a b.drew bb := ⟨h.os, h.tape, h.output, h.size, h.block⟩
theorem Turn.alloc {a b : World} {bb : Nat} (h : Turn a b bb) (o : Obj) : Turn a (b.alloc o) bb :=
  h.trans (Turn.of_below _ ((Below.refl _ _).alloc (Nat.le_refl _) o))
theorem Turn.setCell {a b : World} {bb : Nat} (h : Turn a b bb) {p : Addr} (hp : p.block = bb ∨ a.heap.size ≤ p.block) (u : Value) : Turn a (b.setCell p u) bb :=
  ⟨h.os, h.tape, h.output, by simpa [World.setCell] using h.size, fun i hi h1 => (Below.heap_setCell _ _ _ _ (by omega)).trans (h.block i hi h1)⟩
theorem Turn.set11 {a b : World} {bb g o : Nat} {e : Ent} (h : Turn a b bb) (hp : g = bb ∨ a.heap.size ≤ g) : Turn a (((((((((((b.setCell ⟨g, o, none⟩ (.int .i64 e.size)).setCell ⟨g, o + 1, none⟩ (.int .i64 e.ctx)).setCell ⟨g, o + 2, none⟩ (.int .u64 e.va)).setCell ⟨g, o + 3, none⟩ (.int .u64 e.pa)).setCell ⟨g, o + 4, none⟩ (.bool e.att.write)).setCell ⟨g, o + 5, none⟩ (.bool e.att.priv)).setCell ⟨g, o + 6, none⟩ (.bool e.att.exec)).setCell ⟨g, o + 7, none⟩ (.bool e.att.lock)).setCell ⟨g, o + 8, none⟩ (.bool e.att.global)).setCell ⟨g, o + 9, none⟩ (.bool e.att.quiet)).setCell ⟨g, o + 10, none⟩ (.bool e.valid)) bb := by
  iterate 11 refine Turn.setCell ?_ hp _
  exact h
/-- Places that were made behind B: nothing below B has turned. -/
theorem Turn.to_below {a b : World} {bb B : Nat} (h : Turn a b bb) (h1 : B ≤ bb) (hB : B ≤ a.heap.size) : Below B a b :=
  ⟨h.os, h.tape, h.output, h.size, fun k hk => h.block k (by omega) (by omega)⟩
/-- An entry is laid into a new box. -/
theorem box_below {w0 X w : World} {e : Ent} (h0 : w0.heap.size ≤ X.heap.size) (h : Below w0.heap.size w0 w) : Below w0.heap.size w0 (((((((((((w.setCell ⟨X.heap.size, 0, none⟩ (.int .i64 e.size)).setCell ⟨X.heap.size, 1, none⟩ (.int .i64 e.ctx)).setCell ⟨X.heap.size, 2, none⟩ (.int .u64 e.va)).setCell ⟨X.heap.size, 3, none⟩ (.int .u64 e.pa)).setCell ⟨X.heap.size, 4, none⟩ (.bool e.att.write)).setCell ⟨X.heap.size, 5, none⟩ (.bool e.att.priv)).setCell ⟨X.heap.size, 6, none⟩ (.bool e.att.exec)).setCell ⟨X.heap.size, 7, none⟩ (.bool e.att.lock)).setCell ⟨X.heap.size, 8, none⟩ (.bool e.att.global)).setCell ⟨X.heap.size, 9, none⟩ (.bool e.att.quiet)).setCell ⟨X.heap.size, 10, none⟩ (.bool e.valid)) := by
  iterate 11 refine below_setN ?_ h0
  exact h
/-- The box of a round: an entry in a new block. -/
theorem box_new (w : World) (e : Ent) : RowE ((((((((((((w.alloc (.cells #[.int .i64 0, .int .i64 0, .int .u64 0, .int .u64 0, .bool false, .bool false, .bool false, .bool false, .bool false, .bool false, .bool false] 35)).setCell ⟨w.heap.size, 0, none⟩ (.int .i64 e.size)).setCell ⟨w.heap.size, 1, none⟩ (.int .i64 e.ctx)).setCell ⟨w.heap.size, 2, none⟩ (.int .u64 e.va)).setCell ⟨w.heap.size, 3, none⟩ (.int .u64 e.pa)).setCell ⟨w.heap.size, 4, none⟩ (.bool e.att.write)).setCell ⟨w.heap.size, 5, none⟩ (.bool e.att.priv)).setCell ⟨w.heap.size, 6, none⟩ (.bool e.att.exec)).setCell ⟨w.heap.size, 7, none⟩ (.bool e.att.lock)).setCell ⟨w.heap.size, 8, none⟩ (.bool e.att.global)).setCell ⟨w.heap.size, 9, none⟩ (.bool e.att.quiet)).setCell ⟨w.heap.size, 10, none⟩ (.bool e.valid)) w.heap.size e ∧ Below w.heap.size w ((((((((((((w.alloc (.cells #[.int .i64 0, .int .i64 0, .int .u64 0, .int .u64 0, .bool false, .bool false, .bool false, .bool false, .bool false, .bool false, .bool false] 35)).setCell ⟨w.heap.size, 0, none⟩ (.int .i64 e.size)).setCell ⟨w.heap.size, 1, none⟩ (.int .i64 e.ctx)).setCell ⟨w.heap.size, 2, none⟩ (.int .u64 e.va)).setCell ⟨w.heap.size, 3, none⟩ (.int .u64 e.pa)).setCell ⟨w.heap.size, 4, none⟩ (.bool e.att.write)).setCell ⟨w.heap.size, 5, none⟩ (.bool e.att.priv)).setCell ⟨w.heap.size, 6, none⟩ (.bool e.att.exec)).setCell ⟨w.heap.size, 7, none⟩ (.bool e.att.lock)).setCell ⟨w.heap.size, 8, none⟩ (.bool e.att.global)).setCell ⟨w.heap.size, 9, none⟩ (.bool e.att.quiet)).setCell ⟨w.heap.size, 10, none⟩ (.bool e.valid)) :=
  ⟨RowE.setAll (RowE.new w Ent.zero), box_below (X := w) (Nat.le_refl _) ((Below.refl _ _).alloc (Nat.le_refl _) _)⟩
theorem infoE : (Tryz.prog.info? 35).map (fun i => (i.zero, i.size, i.bytes)) = some (some (.agg #[.int .i64 0, .int .i64 0, .int .u64 0, .int .u64 0, .bool false, .bool false, .bool false, .bool false, .bool false, .bool false, .bool false]), 11, 40) := by kernel_rfl
/-- The results of a function that answers an entry and one thing more. -/
theorem res_ent {fn : Func} {p u : Tmp} (h : fn.results = #[.cell p 35, .tmp u]) (tmps : Array Value) (w : World) (g : Nat) (e : Ent) (hp : tmps.getD p undef = .pointer (some ⟨g, 0, none⟩)) (hR : RowE w g e) :
    (results fn tmps).run Tryz.prog w = .ok (.tuple #[.agg #[.int .i64 e.size, .int .i64 e.ctx, .int .u64 e.va, .int .u64 e.pa, .bool e.att.write, .bool e.att.priv, .bool e.att.exec, .bool e.att.lock, .bool e.att.global, .bool e.att.quiet, .bool e.valid], tmps.getD u undef]) w := by
  have hl := run_loadVar_row (P := Tryz.prog) w g 35 35 _ (0, 0) _ hR.row Tryz.underlying35 (by kernel_rfl) (by kernel_rfl)
  rw [results_cell_tmp h, hp]
  simp only [asAddr, Sem.run_pure, Result.andThen_ok, hl]
theorem ret_entI {E F : Ent} {i k : Int} (h : E = F) (g : i = k) : Ending.returned (.tuple #[.agg #[.int .i64 F.size, .int .i64 F.ctx, .int .u64 F.va, .int .u64 F.pa, .bool F.att.write, .bool F.att.priv, .bool F.att.exec, .bool F.att.lock, .bool F.att.global, .bool F.att.quiet, .bool F.valid], .int .i64 k]) = .returned (.tuple #[.agg #[.int .i64 E.size, .int .i64 E.ctx, .int .u64 E.va, .int .u64 E.pa, .bool E.att.write, .bool E.att.priv, .bool E.att.exec, .bool E.att.lock, .bool E.att.global, .bool E.att.quiet, .bool E.valid], .int .i64 i]) := by subst h; subst g; rfl
theorem ret_entB {E F : Ent} {i k : Bool} (h : E = F) (g : i = k) : Ending.returned (.tuple #[.agg #[.int .i64 F.size, .int .i64 F.ctx, .int .u64 F.va, .int .u64 F.pa, .bool F.att.write, .bool F.att.priv, .bool F.att.exec, .bool F.att.lock, .bool F.att.global, .bool F.att.quiet, .bool F.valid], .bool k]) = .returned (.tuple #[.agg #[.int .i64 E.size, .int .i64 E.ctx, .int .u64 E.va, .int .u64 E.pa, .bool E.att.write, .bool E.att.priv, .bool E.att.exec, .bool E.att.lock, .bool E.att.global, .bool E.att.quiet, .bool E.valid], .bool i]) := by subst h; subst g; rfl
theorem ret_intI {E F i k : Int} (h : E = F) (g : i = k) : Ending.returned (.tuple #[.int .i64 F, .int .i64 k]) = .returned (.tuple #[.int .i64 E, .int .i64 i]) := by subst h; subst g; rfl
end Go.Proofs.YtgdagfhdimoklaaGreat.Tl
/-
  Contracts of New, Parts, Slots, has and Find of package tlb. Conditions: entries' words are below 2 to the 64; those that read places read places that are there.
-/
namespace Go.Proofs.YtgdagfhdimoklaaGreat.Tl
open Fld
open Go.ChangeShapes Go.WideShapes Go.ChangeAt Go.RowKit
set_option maxHeartbeats 1000000
set_option maxRecDepth 100000
theorem made_rowT (n : Nat) : madeCells (Value.cells (.agg #[.int .i64 0, .int .i64 0, .int .u64 0, .int .u64 0, .bool false, .bool false, .bool false, .bool false, .bool false, .bool false, .bool false])) (n * 11) = rowT (fun _ => Ent.zero) n := by
  apply Array.ext_getElem?
  intro m
  by_cases hm : m < n * 11
  · rw [rowT_get _ hm]
    have e : ∀ r, r < 11 → (#[Value.int .i64 0, .int .i64 0, .int .u64 0, .int .u64 0, .bool false, .bool false, .bool false, .bool false, .bool false, .bool false, .bool false])[r]! = cellE Ent.zero r := fun r hr => by
      have : r = 0 ∨ r = 1 ∨ r = 2 ∨ r = 3 ∨ r = 4 ∨ r = 5 ∨ r = 6 ∨ r = 7 ∨ r = 8 ∨ r = 9 ∨ r = 10 := by omega
      rcases this with rfl | rfl | rfl | rfl | rfl | rfl | rfl | rfl | rfl | rfl | rfl <;> rfl
    have h := e (m % 11) (by omega)
    have hs : (madeCells (Value.cells (.agg #[.int .i64 0, .int .i64 0, .int .u64 0, .int .u64 0, .bool false, .bool false, .bool false, .bool false, .bool false, .bool false, .bool false])) (n * 11))[m]? = some ((#[Value.int .i64 0, .int .i64 0, .int .u64 0, .int .u64 0, .bool false, .bool false, .bool false, .bool false, .bool false, .bool false, .bool false])[m % 11]!) := by
      simp only [madeCells, Array.getElem?_map, Array.getElem?_range, if_pos hm, Option.map_some]
      rfl
    rw [hs, h]
  · rw [Array.getElem?_eq_none (by rw [size_madeCells]; omega), Array.getElem?_eq_none (by rw [rowT_size]; omega)]
theorem run_makeE (n : Nat) (hn : n ≤ 64) (w : World) : (Instr.makeSlice 41 (.int .i64 (n : Int)) (.int .i64 (n : Int))).run Tryz.prog w = .ok (.slice (some ⟨w.heap.size, 0, none⟩) n n) (w.alloc (.cells (rowT (fun _ => Ent.zero) n) 35)) := by
  obtain ⟨i, hi, hzz⟩ := Option.map_eq_some_iff.1 infoE
  simp only [Prod.mk.injEq] at hzz
  obtain ⟨hz, hs, hb⟩ := hzz
  have := run_make (P := Tryz.prog) w 41 35 i _ Tryz.underlying41 hi hz .i64 .i64 n n (by omega) (Int.le_refl _) (by rw [hb]; omega) (by omega)
  rw [hs, Int.toNat_natCast, made_rowT] at this
  exact this
/-- How many places New makes. -/
def newN (n : Int) : Nat := (min (max n 1) 64).toNat
theorem newN_bd (n : Int) : 1 ≤ newN n ∧ newN n ≤ 64 := by unfold newN; omega
end Go.Proofs.YtgdagfhdimoklaaGreat.Tl
/-
  Contract of Find of package tlb. Conditions: it reads places that are there.
-/
namespace Go.Proofs.YtgdagfhdimoklaaGreat.Tl
open Fld
open Go.ChangeShapes Go.WideShapes Go.ChangeAt Go.RowKit
set_option maxHeartbeats 1000000
set_option maxRecDepth 100000
end Go.Proofs.YtgdagfhdimoklaaGreat.Tl
/-
  Contract of At of package tlb. Conditions: it reads places that are there.
-/
namespace Go.Proofs.YtgdagfhdimoklaaGreat.Tl
open Fld
open Go.ChangeShapes Go.WideShapes Go.ChangeAt Go.RowKit
set_option maxHeartbeats 2000000
set_option maxRecDepth 100000
/-- What stands at a place. -/
def atE (T : Nat → Ent) (n : Nat) (i : Int) : Ent := if hasB n i then T i.toNat else Ent.zero
end Go.Proofs.YtgdagfhdimoklaaGreat.Tl
/-
  Contract of count of package tlb, for a closure that keeps its word. Conditions: it reads places that are there.
-/
namespace Go.Proofs.YtgdagfhdimoklaaGreat.Tl
open Fld
open Go.ChangeShapes Go.WideShapes Go.ChangeAt Go.RowKit
set_option maxHeartbeats 2000000
set_option maxRecDepth 100000
/-- A closure's word: it tells whether a thing is so of an entry, in each world that has what was there (but for block bb). -/
def Tells (g : Nat) (cap : Array Value) (p : Ent → Bool) (bb : Nat) (w : World) : Prop := ∀ (e : Ent) (W : World), e.wf → Turn w W bb → Calls Tryz.prog g (#[.agg #[.int .i64 e.size, .int .i64 e.ctx, .int .u64 e.va, .int .u64 e.pa, .bool e.att.write, .bool e.att.priv, .bool e.att.exec, .bool e.att.lock, .bool e.att.global, .bool e.att.quiet, .bool e.valid]] ++ cap) W fun r w' => r = .returned (.bool (p e)) ∧ Below W.heap.size W w'
end Go.Proofs.YtgdagfhdimoklaaGreat.Tl
/-
  The closures of package tlb, and Locked, DemapAll, DemapPage, DemapContext. Conditions: they read places that are there; addresses are below 2 to the 64.
-/
namespace Go.Proofs.YtgdagfhdimoklaaGreat.Tl
open Fld
open Go.ChangeShapes Go.WideShapes Go.ChangeAt Go.RowKit Go.Shelf
set_option maxHeartbeats 2000000
set_option maxRecDepth 100000
theorem box1 (w : World) (o : Obj) : Below w.heap.size w (w.alloc o) := (Below.refl _ _).alloc (Nat.le_refl _) _
theorem lt_cell {w : World} {b o : Nat} {v : Value} (h : w.cell? ⟨b, o, none⟩ = some v) : b < w.heap.size := World.block_lt_of_cell? w ⟨b, o, none⟩ h
theorem turn_cell {w W : World} {bb b o : Nat} {v : Value} (h : Turn w W bb) (hb : b ≠ bb) (hc : w.cell? ⟨b, o, none⟩ = some v) : W.cell? ⟨b, o, none⟩ = some v := by
  have hlt : b < w.heap.size := lt_cell hc
  rw [World.cell?_of_block (a := ⟨b, o, none⟩) (h.block b hlt hb)]; exact hc
def lockB (e : Ent) : Bool := e.att.lock
end Go.Proofs.YtgdagfhdimoklaaGreat.Tl
/-
  Contract of room of package tlb. Conditions: it reads places of which one is empty or has no lock; the pick is an int.
-/
namespace Go.Proofs.YtgdagfhdimoklaaGreat.Tl
open Fld
open Go.ChangeShapes Go.WideShapes Go.ChangeAt Go.RowKit Go.Shelf
set_option maxHeartbeats 2000000
set_option maxRecDepth 100000
end Go.Proofs.YtgdagfhdimoklaaGreat.Tl
/-
  Lists of entries that a call made itself: their cells, what is appended, and put at a place. Conditions: none.
-/
namespace Go.Proofs.YtgdagfhdimoklaaGreat.Tl
open Fld
open Go.ChangeShapes Go.WideShapes Go.ChangeAt Go.RowKit Go.Shelf
set_option maxHeartbeats 1000000
set_option maxRecDepth 100000
def eleven (e : Ent) : List Value := [.int .i64 e.size, .int .i64 e.ctx, .int .u64 e.va, .int .u64 e.pa, .bool e.att.write, .bool e.att.priv, .bool e.att.exec, .bool e.att.lock, .bool e.att.global, .bool e.att.quiet, .bool e.valid]
theorem eleven_get (e : Ent) {k : Nat} (hk : k < 11) : (eleven e)[k]? = some (cellE e k) := by
  have : k = 0 ∨ k = 1 ∨ k = 2 ∨ k = 3 ∨ k = 4 ∨ k = 5 ∨ k = 6 ∨ k = 7 ∨ k = 8 ∨ k = 9 ∨ k = 10 := by omega
  rcases this with rfl | rfl | rfl | rfl | rfl | rfl | rfl | rfl | rfl | rfl | rfl <;> rfl
theorem rowL_snoc {T : Nat → Ent} {n : Nat} {e : Ent} (h : T n = e) : rowL T (n + 1) = rowL T n ++ eleven e := by
  apply List.ext_getElem?
  intro m
  by_cases hm : m < n * 11
  · rw [rowL_get T (by omega), List.getElem?_append_left (by rw [rowL_length]; omega), rowL_get T hm]
  · rw [List.getElem?_append_right (by rw [rowL_length]; omega), rowL_length]
    by_cases h2 : m < (n + 1) * 11
    · rw [rowL_get T h2, show m / 11 = n by omega, eleven_get e (by omega), h, show m - n * 11 = m % 11 by omega]
    · rw [List.getElem?_eq_none (by rw [rowL_length]; omega), List.getElem?_eq_none (by show 11 ≤ _; omega)]
theorem rowL_nil (T : Nat → Ent) : rowL T 0 = [] := rfl
theorem cell_one (e : Ent) (k : Nat) : (cellE e k).oneCell' = true := by unfold cellE; split <;> rfl
theorem row_one (T : Nat → Ent) (n : Nat) : ∀ u ∈ rowL T n, u.oneCell' = true := by
  intro u hu
  unfold rowL at hu
  rw [List.mem_map] at hu
  obtain ⟨m, _, rfl⟩ := hu
  exact cell_one _ _
theorem eleven_one (e : Ent) : ∀ u ∈ eleven e, u.oneCell' = true := by
  intro u hu
  simp only [eleven, List.mem_cons, List.not_mem_nil, or_false] at hu
  rcases hu with rfl | rfl | rfl | rfl | rfl | rfl | rfl | rfl | rfl | rfl | rfl <;> rfl
/-- A list of n entries that lies in new memory (from block B on). -/
abbrev DocAt (w : World) (B : Nat) (v : Value) (n : Nat) (R : Nat → Ent) : Prop := w.ownsRow B 35 11 v n (rowL R n)
theorem doc_at {w : World} {B n : Nat} {v : Value} {R : Nat → Ent} (h : DocAt w B v n R) (hn : 1 ≤ n) :
    ∃ g cap, v = .slice (some ⟨g, 0, none⟩) n cap ∧ n ≤ cap ∧ cap ≤ maxLen ∧ B ≤ g ∧ g < w.heap.size ∧ (∀ i o, i < n → i * 11 = o → w.cell? ⟨g, o, none⟩ = some (.int .i64 (R i).size) ∧ w.cell? ⟨g, o + 1, none⟩ = some (.int .i64 (R i).ctx) ∧ w.cell? ⟨g, o + 2, none⟩ = some (.int .u64 (R i).va) ∧ w.cell? ⟨g, o + 3, none⟩ = some (.int .u64 (R i).pa) ∧ w.cell? ⟨g, o + 4, none⟩ = some (.bool (R i).att.write) ∧ w.cell? ⟨g, o + 5, none⟩ = some (.bool (R i).att.priv) ∧ w.cell? ⟨g, o + 6, none⟩ = some (.bool (R i).att.exec) ∧ w.cell? ⟨g, o + 7, none⟩ = some (.bool (R i).att.lock) ∧ w.cell? ⟨g, o + 8, none⟩ = some (.bool (R i).att.global) ∧ w.cell? ⟨g, o + 9, none⟩ = some (.bool (R i).att.quiet) ∧ w.cell? ⟨g, o + 10, none⟩ = some (.bool (R i).valid)) ∧ (∀ j, w.frozen? ⟨g, j, none⟩ = false) := by
  have h0 := h
  rcases h.2 with ⟨_, h0⟩ | ⟨g, cap, cur, rfl, hB, hg, h1, h2, _, _⟩
  · omega
  · refine ⟨g, cap, rfl, h1, h2, hB, (Array.getElem?_eq_some_iff.1 hg).1, fun i o hi ho => ?_, fun j => by simp [World.frozen?, hg]⟩
    subst ho
    have hc : ∀ k, k < 11 → w.cell? ⟨g, i * 11 + k, none⟩ = some (cellE (R i) k) := fun k hk => by
      rw [h0.cellAt (i * 11 + k) (by omega), rowL_get R (by omega), show (i * 11 + k) / 11 = i by omega, show (i * 11 + k) % 11 = k by omega]
    exact ⟨hc 0 (by decide), hc 1 (by decide), hc 2 (by decide), hc 3 (by decide), hc 4 (by decide), hc 5 (by decide), hc 6 (by decide), hc 7 (by decide), hc 8 (by decide), hc 9 (by decide), hc 10 (by decide)⟩
theorem doc_news {w : World} {B n g cap : Nat} {R : Nat → Ent} (h : DocAt w B (.slice (some ⟨g, 0, none⟩) n cap) n R) : ∀ j u, (rowL R n)[j]? = some u → w.cell? ((⟨g, 0, none⟩ : Addr).add j) = some u := by
  intro j u hj
  have hl : j < n * 11 := by
    have := (List.getElem?_eq_some_iff.1 hj).1; rwa [rowL_length] at this
  have ha : (⟨g, 0, none⟩ : Addr).add j = ⟨g, j, none⟩ := by unfold Addr.add; split <;> simp_all
  rw [ha, h.cellAt j hl]; exact hj
/-- An entry is put at a place of the list. -/
theorem doc_put {w : World} {B n g cap : Nat} {R : Nat → Ent} (h : DocAt w B (.slice (some ⟨g, 0, none⟩) n cap) n R) {i o : Nat} (hi : i < n) (ho : i * 11 = o) (e : Ent) : DocAt (((((((((((w.setCell ⟨g, o, none⟩ (.int .i64 e.size)).setCell ⟨g, o + 1, none⟩ (.int .i64 e.ctx)).setCell ⟨g, o + 2, none⟩ (.int .u64 e.va)).setCell ⟨g, o + 3, none⟩ (.int .u64 e.pa)).setCell ⟨g, o + 4, none⟩ (.bool e.att.write)).setCell ⟨g, o + 5, none⟩ (.bool e.att.priv)).setCell ⟨g, o + 6, none⟩ (.bool e.att.exec)).setCell ⟨g, o + 7, none⟩ (.bool e.att.lock)).setCell ⟨g, o + 8, none⟩ (.bool e.att.global)).setCell ⟨g, o + 9, none⟩ (.bool e.att.quiet)).setCell ⟨g, o + 10, none⟩ (.bool e.valid)) B (.slice (some ⟨g, 0, none⟩) n cap) n (setE R i e) := by
  refine ⟨by rw [rowL_length], ?_⟩
  rcases h.2 with ⟨hv, _⟩ | ⟨g', cap', cur, hv, hB, hg, h1, h2, h3, h4⟩
  · cases hv
  · simp only [Value.slice.injEq, Option.some.injEq, Addr.mk.injEq, and_true, true_and] at hv
    obtain ⟨rfl, rfl⟩ := hv
    refine .inr ⟨g, cap, _, rfl, hB, heap_set11 o e hg, h1, h2, by rw [lay11_size]; exact h3, ?_⟩
    subst ho
    apply List.ext_getElem?
    intro m
    have hcur : ∀ m, m < n * 11 → cur[m]? = some (cellE (R (m / 11)) (m % 11)) := fun m hm => by
      rw [← rowL_get R hm, ← h4, List.getElem?_take, if_pos hm, Array.getElem?_toList]
    have hsz : n * 11 ≤ cur.size := by rw [h3]; exact Nat.mul_le_mul_right 11 h1
    rw [List.getElem?_take]
    by_cases hm : m < n * 11
    · rw [if_pos hm, Array.getElem?_toList, rowL_get _ hm]
      by_cases hq : m < i * 11 ∨ i * 11 + 11 ≤ m
      · rw [lay11_out _ _ _ hq, hcur m hm, setE_ne (by omega)]
      · obtain ⟨k, rfl⟩ : ∃ k, m = i * 11 + k := ⟨m - i * 11, by omega⟩
        rw [lay11_in _ _ _ (by omega) (by omega), show (i * 11 + k) / 11 = i by omega, show (i * 11 + k) % 11 = k by omega, setE_at]
    · rw [if_neg hm, List.getElem?_eq_none (by rw [rowL_length]; omega)]
theorem doc_low {w : World} {B C n : Nat} {v : Value} {R : Nat → Ent} (h : DocAt w B v n R) (hC : C ≤ B) : DocAt w C v n R := by
  refine ⟨h.1, ?_⟩
  rcases h.2 with hn | ⟨g, cap, cur, rfl, hb2, rest⟩
  · exact .inl hn
  · exact .inr ⟨g, cap, cur, rfl, by omega, rest⟩
theorem doc_below {w w' : World} {B n : Nat} {v : Value} {R : Nat → Ent} (h : DocAt w B v n R) (hb : Below w.heap.size w w') : DocAt w' B v n R := own_below h hb
theorem doc_turn {w w' : World} {B n bb : Nat} {v : Value} {R : Nat → Ent} (h : DocAt w B v n R) (ht : Turn w w' bb) (hb : bb < B) : DocAt w' B v n R := by
  refine ⟨h.1, ?_⟩
  rcases h.2 with hn | ⟨g, cap, cur, rfl, hb2, hg, rest⟩
  · exact .inl hn
  · exact .inr ⟨g, cap, cur, rfl, hb2, (ht.block g (Array.getElem?_eq_some_iff.1 hg).1 (by omega)).trans hg, rest⟩
theorem doc_congr {w : World} {B n : Nat} {v : Value} {R S : Nat → Ent} (h : DocAt w B v n R) (he : ∀ k, k < n → R k = S k) : DocAt w B v n S := by
  unfold DocAt; rw [← rowL_congr he]; exact h
/-- An entry that was laid into a new block: its cells. -/
theorem cell_eleven_new (w : World) (e : Ent) (t : TypeId) : ∀ j u, (eleven e)[j]? = some u → (w.alloc (.cells #[.int .i64 e.size, .int .i64 e.ctx, .int .u64 e.va, .int .u64 e.pa, .bool e.att.write, .bool e.att.priv, .bool e.att.exec, .bool e.att.lock, .bool e.att.global, .bool e.att.quiet, .bool e.valid] t)).cell? ((⟨w.heap.size, 0, none⟩ : Addr).add j) = some u := by
  intro j u hj
  have ha : (⟨w.heap.size, 0, none⟩ : Addr).add j = ⟨w.heap.size, j, none⟩ := by unfold Addr.add; split <;> simp_all
  rw [ha, cell_of_row _ _ j _ _ _ (heap_alloc_new w _)]
  rw [← hj, ← List.getElem?_toArray]; rfl
end Go.Proofs.YtgdagfhdimoklaaGreat.Tl
/-
  Contract of List of package tlb. Conditions: it reads places that are there.
-/
namespace Go.Proofs.YtgdagfhdimoklaaGreat.Tl
open Fld
open Go.ChangeShapes Go.WideShapes Go.ChangeAt Go.RowKit Go.Shelf
set_option maxHeartbeats 2000000
set_option maxRecDepth 100000
/-- All entries, as their places rise. -/
def vals (T : Nat → Ent) (n : Nat) : List Ent := ((List.range n).map T).filter fun e => e.valid
def nthE (l : List Ent) : Nat → Ent := fun i => l.getD i Ent.zero
theorem vals_hit {T : Nat → Ent} {n : Nat} (h : (T n).valid = true) : vals T (n + 1) = vals T n ++ [T n] := by
  unfold vals; rw [List.range_succ, List.map_append, List.filter_append]; simp [h]
theorem vals_miss {T : Nat → Ent} {n : Nat} (h : (T n).valid = false) : vals T (n + 1) = vals T n := by
  unfold vals; rw [List.range_succ, List.map_append, List.filter_append]; simp [h]
theorem vals_length (T : Nat → Ent) (n : Nat) : (vals T n).length = cntE T (fun _ => true) n := by
  induction n with
  | zero => rfl
  | succ n ih =>
    cases h : (T n).valid
    · rw [vals_miss h, ih, cntE_miss (by rw [h]; rfl)]
    · rw [vals_hit h, List.length_append, ih, cntE_hit (by rw [h]; rfl)]; rfl
theorem vals_le (T : Nat → Ent) (n : Nat) : (vals T n).length ≤ n := by rw [vals_length]; exact cntE_le _ _ _
theorem vals_mem {T : Nat → Ent} {n : Nat} {e : Ent} : e ∈ vals T n ↔ ∃ i, i < n ∧ T i = e ∧ e.valid = true := by
  unfold vals
  simp only [List.mem_filter, List.mem_map, List.mem_range]
  exact ⟨fun ⟨⟨i, a, b⟩, c⟩ => ⟨i, a, b, c⟩, fun ⟨i, a, b, c⟩ => ⟨⟨i, a, b⟩, c⟩⟩
abbrev ListAt (w : World) (B : Nat) (v : Value) (l : List Ent) : Prop := DocAt w B v l.length (nthE l)
theorem rowL_list (l : List Ent) (e : Ent) : rowL (nthE (l ++ [e])) (l ++ [e]).length = rowL (nthE l) l.length ++ eleven e := by
  rw [show (l ++ [e]).length = l.length + 1 by simp, rowL_snoc (e := e) (by simp [nthE])]
  rw [rowL_congr (T := nthE (l ++ [e])) (U := nthE l)]
  intro k hk
  simp [nthE, List.getElem?_append_left hk]
theorem list_nil (w : World) (B : Nat) : ListAt w B (.slice none 0 0) [] := World.ownsRow_nil _ _ _ _
end Go.Proofs.YtgdagfhdimoklaaGreat.Tl
/-
  Contracts of Put and Clear of package tlb. Conditions: they read places that are there; the entry's numbers are what Go's types hold.
-/
namespace Go.Proofs.YtgdagfhdimoklaaGreat.Tl
open Fld
open Go.ChangeShapes Go.WideShapes Go.ChangeAt Go.RowKit Go.Shelf
set_option maxHeartbeats 2000000
set_option maxRecDepth 100000
/-- What Clear does. -/
def clearT (T : Nat → Ent) (n : Nat) (i : Int) : Nat → Ent := if (atE T n i).valid then setE T i.toNat Ent.zero else T
theorem atE_valid {T : Nat → Ent} {n : Nat} {i : Int} (h : (atE T n i).valid = true) : ∃ q : Nat, i = (q : Int) ∧ q < n ∧ atE T n i = T q := by
  unfold atE at *
  cases hb : hasB n i
  · rw [hb] at h; cases h
  · have hb' := hb
    unfold hasB at hb'
    simp only [Bool.and_eq_true, decide_eq_true_eq] at hb'
    exact ⟨i.toNat, by omega, by omega, rfl⟩
theorem Ok.clearT {T : Nat → Ent} {n : Nat} (h : Ok T n) (i : Int) : Ok (clearT T n i) n := by
  unfold Tl.clearT; split
  · exact h.clear _
  · exact h
end Go.Proofs.YtgdagfhdimoklaaGreat.Tl
/-
  Contract of Insert of package tlb. Conditions: it reads places that are there; the entry's numbers and the pick are what Go's types hold.
-/
namespace Go.Proofs.YtgdagfhdimoklaaGreat.Tl
open Fld
open Go.ChangeShapes Go.WideShapes Go.ChangeAt Go.RowKit Go.Shelf
set_option maxHeartbeats 2000000
set_option maxRecDepth 100000
theorem row_turn {w W : World} {bb b : Nat} {e : Ent} (h : RowE w b e) (ht : Turn w W bb) (hb : b ≠ bb) : RowE W b e := ⟨(ht.block b h.lt hb).trans h.row⟩
end Go.Proofs.YtgdagfhdimoklaaGreat.Tl
/-
  Contract of Insert of package tlb. Conditions: it reads places that are there; the entry's numbers and the pick are what Go's types hold.
-/
namespace Go.Proofs.YtgdagfhdimoklaaGreat.Tl
open Fld
open Go.ChangeShapes Go.WideShapes Go.ChangeAt Go.RowKit Go.Shelf
set_option maxHeartbeats 2000000
set_option maxRecDepth 100000
end Go.Proofs.YtgdagfhdimoklaaGreat.Tl
/-
  The document's example of layer 6 (lives), and Parts of its package. Conditions: addresses are below 2 to the 64.
-/
namespace Go.Proofs.YtgdagfhdimoklaaGreat.Tl
open Fld
open Go.ChangeShapes Go.WideShapes Go.ChangeAt Go.RowKit Go.Shelf
set_option maxHeartbeats 2000000
set_option maxRecDepth 100000
def ex (va : Int) : Ent := ⟨0, 1, va, 0, ⟨false, false, false, false, false, false⟩, true⟩
theorem ex_wf (va : Int) (h0 : 0 ≤ va) (h1 : va ≤ 18446744073709551615) : (ex va).wf := by unfold Ent.wf ex; simp; omega
def ex1 : Nat → Ent := insT (fun _ => Ent.zero) 2 (ex 0) 0
def ex2 : Nat → Ent := insT ex1 2 (ex 8192) 0
theorem ex_a : insN (fun _ => Ent.zero) 2 (ex 0) 0 = 0 ∧ insE (fun _ => Ent.zero) 2 (ex 0) = 0 := ⟨by kernel_rfl, by kernel_rfl⟩
theorem ex_b : insN ex1 2 (ex 8192) 0 = 1 ∧ insE ex1 2 (ex 8192) = 0 := ⟨by kernel_rfl, by kernel_rfl⟩
theorem ex_c : insN ex2 2 (ex 16384) 1 = 1 ∧ insE ex2 2 (ex 16384) = 0 := ⟨by kernel_rfl, by kernel_rfl⟩
end Go.Proofs.YtgdagfhdimoklaaGreat.Tl
/-
  Whether entries part, and which addresses they are: no address in a context is two entries' that part. Plain facts. Conditions: none.
-/
namespace Go.Proofs.YtgdagfhdimoklaaGreat.Tl
open Fld
set_option maxHeartbeats 1000000
theorem in_meet {v a s b t : Int} (h1 : inB v a s = true) (h2 : inB v b t = true) : meetB a s b t = true := by
  unfold inB at h1 h2
  rw [Bool.and_eq_true, decide_eq_true_eq] at h1 h2
  obtain ⟨s1, e1⟩ := h1
  obtain ⟨t1, e2⟩ := h2
  unfold meetB inB
  rw [s1, t1]
  have hm : sizeB (max s t) = true := by
    have a1 := sizeB_true s1; have a2 := sizeB_true t1
    exact sizeB_mk (by omega)
  rw [hm]
  simp only [Bool.true_and, decide_eq_true_eq]
  by_cases hst : s ≤ t
  · rw [Int.max_eq_right hst]
    rcases sizeB_true s1 with rfl | rfl | rfl | rfl <;> rcases sizeB_true t1 with rfl | rfl | rfl | rfl <;>
      (simp only [bytesI, if_true, Int.reduceEq, if_false] at *; clear s1 t1 hm; omega)
  · rw [Int.max_eq_left (by omega)]
    rcases sizeB_true s1 with rfl | rfl | rfl | rfl <;> rcases sizeB_true t1 with rfl | rfl | rfl | rfl <;>
      (simp only [bytesI, if_true, Int.reduceEq, if_false] at *; clear s1 t1 hm; omega)
/-- P6.5: entries that part have no address in a context both. -/
theorem hits_part {a b : Ent} {va ctx : Int} (hp : partsB a b = true) (ha : a.hitsB va ctx = true) : b.hitsB va ctx = false := by
  cases hb : b.hitsB va ctx
  · rfl
  · unfold Ent.hitsB Ent.holdsB at ha hb
    simp only [Bool.and_eq_true, Bool.or_eq_true, beq_iff_eq] at ha hb
    obtain ⟨⟨_, i1⟩, c1⟩ := ha
    obtain ⟨⟨_, i2⟩, c2⟩ := hb
    unfold partsB at hp
    rw [in_meet i1 i2] at hp
    simp only [Bool.not_true, Bool.false_or, Bool.and_eq_true, Bool.not_eq_true', bne_iff_ne] at hp
    obtain ⟨⟨g1, g2⟩, hne⟩ := hp
    rw [g1] at c1; rw [g2] at c2
    rcases c1 with c1 | c1
    · cases c1
    · rcases c2 with c2 | c2
      · cases c2
      · exact absurd (c1.trans c2.symm) hne
theorem self_parts {g : Ent} (h : g.mayB = true) : partsB g g = false := by
  have hs : sizeB g.size = true := by unfold Ent.mayB at h; simp only [Bool.and_eq_true] at h; exact h.1.1.1.1.1.1.2
  unfold partsB meetB inB
  rw [hs, show max g.size g.size = g.size by omega, hs]
  simp
/-- An entry that may be is its own address's. -/
theorem hits_self {g : Ent} (h : g.mayB = true) : g.hitsB g.va g.ctx = true := by
  have hs : sizeB g.size = true ∧ g.valid = true := by unfold Ent.mayB at h; simp only [Bool.and_eq_true] at h; exact ⟨h.1.1.1.1.1.1.2, h.1.1.1.1.1.1.1⟩
  unfold Ent.hitsB Ent.holdsB inB
  rw [hs.1, hs.2]; simp
theorem hits_valid {e : Ent} {va ctx : Int} (h : e.hitsB va ctx = true) : e.valid = true := by
  unfold Ent.hitsB Ent.holdsB at h; simp only [Bool.and_eq_true] at h; exact h.1.1
/-- At most one place is an address's. -/
theorem hits_one {T : Nat → Ent} {n i k : Nat} (h : Ok T n) (hi : i < n) (hk : k < n) {va ctx : Int} (h1 : (T i).hitsB va ctx = true) (h2 : (T k).hitsB va ctx = true) : i = k := by
  by_cases e : i = k
  · exact e
  · have := hits_part (h.part i k hi hk e (hits_valid h1) (hits_valid h2)) h1
    rw [h2] at this; cases this
theorem find_at {T : Nat → Ent} {n i : Nat} (h : Ok T n) (hi : i < n) {va ctx : Int} (h1 : (T i).hitsB va ctx = true) : findN T n va ctx = i := by
  refine fst_eq (by omega) (fun k hk => ?_) (fun _ => h1)
  cases e : (T k).hitsB va ctx
  · rfl
  · have := hits_one h (by omega) hi e h1; omega
end Go.Proofs.YtgdagfhdimoklaaGreat.Tl
/-
  Slices of entries and of deeds that come in as arguments: what the walk is told of them. Conditions: none.
-/
namespace Go.Proofs.YtgdagfhdimoklaaGreat.Tl
open Fld
open Go.ChangeShapes Go.WideShapes Go.ChangeAt Go.RowKit Go.Deep
set_option maxHeartbeats 1000000
set_option maxRecDepth 100000
theorem laidOut : laidOutB Tryz.prog = true := by kernel_rfl
theorem trod_ent {H : Type} {enc : TypeId × Value → H} {w : World} {base : Nat} {spare : Nat → Bool} {held : Bool} {n : Nat} {cs : List Value} {y : DataW H × List MemPlace} (hl : cs.length = 11) (h : DataW.trod enc Tryz.prog w base spare held n 35 cs = some y) : ∃ e : Ent, cs = eleven e ∧ e.lits := by
  match cs, hl with
  | [c0, c1, c2, c3, c4, c5, c6, c7, c8, c9, c10], _ =>
    obtain ⟨xs, n, _, hx, _, hlen, hg⟩ := DataW.trod_struct Tryz.underlying35 h
    match xs, hlen with
    | [y0, y1, y2, y3, y4, y5], _ =>
      have g0 : DataW.trod enc Tryz.prog w base spare held n 3 [c0] = some y0 := by simpa [cells_int] using hg 0 _ rfl
      have g1 : DataW.trod enc Tryz.prog w base spare held n 3 [c1] = some y1 := by simpa [cells_int] using hg 1 _ rfl
      have g2 : DataW.trod enc Tryz.prog w base spare held n 31 [c2] = some y2 := by simpa [cells_int, cells_u64] using hg 2 _ rfl
      have g3 : DataW.trod enc Tryz.prog w base spare held n 31 [c3] = some y3 := by simpa [cells_int, cells_u64] using hg 3 _ rfl
      have g4 : DataW.trod enc Tryz.prog w base spare held n 33 [c4, c5, c6, c7, c8, c9] = some y4 := by simpa [cells_int, cells_u64, cells_attr] using hg 4 _ rfl
      have g5 : DataW.trod enc Tryz.prog w base spare held n 4 [c10] = some y5 := by simpa [cells_int, cells_u64, cells_attr, cells_bool] using hg 5 _ rfl
      obtain ⟨a0, q0, z0, w0⟩ := DataW.trod_int Tryz.underlying3 g0
      obtain ⟨a1, q1, z1, w1⟩ := DataW.trod_int Tryz.underlying3 g1
      obtain ⟨a2, q2, z2, w2⟩ := DataW.trod_int Tryz.underlying31 g2
      obtain ⟨a3, q3, z3, w3⟩ := DataW.trod_int Tryz.underlying31 g3
      obtain ⟨a5, q5, z5⟩ := DataW.trod_bool Tryz.underlying4 g5
      obtain ⟨us, m, _, hu, _, hul, hh⟩ := DataW.trod_struct Tryz.underlying33 g4
      match us, hul with
      | [u0, u1, u2, u3, u4, u5], _ =>
        have f0 : DataW.trod enc Tryz.prog w base spare held m 4 [c4] = some u0 := by simpa [cells_bool] using hh 0 _ rfl
        have f1 : DataW.trod enc Tryz.prog w base spare held m 4 [c5] = some u1 := by simpa [cells_bool] using hh 1 _ rfl
        have f2 : DataW.trod enc Tryz.prog w base spare held m 4 [c6] = some u2 := by simpa [cells_bool] using hh 2 _ rfl
        have f3 : DataW.trod enc Tryz.prog w base spare held m 4 [c7] = some u3 := by simpa [cells_bool] using hh 3 _ rfl
        have f4 : DataW.trod enc Tryz.prog w base spare held m 4 [c8] = some u4 := by simpa [cells_bool] using hh 4 _ rfl
        have f5 : DataW.trod enc Tryz.prog w base spare held m 4 [c9] = some u5 := by simpa [cells_bool] using hh 5 _ rfl
        obtain ⟨b0, r0, s0⟩ := DataW.trod_bool Tryz.underlying4 f0
        obtain ⟨b1, r1, s1⟩ := DataW.trod_bool Tryz.underlying4 f1
        obtain ⟨b2, r2, s2⟩ := DataW.trod_bool Tryz.underlying4 f2
        obtain ⟨b3, r3, s3⟩ := DataW.trod_bool Tryz.underlying4 f3
        obtain ⟨b4, r4, s4⟩ := DataW.trod_bool Tryz.underlying4 f4
        obtain ⟨b5, r5, s5⟩ := DataW.trod_bool Tryz.underlying4 f5
        simp only [List.cons.injEq, and_true] at q0 q1 q2 q3 q5 r0 r1 r2 r3 r4 r5
        subst q0 q1 q2 q3 q5 r0 r1 r2 r3 r4 r5
        exact ⟨⟨a0, a1, a2, a3, ⟨b0, b1, b2, b3, b4, b5⟩, a5⟩, rfl, ⟨w0, w1, w2, w3⟩⟩
/-- What the walk is told of entries that came in. -/
def IsEnts (w : World) (a : Option Addr) (len cap : Nat) : Prop :=
  (a = none ∧ len = 0) ∨
  ∃ x : Addr, a = some x ∧ len ≤ cap ∧ cap ≤ maxLen ∧ ∀ i, i < len → ∃ e : Ent, e.lits ∧ ∀ k v, (eleven e)[k]? = some v → w.cell? (x.add (i * 11 + k)) = some v
theorem open_ents {H : Type} {enc : TypeId × Value → H} {w : World} {base : Nat} {fuel : Nat} {ao : Option Addr} {len cap : Nat} {x : DataW H × List MemPlace} (h : DataW.trod enc Tryz.prog w base (fun _ => true) true fuel 41 [.slice ao len cap] = some x) : IsEnts w ao len cap := by
  rcases open_slice Tryz.underlying41 h with ⟨hcs, _⟩ | ⟨a, l, c, m, n, D, Pl, hcs, hb, hl, hm, hmm, hx, hi⟩
  · simp at hcs; exact .inl ⟨hcs.1, hcs.2.1⟩
  · simp at hcs
    obtain ⟨rfl, rfl, rfl⟩ := hcs
    refine .inr ⟨a, rfl, hl, hm, fun i him => ?_⟩
    obtain ⟨cs', hc, ht'⟩ := hi i (by simp at hmm; omega)
    rw [cells_entry] at hc
    obtain ⟨_, hcl, hat⟩ := World.cells?_some hc
    obtain ⟨e, rfl, he⟩ := trod_ent hcl ht'
    refine ⟨e, he, fun k v hv => ?_⟩
    have hk : k < 11 := (List.getElem?_eq_some_iff.1 hv).1
    have := hat k hk
    rw [Go.Deep.add_add] at this
    rw [this]; exact hv
theorem ents_at {w : World} {a : Option Addr} {len cap : Nat} (h : IsEnts w a len cap) (i : Nat) (hi : i < len) :
    ∃ b o, ∃ off, ∃ e : Ent, a = some ⟨b, off, none⟩ ∧ off + i * 11 = o ∧ len ≤ cap ∧ cap ≤ maxLen ∧ e.lits ∧ w.cell? ⟨b, o, none⟩ = some (.int .i64 e.size) ∧ w.cell? ⟨b, o + 1, none⟩ = some (.int .i64 e.ctx) ∧ w.cell? ⟨b, o + 2, none⟩ = some (.int .u64 e.va) ∧ w.cell? ⟨b, o + 3, none⟩ = some (.int .u64 e.pa) ∧ w.cell? ⟨b, o + 4, none⟩ = some (.bool e.att.write) ∧ w.cell? ⟨b, o + 5, none⟩ = some (.bool e.att.priv) ∧ w.cell? ⟨b, o + 6, none⟩ = some (.bool e.att.exec) ∧ w.cell? ⟨b, o + 7, none⟩ = some (.bool e.att.lock) ∧ w.cell? ⟨b, o + 8, none⟩ = some (.bool e.att.global) ∧ w.cell? ⟨b, o + 9, none⟩ = some (.bool e.att.quiet) ∧ w.cell? ⟨b, o + 10, none⟩ = some (.bool e.valid) := by
  rcases h with ⟨_, h0⟩ | ⟨x, rfl, h1, h2, h3⟩
  · omega
  · obtain ⟨e, he, hc⟩ := h3 i hi
    obtain ⟨b, off, spot⟩ := x
    have hs : spot = none := by
      obtain ⟨e0, _, hc0⟩ := h3 0 (by omega)
      have z0 := hc0 0 _ rfl
      simpa [Addr.add] using World.cell?_spot z0
    subst hs
    have ad : ∀ j, (⟨b, off, none⟩ : Addr).add j = ⟨b, off + j, none⟩ := fun j => by simp [Addr.add]
    have hc' : ∀ k v, (eleven e)[k]? = some v → w.cell? ⟨b, off + i * 11 + k, none⟩ = some v := fun k v hv => by
      have := hc k v hv; rwa [ad, ← Nat.add_assoc] at this
    exact ⟨b, _, off, e, rfl, rfl, h1, h2, he, hc' 0 _ rfl, hc' 1 _ rfl, hc' 2 _ rfl, hc' 3 _ rfl, hc' 4 _ rfl, hc' 5 _ rfl, hc' 6 _ rfl, hc' 7 _ rfl, hc' 8 _ rfl, hc' 9 _ rfl, hc' 10 _ rfl⟩
end Go.Proofs.YtgdagfhdimoklaaGreat.Tl
/-
  Contracts of New, with, Find and List of the document's package for layer 6. Conditions: lists of entries that are there; addresses are below 2 to the 64.
-/
namespace Go.Proofs.YtgdagfhdimoklaaGreat.Tl
open Fld
open Go.ChangeShapes Go.WideShapes Go.ChangeAt Go.RowKit Go.Shelf
set_option maxHeartbeats 2000000
set_option maxRecDepth 100000
end Go.Proofs.YtgdagfhdimoklaaGreat.Tl
/-
  Contracts of Put and Clear of the document's package for layer 6. Conditions: lists of entries that are there; numbers are what Go's types hold.
-/
namespace Go.Proofs.YtgdagfhdimoklaaGreat.Tl
open Fld
open Go.ChangeShapes Go.WideShapes Go.ChangeAt Go.RowKit Go.Shelf
set_option maxHeartbeats 4000000
set_option maxRecDepth 100000
/-- A boxed entry, and a list of entries. -/
structure DE (w wr : World) (eb : Nat) (e : Ent) (B g cap n : Nat) (R : Nat → Ent) : Prop where
  bel : Below w.heap.size w wr
  row : RowE wr eb e
  doc : DocAt wr B (.slice (some ⟨g, 0, none⟩) n cap) n R
theorem DE.low {w wr w' : World} {eb B g cap n : Nat} {e : Ent} {R : Nat → Ent} (h : DE w wr eb e B g cap n R) (hb : Below wr.heap.size wr w') : DE w w' eb e B g cap n R :=
  ⟨h.bel.trans (hb.mono h.bel.size), h.row.below hb h.row.lt, doc_below h.doc hb⟩
theorem DE.drew {w wr : World} {eb B g cap n : Nat} {e : Ent} {R : Nat → Ent} (h : DE w wr eb e B g cap n R) : DE w wr.drew eb e B g cap n R := ⟨h.bel.drew, h.row.drew, h.doc⟩
theorem doc_cells {w : World} {B g cap n : Nat} {R : Nat → Ent} (h : DocAt w B (.slice (some ⟨g, 0, none⟩) n cap) n R) {i o : Nat} (hi : i < n) (ho : i * 11 = o) : w.cell? ⟨g, o, none⟩ = some (.int .i64 (R i).size) ∧ w.cell? ⟨g, o + 1, none⟩ = some (.int .i64 (R i).ctx) ∧ w.cell? ⟨g, o + 2, none⟩ = some (.int .u64 (R i).va) ∧ w.cell? ⟨g, o + 3, none⟩ = some (.int .u64 (R i).pa) ∧ w.cell? ⟨g, o + 4, none⟩ = some (.bool (R i).att.write) ∧ w.cell? ⟨g, o + 5, none⟩ = some (.bool (R i).att.priv) ∧ w.cell? ⟨g, o + 6, none⟩ = some (.bool (R i).att.exec) ∧ w.cell? ⟨g, o + 7, none⟩ = some (.bool (R i).att.lock) ∧ w.cell? ⟨g, o + 8, none⟩ = some (.bool (R i).att.global) ∧ w.cell? ⟨g, o + 9, none⟩ = some (.bool (R i).att.quiet) ∧ w.cell? ⟨g, o + 10, none⟩ = some (.bool (R i).valid) := by
  obtain ⟨g', cap', hv, _, _, _, _, k5, _⟩ := doc_at h (by omega)
  simp only [Value.slice.injEq, Option.some.injEq, Addr.mk.injEq, and_true, true_and] at hv
  obtain ⟨rfl, rfl⟩ := hv
  exact k5 i o hi ho
theorem doc_cap {w : World} {B g cap n : Nat} {R : Nat → Ent} (h : DocAt w B (.slice (some ⟨g, 0, none⟩) n cap) n R) (hn : 1 ≤ n) : n ≤ cap ∧ cap ≤ 9223372036854775807 ∧ B ≤ g ∧ g < w.heap.size := by
  obtain ⟨g', cap', hv, k1, k2, k3, k4, _, _⟩ := doc_at h hn
  simp only [Value.slice.injEq, Option.some.injEq, Addr.mk.injEq, and_true, true_and] at hv
  obtain ⟨rfl, rfl⟩ := hv
  unfold maxLen at k2
  exact ⟨k1, k2, k3, k4⟩
theorem DE.sc {w wr : World} {eb B g cap n : Nat} {e : Ent} {R : Nat → Ent} {i o : Nat} (hi : i < n) (ho : i * 11 = o) (h : DE w wr eb e B g cap n R) : wr.cell? ⟨eb, 0, none⟩ = some (.int .i64 e.size) ∧ wr.cell? ⟨eb, 1, none⟩ = some (.int .i64 e.ctx) ∧ wr.cell? ⟨eb, 2, none⟩ = some (.int .u64 e.va) ∧ wr.cell? ⟨eb, 3, none⟩ = some (.int .u64 e.pa) ∧ wr.cell? ⟨eb, 4, none⟩ = some (.bool e.att.write) ∧ wr.cell? ⟨eb, 5, none⟩ = some (.bool e.att.priv) ∧ wr.cell? ⟨eb, 6, none⟩ = some (.bool e.att.exec) ∧ wr.cell? ⟨eb, 7, none⟩ = some (.bool e.att.lock) ∧ wr.cell? ⟨eb, 8, none⟩ = some (.bool e.att.global) ∧ wr.cell? ⟨eb, 9, none⟩ = some (.bool e.att.quiet) ∧ wr.cell? ⟨eb, 10, none⟩ = some (.bool e.valid) ∧ wr.cell? ⟨g, o, none⟩ = some (.int .i64 (R i).size) ∧ wr.cell? ⟨g, o + 1, none⟩ = some (.int .i64 (R i).ctx) ∧ wr.cell? ⟨g, o + 2, none⟩ = some (.int .u64 (R i).va) ∧ wr.cell? ⟨g, o + 3, none⟩ = some (.int .u64 (R i).pa) ∧ wr.cell? ⟨g, o + 4, none⟩ = some (.bool (R i).att.write) ∧ wr.cell? ⟨g, o + 5, none⟩ = some (.bool (R i).att.priv) ∧ wr.cell? ⟨g, o + 6, none⟩ = some (.bool (R i).att.exec) ∧ wr.cell? ⟨g, o + 7, none⟩ = some (.bool (R i).att.lock) ∧ wr.cell? ⟨g, o + 8, none⟩ = some (.bool (R i).att.global) ∧ wr.cell? ⟨g, o + 9, none⟩ = some (.bool (R i).att.quiet) ∧ wr.cell? ⟨g, o + 10, none⟩ = some (.bool (R i).valid) := by
  obtain ⟨x0, x1, x2, x3, x4, x5, x6, x7, x8, x9, x10⟩ := h.row.cells
  exact ⟨x0, x1, x2, x3, x4, x5, x6, x7, x8, x9, x10, doc_cells h.doc hi ho⟩
theorem ret_vI {v : Value} {i k : Int} (g : i = k) : Ending.returned (.tuple #[v, .int .i64 k]) = .returned (.tuple #[v, .int .i64 i]) := by subst g; rfl
theorem ret_vB {v : Value} {i k : Bool} (g : i = k) : Ending.returned (.tuple #[v, .bool k]) = .returned (.tuple #[v, .bool i]) := by subst g; rfl
end Go.Proofs.YtgdagfhdimoklaaGreat.Tl
/-
  Contracts of Demap and Same of the document's package for layer 6. Conditions: lists of entries that are there; addresses are below 2 to the 64.
-/
namespace Go.Proofs.YtgdagfhdimoklaaGreat.Tl
open Fld
open Go.ChangeShapes Go.WideShapes Go.ChangeAt Go.RowKit Go.Shelf
set_option maxHeartbeats 4000000
set_option maxRecDepth 100000
theorem hits_and (e : Ent) (va ctx : Int) : (e.valid && e.hitsB va ctx) = e.hitsB va ctx := by
  cases h : e.hitsB va ctx
  · simp
  · rw [hits_valid h]; rfl
/-- Demap under way: what is left of the list, and how many are gone. -/
structure DM (w wr : World) (B n : Nat) (R : Nat → Ent) (p : Ent → Bool) (j : Nat) (v : Value) : Prop where
  bel : Below w.heap.size w wr
  out : DocAt wr B v n (dropE R p j)
theorem DM.low {w wr w' : World} {B n j : Nat} {R : Nat → Ent} {p : Ent → Bool} {v : Value} (h : DM w wr B n R p j v) (hb : Below wr.heap.size wr w') : DM w w' B n R p j v := ⟨h.bel.trans (hb.mono h.bel.size), doc_below h.out hb⟩
theorem rsame_any (l : List Ent) (u v : Value) (B C : Nat) (w : World) (hl : l.length ≤ 1000000) (h1 : ListAt w B u l) (h2 : ListAt w C v l) :
    Calls Tryz.prog 10 #[u, v] w fun r w' => r = .returned (.bool true) ∧ Below w.heap.size w w' := by
  obtain ⟨ao, cap, rfl⟩ := own_shape h1
  obtain ⟨ao2, cap2, rfl⟩ := own_shape h2
  obtain ⟨m, hm⟩ : ∃ m, l.length = m := ⟨_, rfl⟩
  have HC := Lib.hid (fun (j o : Nat) (hj : j < m) (ho : j * 11 = o) => (by
    subst hm
    obtain ⟨g, c, hv, a1, a2, _, _, a3, _⟩ := doc_at h1 (by omega)
    obtain ⟨g', c', hv', b1, b2, _, _, b3, _⟩ := doc_at h2 (by omega)
    simp only [Value.slice.injEq, true_and] at hv hv'
    obtain ⟨rfl, rfl⟩ := hv
    obtain ⟨rfl, rfl⟩ := hv'
    exact ⟨g, g', rfl, rfl, a1, a2, b1, b2, a3 j o hj ho, b3 j o hj ho⟩ : ∃ g g', ao = some ⟨g, 0, none⟩ ∧ ao2 = some ⟨g', 0, none⟩ ∧ m ≤ cap ∧ cap ≤ maxLen ∧ m ≤ cap2 ∧ cap2 ≤ maxLen ∧ (w.cell? ⟨g, o, none⟩ = some (.int .i64 (nthE l j).size) ∧ w.cell? ⟨g, o + 1, none⟩ = some (.int .i64 (nthE l j).ctx) ∧ w.cell? ⟨g, o + 2, none⟩ = some (.int .u64 (nthE l j).va) ∧ w.cell? ⟨g, o + 3, none⟩ = some (.int .u64 (nthE l j).pa) ∧ w.cell? ⟨g, o + 4, none⟩ = some (.bool (nthE l j).att.write) ∧ w.cell? ⟨g, o + 5, none⟩ = some (.bool (nthE l j).att.priv) ∧ w.cell? ⟨g, o + 6, none⟩ = some (.bool (nthE l j).att.exec) ∧ w.cell? ⟨g, o + 7, none⟩ = some (.bool (nthE l j).att.lock) ∧ w.cell? ⟨g, o + 8, none⟩ = some (.bool (nthE l j).att.global) ∧ w.cell? ⟨g, o + 9, none⟩ = some (.bool (nthE l j).att.quiet) ∧ w.cell? ⟨g, o + 10, none⟩ = some (.bool (nthE l j).valid)) ∧ (w.cell? ⟨g', o, none⟩ = some (.int .i64 (nthE l j).size) ∧ w.cell? ⟨g', o + 1, none⟩ = some (.int .i64 (nthE l j).ctx) ∧ w.cell? ⟨g', o + 2, none⟩ = some (.int .u64 (nthE l j).va) ∧ w.cell? ⟨g', o + 3, none⟩ = some (.int .u64 (nthE l j).pa) ∧ w.cell? ⟨g', o + 4, none⟩ = some (.bool (nthE l j).att.write) ∧ w.cell? ⟨g', o + 5, none⟩ = some (.bool (nthE l j).att.priv) ∧ w.cell? ⟨g', o + 6, none⟩ = some (.bool (nthE l j).att.exec) ∧ w.cell? ⟨g', o + 7, none⟩ = some (.bool (nthE l j).att.lock) ∧ w.cell? ⟨g', o + 8, none⟩ = some (.bool (nthE l j).att.global) ∧ w.cell? ⟨g', o + 9, none⟩ = some (.bool (nthE l j).att.quiet) ∧ w.cell? ⟨g', o + 10, none⟩ = some (.bool (nthE l j).valid))))
  rw [hm] at hl ⊢
  clear h1 h2 hm
  go_enter Tryz.func10, Tryz.ntmps10
  go_wp2_with fail
  go_loopw [5] (fun i wr => ∃ j : Nat, j ≤ m ∧ i = .int .i64 (j : Int) ∧ Below w.heap.size w wr) (fun i _ => m - (intOf i).toNat)
  case atStart => exact ⟨0, by omega, rfl, Below.refl _ _⟩
  case round =>
    obtain ⟨j, hj, rfl, hB⟩ := hrel
    by_cases hlt : j < m
    · obtain ⟨o, ho⟩ : ∃ o, j * 11 = o := ⟨_, rfl⟩
      obtain ⟨g, g', rfl, rfl, k1, k2, k3, k4, hx, hy⟩ := HC.out j o hlt ho
      unfold maxLen at k2 k4
      have hcl : ∀ {b o : Nat} {v : Value}, w.cell? ⟨b, o, none⟩ = some v → wr.cell? ⟨b, o, none⟩ = some v := fun {b o v} hc => (hB.cell (p := ⟨b, o, none⟩) (lt_cell hc)).trans hc
      obtain ⟨x0, x1, x2, x3, x4, x5, x6, x7, x8, x9, x10⟩ := hx
      obtain ⟨y0, y1, y2, y3, y4, y5, y6, y7, y8, y9, y10⟩ := hy
      replace x0 := hcl x0; replace x1 := hcl x1; replace x2 := hcl x2; replace x3 := hcl x3; replace x4 := hcl x4; replace x5 := hcl x5; replace x6 := hcl x6; replace x7 := hcl x7; replace x8 := hcl x8; replace x9 := hcl x9; replace x10 := hcl x10
      replace y0 := hcl y0; replace y1 := hcl y1; replace y2 := hcl y2; replace y3 := hcl y3; replace y4 := hcl y4; replace y5 := hcl y5; replace y6 := hcl y6; replace y7 := hcl y7; replace y8 := hcl y8; replace y9 := hcl y9; replace y10 := hcl y10
      have hlt' : (j : Int) < (m : Int) := by omega
      have hAE : (⟨g, 0, none⟩ : Addr).add o = ⟨g, o, none⟩ := by unfold Addr.add; split <;> simp_all
      have hAE' : (⟨g', 0, none⟩ : Addr).add o = ⟨g', o, none⟩ := by unfold Addr.add; split <;> simp_all
      generalize nthE l j = e at *
      clear HC hcl
      go_wp2_with fail
      go_quiet (fail)
      have hBq := below_drewN hB nq
      clear x0 x1 x2 x3 x4 x5 x6 x7 x8 x9 x10 y0 y1 y2 y3 y4 y5 y6 y7 y8 y9 y10 hB
      go_wp2_with fail
      go_roundw
      case rel => exact ⟨j + 1, by omega, by go_num, hBq⟩
      case measure => simp [intOf]; omega
    · obtain rfl : m = j := by omega
      go_wp2_with fail
      go_ret
      exact ⟨rfl, hB⟩
end Go.Proofs.YtgdagfhdimoklaaGreat.Tl
