/-
  Plain facts for the laws of layer 14: a pool that is filled, thefts one behind the other, what is given and taken again. Conditions: none.
-/
import Derived.Test.YtkbkilkmiigahaaCMath
namespace Go.Proofs.Ytkbkilkmiigahaa.Cx
theorem seek_some {P : Nat → Bool} {n p : Nat} (hp : p < n) (hP : P p = true) : ∀ {m k : Nat}, 1 ≤ k → k ≤ n → dist n k (p + 1) < m → seek P n k m ≠ 0
  | 0, _, _, _, h => absurd h (Nat.not_lt_zero _)
  | m + 1, k, h0, h1, h => by
    unfold seek
    by_cases e : P (k - 1) = true
    · rw [if_pos e]; omega
    · rw [if_neg e]
      have hne : k ≠ p + 1 := fun e2 => e (by rw [e2]; exact hP)
      have := dist_step h0 h1 (by omega) (by omega) hne
      exact seek_some hp hP (nxt_bd (by omega)).1 (nxt_bd (by omega)).2 (by omega)
theorem seek_none {P : Nat → Bool} {n : Nat} (hn : 0 < n) (h : ∀ i, i < n → P i = false) : ∀ {m k : Nat}, 1 ≤ k → k ≤ n → seek P n k m = 0
  | 0, _, _, _ => rfl
  | m + 1, k, h0, h1 => by unfold seek; rw [h (k - 1) (by omega), if_neg (by simp)]; exact seek_none hn h (nxt_bd hn).1 (nxt_bd hn).2
theorem seek_first {P : Nat → Bool} {n k m : Nat} (hm : 0 < m) (h : P (k - 1) = true) : seek P n k m = k := by
  obtain ⟨q, rfl⟩ : ∃ q, m = q + 1 := ⟨m - 1, by omega⟩
  unfold seek; rw [if_pos h]
theorem Pl.Ok.free_none {P : Pl} (ok : P.Ok) (h : ∀ i, i < P.n → 0 ≤ P.T i) : P.free = 0 := by
  unfold Pl.free
  rcases Nat.eq_zero_or_pos P.n with e | e
  · rw [e]; rfl
  · exact seek_none e (fun i hi => decide_eq_false (by have := h i hi; omega)) ok.h0 (ok.h1 e)
theorem Pl.Ok.free_one {P : Pl} (ok : P.Ok) {p : Nat} (hp : p < P.n) (h0 : P.T p < 0) (h : ∀ i, i < P.n → i ≠ p → 0 ≤ P.T i) : P.free = p + 1 := by
  have hn : 0 < P.n := by omega
  have hne : P.free ≠ 0 := seek_some (P := fun i => decide (P.T i < 0)) hp (decide_eq_true h0) ok.h0 (ok.h1 hn) (dist_lt ok.h0 (ok.h1 hn) (by omega))
  have f := ok.free hne
  by_cases e : P.free - 1 = p
  · omega
  · have := h (P.free - 1) (by omega) e; omega
/-- A pool of n numbers, the first j of which were taken by the spaces 0, 1, .. -/
def fillP (n j : Nat) : Pl := ⟨n, fun i => if i < j then (i : Int) else -1, j % n + 1, j / n⟩
theorem fillP_zero (n : Nat) : fillP n 0 = Pl.new n := by
  unfold fillP Pl.new
  simp
theorem fillP_ok {n j : Nat} (h0 : 0 < n) (hn : n ≤ 10) : (fillP n j).Ok := by
  refine ⟨by show n ≤ _; omega, fun i hi => ?_, fun a b ha hb e h => ?_, Nat.succ_le_succ (Nat.zero_le _), fun _ => (nxt_bd h0).2, fun e => by have : n = 0 := e; omega⟩
  · have hi : i < n := hi
    show (if i < j then (i : Int) else -1) = -1 ∨ Sp (if i < j then (i : Int) else -1)
    split
    · exact .inr ⟨by omega, by omega⟩
    · exact .inl rfl
  · have e : (if a < j then (a : Int) else -1) = (if b < j then (b : Int) else -1) := e
    have h : 0 ≤ (if a < j then (a : Int) else -1) := h
    split at h
    · rename_i c; rw [if_pos c] at e
      split at e <;> omega
    · omega
theorem fillP_of {n j : Nat} : (fillP n j).of j = 0 := by
  unfold Pl.of
  rw [if_pos (by omega)]
  refine ofN_zero.2 fun i hi => ?_
  show (if i < j then (i : Int) else -1) ≠ _
  split <;> omega
theorem fillP_free {n j : Nat} (hj : j < n) : (fillP n j).free = j + 1 := by
  have e : j % n + 1 = j + 1 := by rw [Nat.mod_eq_of_lt hj]
  show seek (fun i => decide ((fillP n j).T i < 0)) n (j % n + 1) n = _
  rw [e]
  refine seek_first (by omega) ?_
  show decide ((if j + 1 - 1 < j then ((j + 1 - 1 : Nat) : Int) else -1) < 0) = true
  rw [if_neg (by omega)]; rfl
theorem fillP_take {n j : Nat} (hj : j < n) : (fillP n j).take j = fillP n (j + 1) ∧ (fillP n j).takeI j = j + 1 ∧ (fillP n j).takeE j = 0 := by
  have h1 := fillP_of (n := n) (j := j)
  have h2 := fillP_free hj
  have hm : j % n + 1 = j + 1 := by rw [Nat.mod_eq_of_lt hj]
  refine ⟨?_, ?_, ?_⟩
  · unfold Pl.take
    rw [if_neg (by omega), h2]
    unfold Pl.own fillP
    have e1 : setT (fun i => if i < j then (i : Int) else -1) (j + 1 - 1) j = fun i => if i < j + 1 then (i : Int) else -1 := by
      funext i
      show (if i = j + 1 - 1 then (j : Int) else if i < j then (i : Int) else -1) = _
      by_cases a : i = j + 1 - 1
      · rw [if_pos a, if_pos (by omega)]; omega
      · rw [if_neg a]
        by_cases b : i < j
        · rw [if_pos b, if_pos (by omega)]
        · rw [if_neg b, if_neg (by omega)]
    have e2 : passR n (j % n + 1) (j + 1) (j / n) = (j + 1) / n := by
      rw [hm, Nat.div_eq_of_lt hj]
      unfold passR
      by_cases c : j + 1 = n
      · rw [if_pos (.inr c), c, Nat.div_self (by omega)]
      · rw [if_neg (by omega), Nat.div_eq_of_lt (by omega)]
    show Pl.mk n (setT (fun i => if i < j then (i : Int) else -1) (j + 1 - 1) j) ((j + 1) % n + 1) (passR n (j % n + 1) (j + 1) (j / n)) = _
    rw [e1, e2]
  · unfold Pl.takeI; rw [if_neg (by omega), if_pos h1]; exact h2
  · unfold Pl.takeE; rw [if_neg (by omega), if_neg (by omega)]
theorem fillP_R {n j : Nat} (h0 : 0 < n) (hj : j ≤ n) : (fillP n j).R ≤ 1 := by
  show j / n ≤ 1
  have := Nat.div_le_div_right (c := n) hj
  rw [Nat.div_self h0] at this
  exact this
/-- Behind c rounds of thefts and q more. -/
structure RI (n c q : Nat) (P : Pl) : Prop where
  pn : P.n = n
  ph : P.h = q + 1
  pR : P.R = 1 + c
  pq : q < n
  pT : ∀ k, k < n → P.T k = ((c * n + k + (if k < q then n else 0) : Nat) : Int)
  ok : P.Ok
theorem RI.start {n : Nat} (h0 : 0 < n) (hn : n ≤ 10) : RI n 0 0 (fillP n n) := by
  refine ⟨rfl, ?_, ?_, h0, fun k hk => ?_, fillP_ok h0 hn⟩
  · show n % n + 1 = _; rw [Nat.mod_self]
  · show n / n = _; rw [Nat.div_self h0]
  · show (if k < n then (k : Int) else -1) = _
    rw [if_pos hk, if_neg (Nat.not_lt_zero _)]; simp
theorem RI.vic {n c q : Nat} {P : Pl} (H : RI n c q P) : P.vic [] = q + 1 ∧ P.vicS [] = ((c * n + q : Nat) : Int) ∧ P.vicE [] = 0 := by
  have hq := H.pq
  have ht := H.pT q hq
  rw [if_neg (Nat.lt_irrefl q)] at ht
  have hv : P.vic [] = q + 1 := by
    unfold Pl.vic
    rw [H.pn, H.ph]
    refine seek_first (by omega) ?_
    show (decide (0 ≤ P.T (q + 1 - 1)) && !(([] : List Int).contains (P.T (q + 1 - 1)))) = true
    rw [Nat.add_sub_cancel, ht, decide_eq_true (by omega)]; rfl
  refine ⟨hv, ?_, ?_⟩
  · unfold Pl.vicS; rw [hv, if_neg (by omega), Nat.add_sub_cancel, ht]; rfl
  · unfold Pl.vicE; rw [hv, if_neg (by omega)]
def nextC (n c q : Nat) : Nat := if q + 1 = n then c + 1 else c
def nextQ (n q : Nat) : Nat := if q + 1 = n then 0 else q + 1
theorem next_sum {n c q : Nat} (hq : q < n) : nextC n c q * n + nextQ n q = c * n + q + 1 ∧ nextQ n q < n := by
  unfold nextC nextQ
  split
  · rename_i e; rw [Nat.succ_mul]; omega
  · omega
theorem RI.steal {n c q : Nat} {P : Pl} (H : RI n c q P) (hb : c * n + q + n ≤ 1000000) : P.stealE ((q + 1 : Nat) : Int) ((n + (c * n + q) : Nat) : Int) = 0 ∧ P.stealI ((q + 1 : Nat) : Int) ((n + (c * n + q) : Nat) : Int) = ((c * n + q : Nat) : Int) ∧ RI n (nextC n c q) (nextQ n q) (P.steal ((q + 1 : Nat) : Int) ((n + (c * n + q) : Nat) : Int)) := by
  have hq := H.pq
  have hn := H.pn
  have ht := H.pT q hq
  rw [if_neg (Nat.lt_irrefl q)] at ht
  have hof : P.of ((n + (c * n + q) : Nat) : Int) = 0 := by
    unfold Pl.of
    rw [if_pos (by omega)]
    refine ofN_zero.2 fun i hi => ?_
    rw [H.pT i (by omega)]
    split <;> omega
  have e0 : ((q + 1 : Nat) : Int).toNat = q + 1 := by simp
  have hE : P.stealE ((q + 1 : Nat) : Int) ((n + (c * n + q) : Nat) : Int) = 0 := by
    unfold Pl.stealE
    rw [if_neg (by omega), if_neg (by omega), e0, Nat.add_sub_cancel, ht, if_neg (by omega)]
  refine ⟨hE, ?_, ?_⟩
  · unfold Pl.stealI; rw [if_pos hE, e0, Nat.add_sub_cancel, ht]; rfl
  · have hok := H.ok.steal (m := ((q + 1 : Nat) : Int)) (x := ((n + (c * n + q) : Nat) : Int)) (by omega)
    have hs : P.steal ((q + 1 : Nat) : Int) ((n + (c * n + q) : Nat) : Int) = P.own (q + 1) ((n + (c * n + q) : Nat) : Int) := by unfold Pl.steal; rw [if_pos hE, e0]
    rw [hs] at hok ⊢
    have hmod : (q + 1) % n = nextQ n q := by
      unfold nextQ
      split
      · rename_i e; rw [e, Nat.mod_self]
      · rw [Nat.mod_eq_of_lt (by omega)]
    refine ⟨hn, ?_, ?_, (next_sum hq (c := c)).2, fun k hk => ?_, hok⟩
    · show (q + 1) % P.n + 1 = _; rw [hn, hmod]
    · show passR P.n P.h (q + 1) P.R = _
      rw [hn, H.ph, H.pR]
      unfold passR nextC
      split <;> split <;> omega
    · show setT P.T (q + 1 - 1) _ k = _
      rw [Nat.add_sub_cancel]
      unfold setT
      have hk2 := H.pT k hk
      unfold nextC nextQ
      by_cases e : k = q
      · subst e
        rw [if_pos rfl]
        by_cases e2 : k + 1 = n
        · rw [if_pos e2, if_pos e2, if_neg (Nat.not_lt_zero _), Nat.succ_mul]; congr 1; omega
        · rw [if_neg e2, if_neg e2, if_pos (by omega)]; congr 1; omega
      · rw [if_neg e, hk2]
        by_cases e2 : q + 1 = n
        · rw [if_pos e2, if_pos e2, if_neg (Nat.not_lt_zero _), if_pos (by omega), Nat.succ_mul]; congr 1; omega
        · rw [if_neg e2, if_neg e2]
          by_cases e3 : k < q
          · rw [if_pos e3, if_pos (by omega)]
          · rw [if_neg e3, if_neg (by omega)]
theorem frN_none {T : Nat → Int} : ∀ {n : Nat}, (∀ i, i < n → 0 ≤ T i) → frN T n = 0
  | 0, _ => rfl
  | n + 1, h => by unfold frN; rw [frN_none (fun i hi => h i (by omega)), if_neg (by have := h n (by omega); omega)]
/-- All numbers are taken, each by the space below it. -/
structure GI (n r : Nat) (P : Pl) : Prop where
  pn : P.n = n
  pT : ∀ k, k < n → P.T k = (k : Int)
  pR : P.R ≤ r
  ok : P.Ok
theorem GI.start {n : Nat} (h0 : 0 < n) (hn : n ≤ 10) : GI n 1 (fillP n n) :=
  ⟨rfl, fun k hk => by show (if k < n then (k : Int) else -1) = _; rw [if_pos hk], fillP_R h0 (Nat.le_refl _), fillP_ok h0 hn⟩
theorem GI.full {n r : Nat} {P : Pl} (H : GI n r P) : P.takeE n = 8 ∧ P.takeI n = 0 ∧ P.take n = P := by
  have hf := H.ok.free_none (fun i hi => by rw [H.pT i (by rw [← H.pn]; exact hi)]; omega)
  have hof : P.of n = 0 := by
    unfold Pl.of; rw [if_pos (by omega)]
    refine ofN_zero.2 fun i hi => ?_
    have := H.pn
    rw [H.pT i (by omega)]; omega
  refine ⟨?_, ?_, ?_⟩
  · unfold Pl.takeE; rw [if_neg (by omega), if_pos ⟨hof, hf⟩]
  · unfold Pl.takeI; rw [if_neg (by omega), if_pos hof]; exact hf
  · unfold Pl.take; rw [if_pos (.inr (.inr hf))]
theorem GI.of {n r : Nat} {P : Pl} (H : GI n r P) {s : Nat} (hs : s < n) : P.of s = s + 1 := by
  have ht := H.pT s hs
  rw [← ht]
  exact H.ok.of_at (by rw [H.pn]; exact hs) (by rw [ht]; omega)
theorem GI.give {n r : Nat} {P : Pl} (H : GI n r P) {s : Nat} (hs : s < n) : P.giveE s = 0 ∧ P.give s = P.drop (s + 1) := by
  have e := H.of hs
  constructor
  · unfold Pl.giveE; rw [e, if_neg (by omega)]
  · unfold Pl.give; rw [e, if_neg (by omega)]
theorem GI.drop {n r : Nat} {P : Pl} (H : GI n r P) {s : Nat} (hs : s < n) : (P.drop (s + 1)).of s = 0 ∧ (P.drop (s + 1)).ownB ((s + 1 : Nat) : Int) = false ∧ (P.drop (s + 1)).takeI s = s + 1 ∧ (P.drop (s + 1)).takeE s = 0 ∧ GI n (r + 1) ((P.drop (s + 1)).take s) := by
  have hn := H.pn
  have hT : ∀ k, k < n → (P.drop (s + 1)).T k = if k = s then -1 else (k : Int) := fun k hk => by
    show setT P.T (s + 1 - 1) (-1) k = _
    rw [Nat.add_sub_cancel]
    unfold setT
    split
    · rfl
    · exact H.pT k hk
  have ok1 := H.ok.drop (s + 1)
  have hof : (P.drop (s + 1)).of s = 0 := by
    unfold Pl.of; rw [if_pos (by omega)]
    refine ofN_zero.2 fun i hi => ?_
    have hi : i < P.n := hi
    rw [hT i (by omega)]; split <;> omega
  have hfr : (P.drop (s + 1)).free = s + 1 := ok1.free_one (by show s < P.n; omega) (by rw [hT s hs, if_pos rfl]; omega) (fun i hi hne => by
    have hi : i < P.n := hi
    rw [hT i (by omega), if_neg hne]; omega)
  have htk : (P.drop (s + 1)).take s = (P.drop (s + 1)).own (s + 1) s := by unfold Pl.take; rw [if_neg (by omega), hfr]
  refine ⟨hof, ?_, ?_, ?_, ?_⟩
  · unfold Pl.ownB
    rw [show ((s + 1 : Nat) : Int).toNat - 1 = s by simp, hT s hs, if_pos rfl]
    simp
  · unfold Pl.takeI; rw [if_neg (by omega), if_pos hof]; exact hfr
  · unfold Pl.takeE; rw [if_neg (by omega), if_neg (by omega)]
  · have ok2 := ok1.take (x := (s : Int)) (by have := H.ok.le; omega)
    rw [htk] at ok2 ⊢
    refine ⟨hn, fun k hk => ?_, ?_, ok2⟩
    · show setT (P.drop (s + 1)).T (s + 1 - 1) s k = _
      rw [Nat.add_sub_cancel]
      unfold setT
      split
      · rename_i e; rw [e]
      · rename_i e; rw [hT k hk, if_neg e]
    · have := (passR_le P.n P.h (s + 1) P.R).2
      have := H.pR
      show passR P.n P.h (s + 1) P.R ≤ _
      omega
theorem GI.free {n r : Nat} {P : Pl} (H : GI n r P) : frN P.T P.n = 0 := frN_none (fun i hi => by rw [H.pT i (by rw [← H.pn]; exact hi)]; omega)
theorem RI.free {n c q : Nat} {P : Pl} (H : RI n c q P) : frN P.T P.n = 0 := frN_none (fun i hi => by rw [H.pT i (by rw [← H.pn]; exact hi)]; omega)
theorem rot_eq {n h : Nat} (h0 : 1 ≤ h) (h1 : h ≤ n) : ∀ j, rot n h j = (h - 1 + j) % n + 1
  | 0 => by
    show h = _
    rw [Nat.add_zero, Nat.mod_eq_of_lt (by omega)]; omega
  | j + 1 => by
    show rot n h j % n + 1 = _
    rw [rot_eq h0 h1 j]
    have : ((h - 1 + j) % n + 1) % n = (h - 1 + (j + 1)) % n := by
      rw [Nat.mod_add_mod]; rfl
    rw [this]
end Go.Proofs.Ytkbkilkmiigahaa.Cx
