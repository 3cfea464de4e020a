/-
  Plain facts on covers: pages one behind the other, each of the greatest size; no Go text is named here. Conditions: none.
-/
import Derived.Test.YtkbkilkmiigahaaPMath
namespace Go.Proofs.Ytkbkilkmiigahaa.Fld
/-- A page of size k begins at f and does not go beyond t. -/
def okB (f t k : Int) : Bool := startsB f k && decide (bytesI k ≤ t - f)
/-- The greatest such size below k, or 0. -/
def gUp (f t : Int) : Nat → Int
  | 0 => 0
  | k + 1 => if okB f t (k : Int) then (k : Int) else gUp f t k
def stepI (f t : Int) : Int := gUp f t 4
/-- Where the k-th page of the cover begins. -/
def posI (f t : Int) : Nat → Int
  | 0 => f
  | k + 1 => posI f t k + bytesI (stepI (posI f t k) t)
def sizesL (f t : Int) (k : Nat) : List Int := (List.range k).map (fun j => stepI (posI f t j) t)
def cntN (f t : Int) : Nat → Nat
  | 0 => 0
  | n + 1 => if posI f t (cntN f t n) < t then cntN f t n + 1 else cntN f t n
def alignB (f t : Int) : Bool := decide (f % 8192 = 0) && decide (t % 8192 = 0)
def coverL (f t : Int) : List Int := if alignB f t && decide (t ≤ posI f t (cntN f t 1000)) then sizesL f t (cntN f t 1000) else []
theorem sizesL_succ (f t : Int) (k : Nat) : sizesL f t (k + 1) = sizesL f t k ++ [stepI (posI f t k) t] := by simp [sizesL, List.range_succ]
theorem sizesL_length (f t : Int) (k : Nat) : (sizesL f t k).length = k := by simp [sizesL]
theorem gUp_bd (f t : Int) (k : Nat) : 0 ≤ gUp f t k ∧ gUp f t k ≤ k := by
  induction k with
  | zero => simp [gUp]
  | succ k ih => unfold gUp; split <;> omega
theorem step_bd (f t : Int) : 0 ≤ stepI f t ∧ stepI f t ≤ 3 := by
  unfold stepI
  have h := gUp_bd f t 3
  unfold gUp; split <;> omega
theorem step_size (f t : Int) : sizeB (stepI f t) = true := sizeB_mk (step_bd f t)
theorem gUp_ok (f t : Int) (h : okB f t 0 = true) (k : Nat) : okB f t (gUp f t k) = true := by
  induction k with
  | zero => exact h
  | succ k ih => unfold gUp; split <;> assumption
theorem ok_zero (f t : Int) (ha : alignB f t = true) (h : f < t) : okB f t 0 = true := by
  unfold alignB at ha
  simp only [Bool.and_eq_true, decide_eq_true_eq] at ha
  unfold okB startsB bytesI sizeB
  simp only [if_true, Bool.and_eq_true, decide_eq_true_eq]
  omega
theorem step_ok (f t : Int) (ha : alignB f t = true) (h : f < t) : okB f t (stepI f t) = true := gUp_ok f t (ok_zero f t ha h) 4
/-- One page on: it begins where a page may begin, and not beyond t. -/
theorem step_next (f t : Int) (ha : alignB f t = true) (h : f < t) : alignB (f + bytesI (stepI f t)) t = true ∧ f + bytesI (stepI f t) ≤ t ∧ f + 8192 ≤ f + bytesI (stepI f t) := by
  have ho := step_ok f t ha h
  unfold okB at ho
  simp only [Bool.and_eq_true, decide_eq_true_eq] at ho
  have hb := bytes_pos (step_size f t)
  refine ⟨?_, by omega, by omega⟩
  unfold alignB at ha ⊢
  simp only [Bool.and_eq_true, decide_eq_true_eq] at ha ⊢
  refine ⟨?_, ha.2⟩
  rcases sizeB_true (step_size f t) with e | e | e | e <;> rw [e] <;> simp [bytesI] <;> omega
theorem pos_facts (f t : Int) (ha : alignB f t = true) (k : Nat) (h : ∀ j, j < k → posI f t j < t) : alignB (posI f t k) t = true ∧ (k = 0 ∨ posI f t k ≤ t) ∧ f ≤ posI f t k := by
  induction k with
  | zero => exact ⟨ha, .inl rfl, Int.le_refl _⟩
  | succ k ih =>
    obtain ⟨i1, i2, i3⟩ := ih (fun j hj => h j (by omega))
    have hs := step_next (posI f t k) t i1 (h k (by omega))
    refine ⟨hs.1, .inr hs.2.1, ?_⟩
    have := hs.2.2
    show f ≤ posI f t k + bytesI (stepI (posI f t k) t)
    omega
theorem cnt_run (f t : Int) (n : Nat) (h : ∀ j, j < n → posI f t j < t) : cntN f t n = n := by
  induction n with
  | zero => rfl
  | succ n ih =>
    have e := ih (fun j hj => h j (by omega))
    unfold cntN; rw [e, if_pos (h n (by omega))]
theorem cnt_stop (f t : Int) (k : Nat) (h : ∀ j, j < k → posI f t j < t) (he : t ≤ posI f t k) (n : Nat) (hn : k ≤ n) : cntN f t n = k := by
  induction n with
  | zero => have : k = 0 := by omega
            subst this; rfl
  | succ n ih =>
    by_cases e : k = n + 1
    · rw [← e]; exact cnt_run f t k h
    · have e2 := ih (by omega)
      unfold cntN; rw [e2, if_neg (by omega)]
theorem cover_end (f t : Int) (ha : alignB f t = true) (k : Nat) (hk : k ≤ 1000) (h : ∀ j, j < k → posI f t j < t) (he : t ≤ posI f t k) : coverL f t = sizesL f t k := by
  unfold coverL
  rw [cnt_stop f t k h he 1000 hk, if_pos (by simp [ha, he])]
theorem cover_long (f t : Int) (h : ∀ j, j ≤ 1000 → posI f t j < t) : coverL f t = [] := by
  unfold coverL
  rw [cnt_run f t 1000 (fun j hj => h j (by omega)), if_neg]
  have := h 1000 (by omega)
  simp only [Bool.and_eq_true, decide_eq_true_eq]
  omega
theorem cover_odd (f t : Int) (ha : alignB f t = false) : coverL f t = [] := by unfold coverL; rw [ha]; rfl
theorem cover_len (f t : Int) : (coverL f t).length ≤ 1000 := by
  unfold coverL; split
  · rw [sizesL_length]
    have : ∀ n, cntN f t n ≤ n := by
      intro n; induction n with
      | zero => simp [cntN]
      | succ n ih => unfold cntN; split <;> omega
    exact this 1000
  · simp
/-- What the search from above finds. -/
theorem step_down (f t : Int) (s : Int) (h0 : 0 ≤ s) (h3 : s ≤ 3) (hu : ∀ j : Int, s < j → j ≤ 3 → okB f t j = false) (hs : s = 0 ∨ okB f t s = true) : stepI f t = s := by
  unfold stepI
  have e : s = 0 ∨ s = 1 ∨ s = 2 ∨ s = 3 := by omega
  rcases e with rfl | rfl | rfl | rfl
  · have a1 := hu 1 (by omega) (by omega)
    have a2 := hu 2 (by omega) (by omega)
    have a3 := hu 3 (by omega) (by omega)
    simp [gUp, a1, a2, a3]
  · have a2 := hu 2 (by omega) (by omega)
    have a3 := hu 3 (by omega) (by omega)
    have a1 : okB f t 1 = true := by rcases hs with h | h; (exact absurd h (by decide)); exact h
    simp [gUp, a1, a2, a3]
  · have a3 := hu 3 (by omega) (by omega)
    have a1 : okB f t 2 = true := by rcases hs with h | h; (exact absurd h (by decide)); exact h
    simp [gUp, a1, a3]
  · have a1 : okB f t 3 = true := by rcases hs with h | h; (exact absurd h (by decide)); exact h
    simp [gUp, a1]
/-- The cover's pages: each begins where it must, and they end at t. -/
theorem cover_walk (f t : Int) (k : Nat) (hk : k < (coverL f t).length) : coverL f t = sizesL f t (coverL f t).length ∧ (coverL f t)[k]? = some (stepI (posI f t k) t) ∧ startsB (posI f t k) (stepI (posI f t k) t) = true ∧ f ≤ posI f t k ∧ posI f t (k + 1) ≤ t := by
  have ha : alignB f t = true := by
    cases h : alignB f t
    · rw [cover_odd f t h] at hk; simp at hk
    · rfl
  have hall : ∀ n, n ≤ 1000 → ∃ m, m ≤ n ∧ cntN f t n = m ∧ (∀ j, j < m → posI f t j < t) := by
    intro n hn
    induction n with
    | zero => exact ⟨0, by omega, rfl, fun j hj => by omega⟩
    | succ n ih =>
      obtain ⟨m, a, b, c⟩ := ih (by omega)
      unfold cntN; rw [b]
      split
      · rename_i hlt
        exact ⟨m + 1, by omega, rfl, fun j hj => by
          by_cases e : j = m
          · rw [e]; exact hlt
          · exact c j (by omega)⟩
      · exact ⟨m, by omega, rfl, c⟩
  obtain ⟨m, m1, m2, m3⟩ := hall 1000 (by omega)
  have he : t ≤ posI f t m := by
    apply Classical.byContradiction; intro hn
    have : coverL f t = [] := by unfold coverL; rw [m2, if_neg (by simp [hn])]
    rw [this] at hk; simp at hk
  have hc := cover_end f t ha m m1 m3 he
  rw [hc, sizesL_length] at hk ⊢
  have hf := pos_facts f t ha k (fun j hj => m3 j (by omega))
  have hs := step_ok (posI f t k) t hf.1 (m3 k hk)
  unfold okB at hs
  simp only [Bool.and_eq_true, decide_eq_true_eq] at hs
  have hn := step_next (posI f t k) t hf.1 (m3 k hk)
  exact ⟨rfl, by simp [sizesL, hk], hs.1, hf.2.2, hn.2.1⟩
theorem cover_last (f t : Int) (h : (coverL f t).length ≠ 0) : posI f t (coverL f t).length = t := by
  have ha : alignB f t = true := by
    cases h2 : alignB f t
    · rw [cover_odd f t h2] at h; simp at h
    · rfl
  have hw := cover_walk f t ((coverL f t).length - 1) (by omega)
  have e : (coverL f t).length - 1 + 1 = (coverL f t).length := by omega
  rw [e] at hw
  have hle := hw.2.2.2.2
  apply Int.le_antisymm hle
  apply Classical.byContradiction; intro hn
  have hd : decide (t ≤ posI f t (cntN f t 1000)) = true := by
    cases h2 : decide (t ≤ posI f t (cntN f t 1000))
    · exfalso; apply h; unfold coverL; rw [h2]; simp
    · rfl
  have hlen : (coverL f t).length = cntN f t 1000 := by
    unfold coverL; rw [ha, hd]; simp [sizesL_length]
  rw [hlen] at hn
  simp only [decide_eq_true_eq] at hd
  exact hn hd
end Go.Proofs.Ytkbkilkmiigahaa.Fld
