/-
  Frames as a function from numbers to bools: how many are free, the first place of so many free ones, the longest stretch, the list of the taken ones. Plain arithmetic. Conditions: none.
-/
import Derived.KernelRfl
namespace Go.Proofs.Ytdjpanmokojpdaa.Frm
/-- How many of the first n are free. -/
def cnt (T : Nat → Bool) : Nat → Nat
  | 0 => 0
  | n + 1 => cnt T n + (if T n then 0 else 1)
/-- n frames from i on are all as v says. -/
def allB (T : Nat → Bool) (i n : Nat) (v : Bool) : Bool := (List.range n).all fun j => T (i + j) == v
/-- n frames from i on are made v. -/
def setT (T : Nat → Bool) (i n : Nat) (v : Bool) : Nat → Bool := fun k => if i ≤ k ∧ k < i + n then v else T k
/-- Whether so many from i on can be taken. -/
def okAt (T : Nat → Bool) (N n each i : Nat) : Bool := decide (i % each = 0) && decide (i + n ≤ N) && allB T i n false
/-- The first place where n free ones stand, a multiple of each. -/
def pick (T : Nat → Bool) (N n each : Nat) : Option Nat := (List.range (N + 1)).find? (okAt T N n each)
/-- How many free ones end just ahead of k. -/
def cur (T : Nat → Bool) : Nat → Nat
  | 0 => 0
  | k + 1 => if T k then 0 else cur T k + 1
def lng (T : Nat → Bool) : Nat → Nat
  | 0 => 0
  | k + 1 => max (lng T k) (cur T (k + 1))
/-- The first from i on, of the first N, that is v; N, if there is none. -/
def nxt (T : Nat → Bool) (N i : Nat) (v : Bool) : Nat :=
  match (List.range (N - i)).find? (fun j => T (i + j) == v) with
  | some j => i + j
  | none => if i ≤ N then N else i
def runI (s : Int) : Int := if s = 0 then 1 else if s = 1 then 8 else if s = 2 then 64 else if s = 3 then 512 else 0

theorem allB_iff {T : Nat → Bool} {i n : Nat} {v : Bool} : allB T i n v = true ↔ ∀ j, j < n → T (i + j) = v := by
  simp [allB, List.all_eq_true]
theorem allB_not {T : Nat → Bool} {i n : Nat} {v : Bool} : allB T i n v = false ↔ ∃ j, j < n ∧ T (i + j) ≠ v := by
  rw [← Bool.not_eq_true, allB_iff]
  exact ⟨fun h => Classical.byContradiction fun h2 => h fun j hj => Classical.byContradiction fun h3 => h2 ⟨j, hj, h3⟩, fun ⟨j, hj, h3⟩ h => h3 (h j hj)⟩
theorem allB_mem {T : Nat → Bool} {i n : Nat} {v : Bool} : allB T i n v = true ↔ ∀ k, i ≤ k → k < i + n → T k = v := by
  rw [allB_iff]
  exact ⟨fun h k h1 h2 => by have := h (k - i) (by omega); rwa [show i + (k - i) = k by omega] at this, fun h j hj => h _ (by omega) (by omega)⟩
theorem okAt_iff {T : Nat → Bool} {N n each i : Nat} : okAt T N n each i = true ↔ i % each = 0 ∧ i + n ≤ N ∧ allB T i n false = true := by
  simp [okAt, and_assoc]
theorem pick_some {T : Nat → Bool} {N n each i : Nat} (h : pick T N n each = some i) : okAt T N n each i = true ∧ ∀ j, j < i → okAt T N n each j = false := by
  unfold pick at h
  rw [List.find?_range_eq_some] at h
  exact ⟨h.1, fun j hj => by simpa using h.2.2 j hj⟩
theorem pick_none {T : Nat → Bool} {N n each : Nat} (h : pick T N n each = none) (i : Nat) : okAt T N n each i = false := by
  unfold pick at h
  rw [List.find?_eq_none] at h
  cases e : okAt T N n each i
  · rfl
  · exact absurd e (h i (by have := (okAt_iff.1 e).2.1; simp; omega))
theorem pick_eq {T : Nat → Bool} {N n each i : Nat} (h : okAt T N n each i = true) (h2 : ∀ j, j < i → okAt T N n each j = false) : pick T N n each = some i := by
  unfold pick
  rw [List.find?_range_eq_some]
  exact ⟨h, by have := (okAt_iff.1 h).2.1; simp; omega, fun j hj => by simpa using h2 j hj⟩
theorem pick_eq_none {T : Nat → Bool} {N n each : Nat} (h : ∀ i, okAt T N n each i = false) : pick T N n each = none := by
  unfold pick
  rw [List.find?_eq_none]
  exact fun i _ e => by rw [h i] at e; cases e
theorem cnt_le (T : Nat → Bool) (n : Nat) : cnt T n ≤ n := by
  induction n with
  | zero => exact Nat.le_refl _
  | succ n ih => unfold cnt; split <;> omega
theorem cnt_new (n : Nat) : cnt (fun _ => false) n = n := by
  induction n with
  | zero => rfl
  | succ n ih => unfold cnt; rw [ih]; rfl
theorem cnt_congr {T U : Nat → Bool} : ∀ {n : Nat}, (∀ k, k < n → T k = U k) → cnt T n = cnt U n
  | 0, _ => rfl
  | n + 1, h => by unfold cnt; rw [cnt_congr (fun k hk => h k (by omega)), h n (by omega)]
theorem setT_zero (T : Nat → Bool) (i : Nat) (v : Bool) : setT T i 0 v = T := by
  funext k; unfold setT; rw [if_neg (by omega)]
theorem setT_in {T : Nat → Bool} {i n k : Nat} {v : Bool} (h : i ≤ k) (h2 : k < i + n) : setT T i n v k = v := if_pos ⟨h, h2⟩
theorem setT_out {T : Nat → Bool} {i n k : Nat} {v : Bool} (h : k < i ∨ i + n ≤ k) : setT T i n v k = T k := if_neg (by omega)
theorem setT_succ (T : Nat → Bool) (i n : Nat) (v : Bool) (k : Nat) : setT T i (n + 1) v k = if k = i + n then v else setT T i n v k := by
  unfold setT
  by_cases e : k = i + n
  · rw [if_pos e, if_pos (by omega)]
  · rw [if_neg e]
    by_cases h : i ≤ k ∧ k < i + n
    · rw [if_pos h, if_pos (by omega)]
    · rw [if_neg h, if_neg (by omega)]
theorem cnt_one {T U : Nat → Bool} {N p : Nat} (hp : p < N) (h : ∀ k, k ≠ p → U k = T k) : cnt U N + (if T p then 0 else 1) = cnt T N + (if U p then 0 else 1) := by
  induction N with
  | zero => omega
  | succ N ih =>
    by_cases e : p = N
    · subst e
      unfold cnt
      rw [cnt_congr (T := U) (U := T) (fun k hk => h k (by omega))]
      omega
    · unfold cnt
      have := ih (by omega)
      rw [h N (by omega)]
      omega
theorem cnt_take {T : Nat → Bool} {N i : Nat} : ∀ {n : Nat}, i + n ≤ N → allB T i n false = true → cnt (setT T i n true) N + n = cnt T N
  | 0, _, _ => by rw [setT_zero]; rfl
  | n + 1, h, ha => by
    have h1 := cnt_take (T := T) (N := N) (i := i) (n := n) (by omega) (allB_iff.2 fun j hj => allB_iff.1 ha j (by omega))
    have h2 := cnt_one (T := setT T i n true) (U := setT T i (n + 1) true) (N := N) (p := i + n) (by omega) (fun k hk => by rw [setT_succ, if_neg hk])
    rw [setT_succ, if_pos rfl, setT_out (.inr (Nat.le_refl _)), allB_iff.1 ha n (by omega)] at h2
    simp at h2
    omega
theorem cnt_give {T : Nat → Bool} {N i : Nat} : ∀ {n : Nat}, i + n ≤ N → allB T i n true = true → cnt (setT T i n false) N = cnt T N + n
  | 0, _, _ => by rw [setT_zero]; rfl
  | n + 1, h, ha => by
    have h1 := cnt_give (T := T) (N := N) (i := i) (n := n) (by omega) (allB_iff.2 fun j hj => allB_iff.1 ha j (by omega))
    have h2 := cnt_one (T := setT T i n false) (U := setT T i (n + 1) false) (N := N) (p := i + n) (by omega) (fun k hk => by rw [setT_succ, if_neg hk])
    rw [setT_succ, if_pos rfl, setT_out (.inr (Nat.le_refl _)), allB_iff.1 ha n (by omega)] at h2
    simp at h2
    omega
/-! ### nxt -/
theorem nxt_spec {T : Nat → Bool} {N i : Nat} {v : Bool} (hi : i ≤ N) : i ≤ nxt T N i v ∧ nxt T N i v ≤ N ∧ (∀ k, i ≤ k → k < nxt T N i v → T k ≠ v) ∧ (nxt T N i v < N → T (nxt T N i v) = v) := by
  unfold nxt
  cases h : (List.range (N - i)).find? (fun j => T (i + j) == v) with
  | some j =>
    rw [List.find?_range_eq_some] at h
    have hj : j < N - i := by simpa using h.2.1
    refine ⟨by simp, by simp; omega, fun k h1 h2 e => ?_, fun _ => by simpa using h.1⟩
    simp at h2
    have := h.2.2 (k - i) (by omega)
    rw [show i + (k - i) = k by omega, e] at this
    simp at this
  | none =>
    rw [List.find?_eq_none] at h
    simp only [if_pos hi]
    refine ⟨hi, Nat.le_refl _, fun k h1 h2 e => ?_, fun h2 => absurd h2 (by omega)⟩
    have := h (k - i) (by simp; omega)
    rw [show i + (k - i) = k by omega, e] at this
    simp at this
theorem nxt_eq {T : Nat → Bool} {N i m : Nat} {v : Bool} (hi : i ≤ N) (h1 : i ≤ m) (h2 : m ≤ N) (h3 : ∀ k, i ≤ k → k < m → T k ≠ v) (h4 : m < N → T m = v) : nxt T N i v = m := by
  obtain ⟨a, b, c, d⟩ := nxt_spec (T := T) (v := v) hi
  rcases Nat.lt_trichotomy (nxt T N i v) m with h | h | h
  · exact absurd (d (by omega)) (h3 _ a h)
  · exact h
  · exact absurd (h4 (by omega)) (c m h1 h)
/-! ### The longest -/
theorem cur_le (T : Nat → Bool) (k : Nat) : cur T k ≤ k := by
  induction k with
  | zero => exact Nat.le_refl _
  | succ k ih => unfold cur; split <;> omega
theorem cur_free (T : Nat → Bool) (k : Nat) : allB T (k - cur T k) (cur T k) false = true := by
  induction k with
  | zero => rfl
  | succ k ih =>
    have := cur_le T k
    unfold cur
    cases h : T k
    · simp only [Bool.false_eq_true, if_false]
      rw [allB_mem] at ih ⊢
      intro q h1 h2
      by_cases e : q = k
      · rw [e]; exact h
      · exact ih q (by omega) (by omega)
    · simp [allB]
theorem cur_max {T : Nat → Bool} {k n : Nat} (hn : n ≤ k) (h : allB T (k - n) n false = true) : n ≤ cur T k := by
  induction k generalizing n with
  | zero => omega
  | succ k ih =>
    cases n with
    | zero => omega
    | succ n =>
      rw [allB_mem] at h
      have h1 := h k (by omega) (by omega)
      unfold cur
      rw [h1]
      have := ih (n := n) (by omega) (allB_mem.2 fun q a b => h q (by omega) (by omega))
      simp; exact this
theorem lng_max {T : Nat → Bool} {N i n : Nat} (h : i + n ≤ N) (ha : allB T i n false = true) : n ≤ lng T N := by
  induction N with
  | zero => have : n = 0 := by omega
            omega
  | succ N ih =>
    unfold lng
    by_cases e : i + n ≤ N
    · have := ih e; omega
    · have : n ≤ cur T (N + 1) := cur_max (by omega) (by rw [show N + 1 - n = i by omega]; exact ha)
      omega
theorem lng_is (T : Nat → Bool) (N : Nat) : ∃ i, i + lng T N ≤ N ∧ allB T i (lng T N) false = true := by
  induction N with
  | zero => exact ⟨0, Nat.le_refl 0, rfl⟩
  | succ N ih =>
    obtain ⟨i, h1, h2⟩ := ih
    unfold lng
    by_cases e : lng T N ≤ cur T (N + 1)
    · rw [Nat.max_eq_right e]
      exact ⟨N + 1 - cur T (N + 1), by have := cur_le T (N + 1); omega, cur_free T (N + 1)⟩
    · rw [Nat.max_eq_left (by omega)]
      exact ⟨i, by omega, h2⟩
theorem lng_eq {T : Nat → Bool} {N L : Nat} (h1 : ∃ i, i + L ≤ N ∧ allB T i L false = true) (h2 : ∀ i n, i + n ≤ N → allB T i n false = true → n ≤ L) : lng T N = L := by
  obtain ⟨i, a, b⟩ := h1
  obtain ⟨j, c, d⟩ := lng_is T N
  have := lng_max a b
  have := h2 _ _ c d
  omega
theorem lng_le (T : Nat → Bool) (N : Nat) : lng T N ≤ N := by obtain ⟨i, a, _⟩ := lng_is T N; omega
/-- Of the first m, a stretch of free ones behind e: where e is 0 or taken. -/
theorem lng_step {T : Nat → Bool} {N e : Nat} (he : e ≤ N) (h0 : e = 0 ∨ e = N ∨ T e = true) (hf : nxt T N e false < N) :
    lng T (nxt T N (nxt T N e false) true) = max (lng T e) (nxt T N (nxt T N e false) true - nxt T N e false) := by
  obtain ⟨a1, a2, a3, a4⟩ := nxt_spec (T := T) (v := false) he
  obtain ⟨b1, b2, b3, b4⟩ := nxt_spec (T := T) (v := true) (i := nxt T N e false) (N := N) (by omega)
  generalize nxt T N (nxt T N e false) true = z at *
  generalize nxt T N e false = f at *
  have hfree : T f = false := a4 hf
  refine lng_eq ?_ ?_
  · by_cases hm : lng T e ≤ z - f
    · rw [Nat.max_eq_right hm]
      refine ⟨f, by omega, allB_mem.2 fun k h1 h2 => ?_⟩
      have := b3 k h1 (by omega)
      simpa using this
    · rw [Nat.max_eq_left (by omega)]
      obtain ⟨i, c, d⟩ := lng_is T e
      exact ⟨i, by omega, d⟩
  · intro i n h1 h2
    rw [allB_mem] at h2
    by_cases hi : i + n ≤ e
    · have := lng_max hi (allB_mem.2 h2); omega
    · by_cases hn : n = 0
      · omega
      · by_cases hif : f ≤ i
        · omega
        · -- a frame of [e, f) is taken
          have hk : ∀ k, e ≤ k → k < f → T k = true := fun k x y => by have := a3 k x y; simpa using this
          by_cases hie : e ≤ i
          · have := h2 i (Nat.le_refl _) (by omega)
            rw [hk i hie (by omega)] at this; cases this
          · rcases h0 with h0 | h0 | h0
            · omega
            · omega
            · have := h2 e (by omega) (by omega)
              rw [h0] at this; cases this
theorem lng_end {T : Nat → Bool} {N e : Nat} (he : e ≤ N) (hf : nxt T N e false = N) : lng T N = lng T e := by
  obtain ⟨a1, a2, a3, a4⟩ := nxt_spec (T := T) (v := false) he
  rw [hf] at a3
  obtain ⟨i, c, d⟩ := lng_is T e
  refine lng_eq ⟨i, by omega, d⟩ fun i n h1 h2 => ?_
  rw [allB_mem] at h2
  by_cases hi : i + n ≤ e
  · exact lng_max hi (allB_mem.2 h2)
  · by_cases hn : n = 0
    · omega
    · have := h2 (i + n - 1) (by omega) (by omega)
      exact absurd this (a3 _ (by omega) (by omega))
/-! ### Many: by stretches -/
theorem many_step {T : Nat → Bool} {N e n : Nat} (he : e ≤ N) (h : ∀ i, i < e → okAt T N n 1 i = false) (hl : nxt T N (nxt T N e false) true - nxt T N e false < n) (hf : nxt T N e false < N) :
    ∀ i, i < nxt T N (nxt T N e false) true → okAt T N n 1 i = false := by
  obtain ⟨a1, a2, a3, a4⟩ := nxt_spec (T := T) (v := false) he
  obtain ⟨b1, b2, b3, b4⟩ := nxt_spec (T := T) (v := true) (i := nxt T N e false) (N := N) (by omega)
  generalize nxt T N (nxt T N e false) true = z at *
  generalize nxt T N e false = f at *
  intro i hi
  by_cases hie : i < e
  · exact h i hie
  · cases ho : okAt T N n 1 i
    · rfl
    · obtain ⟨_, h2, h3⟩ := okAt_iff.1 ho
      rw [allB_mem] at h3
      by_cases hif : i < f
      · exact absurd (h3 i (Nat.le_refl _) (by omega)) (a3 i (by omega) hif)
      · have := h3 z (by omega) (by omega)
        rw [b4 (by omega)] at this; cases this
theorem many_end {T : Nat → Bool} {N e n : Nat} (he : e ≤ N) (hn : 0 < n) (h : ∀ i, i < e → okAt T N n 1 i = false) (hf : nxt T N e false = N) : pick T N n 1 = none := by
  obtain ⟨a1, a2, a3, a4⟩ := nxt_spec (T := T) (v := false) he
  rw [hf] at a3
  refine pick_eq_none fun i => ?_
  by_cases hie : i < e
  · exact h i hie
  · cases ho : okAt T N n 1 i
    · rfl
    · obtain ⟨_, h2, h3⟩ := okAt_iff.1 ho
      rw [allB_mem] at h3
      exact absurd (h3 i (Nat.le_refl _) (by omega)) (a3 i (by omega) (by omega))
theorem many_here {T : Nat → Bool} {N e n : Nat} (he : e ≤ N) (hn : 0 < n) (h : ∀ i, i < e → okAt T N n 1 i = false) (hl : n ≤ nxt T N (nxt T N e false) true - nxt T N e false) :
    pick T N n 1 = some (nxt T N e false) := by
  obtain ⟨a1, a2, a3, a4⟩ := nxt_spec (T := T) (v := false) he
  obtain ⟨b1, b2, b3, b4⟩ := nxt_spec (T := T) (v := true) (i := nxt T N e false) (N := N) (by omega)
  generalize nxt T N (nxt T N e false) true = z at *
  generalize nxt T N e false = f at *
  refine pick_eq (okAt_iff.2 ⟨Nat.mod_one _, by omega, allB_mem.2 fun k h1 h2 => by have := b3 k h1 (by omega); simpa using this⟩) fun j hj => ?_
  by_cases hie : j < e
  · exact h j hie
  · cases ho : okAt T N n 1 j
    · rfl
    · obtain ⟨_, h2, h3⟩ := okAt_iff.1 ho
      rw [allB_mem] at h3
      exact absurd (h3 j (Nat.le_refl _) (by omega)) (a3 j (by omega) hj)
/-! ### The list of the taken ones -/
def lst (T : Nat → Bool) (N : Nat) : List Int := ((List.range N).filter T).map Int.ofNat
theorem lst_succ (T : Nat → Bool) (k : Nat) : lst T (k + 1) = if T k then lst T k ++ [(k : Int)] else lst T k := by
  unfold lst
  rw [List.range_succ, List.filter_append, List.map_append]
  cases h : T k <;> simp [h]
theorem lst_length (T : Nat → Bool) (k : Nat) : (lst T k).length + cnt T k = k := by
  induction k with
  | zero => rfl
  | succ k ih =>
    rw [lst_succ]; unfold cnt
    cases h : T k <;> simp <;> omega
theorem runI_cases (s : Int) : (s = 0 ∧ runI s = 1) ∨ (s = 1 ∧ runI s = 8) ∨ (s = 2 ∧ runI s = 64) ∨ (s = 3 ∧ runI s = 512) ∨ ((s < 0 ∨ 3 < s) ∧ runI s = 0) := by
  unfold runI
  by_cases h0 : s = 0
  · left; exact ⟨h0, if_pos h0⟩
  · by_cases h1 : s = 1
    · right; left; exact ⟨h1, by rw [if_neg h0, if_pos h1]⟩
    · by_cases h2 : s = 2
      · right; right; left; exact ⟨h2, by rw [if_neg h0, if_neg h1, if_pos h2]⟩
      · by_cases h3 : s = 3
        · right; right; right; left; exact ⟨h3, by rw [if_neg h0, if_neg h1, if_neg h2, if_pos h3]⟩
        · right; right; right; right; exact ⟨by omega, by rw [if_neg h0, if_neg h1, if_neg h2, if_neg h3]⟩
end Go.Proofs.Ytdjpanmokojpdaa.Frm
