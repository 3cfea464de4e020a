/-
  Contracts and plain facts: FMath, FDocM. Conditions: each says its own.
-/
import Derived.KernelRfl
namespace Go.Proofs.YtnbdoemnepfhdaaGreat.Frm
/-- How many of the first n are free. -/
def cnt (T : Nat → Bool) : Nat → Nat
  | 0 => 0
  | n + 1 => cnt T n + (if T n then 0 else 1)
/-- n frames from i on are all as v says. -/
def allB (T : Nat → Bool) (i n : Nat) (v : Bool) : Bool := (List.range n).all fun j => T (i + j) == v
/-- n frames from i on are made v. -/
def setT (T : Nat → Bool) (i n : Nat) (v : Bool) : Nat → Bool := fun k => if i ≤ k ∧ k < i + n then v else T k
/-- Whether so many from i on can be taken. -/
def okAt (T : Nat → Bool) (N n each i : Nat) : Bool := decide (i % each = 0) && decide (i + n ≤ N) && allB T i n false
/-- The first place where n free ones stand, a multiple of each. -/
def pick (T : Nat → Bool) (N n each : Nat) : Option Nat := (List.range (N + 1)).find? (okAt T N n each)
/-- How many free ones end just ahead of k. -/
def cur (T : Nat → Bool) : Nat → Nat
  | 0 => 0
  | k + 1 => if T k then 0 else cur T k + 1
def lng (T : Nat → Bool) : Nat → Nat
  | 0 => 0
  | k + 1 => max (lng T k) (cur T (k + 1))
/-- The first from i on, of the first N, that is v; N, if there is none. -/
def nxt (T : Nat → Bool) (N i : Nat) (v : Bool) : Nat :=
  match (List.range (N - i)).find? (fun j => T (i + j) == v) with
  | some j => i + j
  | none => if i ≤ N then N else i
theorem allB_iff {T : Nat → Bool} {i n : Nat} {v : Bool} : allB T i n v = true ↔ ∀ j, j < n → T (i + j) = v := by
  simp [allB, List.all_eq_true]
theorem allB_not {T : Nat → Bool} {i n : Nat} {v : Bool} : allB T i n v = false ↔ ∃ j, j < n ∧ T (i + j) ≠ v := by
  rw [← Bool.not_eq_true, allB_iff]
  exact ⟨fun h => Classical.byContradiction fun h2 => h fun j hj => Classical.byContradiction fun h3 => h2 ⟨j, hj, h3⟩, fun ⟨j, hj, h3⟩ h => h3 (h j hj)⟩
theorem allB_mem {T : Nat → Bool} {i n : Nat} {v : Bool} : allB T i n v = true ↔ ∀ k, i ≤ k → k < i + n → T k = v := by
  rw [allB_iff]
  exact ⟨fun h k h1 h2 => by have := h (k - i) (by omega); rwa [show i + (k - i) = k by omega] at this, fun h j hj => h _ (by omega) (by omega)⟩
theorem okAt_iff {T : Nat → Bool} {N n each i : Nat} : okAt T N n each i = true ↔ i % each = 0 ∧ i + n ≤ N ∧ allB T i n false = true := by
  simp [okAt, and_assoc]
theorem pick_some {T : Nat → Bool} {N n each i : Nat} (h : pick T N n each = some i) : okAt T N n each i = true ∧ ∀ j, j < i → okAt T N n each j = false := by
  unfold pick at h
  rw [List.find?_range_eq_some] at h
  exact ⟨h.1, fun j hj => by simpa using h.2.2 j hj⟩
theorem pick_eq {T : Nat → Bool} {N n each i : Nat} (h : okAt T N n each i = true) (h2 : ∀ j, j < i → okAt T N n each j = false) : pick T N n each = some i := by
  unfold pick
  rw [List.find?_range_eq_some]
  exact ⟨h, by have := (okAt_iff.1 h).2.1; simp; omega, fun j hj => by simpa using h2 j hj⟩
theorem pick_eq_none {T : Nat → Bool} {N n each : Nat} (h : ∀ i, okAt T N n each i = false) : pick T N n each = none := by
  unfold pick
  rw [List.find?_eq_none]
  exact fun i _ e => by rw [h i] at e; cases e
theorem cnt_le (T : Nat → Bool) (n : Nat) : cnt T n ≤ n := by
  induction n with
  | zero => exact Nat.le_refl _
  | succ n ih => unfold cnt; split <;> omega
theorem cnt_new (n : Nat) : cnt (fun _ => false) n = n := by
  induction n with
  | zero => rfl
  | succ n ih => unfold cnt; rw [ih]; rfl
theorem cnt_congr {T U : Nat → Bool} : ∀ {n : Nat}, (∀ k, k < n → T k = U k) → cnt T n = cnt U n
  | 0, _ => rfl
  | n + 1, h => by unfold cnt; rw [cnt_congr (fun k hk => h k (by omega)), h n (by omega)]
theorem setT_zero (T : Nat → Bool) (i : Nat) (v : Bool) : setT T i 0 v = T := by
  funext k; unfold setT; rw [if_neg (by omega)]
theorem setT_in {T : Nat → Bool} {i n k : Nat} {v : Bool} (h : i ≤ k) (h2 : k < i + n) : setT T i n v k = v := if_pos ⟨h, h2⟩
theorem setT_out {T : Nat → Bool} {i n k : Nat} {v : Bool} (h : k < i ∨ i + n ≤ k) : setT T i n v k = T k := if_neg (by omega)
theorem setT_succ (T : Nat → Bool) (i n : Nat) (v : Bool) (k : Nat) : setT T i (n + 1) v k = if k = i + n then v else setT T i n v k := by
  unfold setT
  by_cases e : k = i + n
  · rw [if_pos e, if_pos (by omega)]
  · rw [if_neg e]
    by_cases h : i ≤ k ∧ k < i + n
    · rw [if_pos h, if_pos (by omega)]
    · rw [if_neg h, if_neg (by omega)]
theorem cnt_one {T U : Nat → Bool} {N p : Nat} (hp : p < N) (h : ∀ k, k ≠ p → U k = T k) : cnt U N + (if T p then 0 else 1) = cnt T N + (if U p then 0 else 1) := by
  induction N with
  | zero => omega
  | succ N ih =>
    by_cases e : p = N
    · subst e
      unfold cnt
      rw [cnt_congr (T := U) (U := T) (fun k hk => h k (by omega))]
      omega
    · unfold cnt
      have := ih (by omega)
      rw [h N (by omega)]
      omega
theorem cnt_take {T : Nat → Bool} {N i : Nat} : ∀ {n : Nat}, i + n ≤ N → allB T i n false = true → cnt (setT T i n true) N + n = cnt T N
  | 0, _, _ => by rw [setT_zero]; rfl
  | n + 1, h, ha => by
    have h1 := cnt_take (T := T) (N := N) (i := i) (n := n) (by omega) (allB_iff.2 fun j hj => allB_iff.1 ha j (by omega))
    have h2 := cnt_one (T := setT T i n true) (U := setT T i (n + 1) true) (N := N) (p := i + n) (by omega) (fun k hk => by rw [setT_succ, if_neg hk])
    rw [setT_succ, if_pos rfl, setT_out (.inr (Nat.le_refl _)), allB_iff.1 ha n (by omega)] at h2
    simp at h2
    omega
theorem cnt_give {T : Nat → Bool} {N i : Nat} : ∀ {n : Nat}, i + n ≤ N → allB T i n true = true → cnt (setT T i n false) N = cnt T N + n
  | 0, _, _ => by rw [setT_zero]; rfl
  | n + 1, h, ha => by
    have h1 := cnt_give (T := T) (N := N) (i := i) (n := n) (by omega) (allB_iff.2 fun j hj => allB_iff.1 ha j (by omega))
    have h2 := cnt_one (T := setT T i n false) (U := setT T i (n + 1) false) (N := N) (p := i + n) (by omega) (fun k hk => by rw [setT_succ, if_neg hk])
    rw [setT_succ, if_pos rfl, setT_out (.inr (Nat.le_refl _)), allB_iff.1 ha n (by omega)] at h2
    simp at h2
    omega
/-! ### nxt -/
theorem nxt_spec {T : Nat → Bool} {N i : Nat} {v : Bool} (hi : i ≤ N) : i ≤ nxt T N i v ∧ nxt T N i v ≤ N ∧ (∀ k, i ≤ k → k < nxt T N i v → T k ≠ v) ∧ (nxt T N i v < N → T (nxt T N i v) = v) := by
  unfold nxt
  cases h : (List.range (N - i)).find? (fun j => T (i + j) == v) with
  | some j =>
    rw [List.find?_range_eq_some] at h
    have hj : j < N - i := by simpa using h.2.1
    refine ⟨by simp, by simp; omega, fun k h1 h2 e => ?_, fun _ => by simpa using h.1⟩
    simp at h2
    have := h.2.2 (k - i) (by omega)
    rw [show i + (k - i) = k by omega, e] at this
    simp at this
  | none =>
    rw [List.find?_eq_none] at h
    simp only [if_pos hi]
    refine ⟨hi, Nat.le_refl _, fun k h1 h2 e => ?_, fun h2 => absurd h2 (by omega)⟩
    have := h (k - i) (by simp; omega)
    rw [show i + (k - i) = k by omega, e] at this
    simp at this
theorem nxt_eq {T : Nat → Bool} {N i m : Nat} {v : Bool} (hi : i ≤ N) (h1 : i ≤ m) (h2 : m ≤ N) (h3 : ∀ k, i ≤ k → k < m → T k ≠ v) (h4 : m < N → T m = v) : nxt T N i v = m := by
  obtain ⟨a, b, c, d⟩ := nxt_spec (T := T) (v := v) hi
  rcases Nat.lt_trichotomy (nxt T N i v) m with h | h | h
  · exact absurd (d (by omega)) (h3 _ a h)
  · exact h
  · exact absurd (h4 (by omega)) (c m h1 h)
/-! ### The longest -/
theorem cur_le (T : Nat → Bool) (k : Nat) : cur T k ≤ k := by
  induction k with
  | zero => exact Nat.le_refl _
  | succ k ih => unfold cur; split <;> omega
theorem cur_free (T : Nat → Bool) (k : Nat) : allB T (k - cur T k) (cur T k) false = true := by
  induction k with
  | zero => rfl
  | succ k ih =>
    have := cur_le T k
    unfold cur
    cases h : T k
    · simp only [Bool.false_eq_true, if_false]
      rw [allB_mem] at ih ⊢
      intro q h1 h2
      by_cases e : q = k
      · rw [e]; exact h
      · exact ih q (by omega) (by omega)
    · simp [allB]
theorem cur_max {T : Nat → Bool} {k n : Nat} (hn : n ≤ k) (h : allB T (k - n) n false = true) : n ≤ cur T k := by
  induction k generalizing n with
  | zero => omega
  | succ k ih =>
    cases n with
    | zero => omega
    | succ n =>
      rw [allB_mem] at h
      have h1 := h k (by omega) (by omega)
      unfold cur
      rw [h1]
      have := ih (n := n) (by omega) (allB_mem.2 fun q a b => h q (by omega) (by omega))
      simp; exact this
theorem lng_max {T : Nat → Bool} {N i n : Nat} (h : i + n ≤ N) (ha : allB T i n false = true) : n ≤ lng T N := by
  induction N with
  | zero => have : n = 0 := by omega
            omega
  | succ N ih =>
    unfold lng
    by_cases e : i + n ≤ N
    · have := ih e; omega
    · have : n ≤ cur T (N + 1) := cur_max (by omega) (by rw [show N + 1 - n = i by omega]; exact ha)
      omega
theorem lng_is (T : Nat → Bool) (N : Nat) : ∃ i, i + lng T N ≤ N ∧ allB T i (lng T N) false = true := by
  induction N with
  | zero => exact ⟨0, Nat.le_refl 0, rfl⟩
  | succ N ih =>
    obtain ⟨i, h1, h2⟩ := ih
    unfold lng
    by_cases e : lng T N ≤ cur T (N + 1)
    · rw [Nat.max_eq_right e]
      exact ⟨N + 1 - cur T (N + 1), by have := cur_le T (N + 1); omega, cur_free T (N + 1)⟩
    · rw [Nat.max_eq_left (by omega)]
      exact ⟨i, by omega, h2⟩
theorem lng_eq {T : Nat → Bool} {N L : Nat} (h1 : ∃ i, i + L ≤ N ∧ allB T i L false = true) (h2 : ∀ i n, i + n ≤ N → allB T i n false = true → n ≤ L) : lng T N = L := by
  obtain ⟨i, a, b⟩ := h1
  obtain ⟨j, c, d⟩ := lng_is T N
  have := lng_max a b
  have := h2 _ _ c d
  omega
/-! ### Many: by stretches -/
theorem many_step {T : Nat → Bool} {N e n : Nat} (he : e ≤ N) (h : ∀ i, i < e → okAt T N n 1 i = false) (hl : nxt T N (nxt T N e false) true - nxt T N e false < n) (hf : nxt T N e false < N) :
    ∀ i, i < nxt T N (nxt T N e false) true → okAt T N n 1 i = false := by
  obtain ⟨a1, a2, a3, a4⟩ := nxt_spec (T := T) (v := false) he
  obtain ⟨b1, b2, b3, b4⟩ := nxt_spec (T := T) (v := true) (i := nxt T N e false) (N := N) (by omega)
  generalize nxt T N (nxt T N e false) true = z at *
  generalize nxt T N e false = f at *
  intro i hi
  by_cases hie : i < e
  · exact h i hie
  · cases ho : okAt T N n 1 i
    · rfl
    · obtain ⟨_, h2, h3⟩ := okAt_iff.1 ho
      rw [allB_mem] at h3
      by_cases hif : i < f
      · exact absurd (h3 i (Nat.le_refl _) (by omega)) (a3 i (by omega) hif)
      · have := h3 z (by omega) (by omega)
        rw [b4 (by omega)] at this; cases this
theorem many_end {T : Nat → Bool} {N e n : Nat} (he : e ≤ N) (hn : 0 < n) (h : ∀ i, i < e → okAt T N n 1 i = false) (hf : nxt T N e false = N) : pick T N n 1 = none := by
  obtain ⟨a1, a2, a3, a4⟩ := nxt_spec (T := T) (v := false) he
  rw [hf] at a3
  refine pick_eq_none fun i => ?_
  by_cases hie : i < e
  · exact h i hie
  · cases ho : okAt T N n 1 i
    · rfl
    · obtain ⟨_, h2, h3⟩ := okAt_iff.1 ho
      rw [allB_mem] at h3
      exact absurd (h3 i (Nat.le_refl _) (by omega)) (a3 i (by omega) (by omega))
theorem many_here {T : Nat → Bool} {N e n : Nat} (he : e ≤ N) (hn : 0 < n) (h : ∀ i, i < e → okAt T N n 1 i = false) (hl : n ≤ nxt T N (nxt T N e false) true - nxt T N e false) :
    pick T N n 1 = some (nxt T N e false) := by
  obtain ⟨a1, a2, a3, a4⟩ := nxt_spec (T := T) (v := false) he
  obtain ⟨b1, b2, b3, b4⟩ := nxt_spec (T := T) (v := true) (i := nxt T N e false) (N := N) (by omega)
  generalize nxt T N (nxt T N e false) true = z at *
  generalize nxt T N e false = f at *
  refine pick_eq (okAt_iff.2 ⟨Nat.mod_one _, by omega, allB_mem.2 fun k h1 h2 => by have := b3 k h1 (by omega); simpa using this⟩) fun j hj => ?_
  by_cases hie : j < e
  · exact h j hie
  · cases ho : okAt T N n 1 j
    · rfl
    · obtain ⟨_, h2, h3⟩ := okAt_iff.1 ho
      rw [allB_mem] at h3
      exact absurd (h3 j (Nat.le_refl _) (by omega)) (a3 j (by omega) hj)
/-! ### The list of the taken ones -/
def lst (T : Nat → Bool) (N : Nat) : List Int := ((List.range N).filter T).map Int.ofNat
theorem lst_succ (T : Nat → Bool) (k : Nat) : lst T (k + 1) = if T k then lst T k ++ [(k : Int)] else lst T k := by
  unfold lst
  rw [List.range_succ, List.filter_append, List.map_append]
  cases h : T k <;> simp [h]
theorem lst_length (T : Nat → Bool) (k : Nat) : (lst T k).length + cnt T k = k := by
  induction k with
  | zero => rfl
  | succ k ih =>
    rw [lst_succ]; unfold cnt
    cases h : T k <;> simp <;> omega
end Go.Proofs.YtnbdoemnepfhdaaGreat.Frm

namespace Go.Proofs.YtnbdoemnepfhdaaGreat.Frm
/-- The taken ones of m frames from a on. -/
def seg (T : Nat → Bool) (a m : Nat) : List Int := ((List.range' a m).filter T).map Int.ofNat
theorem lst_seg (T : Nat → Bool) (n : Nat) : lst T n = seg T 0 n := by unfold lst seg; rw [List.range_eq_range']
theorem seg_add (T : Nat → Bool) (a m k : Nat) : seg T a (m + k) = seg T a m ++ seg T (a + m) k := by
  unfold seg
  rw [← List.range'_append_1, List.filter_append, List.map_append]
theorem seg_mem {T : Nat → Bool} {a m : Nat} {x : Int} : x ∈ seg T a m ↔ ∃ q : Nat, a ≤ q ∧ q < a + m ∧ T q = true ∧ x = (q : Int) := by
  unfold seg
  simp only [List.mem_map, List.mem_filter, List.mem_range'_1]
  constructor
  · rintro ⟨q, ⟨⟨h1, h2⟩, h3⟩, rfl⟩; exact ⟨q, h1, h2, h3, rfl⟩
  · rintro ⟨q, h1, h2, h3, rfl⟩; exact ⟨q, ⟨⟨h1, h2⟩, h3⟩, rfl⟩
theorem seg_congr {T U : Nat → Bool} {a m : Nat} (h : ∀ q, a ≤ q → q < a + m → T q = U q) : seg T a m = seg U a m := by
  unfold seg
  congr 1
  apply List.filter_congr
  intro q hq
  rw [List.mem_range'_1] at hq
  exact h q hq.1 hq.2
theorem seg_none {T : Nat → Bool} {a m : Nat} (h : ∀ q, a ≤ q → q < a + m → T q = false) : seg T a m = [] := by
  rw [List.eq_nil_iff_forall_not_mem]
  intro x hx
  obtain ⟨q, h1, h2, h3, _⟩ := seg_mem.1 hx
  rw [h q h1 h2] at h3; cases h3
theorem seg_all {T : Nat → Bool} {a m : Nat} (h : ∀ q, a ≤ q → q < a + m → T q = true) : seg T a m = (List.range m).map (fun j : Nat => (a : Int) + (j : Int)) := by
  unfold seg
  rw [List.filter_eq_self.2 (fun q hq => by rw [List.mem_range'_1] at hq; exact h q hq.1 hq.2), List.range'_eq_map_range, List.map_map]
  apply List.map_congr_left
  intro j _
  simp
theorem seg_length_le (T : Nat → Bool) (a m : Nat) : (seg T a m).length ≤ m := by
  unfold seg; rw [List.length_map]; exact Nat.le_trans (List.length_filter_le _ _) (by simp)
theorem seg_length_all {T : Nat → Bool} {a m : Nat} : (seg T a m).length = m ↔ ∀ q, a ≤ q → q < a + m → T q = true := by
  constructor
  · intro h q h1 h2
    have h3 : ((List.range' a m).filter T).length = (List.range' a m).length := by
      unfold seg at h; rw [List.length_map] at h; rw [h]; simp
    rw [List.length_filter_eq_length_iff] at h3
    exact h3 q (by rw [List.mem_range'_1]; exact ⟨h1, h2⟩)
  · intro h; rw [seg_all h]; simp
theorem lst_split (T : Nat → Bool) {n i k : Nat} (h : i + k ≤ n) : lst T n = seg T 0 i ++ (seg T i k ++ seg T (i + k) (n - (i + k))) := by
  have e : seg T 0 n = seg T 0 (i + (k + (n - (i + k)))) := by congr 1; omega
  rw [lst_seg, e, seg_add, seg_add, Nat.zero_add]
theorem lst_take {T : Nat → Bool} {n i k : Nat} (h : i + k ≤ n) (ha : allB T i k false = true) : lst T n = seg T 0 i ++ seg T (i + k) (n - (i + k)) ∧ lst (setT T i k true) n = seg T 0 i ++ ((List.range k).map (fun j : Nat => (i : Int) + (j : Int)) ++ seg T (i + k) (n - (i + k))) := by
  constructor
  · rw [lst_split T h, seg_none (a := i) (m := k) (fun q h1 h2 => allB_mem.1 ha q h1 h2)]; simp
  · rw [lst_split _ h, seg_congr (U := T) (a := 0) (fun q _ h2 => setT_out (by omega)), seg_congr (T := setT T i k true) (U := T) (a := i + k) (fun q h1 _ => setT_out (by omega)), seg_all (a := i) (fun q h1 h2 => setT_in h1 h2)]
theorem lst_give {T : Nat → Bool} {n i k : Nat} (h : i + k ≤ n) : lst (setT T i k false) n = seg T 0 i ++ seg T (i + k) (n - (i + k)) := by
  rw [lst_split _ h, seg_congr (U := T) (a := 0) (fun q _ h2 => setT_out (by omega)), seg_congr (T := setT T i k false) (U := T) (a := i + k) (fun q h1 _ => setT_out (by omega)), seg_none (a := i) (fun q h1 h2 => setT_in h1 h2)]; simp
theorem lst_mem {T : Nat → Bool} {n : Nat} {x : Int} : x ∈ lst T n ↔ 0 ≤ x ∧ x < n ∧ T x.toNat = true := by
  rw [lst_seg, seg_mem]
  constructor
  · rintro ⟨q, h1, h2, h3, rfl⟩; exact ⟨by omega, by omega, by simpa using h3⟩
  · rintro ⟨h1, h2, h3⟩; exact ⟨x.toNat, by omega, by omega, h3, by omega⟩
/-- In so many from f on. -/
def inR (f k x : Int) : Bool := decide (f ≤ x) && decide (x < f + k)
theorem lst_none {T : Nat → Bool} {n i k : Nat} (h : i + k ≤ n) : (lst T n).all (fun x => !inR (i : Int) (k : Int) x) = allB T i k false := by
  rw [Bool.eq_iff_iff, List.all_eq_true, allB_mem]
  constructor
  · intro h1 q h2 h3
    cases e : T q
    · rfl
    · have := h1 (q : Int) (lst_mem.2 ⟨by omega, by omega, by simpa using e⟩)
      simp [inR] at this; omega
  · intro h1 x hx
    obtain ⟨a, b, c⟩ := lst_mem.1 hx
    simp only [inR, Bool.not_eq_true', Bool.and_eq_false_iff, decide_eq_false_iff_not]
    by_cases e : (i : Int) ≤ x ∧ x < (i : Int) + (k : Int)
    · have := h1 x.toNat (by omega) (by omega)
      rw [c] at this; cases this
    · omega
theorem filter_in (T : Nat → Bool) {n i k : Nat} (h : i + k ≤ n) : (lst T n).filter (inR (i : Int) (k : Int)) = seg T i k ∧ (lst T n).filter (fun x => !inR (i : Int) (k : Int) x) = seg T 0 i ++ seg T (i + k) (n - (i + k)) := by
  have h1 : ∀ x ∈ seg T 0 i, inR (i : Int) (k : Int) x = false := fun x hx => by
    obtain ⟨q, a, b, _, rfl⟩ := seg_mem.1 hx
    simp [inR]; omega
  have h2 : ∀ x ∈ seg T i k, inR (i : Int) (k : Int) x = true := fun x hx => by
    obtain ⟨q, a, b, _, rfl⟩ := seg_mem.1 hx
    simp [inR]; omega
  have h3 : ∀ x ∈ seg T (i + k) (n - (i + k)), inR (i : Int) (k : Int) x = false := fun x hx => by
    obtain ⟨q, a, b, _, rfl⟩ := seg_mem.1 hx
    simp [inR]; omega
  rw [lst_split T h]
  simp only [List.filter_append]
  have u1 : (seg T 0 i).filter (inR (i : Int) (k : Int)) = [] := List.filter_eq_nil_iff.2 (fun x hx => by rw [h1 x hx]; simp)
  have u2 : (seg T i k).filter (inR (i : Int) (k : Int)) = seg T i k := List.filter_eq_self.2 h2
  have u3 : (seg T (i + k) (n - (i + k))).filter (inR (i : Int) (k : Int)) = [] := List.filter_eq_nil_iff.2 (fun x hx => by rw [h3 x hx]; simp)
  have u4 : (seg T 0 i).filter (fun x => !inR (i : Int) (k : Int) x) = seg T 0 i := List.filter_eq_self.2 (fun x hx => by rw [h1 x hx]; rfl)
  have u5 : (seg T i k).filter (fun x => !inR (i : Int) (k : Int) x) = [] := List.filter_eq_nil_iff.2 (fun x hx => by rw [h2 x hx]; simp)
  have u6 : (seg T (i + k) (n - (i + k))).filter (fun x => !inR (i : Int) (k : Int) x) = seg T (i + k) (n - (i + k)) := List.filter_eq_self.2 (fun x hx => by rw [h3 x hx]; rfl)
  rw [u1, u2, u3, u4, u5, u6]
  simp
/-! ### The longest, by the list -/
theorem lng_gap {T : Nat → Bool} {p a : Nat} (hpa : p ≤ a) (h : ∀ q, p ≤ q → q < a → T q = false) (hp : p = 0 ∨ T (p - 1) = true) : lng T a = max (lng T p) (a - p) := by
  refine lng_eq ?_ ?_
  · by_cases hm : lng T p ≤ a - p
    · rw [Nat.max_eq_right hm]
      exact ⟨p, by omega, allB_mem.2 fun k h1 h2 => h k h1 (by omega)⟩
    · rw [Nat.max_eq_left (by omega)]
      obtain ⟨i, c, d⟩ := lng_is T p
      exact ⟨i, by omega, d⟩
  · intro i n h1 h2
    rw [allB_mem] at h2
    by_cases hi : i + n ≤ p
    · have := lng_max hi (allB_mem.2 h2); omega
    · by_cases hn : n = 0
      · omega
      · by_cases hip : p ≤ i
        · omega
        · rcases hp with hp | hp
          · omega
          · have := h2 (p - 1) (by omega) (by omega)
            rw [hp] at this; cases this
theorem lng_taken {T : Nat → Bool} {a : Nat} (h : T a = true) : lng T (a + 1) = lng T a := by
  have : cur T (a + 1) = 0 := by unfold cur; rw [h]; rfl
  show max (lng T a) (cur T (a + 1)) = lng T a
  rw [this]; omega
/-- Where the list's part behind j begins. -/
def ends (L : List Int) (j : Nat) : Int := if j = 0 then -1 else L.getD (j - 1) 0
theorem seg_head {T : Nat → Bool} {a m : Nat} {x : Int} {r : List Int} (h : seg T a m = x :: r) : ∃ q : Nat, x = (q : Int) ∧ a ≤ q ∧ q < a + m ∧ T q = true ∧ (∀ p, a ≤ p → p < q → T p = false) ∧ r = seg T (q + 1) (a + m - (q + 1)) := by
  induction m generalizing a with
  | zero => simp [seg] at h
  | succ m ih =>
    rw [Nat.add_comm m 1, seg_add] at h
    cases e : T a
    · rw [seg_none (a := a) (m := 1) (fun q h1 h2 => by rw [show q = a by omega]; exact e)] at h
      obtain ⟨q, h1, h2, h3, h4, h5, h6⟩ := ih (a := a + 1) (by simpa using h)
      refine ⟨q, h1, by omega, by omega, h4, fun p hp hq => ?_, by rw [h6]; congr 1; omega⟩
      by_cases ep : p = a
      · rw [ep]; exact e
      · exact h5 p (by omega) hq
    · rw [seg_all (a := a) (m := 1) (fun q h1 h2 => by rw [show q = a by omega]; exact e)] at h
      simp at h
      exact ⟨a, h.1.symm, by omega, by omega, e, fun p h1 h2 => by omega, by rw [← h.2]; congr 1; omega⟩
/-- What Longest has seen of the list when its part behind 'p - 1' is left. -/
structure LongS (T : Nat → Bool) (n : Nat) (R : List Int) (p : Nat) : Prop where
  le : p ≤ n
  rest : R = seg T p (n - p)
  edge : p = 0 ∨ T (p - 1) = true
theorem LongS.step {T : Nat → Bool} {n p : Nat} {x : Int} {r : List Int} (h : LongS T n (x :: r) p) : ∃ q : Nat, x = (q : Int) ∧ p ≤ q ∧ q < n ∧ LongS T n r (q + 1) ∧ lng T (q + 1) = max (lng T p) (q - p) := by
  obtain ⟨q, h1, h2, h3, h4, h5, h6⟩ := seg_head h.rest.symm
  have := h.le
  refine ⟨q, h1, h2, by omega, ⟨by omega, by rw [h6]; congr 1; omega, .inr (by simpa using h4)⟩, ?_⟩
  rw [lng_taken h4, lng_gap h2 h5 h.edge]
theorem LongS.last {T : Nat → Bool} {n p : Nat} (h : LongS T n [] p) : lng T n = max (lng T p) (n - p) :=
  lng_gap h.le (fun q h1 h2 => by
    cases e : T q
    · rfl
    · have := seg_mem.2 ⟨q, h1, (show q < p + (n - p) by omega), e, rfl⟩
      rw [← h.rest] at this
      cases this) h.edge
end Go.Proofs.YtnbdoemnepfhdaaGreat.Frm

