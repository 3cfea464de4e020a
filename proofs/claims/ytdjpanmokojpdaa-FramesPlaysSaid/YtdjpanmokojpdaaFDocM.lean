/-
  The taken frames as a rising list: what taking, giving and looking for does to it. Plain facts. Conditions: none.
-/
import Derived.Test.YtdjpanmokojpdaaFMath
namespace Go.Proofs.Ytdjpanmokojpdaa.Frm
/-- The taken ones of m frames from a on. -/
def seg (T : Nat → Bool) (a m : Nat) : List Int := ((List.range' a m).filter T).map Int.ofNat
theorem lst_seg (T : Nat → Bool) (n : Nat) : lst T n = seg T 0 n := by unfold lst seg; rw [List.range_eq_range']
theorem seg_add (T : Nat → Bool) (a m k : Nat) : seg T a (m + k) = seg T a m ++ seg T (a + m) k := by
  unfold seg
  rw [← List.range'_append_1, List.filter_append, List.map_append]
theorem seg_mem {T : Nat → Bool} {a m : Nat} {x : Int} : x ∈ seg T a m ↔ ∃ q : Nat, a ≤ q ∧ q < a + m ∧ T q = true ∧ x = (q : Int) := by
  unfold seg
  simp only [List.mem_map, List.mem_filter, List.mem_range'_1]
  constructor
  · rintro ⟨q, ⟨⟨h1, h2⟩, h3⟩, rfl⟩; exact ⟨q, h1, h2, h3, rfl⟩
  · rintro ⟨q, h1, h2, h3, rfl⟩; exact ⟨q, ⟨⟨h1, h2⟩, h3⟩, rfl⟩
theorem seg_congr {T U : Nat → Bool} {a m : Nat} (h : ∀ q, a ≤ q → q < a + m → T q = U q) : seg T a m = seg U a m := by
  unfold seg
  congr 1
  apply List.filter_congr
  intro q hq
  rw [List.mem_range'_1] at hq
  exact h q hq.1 hq.2
theorem seg_none {T : Nat → Bool} {a m : Nat} (h : ∀ q, a ≤ q → q < a + m → T q = false) : seg T a m = [] := by
  rw [List.eq_nil_iff_forall_not_mem]
  intro x hx
  obtain ⟨q, h1, h2, h3, _⟩ := seg_mem.1 hx
  rw [h q h1 h2] at h3; cases h3
theorem seg_all {T : Nat → Bool} {a m : Nat} (h : ∀ q, a ≤ q → q < a + m → T q = true) : seg T a m = (List.range m).map (fun j : Nat => (a : Int) + (j : Int)) := by
  unfold seg
  rw [List.filter_eq_self.2 (fun q hq => by rw [List.mem_range'_1] at hq; exact h q hq.1 hq.2), List.range'_eq_map_range, List.map_map]
  apply List.map_congr_left
  intro j _
  simp
theorem seg_length_le (T : Nat → Bool) (a m : Nat) : (seg T a m).length ≤ m := by
  unfold seg; rw [List.length_map]; exact Nat.le_trans (List.length_filter_le _ _) (by simp)
theorem seg_length_all {T : Nat → Bool} {a m : Nat} : (seg T a m).length = m ↔ ∀ q, a ≤ q → q < a + m → T q = true := by
  constructor
  · intro h q h1 h2
    have h3 : ((List.range' a m).filter T).length = (List.range' a m).length := by
      unfold seg at h; rw [List.length_map] at h; rw [h]; simp
    rw [List.length_filter_eq_length_iff] at h3
    exact h3 q (by rw [List.mem_range'_1]; exact ⟨h1, h2⟩)
  · intro h; rw [seg_all h]; simp
theorem lst_split (T : Nat → Bool) {n i k : Nat} (h : i + k ≤ n) : lst T n = seg T 0 i ++ (seg T i k ++ seg T (i + k) (n - (i + k))) := by
  have e : seg T 0 n = seg T 0 (i + (k + (n - (i + k)))) := by congr 1; omega
  rw [lst_seg, e, seg_add, seg_add, Nat.zero_add]
theorem lst_take {T : Nat → Bool} {n i k : Nat} (h : i + k ≤ n) (ha : allB T i k false = true) : lst T n = seg T 0 i ++ seg T (i + k) (n - (i + k)) ∧ lst (setT T i k true) n = seg T 0 i ++ ((List.range k).map (fun j : Nat => (i : Int) + (j : Int)) ++ seg T (i + k) (n - (i + k))) := by
  constructor
  · rw [lst_split T h, seg_none (a := i) (m := k) (fun q h1 h2 => allB_mem.1 ha q h1 h2)]; simp
  · rw [lst_split _ h, seg_congr (U := T) (a := 0) (fun q _ h2 => setT_out (by omega)), seg_congr (T := setT T i k true) (U := T) (a := i + k) (fun q h1 _ => setT_out (by omega)), seg_all (a := i) (fun q h1 h2 => setT_in h1 h2)]
theorem lst_give {T : Nat → Bool} {n i k : Nat} (h : i + k ≤ n) : lst (setT T i k false) n = seg T 0 i ++ seg T (i + k) (n - (i + k)) := by
  rw [lst_split _ h, seg_congr (U := T) (a := 0) (fun q _ h2 => setT_out (by omega)), seg_congr (T := setT T i k false) (U := T) (a := i + k) (fun q h1 _ => setT_out (by omega)), seg_none (a := i) (fun q h1 h2 => setT_in h1 h2)]; simp
theorem lst_mem {T : Nat → Bool} {n : Nat} {x : Int} : x ∈ lst T n ↔ 0 ≤ x ∧ x < n ∧ T x.toNat = true := by
  rw [lst_seg, seg_mem]
  constructor
  · rintro ⟨q, h1, h2, h3, rfl⟩; exact ⟨by omega, by omega, by simpa using h3⟩
  · rintro ⟨h1, h2, h3⟩; exact ⟨x.toNat, by omega, by omega, h3, by omega⟩
/-- In so many from f on. -/
def inR (f k x : Int) : Bool := decide (f ≤ x) && decide (x < f + k)
theorem lst_none {T : Nat → Bool} {n i k : Nat} (h : i + k ≤ n) : (lst T n).all (fun x => !inR (i : Int) (k : Int) x) = allB T i k false := by
  rw [Bool.eq_iff_iff, List.all_eq_true, allB_mem]
  constructor
  · intro h1 q h2 h3
    cases e : T q
    · rfl
    · have := h1 (q : Int) (lst_mem.2 ⟨by omega, by omega, by simpa using e⟩)
      simp [inR] at this; omega
  · intro h1 x hx
    obtain ⟨a, b, c⟩ := lst_mem.1 hx
    simp only [inR, Bool.not_eq_true', Bool.and_eq_false_iff, decide_eq_false_iff_not]
    by_cases e : (i : Int) ≤ x ∧ x < (i : Int) + (k : Int)
    · have := h1 x.toNat (by omega) (by omega)
      rw [c] at this; cases this
    · omega
theorem filter_in (T : Nat → Bool) {n i k : Nat} (h : i + k ≤ n) : (lst T n).filter (inR (i : Int) (k : Int)) = seg T i k ∧ (lst T n).filter (fun x => !inR (i : Int) (k : Int) x) = seg T 0 i ++ seg T (i + k) (n - (i + k)) := by
  have h1 : ∀ x ∈ seg T 0 i, inR (i : Int) (k : Int) x = false := fun x hx => by
    obtain ⟨q, a, b, _, rfl⟩ := seg_mem.1 hx
    simp [inR]; omega
  have h2 : ∀ x ∈ seg T i k, inR (i : Int) (k : Int) x = true := fun x hx => by
    obtain ⟨q, a, b, _, rfl⟩ := seg_mem.1 hx
    simp [inR]; omega
  have h3 : ∀ x ∈ seg T (i + k) (n - (i + k)), inR (i : Int) (k : Int) x = false := fun x hx => by
    obtain ⟨q, a, b, _, rfl⟩ := seg_mem.1 hx
    simp [inR]; omega
  rw [lst_split T h]
  simp only [List.filter_append]
  have u1 : (seg T 0 i).filter (inR (i : Int) (k : Int)) = [] := List.filter_eq_nil_iff.2 (fun x hx => by rw [h1 x hx]; simp)
  have u2 : (seg T i k).filter (inR (i : Int) (k : Int)) = seg T i k := List.filter_eq_self.2 h2
  have u3 : (seg T (i + k) (n - (i + k))).filter (inR (i : Int) (k : Int)) = [] := List.filter_eq_nil_iff.2 (fun x hx => by rw [h3 x hx]; simp)
  have u4 : (seg T 0 i).filter (fun x => !inR (i : Int) (k : Int) x) = seg T 0 i := List.filter_eq_self.2 (fun x hx => by rw [h1 x hx]; rfl)
  have u5 : (seg T i k).filter (fun x => !inR (i : Int) (k : Int) x) = [] := List.filter_eq_nil_iff.2 (fun x hx => by rw [h2 x hx]; simp)
  have u6 : (seg T (i + k) (n - (i + k))).filter (fun x => !inR (i : Int) (k : Int) x) = seg T (i + k) (n - (i + k)) := List.filter_eq_self.2 (fun x hx => by rw [h3 x hx]; rfl)
  rw [u1, u2, u3, u4, u5, u6]
  simp
/-! ### The longest, by the list -/
theorem lng_gap {T : Nat → Bool} {p a : Nat} (hpa : p ≤ a) (h : ∀ q, p ≤ q → q < a → T q = false) (hp : p = 0 ∨ T (p - 1) = true) : lng T a = max (lng T p) (a - p) := by
  refine lng_eq ?_ ?_
  · by_cases hm : lng T p ≤ a - p
    · rw [Nat.max_eq_right hm]
      exact ⟨p, by omega, allB_mem.2 fun k h1 h2 => h k h1 (by omega)⟩
    · rw [Nat.max_eq_left (by omega)]
      obtain ⟨i, c, d⟩ := lng_is T p
      exact ⟨i, by omega, d⟩
  · intro i n h1 h2
    rw [allB_mem] at h2
    by_cases hi : i + n ≤ p
    · have := lng_max hi (allB_mem.2 h2); omega
    · by_cases hn : n = 0
      · omega
      · by_cases hip : p ≤ i
        · omega
        · rcases hp with hp | hp
          · omega
          · have := h2 (p - 1) (by omega) (by omega)
            rw [hp] at this; cases this
theorem lng_taken {T : Nat → Bool} {a : Nat} (h : T a = true) : lng T (a + 1) = lng T a := by
  have : cur T (a + 1) = 0 := by unfold cur; rw [h]; rfl
  show max (lng T a) (cur T (a + 1)) = lng T a
  rw [this]; omega
/-- Where the list's part behind j begins. -/
def ends (L : List Int) (j : Nat) : Int := if j = 0 then -1 else L.getD (j - 1) 0
theorem seg_head {T : Nat → Bool} {a m : Nat} {x : Int} {r : List Int} (h : seg T a m = x :: r) : ∃ q : Nat, x = (q : Int) ∧ a ≤ q ∧ q < a + m ∧ T q = true ∧ (∀ p, a ≤ p → p < q → T p = false) ∧ r = seg T (q + 1) (a + m - (q + 1)) := by
  induction m generalizing a with
  | zero => simp [seg] at h
  | succ m ih =>
    rw [Nat.add_comm m 1, seg_add] at h
    cases e : T a
    · rw [seg_none (a := a) (m := 1) (fun q h1 h2 => by rw [show q = a by omega]; exact e)] at h
      obtain ⟨q, h1, h2, h3, h4, h5, h6⟩ := ih (a := a + 1) (by simpa using h)
      refine ⟨q, h1, by omega, by omega, h4, fun p hp hq => ?_, by rw [h6]; congr 1; omega⟩
      by_cases ep : p = a
      · rw [ep]; exact e
      · exact h5 p (by omega) hq
    · rw [seg_all (a := a) (m := 1) (fun q h1 h2 => by rw [show q = a by omega]; exact e)] at h
      simp at h
      exact ⟨a, h.1.symm, by omega, by omega, e, fun p h1 h2 => by omega, by rw [← h.2]; congr 1; omega⟩
/-- What Longest has seen of the list when its part behind 'p - 1' is left. -/
structure LongS (T : Nat → Bool) (n : Nat) (R : List Int) (p : Nat) : Prop where
  le : p ≤ n
  rest : R = seg T p (n - p)
  edge : p = 0 ∨ T (p - 1) = true
theorem longS_new (T : Nat → Bool) (n : Nat) : LongS T n (lst T n) 0 := ⟨Nat.zero_le _, by rw [lst_seg]; rfl, .inl rfl⟩
theorem LongS.step {T : Nat → Bool} {n p : Nat} {x : Int} {r : List Int} (h : LongS T n (x :: r) p) : ∃ q : Nat, x = (q : Int) ∧ p ≤ q ∧ q < n ∧ LongS T n r (q + 1) ∧ lng T (q + 1) = max (lng T p) (q - p) := by
  obtain ⟨q, h1, h2, h3, h4, h5, h6⟩ := seg_head h.rest.symm
  have := h.le
  refine ⟨q, h1, h2, by omega, ⟨by omega, by rw [h6]; congr 1; omega, .inr (by simpa using h4)⟩, ?_⟩
  rw [lng_taken h4, lng_gap h2 h5 h.edge]
theorem LongS.last {T : Nat → Bool} {n p : Nat} (h : LongS T n [] p) : lng T n = max (lng T p) (n - p) :=
  lng_gap h.le (fun q h1 h2 => by
    cases e : T q
    · rfl
    · have := seg_mem.2 ⟨q, h1, (show q < p + (n - p) by omega), e, rfl⟩
      rw [← h.rest] at this
      cases this) h.edge
end Go.Proofs.Ytdjpanmokojpdaa.Frm
