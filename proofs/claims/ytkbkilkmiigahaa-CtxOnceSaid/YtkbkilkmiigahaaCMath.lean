/-
  Numbers of contexts, plainly: whose the places are, the first place of a kind from the hand on, round, and where the hand goes. Conditions: none.
-/
import Derived.KernelRfl
namespace Go.Proofs.Ytkbkilkmiigahaa.Cx
/-- A space's number: its first place and 1; 0: none. -/
def ofN (T : Nat → Int) (x : Int) : Nat → Nat
  | 0 => 0
  | n + 1 => if ofN T x n = 0 then (if T n = x then n + 1 else 0) else ofN T x n
theorem ofN_zero {T : Nat → Int} {x : Int} : ∀ {n : Nat}, ofN T x n = 0 ↔ ∀ i, i < n → T i ≠ x
  | 0 => by simp [ofN]
  | n + 1 => by
    unfold ofN
    by_cases h : ofN T x n = 0
    · rw [if_pos h]
      by_cases e : T n = x
      · rw [if_pos e]; exact ⟨fun h => by omega, fun h => absurd e (h n (by omega))⟩
      · rw [if_neg e]
        exact ⟨fun _ i hi => by
          by_cases e2 : i = n
          · subst e2; exact e
          · exact ofN_zero.1 h i (by omega), fun _ => rfl⟩
    · rw [if_neg h]
      exact ⟨fun e => absurd e h, fun e => absurd (ofN_zero.2 (fun i hi => e i (by omega))) h⟩
theorem ofN_pos {T : Nat → Int} {x : Int} : ∀ {n : Nat}, ofN T x n ≠ 0 → ofN T x n ≤ n ∧ T (ofN T x n - 1) = x
  | 0, h => absurd rfl h
  | n + 1, h => by
    unfold ofN at h ⊢
    by_cases e : ofN T x n = 0
    · rw [if_pos e] at h ⊢
      by_cases e2 : T n = x
      · rw [if_pos e2]; exact ⟨by omega, by simpa using e2⟩
      · rw [if_neg e2] at h; exact absurd rfl h
    · rw [if_neg e] at h ⊢
      have := ofN_pos e
      exact ⟨by omega, this.2⟩
theorem ofN_lt {T : Nat → Int} {x : Int} {n j : Nat} (h : ofN T x n ≠ 0) (hj : j < ofN T x n - 1) : T j ≠ x := by
  induction n with
  | zero => exact absurd rfl h
  | succ n ih =>
    unfold ofN at h hj
    by_cases e : ofN T x n = 0
    · rw [if_pos e] at h hj
      by_cases e2 : T n = x
      · rw [if_pos e2] at hj; exact ofN_zero.1 e j (by omega)
      · rw [if_neg e2] at h; exact absurd rfl h
    · rw [if_neg e] at h hj; exact ih e hj
theorem ofN_at {T : Nat → Int} {x : Int} {n i : Nat} (hi : i < n) (h : T i = x) (h1 : ∀ j, j < i → T j ≠ x) : ofN T x n = i + 1 := by
  have h0 : ofN T x n ≠ 0 := fun e => ofN_zero.1 e i hi h
  have h2 := ofN_pos h0
  rcases Nat.lt_trichotomy (ofN T x n - 1) i with h3 | h3 | h3
  · exact absurd h2.2 (h1 _ h3)
  · omega
  · exact absurd h (ofN_lt h0 h3)
theorem ofN_congr {T U : Nat → Int} {x : Int} : ∀ {n : Nat}, (∀ i, i < n → T i = U i) → ofN T x n = ofN U x n
  | 0, _ => rfl
  | n + 1, h => by unfold ofN; rw [ofN_congr (fun i hi => h i (by omega)), h n (by omega)]
/-- How many are free. -/
def frN (T : Nat → Int) : Nat → Nat
  | 0 => 0
  | n + 1 => frN T n + if T n < 0 then 1 else 0
theorem frN_le (T : Nat → Int) : ∀ n, frN T n ≤ n
  | 0 => Nat.le_refl _
  | n + 1 => by have := frN_le T n; unfold frN; split <;> omega
def setT (T : Nat → Int) (i : Nat) (v : Int) : Nat → Int := fun k => if k = i then v else T k
theorem setT_same (T : Nat → Int) (i : Nat) (v : Int) : setT T i v i = v := by simp [setT]
theorem setT_other (T : Nat → Int) {i k : Nat} (v : Int) (h : k ≠ i) : setT T i v k = T k := by simp [setT, h]
theorem setT_set (T : Nat → Int) (i : Nat) (u v : Int) : setT (setT T i u) i v = setT T i v := by funext k; unfold setT; split <;> rfl
/-- The first place of a kind from number k on, round, m of them: its number; 0: none. -/
def seek (P : Nat → Bool) (n : Nat) : Nat → Nat → Nat
  | _, 0 => 0
  | k, m + 1 => if P (k - 1) then k else seek P n (k % n + 1) m
def rot (n h : Nat) : Nat → Nat
  | 0 => h
  | j + 1 => rot n h j % n + 1
theorem nxt_bd {n k : Nat} (hn : 0 < n) : 1 ≤ k % n + 1 ∧ k % n + 1 ≤ n := ⟨by omega, by have := Nat.mod_lt k hn; omega⟩
theorem rot_bd {n h : Nat} (hn : 0 < n) (h0 : 1 ≤ h) (h1 : h ≤ n) : ∀ j, 1 ≤ rot n h j ∧ rot n h j ≤ n
  | 0 => ⟨h0, h1⟩
  | _ + 1 => nxt_bd hn
theorem seek_bd {P : Nat → Bool} {n : Nat} (hn : 0 < n) : ∀ {m k : Nat}, 1 ≤ k → k ≤ n → seek P n k m ≠ 0 → 1 ≤ seek P n k m ∧ seek P n k m ≤ n ∧ P (seek P n k m - 1) = true
  | 0, _, _, _, h => absurd rfl h
  | m + 1, k, h0, h1, h => by
    unfold seek at h ⊢
    by_cases e : P (k - 1) = true
    · rw [if_pos e]; exact ⟨h0, h1, e⟩
    · rw [if_neg e] at h ⊢
      exact seek_bd hn (nxt_bd hn).1 (nxt_bd hn).2 h
theorem seek_congr {P Q : Nat → Bool} {n : Nat} (h : ∀ i, i < n → P i = Q i) (hn : 0 < n) : ∀ {m k : Nat}, 1 ≤ k → k ≤ n → seek P n k m = seek Q n k m
  | 0, _, _, _ => rfl
  | m + 1, k, h0, h1 => by unfold seek; rw [h (k - 1) (by omega), seek_congr h hn (nxt_bd hn).1 (nxt_bd hn).2]
/-- How far it is from number k to number m, round. -/
def dist (n k m : Nat) : Nat := if k ≤ m then m - k else m + n - k
theorem dist_step {n k m : Nat} (hk0 : 1 ≤ k) (hk : k ≤ n) (hm0 : 1 ≤ m) (hm : m ≤ n) (h : k ≠ m) : dist n (k % n + 1) m + 1 = dist n k m := by
  have e : k % n + 1 = if k = n then 1 else k + 1 := by
    split
    · next h => subst h; simp
    · rw [Nat.mod_eq_of_lt (by omega)]
  rw [e]
  unfold dist
  repeat' split
  all_goals omega
theorem dist_lt {n k m : Nat} (hk0 : 1 ≤ k) (hk : k ≤ n) (hm : m ≤ n) : dist n k m < n := by unfold dist; split <;> omega
/-- How many rounds there are when the hand, at k, has passed m. -/
def passR (n k m R : Nat) : Nat := if m < k ∨ m = n then R + 1 else R
def stepR (n k R : Nat) : Nat := if k % n + 1 = 1 then R + 1 else R
theorem nxt_eq {n k : Nat} (hk : k ≤ n) : k % n + 1 = if k = n then 1 else k + 1 := by
  split
  · next h => subst h; simp
  · rw [Nat.mod_eq_of_lt (by omega)]
theorem passR_step {n k m R : Nat} (hk0 : 1 ≤ k) (hk : k ≤ n) (hm0 : 1 ≤ m) (hm : m ≤ n) (h : k ≠ m) : passR n (k % n + 1) m (stepR n k R) = passR n k m R := by
  unfold stepR
  rw [nxt_eq hk]
  unfold passR
  repeat' split
  all_goals omega
theorem passR_last {n m R : Nat} (hm0 : 1 ≤ m) (hm : m ≤ n) : stepR n m R = passR n m m R := by
  unfold stepR
  rw [nxt_eq hm]
  unfold passR
  repeat' split
  all_goals omega
theorem passR_le (n k m R : Nat) : R ≤ passR n k m R ∧ passR n k m R ≤ R + 1 := by unfold passR; split <;> omega
theorem stepR_le (n k R : Nat) : R ≤ stepR n k R ∧ stepR n k R ≤ R + 1 := by unfold stepR; split <;> omega
/-- A pool of numbers: how many, whose the places are (-1: nobody's), the hand, the rounds. -/
structure Pl where
  n : Nat
  T : Nat → Int
  h : Nat
  R : Nat
def Sp (x : Int) : Prop := 0 ≤ x ∧ x ≤ 9223372036854775807
structure Pl.Ok (P : Pl) : Prop where
  le : P.n ≤ 8191
  wf : ∀ i, i < P.n → P.T i = -1 ∨ Sp (P.T i)
  one : ∀ i j, i < P.n → j < P.n → P.T i = P.T j → 0 ≤ P.T i → i = j
  h0 : 1 ≤ P.h
  h1 : 0 < P.n → P.h ≤ P.n
  hz : P.n = 0 → P.h = 1
def Pl.new (n : Nat) : Pl := ⟨n, fun _ => -1, 1, 0⟩
theorem Pl.new_ok {n : Nat} (h : n ≤ 8191) : (Pl.new n).Ok := ⟨h, fun _ _ => .inl rfl, fun _ _ _ _ _ h => absurd h (by simp [Pl.new]), Nat.le_refl _, fun h => h, fun _ => rfl⟩
def Pl.of (P : Pl) (x : Int) : Nat := if 0 ≤ x then ofN P.T x P.n else 0
def Pl.own (P : Pl) (m : Nat) (x : Int) : Pl := ⟨P.n, setT P.T (m - 1) x, m % P.n + 1, passR P.n P.h m P.R⟩
def Pl.free (P : Pl) : Nat := seek (fun i => decide (P.T i < 0)) P.n P.h P.n
def Pl.vic (P : Pl) (A : List Int) : Nat := seek (fun i => decide (0 ≤ P.T i) && !(A.contains (P.T i))) P.n P.h P.n
theorem Pl.Ok.bd {P : Pl} (h : P.Ok) {i : Nat} (hi : i < P.n) : -1 ≤ P.T i ∧ P.T i ≤ 9223372036854775807 := by
  rcases h.wf i hi with e | e
  · omega
  · have := e.1; have := e.2; omega
theorem Pl.of_pos {P : Pl} {x : Int} (h : P.of x ≠ 0) : 1 ≤ P.of x ∧ P.of x ≤ P.n ∧ P.T (P.of x - 1) = x ∧ 0 ≤ x := by
  by_cases hx : 0 ≤ x
  · have e : P.of x = ofN P.T x P.n := by unfold Pl.of; rw [if_pos hx]
    rw [e] at h ⊢
    have := ofN_pos h
    exact ⟨by omega, this.1, this.2, hx⟩
  · have e : P.of x = 0 := by unfold Pl.of; rw [if_neg hx]
    exact absurd e h
theorem Pl.of_zero {P : Pl} {x : Int} (hx : 0 ≤ x) (h : P.of x = 0) : ∀ i, i < P.n → P.T i ≠ x := by
  unfold Pl.of at h; rw [if_pos hx] at h; exact ofN_zero.1 h
theorem Pl.Ok.of_at {P : Pl} (h : P.Ok) {i : Nat} (hi : i < P.n) (h0 : 0 ≤ P.T i) : P.of (P.T i) = i + 1 := by
  unfold Pl.of; rw [if_pos h0]
  exact ofN_at hi rfl (fun j hj e => by have := h.one j i (by omega) hi e (by rw [e]; exact h0); omega)
theorem Pl.Ok.own {P : Pl} (h : P.Ok) {m : Nat} (m0 : 1 ≤ m) (m1 : m ≤ P.n) {x : Int} (hx : Sp x) (hf : ∀ i, i < P.n → i ≠ m - 1 → P.T i ≠ x) : (P.own m x).Ok := by
  refine ⟨h.le, fun i hi => ?_, fun i j hi hj e h0 => ?_, (nxt_bd (by omega)).1, fun _ => (nxt_bd (by omega)).2, fun e => by have : P.n = 0 := e; omega⟩
  · have hi : i < P.n := hi
    show setT _ _ _ _ = _ ∨ Sp (setT _ _ _ _)
    unfold setT; split
    · exact .inr hx
    · exact h.wf i hi
  · have hi : i < P.n := hi
    have hj : j < P.n := hj
    have e : setT P.T (m - 1) x i = setT P.T (m - 1) x j := e
    have h0 : 0 ≤ setT P.T (m - 1) x i := h0
    unfold setT at e h0
    by_cases a : i = m - 1 <;> by_cases b : j = m - 1
    · omega
    · rw [if_pos a, if_neg b] at e; exact absurd e.symm (hf j hj b)
    · rw [if_neg a, if_pos b] at e; exact absurd e (hf i hi a)
    · rw [if_neg a, if_neg b] at e; rw [if_neg a] at h0; exact h.one i j hi hj e h0
def Pl.drop (P : Pl) (m : Nat) : Pl := ⟨P.n, setT P.T (m - 1) (-1), P.h, P.R⟩
theorem Pl.Ok.drop {P : Pl} (h : P.Ok) (m : Nat) : (P.drop m).Ok := by
  refine ⟨h.le, fun i hi => ?_, fun i j hi hj e h0 => ?_, h.h0, h.h1, h.hz⟩
  · have hi : i < P.n := hi
    show setT _ _ _ _ = _ ∨ Sp (setT _ _ _ _)
    unfold setT; split
    · exact .inl rfl
    · exact h.wf i hi
  · have hi : i < P.n := hi
    have hj : j < P.n := hj
    have e : setT P.T (m - 1) (-1) i = setT P.T (m - 1) (-1) j := e
    have h0 : 0 ≤ setT P.T (m - 1) (-1) i := h0
    unfold setT at e h0
    by_cases a : i = m - 1 <;> by_cases b : j = m - 1
    · omega
    · rw [if_pos a] at h0; omega
    · rw [if_neg a, if_pos b] at e; rw [if_neg a] at h0; omega
    · rw [if_neg a, if_neg b] at e; rw [if_neg a] at h0; exact h.one i j hi hj e h0
theorem Pl.Ok.free {P : Pl} (h : P.Ok) (hf : P.free ≠ 0) : 1 ≤ P.free ∧ P.free ≤ P.n ∧ P.T (P.free - 1) < 0 := by
  have hn : 0 < P.n := by
    rcases Nat.eq_zero_or_pos P.n with e | e
    · exfalso; apply hf; unfold Pl.free; rw [e]; rfl
    · exact e
  have := seek_bd (P := fun i => decide (P.T i < 0)) hn h.h0 (h.h1 hn) hf
  exact ⟨this.1, this.2.1, of_decide_eq_true this.2.2⟩
theorem Pl.Ok.vic {P : Pl} (h : P.Ok) {A : List Int} (hf : P.vic A ≠ 0) : 1 ≤ P.vic A ∧ P.vic A ≤ P.n ∧ 0 ≤ P.T (P.vic A - 1) ∧ A.contains (P.T (P.vic A - 1)) = false := by
  have hn : 0 < P.n := by
    rcases Nat.eq_zero_or_pos P.n with e | e
    · exfalso; apply hf; unfold Pl.vic; rw [e]; rfl
    · exact e
  have := seek_bd (P := fun i => decide (0 ≤ P.T i) && !(A.contains (P.T i))) hn h.h0 (h.h1 hn) hf
  have h3 := this.2.2
  rw [Bool.and_eq_true] at h3
  exact ⟨this.1, this.2.1, of_decide_eq_true h3.1, (Bool.not_eq_true' _).mp h3.2⟩
/-! ### What is answered -/
def Pl.takeI (P : Pl) (x : Int) : Nat := if x < 0 then 0 else if P.of x = 0 then P.free else P.of x
def Pl.takeE (P : Pl) (x : Int) : Int := if x < 0 then 1 else if P.of x = 0 ∧ P.free = 0 then 8 else 0
def Pl.take (P : Pl) (x : Int) : Pl := if x < 0 ∨ P.of x ≠ 0 ∨ P.free = 0 then P else P.own P.free x
def Pl.vicS (P : Pl) (A : List Int) : Int := if P.vic A = 0 then 0 else P.T (P.vic A - 1)
def Pl.vicE (P : Pl) (A : List Int) : Int := if P.vic A = 0 then 8 else 0
def Pl.stealE (P : Pl) (m x : Int) : Int := if x < 0 ∨ m < 1 ∨ (P.n : Int) < m then 1 else if P.of x ≠ 0 then 9 else if P.T (m.toNat - 1) < 0 then 10 else 0
def Pl.stealI (P : Pl) (m x : Int) : Int := if P.stealE m x = 0 then P.T (m.toNat - 1) else 0
def Pl.steal (P : Pl) (m x : Int) : Pl := if P.stealE m x = 0 then P.own m.toNat x else P
def Pl.give (P : Pl) (x : Int) : Pl := if P.of x = 0 then P else P.drop (P.of x)
def Pl.giveE (P : Pl) (x : Int) : Int := if P.of x = 0 then 10 else 0
def Pl.ownB (P : Pl) (m : Int) : Bool := decide (1 ≤ m) && decide (m ≤ (P.n : Int)) && decide (0 ≤ P.T (m.toNat - 1))
def Pl.ownI (P : Pl) (m : Int) : Int := if P.ownB m then P.T (m.toNat - 1) else 0
theorem Pl.Ok.take {P : Pl} (h : P.Ok) {x : Int} (hx : x ≤ 9223372036854775807) : (P.take x).Ok := by
  unfold Pl.take
  split
  · exact h
  · rename_i c
    have c1 : 0 ≤ x := by omega
    have c2 : P.of x = 0 := Classical.byContradiction fun e => c (.inr (.inl e))
    have c3 : P.free ≠ 0 := fun e => c (.inr (.inr e))
    have f := h.free c3
    exact h.own f.1 f.2.1 ⟨c1, hx⟩ (fun i hi _ => Pl.of_zero c1 c2 i hi)
theorem Pl.stealE_zero {P : Pl} {m x : Int} (h : P.stealE m x = 0) : 0 ≤ x ∧ 1 ≤ m ∧ m ≤ (P.n : Int) ∧ P.of x = 0 ∧ 0 ≤ P.T (m.toNat - 1) := by
  unfold Pl.stealE at h
  split at h
  · omega
  · split at h
    · omega
    · split at h
      · omega
      · rename_i a b c
        exact ⟨by omega, by omega, by omega, Classical.byContradiction b, by omega⟩
theorem Pl.Ok.steal {P : Pl} (h : P.Ok) {m x : Int} (hx : x ≤ 9223372036854775807) : (P.steal m x).Ok := by
  unfold Pl.steal
  split
  · rename_i c
    obtain ⟨c1, c2, c3, c4, _⟩ := Pl.stealE_zero c
    exact h.own (by omega) (by omega) ⟨c1, hx⟩ (fun i hi _ => Pl.of_zero c1 c4 i hi)
  · exact h
theorem Pl.Ok.give {P : Pl} (h : P.Ok) (x : Int) : (P.give x).Ok := by unfold Pl.give; split; exact h; exact h.drop _
theorem Pl.take_n (P : Pl) (x : Int) : (P.take x).n = P.n := by unfold Pl.take; split <;> rfl
theorem Pl.steal_n (P : Pl) (m x : Int) : (P.steal m x).n = P.n := by unfold Pl.steal; split <;> rfl
theorem Pl.give_n (P : Pl) (x : Int) : (P.give x).n = P.n := by unfold Pl.give; split <;> rfl
theorem Pl.take_R (P : Pl) (x : Int) : (P.take x).R ≤ P.R + 1 := by unfold Pl.take; split; omega; exact (passR_le _ _ _ _).2
theorem Pl.steal_R (P : Pl) (m x : Int) : (P.steal m x).R ≤ P.R + 1 := by unfold Pl.steal; split; exact (passR_le _ _ _ _).2; omega
theorem Pl.give_R (P : Pl) (x : Int) : (P.give x).R ≤ P.R + 1 := by unfold Pl.give; split; omega; exact Nat.le_succ _
end Go.Proofs.Ytkbkilkmiigahaa.Cx
