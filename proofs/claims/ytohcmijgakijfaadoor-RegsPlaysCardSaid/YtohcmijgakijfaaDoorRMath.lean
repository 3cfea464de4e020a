/-
  Plain facts on registers: what the eleven are, what is answered, and what is put. No Go text is named here. Conditions: none.
-/
import Derived.Test.YtohcmijgakijfaaDoorMathB
namespace Go.Proofs.YtohcmijgakijfaaDoor.Rg
open Fld

/-- The nine words that are kept. -/
structure Reg where
  sI : Int
  tI : Int
  aI : Int
  pr : Int
  se : Int
  sD : Int
  ad : Int
  tD : Int
  aD : Int
def U (x : Int) : Prop := 0 ≤ x ∧ x ≤ 18446744073709551615
structure Reg.Wf (R : Reg) : Prop where
  sI : U R.sI
  tI : U R.tI
  aI : U R.aI
  pr : U R.pr
  se : U R.se
  sD : U R.sD
  ad : U R.ad
  tD : U R.tD
  aD : U R.aD
def Reg.zero : Reg := ⟨0, 0, 0, 0, 0, 0, 0, 0, 0⟩
theorem U0 : U 0 := by unfold U; omega
theorem Reg.zero_wf : Reg.zero.Wf := ⟨U0, U0, U0, U0, U0, U0, U0, U0, U0⟩

def tgtI (x : Int) : Int := x % 8192 * 281474976710656 + x / 4194304
theorem tgtI_bd (x : Int) (h : U x) : U (tgtI x) := by unfold tgtI U at *; omega

/-- Is there a register of a space at a place? -/
def isB (a p : Int) : Bool := decide ((a = 80 ∧ (p = 0 ∨ p = 24 ∨ p = 40 ∨ p = 48)) ∨ (a = 88 ∧ (p = 0 ∨ p = 8 ∨ p = 16 ∨ p = 24 ∨ p = 32 ∨ p = 40 ∨ p = 48)))
/-- The word that is kept there. -/
def rawV (R : Reg) (a p : Int) : Int :=
  if a = 80 then (if p = 24 then R.sI else if p = 40 then R.tI else if p = 48 then R.aI else 0)
  else if a = 88 then (if p = 8 then R.pr else if p = 16 then R.se else if p = 24 then R.sD else if p = 32 then R.ad else if p = 40 then R.tD else if p = 48 then R.aD else 0)
  else 0
/-- What Read answers. -/
def regV (R : Reg) (a p : Int) : Int := if isB a p then (if p = 0 then tgtI (rawV R a 48) else rawV R a p) else 0
def regE (a p : Int) : Int := if isB a p then 0 else 10
/-- A word laid at a place. -/
def setR (R : Reg) (a p v : Int) : Reg :=
  if a = 80 then (if p = 24 then { R with sI := v } else if p = 40 then { R with tI := v } else if p = 48 then { R with aI := v } else R)
  else if a = 88 then (if p = 8 then { R with pr := v } else if p = 16 then { R with se := v } else if p = 24 then { R with sD := v } else if p = 32 then { R with ad := v } else if p = 40 then { R with tD := v } else if p = 48 then { R with aD := v } else R)
  else R
def stI (v : Int) : Int := v % 16384 + v / 65536 % 256 * 65536
def tsI (v : Int) : Int := v / 4096 * 4096 + v % 8
/-- Of a word that is put what stays. -/
def keepI (p v : Int) : Int := if p = 8 ∨ p = 16 then v % 8192 else if p = 24 then stI v else if p = 40 then tsI v else v
def wrE (a p : Int) : Int := if isB a p then (if p = 0 ∨ p = 32 then 11 else 0) else 10
def wrR (R : Reg) (a p v : Int) : Reg := if wrE a p = 0 then setR R a p (keepI p v) else R
/-- A unit's space. -/
def spI (u : Int) : Int := if u = 0 then 80 else 88
def uB (u : Int) : Bool := decide (u = 0 ∨ u = 1)
def misE (u c : Int) : Int := if uB u = true ∧ 0 ≤ c ∧ c ≤ 8191 then 0 else 1
def misI (va c : Int) : Int := va / 8192 * 8192 + c
def misR (R : Reg) (u va c : Int) : Reg := if misE u c = 0 then setR R (spI u) 48 (misI va c) else R
def fauE (u k a : Int) : Int := if uB u = true ∧ 0 ≤ k ∧ k ≤ 127 ∧ 0 ≤ a ∧ a ≤ 255 then 0 else 1
def fauI (was k a : Int) (st pr : Bool) : Int := 1 + 2 * (was % 2) + k * 128 + a * 65536 + (if st then 4 else 0) + (if pr then 8 else 0)
def fauR (R : Reg) (u k a : Int) (st pr : Bool) (va : Int) : Reg :=
  if fauE u k a = 0 then (if u = 1 then setR (setR R 88 24 (fauI R.sD k a st pr)) 88 32 va else setR R 80 24 (fauI R.sI k a st pr)) else R
def cleE (u : Int) : Int := if uB u = true then 0 else 1
def cleR (R : Reg) (u : Int) : Reg := if cleE u = 0 then setR R (spI u) 24 0 else R

theorem rawV_bd (R : Reg) (h : R.Wf) (a p : Int) : U (rawV R a p) := by
  obtain ⟨h1, h2, h3, h4, h5, h6, h7, h8, h9⟩ := h
  have h0 := U0
  unfold rawV; repeat' split
  all_goals assumption
theorem regV_bd (R : Reg) (h : R.Wf) (a p : Int) : U (regV R a p) := by
  unfold regV; split
  · split
    · exact tgtI_bd _ (rawV_bd R h _ _)
    · exact rawV_bd R h _ _
  · exact U0
theorem setR_wf (R : Reg) (h : R.Wf) (a p v : Int) (hv : U v) : (setR R a p v).Wf := by
  obtain ⟨h1, h2, h3, h4, h5, h6, h7, h8, h9⟩ := h
  unfold setR; repeat' split
  all_goals exact ⟨by assumption, by assumption, by assumption, by assumption, by assumption, by assumption, by assumption, by assumption, by assumption⟩
theorem keepI_bd (p v : Int) (h : U v) : U (keepI p v) := by
  unfold keepI stI tsI U at *; repeat' split
  all_goals omega
theorem misI_bd (va c : Int) (h : U va) (h0 : 0 ≤ c) (h1 : c ≤ 8191) : U (misI va c) := by unfold misI U at *; omega
theorem fauI_bd (was k a : Int) (st pr : Bool) (h0 : 0 ≤ k) (h1 : k ≤ 127) (h2 : 0 ≤ a) (h3 : a ≤ 255) : U (fauI was k a st pr) := by
  unfold fauI U; cases st <;> cases pr <;> simp <;> omega
theorem misE_zero {u c : Int} (h : misE u c = 0) : (u = 0 ∨ u = 1) ∧ 0 ≤ c ∧ c ≤ 8191 := by
  unfold misE at h; split at h
  · rename_i h1; simpa [uB] using h1
  · omega
theorem fauE_zero {u k a : Int} (h : fauE u k a = 0) : (u = 0 ∨ u = 1) ∧ 0 ≤ k ∧ k ≤ 127 ∧ 0 ≤ a ∧ a ≤ 255 := by
  unfold fauE at h; split at h
  · rename_i h1; simpa [uB] using h1
  · omega
theorem wrR_wf (R : Reg) (h : R.Wf) (a p v : Int) (hv : U v) : (wrR R a p v).Wf := by
  unfold wrR; split
  · exact setR_wf R h _ _ _ (keepI_bd _ _ hv)
  · exact h
theorem misR_wf (R : Reg) (h : R.Wf) (u va c : Int) (hv : U va) : (misR R u va c).Wf := by
  unfold misR; split
  · rename_i h1; obtain ⟨_, h2, h3⟩ := misE_zero h1; exact setR_wf R h _ _ _ (misI_bd _ _ hv h2 h3)
  · exact h
theorem fauR_wf (R : Reg) (h : R.Wf) (u k a : Int) (st pr : Bool) (va : Int) (hv : U va) : (fauR R u k a st pr va).Wf := by
  unfold fauR; split
  · rename_i h1; obtain ⟨_, h2, h3, h4, h5⟩ := fauE_zero h1
    split
    · exact setR_wf _ (setR_wf R h _ _ _ (fauI_bd _ _ _ _ _ h2 h3 h4 h5)) _ _ _ hv
    · exact setR_wf R h _ _ _ (fauI_bd _ _ _ _ _ h2 h3 h4 h5)
  · exact h
theorem cleR_wf (R : Reg) (h : R.Wf) (u : Int) : (cleR R u).Wf := by
  unfold cleR; split
  · exact setR_wf R h _ _ _ U0
  · exact h

/-- The nine keys. -/
def nineB (a p : Int) : Bool := decide ((a = 80 ∧ (p = 24 ∨ p = 40 ∨ p = 48)) ∨ (a = 88 ∧ (p = 8 ∨ p = 16 ∨ p = 24 ∨ p = 32 ∨ p = 40 ∨ p = 48)))
theorem place_cases (p : Int) : p = 8 ∨ p = 16 ∨ p = 24 ∨ p = 32 ∨ p = 40 ∨ p = 48 ∨ (p ≠ 8 ∧ p ≠ 16 ∧ p ≠ 24 ∧ p ≠ 32 ∧ p ≠ 40 ∧ p ≠ 48) := by omega
theorem space_cases (a : Int) : a = 80 ∨ a = 88 ∨ (a ≠ 80 ∧ a ≠ 88) := by omega
theorem rawV_set (R : Reg) (a p v : Int) (h : nineB a p = true) (a' p' : Int) : rawV (setR R a p v) a' p' = if a' = a ∧ p' = p then v else rawV R a' p' := by
  simp only [nineB, decide_eq_true_eq] at h
  rcases h with ⟨rfl, rfl | rfl | rfl⟩ | ⟨rfl, rfl | rfl | rfl | rfl | rfl | rfl⟩ <;> rcases space_cases a' with rfl | rfl | ⟨ha, hb⟩ <;> rcases place_cases p' with rfl | rfl | rfl | rfl | rfl | rfl | ⟨h1, h2, h3, h4, h5, h6⟩ <;> simp [rawV, setR, *]

/-! ### Words -/
theorem and_all (n : Nat) (f m : Nat) (hf : ∀ i, (f.testBit i) = (n.testBit i && m.testBit i)) : n &&& m = f := by
  apply Nat.eq_of_testBit_eq; intro i; rw [Nat.testBit_and, hf]
theorem dec_testBit (n k s i : Nat) : ((n / 2 ^ k % 2 ^ s) * 2 ^ k).testBit i = (decide (k ≤ i ∧ i < k + s) && n.testBit i) := by
  rw [Nat.mul_comm, Nat.testBit_two_pow_mul, Nat.testBit_mod_two_pow, Nat.testBit_div_two_pow]
  by_cases h : k ≤ i
  · rw [show i - k + k = i by omega]; simp [h]; congr 1; simp; omega
  · simp [h]
theorem keep_ctx (v : Int) (h : U v) : bits .and .u64 v 8191 = v % 8192 := by
  obtain ⟨n, rfl⟩ := Int.eq_ofNat_of_zero_le h.1
  rw [show (8191 : Int) = ((8191 : Nat) : Int) from rfl, bits_and_u64_nat _ _ (by have := h.2; omega) (by decide), show (8191 : Nat) = 2 ^ 13 - 1 from rfl, Nat.and_two_pow_sub_one_eq_mod]
  rfl
theorem mask_testBit (m n : Nat) (h : m < 2 ^ n) (q : Nat → Bool) (hq : ∀ i, i < n → m.testBit i = q i) (i : Nat) : m.testBit i = (decide (i < n) && q i) := by
  by_cases hi : i < n
  · rw [hq i hi]; simp [hi]
  · rw [Nat.testBit_lt_two_pow (Nat.lt_of_lt_of_le h (Nat.pow_le_pow_right (by decide) (by omega)))]; simp [hi]
theorem m_status (i : Nat) : (16728063 : Nat).testBit i = (decide (i < 24) && (decide (i < 14) || decide (16 ≤ i))) :=
  mask_testBit 16728063 24 (by decide) (fun i => decide (i < 14) || decide (16 ≤ i)) (by decide) i
theorem m_tsb (i : Nat) : (18446744073709547527 : Nat).testBit i = (decide (i < 64) && (decide (i < 3) || decide (12 ≤ i))) :=
  mask_testBit 18446744073709547527 64 (by decide) (fun i => decide (i < 3) || decide (12 ≤ i)) (by decide) i
theorem keep_status (v : Int) (h : U v) : bits .and .u64 v 16728063 = stI v := by
  obtain ⟨n, rfl⟩ := Int.eq_ofNat_of_zero_le h.1
  rw [show (16728063 : Int) = ((16728063 : Nat) : Int) from rfl, bits_and_u64_nat _ _ (by have := h.2; omega) (by decide)]
  rw [and_all n (n / 65536 % 256 * 65536 + n % 16384) 16728063 ?_]
  · unfold stI; omega
  · intro i
    rw [m_status]
    have e : n / 65536 % 256 * 65536 + n % 16384 = 2 ^ 14 * (n / 65536 % 256 * 4) + n % 2 ^ 14 := by omega
    rw [e, Nat.testBit_two_pow_mul_add _ (Nat.mod_lt _ (by decide)), Nat.testBit_mod_two_pow]
    have e2 : n / 65536 % 256 * 4 = n / 2 ^ 16 % 2 ^ 8 * 2 ^ 2 := by omega
    rw [e2, Nat.mul_comm, Nat.testBit_two_pow_mul, Nat.testBit_mod_two_pow, Nat.testBit_div_two_pow]
    by_cases h1 : i < 14
    · rw [if_pos h1]; simp [h1]; omega
    · rw [if_neg h1]
      by_cases h2 : 16 ≤ i
      · have e3 : i - 14 - 2 + 16 = i := by omega
        rw [e3]
        have e4 : decide (2 ≤ i - 14) = true := decide_eq_true (by omega)
        by_cases h3 : i < 24
        · have e5 : decide (i - 14 - 2 < 8) = true := decide_eq_true (by omega)
          simp [h1, h2, h3, e4, e5]
        · have e5 : decide (i - 14 - 2 < 8) = false := decide_eq_false (by omega)
          simp [h1, h2, h3, e4, e5]
      · simp [h1, h2]; intro h4; omega
theorem keep_tsb (v : Int) (h : U v) : bits .and .u64 v 18446744073709547527 = tsI v := by
  obtain ⟨n, rfl⟩ := Int.eq_ofNat_of_zero_le h.1
  have hn : n < 18446744073709551616 := by have := h.2; omega
  rw [show (18446744073709547527 : Int) = ((18446744073709547527 : Nat) : Int) from rfl, bits_and_u64_nat _ _ hn (by decide)]
  rw [and_all n (n / 4096 * 4096 + n % 8) 18446744073709547527 ?_]
  · unfold tsI; omega
  · intro i
    rw [m_tsb]
    have e : n / 4096 * 4096 + n % 8 = 2 ^ 3 * (n / 4096 * 512) + n % 2 ^ 3 := by omega
    rw [e, Nat.testBit_two_pow_mul_add _ (Nat.mod_lt _ (by decide)), Nat.testBit_mod_two_pow]
    have e2 : n / 4096 * 512 = n / 2 ^ 12 * 2 ^ 9 := by rw [show (2 : Nat) ^ 12 = 4096 from rfl, show (2 : Nat) ^ 9 = 512 from rfl]
    rw [e2, Nat.mul_comm, Nat.testBit_two_pow_mul, Nat.testBit_div_two_pow]
    by_cases h1 : i < 3
    · rw [if_pos h1]; simp [h1]; omega
    · rw [if_neg h1]
      by_cases h2 : 12 ≤ i
      · have e3 : i - 3 - 9 + 12 = i := by omega
        rw [e3]
        by_cases h3 : i < 64
        · simp [h1, h2, h3]; omega
        · have h5 := testBit_hi hn (show 64 ≤ i by omega)
          simp [h1, h3, h5]
      · simp [h1, h2]; intro h4; omega
theorem keep_all (v : Int) (h : U v) : bits .and .u64 v 18446744073709551615 = v := by
  obtain ⟨n, rfl⟩ := Int.eq_ofNat_of_zero_le h.1
  have hn : n < 18446744073709551616 := by have := h.2; omega
  rw [show (18446744073709551615 : Int) = ((18446744073709551615 : Nat) : Int) from rfl, bits_and_u64_nat _ _ hn (by decide), show (18446744073709551615 : Nat) = 2 ^ 64 - 1 from rfl, Nat.and_two_pow_sub_one_eq_mod, Nat.mod_eq_of_lt hn]

/-- A number put into an empty field is added. -/
theorem put_add (x v : Int) (p s : Nat) (hx : U x) (v0 : 0 ≤ v) (hv : v < 2 ^ s) (hs : 1 ≤ s) (hp : p + s ≤ 64) (he : ∀ i, p ≤ i → i < p + s → x.toNat.testBit i = false) : putI x p s v = x + v * 2 ^ p := by
  obtain ⟨n, rfl⟩ := Int.eq_ofNat_of_zero_le hx.1
  obtain ⟨m, rfl⟩ := Int.eq_ofNat_of_zero_le v0
  have hm : m < 2 ^ s := by exact_mod_cast hv
  have hn : n < 18446744073709551616 := by have := hx.2; omega
  rw [putI_of (mayB_mk (by omega))]
  simp only [Int.toNat_natCast] at he ⊢
  have hm2 : m * 2 ^ p < 2 ^ 64 := Nat.lt_of_lt_of_le ((Nat.mul_lt_mul_right (Nat.two_pow_pos p)).2 hm) (by rw [← Nat.pow_add]; exact Nat.pow_le_pow_right (by decide) (by omega))
  have hb : ∀ i, (m * 2 ^ p).testBit i = (decide (p ≤ i) && m.testBit (i - p)) := fun i => by rw [Nat.mul_comm, Nat.testBit_two_pow_mul]
  have hmb : ∀ i, s ≤ i → m.testBit i = false := fun i hi => Nat.testBit_lt_two_pow (Nat.lt_of_lt_of_le hm (Nat.pow_le_pow_right (by decide) hi))
  have e : putN n p s m = ob (fun i => n.testBit i || (m * 2 ^ p).testBit i) 64 := by
    unfold putN
    refine ob_ext fun i hi => ?_
    rw [hb]
    by_cases h1 : p ≤ i ∧ i < p + s
    · rw [he i h1.1 h1.2]; simp [inF, h1]
    · simp only [inF, h1, decide_false]
      by_cases h2 : p ≤ i
      · rw [hmb _ (by omega)]; simp
      · simp [h2]
  have e2 := ob_add n.testBit (m * 2 ^ p).testBit 64 (fun i => by
    rw [hb]
    by_cases h1 : p ≤ i ∧ i < p + s
    · left; exact he i h1.1 h1.2
    · right
      by_cases h2 : p ≤ i
      · rw [hmb _ (by omega)]; simp
      · simp [h2])
  rw [ob_self (show n < 2 ^ 64 from hn), ob_self hm2] at e2
  rw [e, ← e2]; push_cast; rfl
end Go.Proofs.YtohcmijgakijfaaDoor.Rg
