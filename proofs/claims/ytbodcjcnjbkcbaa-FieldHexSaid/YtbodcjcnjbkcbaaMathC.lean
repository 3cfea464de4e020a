/-
  Plain facts on signs of words, and words of signs; no Go text is named here. Conditions: none.
-/
import Derived.Test.YtbodcjcnjbkcbaaMathB
namespace Go.Proofs.Ytbodcjcnjbkcbaa.Fld

/-- Whether a number is a sign's, and which number it stands for. -/
def numB (r : Int) : Bool := decide ((48 ≤ r ∧ r ≤ 57) ∨ (97 ≤ r ∧ r ≤ 102))
def numI (r : Int) : Int := if 48 ≤ r ∧ r ≤ 57 then r - 48 else if 97 ≤ r ∧ r ≤ 102 then r - 87 else 0
def sgnI (k : Nat) : Int := ((signOf (k : Int)).toNat : Int)
theorem sgnI_eq (k : Nat) (h : k < 16) : sgnI k = if k < 10 then 48 + (k : Int) else 87 + (k : Int) := by
  unfold sgnI; split
  · exact signOf_lo _ (by omega) (by omega)
  · exact signOf_hi _ (by omega) (by omega)
theorem sgn_found (k : Nat) (h : k < 16) : numB (sgnI k) = true ∧ numI (sgnI k) = (k : Int) := by
  rw [sgnI_eq k h]; unfold numB numI
  split
  · refine ⟨?_, ?_⟩
    · rw [decide_eq_true_eq]; omega
    · rw [if_pos (by omega)]; omega
  · refine ⟨?_, ?_⟩
    · rw [decide_eq_true_eq]; omega
    · rw [if_neg (by omega), if_pos (by omega)]; omega
theorem sgn_none (r : Int) (h : ∀ k, k < 16 → sgnI k ≠ r) : numB r = false ∧ numI r = 0 := by
  have h1 : ¬ (48 ≤ r ∧ r ≤ 57) := by
    intro hr
    have := h (r - 48).toNat (by omega)
    rw [sgnI_eq _ (by omega), if_pos (by omega)] at this; omega
  have h2 : ¬ (97 ≤ r ∧ r ≤ 102) := by
    intro hr
    have := h (r - 87).toNat (by omega)
    rw [sgnI_eq _ (by omega), if_neg (by omega)] at this; omega
  unfold numB numI; refine ⟨?_, ?_⟩
  · rw [decide_eq_false_iff_not]; omega
  · rw [if_neg h1, if_neg h2]
theorem numI_bd (r : Int) : 0 ≤ numI r ∧ numI r ≤ 15 := by
  unfold numI; split
  · omega
  · split <;> omega

/-- The word of the first k signs of a list of bytes. -/
def accL (l : List UInt8) (k : Nat) : Int := (l.take k).foldl (fun a b => 16 * a + numI (b.toNat : Int)) 0
theorem accL_zero (l : List UInt8) : accL l 0 = 0 := rfl
theorem accL_succ (l : List UInt8) (k : Nat) (h : k < l.length) : accL l (k + 1) = 16 * accL l k + numI ((l[k]).toNat : Int) := by
  unfold accL; rw [List.take_succ_eq_append_getElem h, List.foldl_append]; rfl
theorem accL_bd (l : List UInt8) (k : Nat) : 0 ≤ accL l k ∧ accL l k < 16 ^ k := by
  induction k with
  | zero => simp [accL]
  | succ k ih =>
    by_cases h : k < l.length
    · rw [accL_succ l k h]
      have := numI_bd ((l[k]).toNat : Int)
      have e : (16 : Int) ^ (k + 1) = 16 * 16 ^ k := by rw [Int.pow_succ]; omega
      rw [e]; omega
    · have e : accL l (k + 1) = accL l k := by
        unfold accL; rw [List.take_of_length_le (by omega), List.take_of_length_le (by omega)]
      have e2 : (16 : Int) ^ (k + 1) = 16 * 16 ^ k := by rw [Int.pow_succ]; omega
      rw [e, e2]
      have : (0 : Int) < 16 ^ k := Int.pow_pos (by decide)
      omega
theorem accL_bd16 (l : List UInt8) (k : Nat) (h : k < 16) : 0 ≤ accL l k ∧ accL l k ≤ 1152921504606846975 := by
  have h1 := accL_bd l k
  have h2 : (16 : Int) ^ k ≤ 16 ^ 15 := by
    have : (16 : Nat) ^ k ≤ 16 ^ 15 := Nat.pow_le_pow_right (by decide) (by omega)
    have e : ((16 ^ k : Nat) : Int) ≤ ((16 ^ 15 : Nat) : Int) := by omega
    simpa using e
  have h3 : (16 : Int) ^ 15 = 1152921504606846976 := by decide
  omega
theorem accL_bd17 (l : List UInt8) : 0 ≤ accL l 16 ∧ accL l 16 ≤ 18446744073709551615 := by
  have h1 := accL_bd l 16
  have h3 : (16 : Int) ^ 16 = 18446744073709551616 := by decide
  omega

def signsB (l : List UInt8) (k : Nat) : Bool := (l.take k).all (fun b => numB (b.toNat : Int))
theorem signsB_succ (l : List UInt8) (k : Nat) (h : k < l.length) : signsB l (k + 1) = (signsB l k && numB ((l[k]).toNat : Int)) := by
  unfold signsB; rw [List.take_succ_eq_append_getElem h, List.all_append]; simp
/-- Whether a text is a word's, and which word's. -/
def readB (s : ByteArray) : Bool := decide (s.size = 16) && signsB s.data.toList 16
def readI (s : ByteArray) : Int := if readB s then accL s.data.toList 16 else 0

/-! ### A word's signs are read as the word -/
theorem get4 (x p : Int) (h0 : 0 ≤ x) (hp0 : 0 ≤ p) (hp1 : p ≤ 60) : getI x p 4 = x / 2 ^ p.toNat % 16 := by
  have hm : mayB p 4 = true := mayB_mk (by omega)
  rw [getI_of hm, ← get_eq, show Int.toNat 4 = 4 from rfl, Nat.and_two_pow_sub_one_eq_mod]
  obtain ⟨a, rfl⟩ := Int.eq_ofNat_of_zero_le h0
  rw [Int.toNat_natCast, cast_pow]; simp
theorem signOf_num (n : Int) (h0 : 0 ≤ n) (h1 : n ≤ 15) : numB ((signOf n).toNat : Int) = true ∧ numI ((signOf n).toNat : Int) = n := by
  obtain ⟨k, rfl⟩ := Int.eq_ofNat_of_zero_le h0
  have := sgn_found k (by omega)
  exact this
theorem hexL_get (x : Int) (n k : Nat) (h : k < (hexL x n).length) : (hexL x n)[k] = hexAt x k := by simp [hexL]
theorem pow_split (x : Int) (k : Nat) (h : k < 16) : x / 2 ^ (64 - 4 * (k + 1)) = 16 * (x / 2 ^ (64 - 4 * k)) + x / 2 ^ (60 - 4 * k) % 16 := by
  have e1 : 64 - 4 * (k + 1) = 60 - 4 * k := by omega
  have e2 : 64 - 4 * k = (60 - 4 * k) + 4 := by omega
  rw [e1, e2, Int.pow_add, ← Int.ediv_ediv_of_nonneg (Int.le_of_lt (Int.pow_pos (by decide)))]
  have : (2 : Int) ^ 4 = 16 := by decide
  rw [this]; omega
theorem accL_hex (x : Int) (h0 : 0 ≤ x) (h1 : x ≤ 18446744073709551615) (k : Nat) (hk : k ≤ 16) : accL (hexL x 16) k = x / 2 ^ (64 - 4 * k) := by
  induction k with
  | zero =>
    rw [accL_zero, Nat.mul_zero, Nat.sub_zero]
    exact (Int.ediv_eq_zero_of_lt h0 (by omega)).symm
  | succ k ih =>
    rw [accL_succ _ _ (by rw [hexL_length]; omega), hexL_get, ih (by omega), pow_split x k (by omega)]
    have h := get4_bd x (60 - 4 * (k : Int))
    unfold hexAt
    rw [(signOf_num _ h.1 h.2).2, get4 x _ h0 (by omega) (by omega), show (60 - 4 * (k : Int)).toNat = 60 - 4 * k by omega]
theorem signsB_hex (x : Int) (k : Nat) (hk : k ≤ 16) : signsB (hexL x 16) k = true := by
  induction k with
  | zero => rfl
  | succ k ih =>
    rw [signsB_succ _ _ (by rw [hexL_length]; omega), ih (by omega), hexL_get]
    have h := get4_bd x (60 - 4 * (k : Int))
    unfold hexAt; rw [(signOf_num _ h.1 h.2).1]; rfl
theorem read_hex (x : Int) (h0 : 0 ≤ x) (h1 : x ≤ 18446744073709551615) : readB (hexS x) = true ∧ readI (hexS x) = x := by
  have e : (hexS x).data.toList = hexL x 16 := by simp [hexS]
  have e1 : (hexS x).size = 16 := by
    show (hexS x).data.size = 16
    simp [hexS, hexL_length]
  have h : readB (hexS x) = true := by unfold readB; rw [e, e1, signsB_hex x 16 (by omega)]; rfl
  refine ⟨h, ?_⟩
  unfold readI; rw [if_pos h, e, accL_hex x h0 h1 16 (by omega)]
  simp

/-! ### A text that is read is the word's signs -/
theorem sign_back (b : UInt8) (h : numB (b.toNat : Int) = true) : signOf (numI (b.toNat : Int)) = b := by
  unfold numB at h; rw [decide_eq_true_eq] at h
  apply UInt8.toNat_inj.1
  have hb := numI_bd (b.toNat : Int)
  rcases h with h | h
  · have e : numI (b.toNat : Int) = (b.toNat : Int) - 48 := by unfold numI; rw [if_pos h]
    have := signOf_lo (numI (b.toNat : Int)) hb.1 (by omega); omega
  · have e : numI (b.toNat : Int) = (b.toNat : Int) - 87 := by unfold numI; rw [if_neg (by omega), if_pos h]
    have := signOf_hi (numI (b.toNat : Int)) (by omega) hb.2; omega
theorem accL_digit (l : List UInt8) (n : Nat) (hn : n ≤ l.length) (j : Nat) (hj : j < n) : accL l n / 16 ^ (n - 1 - j) % 16 = numI ((l[j]'(by omega)).toNat : Int) := by
  induction n with
  | zero => omega
  | succ n ih =>
    rw [accL_succ l n (by omega)]
    have hb := numI_bd ((l[n]'(by omega)).toNat : Int)
    by_cases e : j = n
    · subst e
      rw [show j + 1 - 1 - j = 0 by omega]; simp; omega
    · have := ih (by omega) (by omega)
      rw [← this, show n + 1 - 1 - j = 1 + (n - 1 - j) by omega, Int.pow_add, ← Int.ediv_ediv_of_nonneg (by decide)]
      congr 2
      simp; omega
theorem hex_read (s : ByteArray) (h : readB s = true) : hexS (readI s) = s := by
  have hr : readI s = accL s.data.toList 16 := by unfold readI; rw [if_pos h]
  unfold readB at h
  rw [Bool.and_eq_true, decide_eq_true_eq] at h
  obtain ⟨hs, hl⟩ := h
  have hlen : s.data.toList.length = 16 := by simpa using hs
  have hb := accL_bd17 s.data.toList
  rw [hr]
  have e : hexL (accL s.data.toList 16) 16 = s.data.toList := by
    apply List.ext_getElem
    · rw [hexL_length, hlen]
    · intro j hj1 hj2
      rw [hexL_get]
      unfold hexAt
      rw [hexL_length] at hj1
      rw [get4 _ _ hb.1 (by omega) (by omega)]
      have hp : (2 : Int) ^ (60 - 4 * (j : Int)).toNat = 16 ^ (16 - 1 - j) := by
        rw [show (60 - 4 * (j : Int)).toNat = 4 * (16 - 1 - j) by omega, Int.pow_mul]; rfl
      rw [hp, accL_digit s.data.toList 16 (by omega) j hj1]
      apply sign_back
      unfold signsB at hl
      rw [List.take_of_length_le (by omega), List.all_eq_true] at hl
      exact hl _ (List.getElem_mem hj2)
  unfold hexS; rw [e]
/-! ### What the document makes of any bytes -/
def digD (b : Int) : Int := (if 97 ≤ b then b - 87 else b - 48) % 16
theorem digD_hi (b : Int) (h : 97 ≤ b) : (b - 87) % 16 = digD b := by unfold digD; rw [if_pos h]
theorem digD_mid (b : Int) (h : b < 97) : (b - 48) % 16 = digD b := by unfold digD; rw [if_neg (by omega)]
theorem digD_lo (b : Int) (h : b < 97) : IntKind.u64.wrap (b - 48) % 16 = digD b := by
  rw [← digD_mid b h, IntKind.wrap_u64]; omega
theorem digD_bd (b : Int) : 0 ≤ digD b ∧ digD b ≤ 15 := by unfold digD; omega
theorem digD_num (b : Int) (h : numB b = true) : digD b = numI b := by
  unfold numB at h; rw [decide_eq_true_eq] at h
  unfold digD numI
  rcases h with h | h
  · rw [if_neg (by omega), if_pos h]; omega
  · rw [if_pos (by omega), if_neg (by omega), if_pos h]; omega
def accD (l : List UInt8) (k : Nat) : Int := (l.take k).foldl (fun a b => 16 * a + digD (b.toNat : Int)) 0
theorem accD_zero (l : List UInt8) : accD l 0 = 0 := rfl
theorem accD_succ (l : List UInt8) (k : Nat) (h : k < l.length) : accD l (k + 1) = 16 * accD l k + digD ((l[k]).toNat : Int) := by
  unfold accD; rw [List.take_succ_eq_append_getElem h, List.foldl_append]; rfl
theorem accD_over (l : List UInt8) (k : Nat) (h : l.length ≤ k) : accD l k = accD l l.length := by
  unfold accD; rw [List.take_of_length_le h, List.take_of_length_le (Nat.le_refl _)]
theorem accD_bd (l : List UInt8) (k : Nat) : 0 ≤ accD l k ∧ accD l k < 16 ^ k := by
  induction k with
  | zero => simp [accD]
  | succ k ih =>
    have e2 : (16 : Int) ^ (k + 1) = 16 * 16 ^ k := by rw [Int.pow_succ]; omega
    by_cases h : k < l.length
    · rw [accD_succ l k h, e2]
      have := digD_bd ((l[k]).toNat : Int)
      omega
    · have e : accD l (k + 1) = accD l k := by rw [accD_over l (k + 1) (by omega), accD_over l k (by omega)]
      rw [e, e2]
      have : (0 : Int) < 16 ^ k := Int.pow_pos (by decide)
      omega
theorem accD_bd16 (l : List UInt8) (k : Nat) (h : k < 16) : 0 ≤ accD l k ∧ accD l k ≤ 1152921504606846975 := by
  have h1 := accD_bd l k
  have h2 : (16 : Int) ^ k ≤ 16 ^ 15 := by
    have : (16 : Nat) ^ k ≤ 16 ^ 15 := Nat.pow_le_pow_right (by decide) (by omega)
    have e : ((16 ^ k : Nat) : Int) ≤ ((16 ^ 15 : Nat) : Int) := by omega
    simpa using e
  have h3 : (16 : Int) ^ 15 = 1152921504606846976 := by decide
  omega
theorem accD_bd17 (l : List UInt8) (k : Nat) (h : k ≤ 16) : 0 ≤ accD l k ∧ accD l k ≤ 18446744073709551615 := by
  have h1 := accD_bd l k
  have h2 : (16 : Int) ^ k ≤ 16 ^ 16 := by
    have : (16 : Nat) ^ k ≤ 16 ^ 16 := Nat.pow_le_pow_right (by decide) h
    have e : ((16 ^ k : Nat) : Int) ≤ ((16 ^ 16 : Nat) : Int) := by omega
    simpa using e
  have h3 : (16 : Int) ^ 16 = 18446744073709551616 := by decide
  omega
theorem accD_signs (l : List UInt8) (k : Nat) (hk : k ≤ l.length) (h : signsB l k = true) : accD l k = accL l k := by
  induction k with
  | zero => rfl
  | succ k ih =>
    rw [signsB_succ l k (by omega), Bool.and_eq_true] at h
    rw [accD_succ l k (by omega), accL_succ l k (by omega), ih (by omega) h.1, digD_num _ h.2]
/-- The document's word of a text, of its first bytes, at most 16. -/
def wordD (s : ByteArray) : Int := accD s.data.toList (min s.size 16)
theorem wordD_bd (s : ByteArray) : 0 ≤ wordD s ∧ wordD s ≤ 18446744073709551615 := accD_bd17 _ _ (by omega)
theorem wordD_read (s : ByteArray) (h : readB s = true) : wordD s = readI s := by
  have hr : readI s = accL s.data.toList 16 := by unfold readI; rw [if_pos h]
  unfold readB at h
  rw [Bool.and_eq_true, decide_eq_true_eq] at h
  have hlen : s.data.toList.length = 16 := by simpa using h.1
  unfold wordD
  rw [hr, h.1]
  exact accD_signs _ 16 (by omega) h.2
/-- What the document reads: the word of whatever bytes, if its signs are the text. -/
theorem read_doc (s : ByteArray) (x : Int) (h0 : 0 ≤ x) (h1 : x ≤ 18446744073709551615) (hx : readB s = true → x = readI s) : (hexS x = s ↔ readB s = true) ∧ (hexS x = s → readI s = x) := by
  constructor
  · constructor
    · intro e; rw [← e]; exact (read_hex x h0 h1).1
    · intro h; rw [hx h]; exact hex_read s h
  · intro e; rw [← e]; exact (read_hex x h0 h1).2
theorem read_docD (s : ByteArray) : (hexS (wordD s) = s ↔ readB s = true) ∧ (hexS (wordD s) = s → readI s = wordD s) :=
  read_doc s (wordD s) (wordD_bd s).1 (wordD_bd s).2 (fun h => wordD_read s h)
theorem readI_no (s : ByteArray) (h : readB s = false) : readI s = 0 := by unfold readI; rw [h]; rfl
end Go.Proofs.Ytbodcjcnjbkcbaa.Fld
