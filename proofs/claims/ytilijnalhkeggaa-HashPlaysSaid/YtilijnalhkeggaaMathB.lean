/-
  Plain facts on fields that the laws of layer 1 ask for; no Go text is named here. Conditions: none.
-/
import Derived.Test.YtilijnalhkeggaaMath
import Derived.KernelRfl
import Derived.Below
namespace Go.Proofs.Ytilijnalhkeggaa.Fld
/-- The word of all bits. -/
def allOnes : Int := 18446744073709551615
theorem allOnes_bit (i : Nat) (h : i < 64) : allOnes.toNat.testBit i = true := by
  have e : allOnes.toNat = 2 ^ 64 - 1 := by decide
  rw [e, Nat.testBit_two_pow_sub_one]; simpa using h
theorem mask_put' (p s : Int) : maskI p s = putI 0 p s allOnes := by
  unfold maskI putI
  split
  · rename_i hm
    have hm' := mayB_true hm
    congr 1
    apply Nat.eq_of_testBit_eq; intro i
    rw [maskN_testBit, putN_testBit]
    by_cases hi : i < 64
    · cases h : inF p.toNat s.toNat i
      · simp
      · have h2 : i - p.toNat < 64 := by omega
        rw [if_pos rfl, allOnes_bit _ h2]
    · simp [hi]
  · rfl
theorem mask_put (p s : Int) : maskI p s = putI 0 p s 18446744073709551615 := mask_put' p s

theorem may_zero {p s : Int} (hm : mayB p s = true) : mayB 0 s = true := mayB_mk (by have := mayB_true hm; omega)
theorem getI_of {x p s : Int} (hm : mayB p s = true) : getI x p s = ((getN x.toNat p.toNat s.toNat : Nat) : Int) := by unfold getI; rw [if_pos hm]
theorem putI_of {x p s v : Int} (hm : mayB p s = true) : putI x p s v = ((putN x.toNat p.toNat s.toNat v.toNat : Nat) : Int) := by unfold putI; rw [if_pos hm]
theorem maskI_of {p s : Int} (hm : mayB p s = true) : maskI p s = ((maskN p.toNat s.toNat : Nat) : Int) := by unfold maskI; rw [if_pos hm]
theorem inF_add {p s i : Nat} (h : i < s) : inF p s (p + i) = true := by simp [inF]; omega

theorem getI_put (x p s v : Int) (hm : mayB p s = true) : getI (putI x p s v) p s = getI v 0 s := by
  have hm' := mayB_true hm
  rw [getI_of hm, putI_of hm, getI_of (may_zero hm)]
  congr 1
  apply Nat.eq_of_testBit_eq; intro i
  rw [getN_testBit, getN_testBit, Int.toNat_natCast, putN_testBit]
  by_cases hi : i < s.toNat
  · have h1 : p.toNat + i < 64 := by omega
    simp [hi, inF_add hi, h1]
  · simp [hi]
theorem getI_put_far (x p s q t v : Int) (hm : mayB p s = true) (hq : mayB q t = true) (h : p + s ≤ q ∨ q + t ≤ p) : getI (putI x q t v) p s = getI x p s := by
  have hm' := mayB_true hm
  have hq' := mayB_true hq
  rw [getI_of hm, putI_of hq, getI_of hm]
  congr 1
  apply Nat.eq_of_testBit_eq; intro i
  rw [getN_testBit, getN_testBit, Int.toNat_natCast, putN_testBit]
  by_cases hi : i < s.toNat
  · have h1 : p.toNat + i < 64 := by omega
    have h2 : inF q.toNat t.toNat (p.toNat + i) = false := by simp only [inF, decide_eq_false_iff_not]; omega
    simp [hi, h1, h2]
  · simp [hi]
theorem putI_comm (x p s q t u v : Int) (hm : mayB p s = true) (hq : mayB q t = true) (h : p + s ≤ q ∨ q + t ≤ p) : putI (putI x p s u) q t v = putI (putI x q t v) p s u := by
  have hm' := mayB_true hm
  have hq' := mayB_true hq
  rw [putI_of hm, putI_of hq, putI_of hq, putI_of hm]
  congr 1
  apply Nat.eq_of_testBit_eq; intro i
  rw [putN_testBit, putN_testBit, Int.toNat_natCast, Int.toNat_natCast, putN_testBit, putN_testBit]
  by_cases hi : i < 64
  · cases h1 : inF p.toNat s.toNat i
    · simp [hi]
    · have h2 : inF q.toNat t.toNat i = false := by
        simp only [inF, decide_eq_true_eq, decide_eq_false_iff_not] at h1 ⊢; omega
      simp [hi, h2]
  · simp [hi]
theorem putI_put (x p s u v : Int) (hm : mayB p s = true) : putI (putI x p s u) p s v = putI x p s v := by
  rw [putI_of hm, putI_of hm, putI_of hm]
  congr 1
  apply Nat.eq_of_testBit_eq; intro i
  rw [putN_testBit, putN_testBit, Int.toNat_natCast, putN_testBit]
  by_cases hi : i < 64
  · cases h1 : inF p.toNat s.toNat i <;> simp [hi]
  · simp [hi]
theorem putI_get (x p s : Int) (h0 : 0 ≤ x) (h1 : x ≤ 18446744073709551615) (hm : mayB p s = true) : putI x p s (getI x p s) = x := by
  have hm' := mayB_true hm
  rw [getI_of hm, putI_of hm, Int.toNat_natCast]
  have e : putN x.toNat p.toNat s.toNat (getN x.toNat p.toNat s.toNat) = x.toNat := by
    apply Nat.eq_of_testBit_eq; intro i
    rw [putN_testBit, getN_testBit]
    by_cases hi : i < 64
    · cases h2 : inF p.toNat s.toNat i
      · simp [hi]
      · simp only [inF, decide_eq_true_eq] at h2
        have h3 : i - p.toNat < s.toNat := by omega
        have h4 : p.toNat + (i - p.toNat) = i := by omega
        simp [hi, h3, h4]
    · simp only [hi, decide_false, Bool.false_and]
      exact (testBit_hi (by omega) (by omega)).symm
  rw [e]; omega
theorem putI_get' (x p s v : Int) (h0 : 0 ≤ x) (h1 : x ≤ 18446744073709551615) (hm : mayB p s = true) : putI (putI x p s v) p s (getI (putI x p s v) p s) = putI x p s v :=
  putI_get _ p s (putI_bd x p s v h0 h1).1 (putI_bd x p s v h0 h1).2 hm
theorem fits_get (x p s : Int) (hm : mayB p s = true) : fitsB (getI x p s) s = true := by
  have hm' := mayB_true hm
  unfold fitsB; rw [getI_of hm]
  have := getN_lt x.toNat p.toNat s.toNat
  simp only [Bool.and_eq_true, decide_eq_true_eq]
  rw [cast_pow]
  omega
theorem get_fits (v s : Int) (h0 : 0 ≤ v) (hf : fitsB v s = true) (hm : mayB 0 s = true) : getI v 0 s = v := by
  have hm' := mayB_true hm
  unfold fitsB at hf
  simp only [Bool.and_eq_true, decide_eq_true_eq] at hf
  rw [cast_pow] at hf
  rw [getI_of hm]
  have e : getN v.toNat (Int.toNat 0) s.toNat = v.toNat := by
    have : getN v.toNat (Int.toNat 0) s.toNat = ob v.toNat.testBit s.toNat := by simp [getN]
    rw [this, ob_self (by omega)]
  rw [e]; omega
theorem or_mask (x p s : Int) (h0 : 0 ≤ x) (h1 : x ≤ 18446744073709551615) (hm : mayB p s = true) : bits .or .u64 x (maskI p s) = putI x p s allOnes := by
  have hm' := mayB_true hm
  rw [putI_of hm, maskI_of hm]
  have hx : x = ((x.toNat : Nat) : Int) := by omega
  have h2 := maskN_lt p.toNat s.toNat
  conv => lhs; rw [hx]
  rw [bits_or_u64_nat _ _ (by omega) h2]
  congr 1
  apply Nat.eq_of_testBit_eq; intro i
  rw [Nat.testBit_or, maskN_testBit, putN_testBit]
  by_cases hi : i < 64
  · cases h : inF p.toNat s.toNat i
    · simp [hi]
    · rw [if_pos rfl, allOnes_bit _ (by omega)]; simp [hi]
  · simp only [hi, decide_false, Bool.false_and, Bool.or_false]
    exact testBit_hi (by omega) (by omega)
theorem ob_add (f g : Nat → Bool) (n : Nat) (h : ∀ i, f i = false ∨ g i = false) : ob f n + ob g n = ob (fun i => f i || g i) n := by
  induction n with
  | zero => rfl
  | succ n ih =>
    simp only [ob]; rw [← ih]
    rcases h n with e | e <;> rw [e] <;> simp <;> omega
theorem sub_and (a m : Nat) (ha : a < 18446744073709551616) : a - (a &&& m) = ob (fun i => a.testBit i && !m.testBit i) 64 := by
  have h1 : a &&& m = ob (fun i => a.testBit i && m.testBit i) 64 := by
    apply Nat.eq_of_testBit_eq; intro i
    rw [Nat.testBit_and, ob_testBit]
    by_cases hi : i < 64
    · simp [hi]
    · rw [testBit_hi ha (by omega)]; simp
  have h2 := ob_add (fun i => a.testBit i && m.testBit i) (fun i => a.testBit i && !m.testBit i) 64 (fun i => by cases m.testBit i <;> simp)
  have h3 : ob (fun i => (a.testBit i && m.testBit i) || (a.testBit i && !m.testBit i)) 64 = a := by
    rw [← ob_self (show a < 2 ^ 64 from ha)]
    rw [ob_self (show a < 2 ^ 64 from ha)]
    exact ob_ext (fun i _ => by cases a.testBit i <;> cases m.testBit i <;> rfl) |>.trans (ob_self (show a < 2 ^ 64 from ha))
  rw [h3] at h2
  omega
theorem none_mask (x p s : Int) (h0 : 0 ≤ x) (h1 : x ≤ 18446744073709551615) (hm : mayB p s = true) : IntKind.u64.wrap (x - bits .and .u64 x (maskI p s)) = putI x p s 0 := by
  have hm' := mayB_true hm
  rw [putI_of hm, maskI_of hm]
  have hx : x = ((x.toNat : Nat) : Int) := by omega
  have h2 := maskN_lt p.toNat s.toNat
  conv => lhs; rw [hx]
  rw [bits_and_u64_nat _ _ (by omega) h2, IntKind.wrap_u64]
  have h3 : x.toNat &&& maskN p.toNat s.toNat ≤ x.toNat := Nat.and_le_left
  have h4 := sub_and x.toNat (maskN p.toNat s.toNat) (by omega)
  have h5 : ob (fun i => x.toNat.testBit i && !(maskN p.toNat s.toNat).testBit i) 64 = putN x.toNat p.toNat s.toNat (Int.toNat 0) := by
    apply Nat.eq_of_testBit_eq; intro i
    rw [ob_testBit, maskN_testBit, putN_testBit]
    by_cases hi : i < 64
    · cases h : inF p.toNat s.toNat i <;> simp [hi]
    · simp [hi]
  rw [h5] at h4
  omega
theorem get_mask (p s : Int) (hm : mayB p s = true) : getI (maskI p s) p s = getI allOnes 0 s := by rw [mask_put', getI_put _ _ _ _ hm]
theorem get_one : getI 1 0 1 = 1 ∧ getI 0 0 1 = 0 := ⟨by kernel_rfl, by kernel_rfl⟩

/-- What the laws make of any integer: one below m, not below 0. -/
def nrm (a m : Int) : Int := if a < 0 then -((a + 1).tmod m) else a % m
theorem nrm_neg (a m : Int) (h : a < 0) : -((a + 1).tmod m) = nrm a m := by unfold nrm; rw [if_pos h]
theorem nrm_pos (a m : Int) (h : ¬ a < 0) : a % m = nrm a m := by unfold nrm; rw [if_neg h]
theorem nrm_bd (a m : Int) (hm : 0 < m) : 0 ≤ nrm a m ∧ nrm a m < m := by
  unfold nrm; split
  · rename_i h
    have h1 : -((a + 1).tmod m) = (-(a + 1)) % m := by rw [← Int.neg_tmod, Int.tmod_eq_emod_of_nonneg (by omega)]
    rw [h1]
    exact ⟨Int.emod_nonneg _ (by omega), Int.emod_lt_of_pos _ hm⟩
  · exact ⟨Int.emod_nonneg _ (by omega), Int.emod_lt_of_pos _ hm⟩
theorem nrm_or (a m : Int) : (RowKit.Hid (-((a + 1).tmod m) = nrm a m) ∧ a < 0) ∨ (RowKit.Hid (a % m = nrm a m) ∧ ¬ a < 0) := by
  by_cases h : a < 0
  · exact .inl ⟨nrm_neg a m h, h⟩
  · exact .inr ⟨nrm_pos a m h, h⟩
end Go.Proofs.Ytilijnalhkeggaa.Fld
