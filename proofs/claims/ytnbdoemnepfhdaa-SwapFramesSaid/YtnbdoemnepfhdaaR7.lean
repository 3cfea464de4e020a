/-
  Contracts and plain facts: TteB, LMath. Conditions: each says its own.
-/
import Derived.Test.YtnbdoemnepfhdaaR4
import Derived.Test.YtnbdoemnepfhdaaR6
import Derived.Test.YtnbdoemnepfhdaaR2
import Derived.Below
namespace Go.Proofs.Ytnbdoemnepfhdaa.Fld
open Go.ChangeShapes Go.WideShapes Go.ChangeAt Go.RowKit
set_option maxHeartbeats 400000
theorem wrap_u64 (x : Int) : 0 ≤ IntKind.u64.wrap x ∧ IntKind.u64.wrap x ≤ 18446744073709551615 ∧ IntKind.u64.wrap x % 8192 = x % 8192 := by
  have h : IntKind.u64.wrap x = x % 18446744073709551616 := by simp [IntKind.wrap, IntKind.signed, IntKind.bits]
  rw [h]; omega
theorem bad_ex : maskI 63 1 = 9223372036854775808 := by kernel_rfl
theorem tbad_any (w : World) :
    Calls Try.prog 47 #[] w fun r w' => r = .returned (.int .u64 9223372036854775807) ∧ w = w' := by
  have h := bad_ex
  go_enter Try.func47, Try.ntmps47
  go_wp2_with (go_at_call 29; refine (mask_any _ _ _).mono ?_; rintro e w' ⟨rfl, rfl⟩)
  go_ret
  exact ⟨rfl, rfl⟩
end Go.Proofs.Ytnbdoemnepfhdaa.Fld

namespace Go.Proofs.Ytnbdoemnepfhdaa.Tl
open Fld
/-- Whether two entries part. -/
def partsB (a b : Ent) : Bool := !meetB a.va a.size b.va b.size || (!a.att.global && !b.att.global && a.ctx != b.ctx)
def setE (T : Nat → Ent) (i : Nat) (e : Ent) : Nat → Ent := fun k => if k = i then e else T k
theorem setE_at (T : Nat → Ent) (i : Nat) (e : Ent) : setE T i e i = e := if_pos rfl
theorem setE_ne {T : Nat → Ent} {i k : Nat} {e : Ent} (h : k ≠ i) : setE T i e k = T k := if_neg h
/-- The first of n places of which a thing is so; n, where there is none. -/
def fst (T : Nat → Ent) (p : Ent → Bool) : Nat → Nat
  | 0 => 0
  | n + 1 => if fst T p n < n then fst T p n else if p (T n) then n else n + 1
theorem fst_spec (T : Nat → Ent) (p : Ent → Bool) (n : Nat) : fst T p n ≤ n ∧ (∀ k, k < fst T p n → p (T k) = false) ∧ (fst T p n < n → p (T (fst T p n)) = true) := by
  induction n with
  | zero => exact ⟨Nat.le_refl _, fun k hk => absurd hk (Nat.not_lt_zero k), fun h => absurd h (Nat.not_lt_zero 0)⟩
  | succ n ih =>
    obtain ⟨a, b, c⟩ := ih
    unfold fst
    by_cases h : fst T p n < n
    · rw [if_pos h]; exact ⟨by omega, b, fun _ => c h⟩
    · rw [if_neg h]
      have e : fst T p n = n := by omega
      rw [e] at b
      cases hp : p (T n)
      · rw [if_neg (by decide)]
        refine ⟨Nat.le_refl _, fun k hk => ?_, fun h => by omega⟩
        by_cases ek : k = n
        · rw [ek]; exact hp
        · exact b k (by omega)
      · rw [if_pos rfl]; exact ⟨by omega, b, fun _ => hp⟩
theorem fst_eq {T : Nat → Ent} {p : Ent → Bool} {n i : Nat} (h1 : i ≤ n) (h2 : ∀ k, k < i → p (T k) = false) (h3 : i < n → p (T i) = true) : fst T p n = i := by
  obtain ⟨a, b, c⟩ := fst_spec T p n
  rcases Nat.lt_trichotomy (fst T p n) i with h | h | h
  · have := h2 _ h; rw [c (by omega)] at this; cases this
  · exact h
  · have := b _ h; rw [h3 (by omega)] at this; cases this
theorem fst_none {T : Nat → Ent} {p : Ent → Bool} {n : Nat} : fst T p n = n ↔ ∀ k, k < n → p (T k) = false :=
  ⟨fun h k hk => (fst_spec T p n).2.1 k (by omega), fun h => fst_eq (Nat.le_refl _) h (fun h => by omega)⟩
/-! ### What is found -/
/-! ### What is put -/
def hasB (n : Nat) (i : Int) : Bool := decide (0 ≤ i) && decide (i < n)
/-- What is in the way of an entry. -/
def wayB (e : Ent) (o : Ent) : Bool := !partsB e o
def putW (n : Nat) (T : Nat → Ent) (i : Int) (e : Ent) : Nat := fst (fun k => if (k : Int) = i then Ent.zero else T k) (fun o => o.valid && wayB e o) n
def putE (T : Nat → Ent) (n : Nat) (i : Int) (e : Ent) : Int := if e.mayB then if hasB n i then if putW n T i e < n then 9 else 0 else 5 else 1
def putT (T : Nat → Ent) (n : Nat) (i : Int) (e : Ent) : Nat → Ent := if putE T n i e = 0 then setE T i.toNat e else T
/-! ### What is inserted -/
/-! ### Well made places -/
structure Ok (T : Nat → Ent) (n : Nat) : Prop where
  wf : ∀ k, k < n → (T k).wf
  may : ∀ k, k < n → (T k).valid = true → (T k).mayB = true
  zero : ∀ k, k < n → (T k).valid = false → T k = Ent.zero
  part : ∀ i k, i < n → k < n → i ≠ k → (T i).valid = true → (T k).valid = true → partsB (T i) (T k) = true
theorem zero_wf : Ent.zero.wf := by unfold Ent.wf Ent.zero; simp
theorem Ok.new (n : Nat) : Ok (fun _ => Ent.zero) n := ⟨fun _ _ => zero_wf, fun _ _ h => (by cases h), fun _ _ _ => rfl, fun _ _ _ _ _ h => (by cases h)⟩
theorem meet_comm' (a s b t : Int) : meetB a s b t = meetB b t a s := by
  unfold meetB
  rw [Int.max_comm, Bool.and_comm (sizeB s)]
  congr 1
  unfold inB
  congr 1
  rw [decide_eq_decide]
  exact ⟨Eq.symm, Eq.symm⟩
theorem parts_comm (a b : Ent) : partsB a b = partsB b a := by
  unfold partsB
  rw [meet_comm', Bool.and_comm (!a.att.global), bne_comm]
theorem Ok.set {T : Nat → Ent} {n i : Nat} {e : Ent} (h : Ok T n) (hw : e.wf) (hm : e.mayB = true) (hp : ∀ k, k < n → k ≠ i → (T k).valid = true → partsB e (T k) = true) : Ok (setE T i e) n := by
  have hv : e.valid = true := by unfold Ent.mayB at hm; simp only [Bool.and_eq_true] at hm; exact hm.1.1.1.1.1.1.1
  refine ⟨fun k hk => ?_, fun k hk hv => ?_, fun k hk hv => ?_, fun a b ha hb hne ha2 hb2 => ?_⟩
  · by_cases hki : k = i
    · rw [hki, setE_at]; exact hw
    · rw [setE_ne hki]; exact h.wf k hk
  · by_cases hki : k = i
    · rw [hki, setE_at]; exact hm
    · rw [setE_ne hki] at hv ⊢; exact h.may k hk hv
  · by_cases hki : k = i
    · rw [hki, setE_at, ‹e.valid = true›] at hv; cases hv
    · rw [setE_ne hki] at hv ⊢; exact h.zero k hk hv
  · by_cases hai : a = i
    · have hbi : b ≠ i := fun e2 => hne (hai.trans e2.symm)
      rw [hai, setE_at, setE_ne hbi]; rw [setE_ne hbi] at hb2
      exact hp b hb hbi hb2
    · rw [setE_ne hai] at ha2 ⊢
      by_cases hbi : b = i
      · rw [hbi, setE_at, parts_comm]; exact hp a ha hai ha2
      · rw [setE_ne hbi] at hb2 ⊢; exact h.part a b ha hb hne ha2 hb2
theorem Ok.put {T : Nat → Ent} {n : Nat} (h : Ok T n) {e : Ent} (hw : e.wf) (i : Int) : Ok (putT T n i e) n := by
  unfold putT
  split
  · rename_i h0
    unfold putE at h0
    cases hm : e.mayB
    · rw [hm] at h0; cases h0
    · rw [hm] at h0
      cases hb : hasB n i
      · rw [hb] at h0; cases h0
      · rw [hb] at h0
        simp only [if_true] at h0
        have hn : putW n T i e = n := by
          by_cases hc : putW n T i e < n
          · rw [if_pos hc] at h0; cases h0
          · have := (fst_spec (fun k => if (k : Int) = i then Ent.zero else T k) (fun o => o.valid && wayB e o) n).1
            unfold putW at *; omega
        unfold hasB at hb
        simp only [Bool.and_eq_true, decide_eq_true_eq] at hb
        refine h.set hw hm fun k hk hne hv => ?_
        have := fst_none.1 hn k hk
        rw [if_neg (by omega), hv, Bool.true_and] at this
        simpa [wayB] using this
  · exact h
theorem Ok.clear {T : Nat → Ent} {n : Nat} (h : Ok T n) (i : Nat) : Ok (setE T i Ent.zero) n := by
  have hd : ∀ k, setE T i Ent.zero k = Ent.zero ∨ setE T i Ent.zero k = T k := fun k => by unfold setE; split; exact .inl rfl; exact .inr rfl
  have hv' : ∀ k, (setE T i Ent.zero k).valid = true → setE T i Ent.zero k = T k := fun k hv => by
    rcases hd k with e | e
    · rw [e] at hv; cases hv
    · exact e
  refine ⟨fun k hk => ?_, fun k hk hv => ?_, fun k hk hv => ?_, fun i k hi hk hne hi2 hk2 => ?_⟩
  · rcases hd k with e | e <;> rw [e]; exact zero_wf; exact h.wf k hk
  · have e := hv' k hv; rw [e] at hv ⊢; exact h.may k hk hv
  · rcases hd k with e | e
    · exact e
    · rw [e] at hv ⊢; exact h.zero k hk hv
  · have e1 := hv' _ hi2; have e2 := hv' _ hk2
    rw [e1] at hi2 ⊢; rw [e2] at hk2 ⊢
    exact h.part _ _ hi hk hne hi2 hk2
end Go.Proofs.Ytnbdoemnepfhdaa.Tl

