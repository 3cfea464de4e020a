/-
  Plain facts on accesses and faults: what attributes and entries say of an access, what is told of a fault. No Go text is named here but by the texts below. Conditions: none.
-/
import Derived.Test.YtfkbloclogeacaaDoorTHits
namespace Go.Proofs.YtfkbloclogeacaaDoor.Jd
open Fld
/-- An access. -/
structure Acc where
  kind : Int
  priv : Bool
  va : Int
def Acc.wf (x : Acc) : Prop := (-9223372036854775808 ≤ x.kind ∧ x.kind ≤ 9223372036854775807) ∧ (0 ≤ x.va ∧ x.va ≤ 18446744073709551615)
def mayA (k : Int) : Bool := decide (0 ≤ k ∧ k < 4)
/-- What attributes say of an access. -/
def judgeI (a : Att) (x : Acc) : Int :=
  if (a.priv && !x.priv) = true then 3 else if (a.quiet && x.kind != 3) = true then 4 else if (x.kind == 1 && !a.write) = true then 5 else if (x.kind == 2 && !a.exec) = true then 6 else 0
/-- What an entry says of an access. -/
def ofI (e : Ent) (ctx : Int) (x : Acc) : Int := if holeB x.va = true then 1 else if e.hitsB x.va ctx = true then judgeI e.att x else 2
def trapI (n k : Int) : Int := if n = 1 ∨ n = 3 ∨ n = 4 ∨ n = 6 then (if k = 2 then 8 else 48) else if n = 2 then (if k = 2 then 100 else 104) else if n = 5 then 108 else 0
def typeI (n : Int) : Int := if n = 1 then 32 else if n = 3 then 1 else if n = 4 then 2 else if n = 6 then 16 else 0
def showS (n : Int) : ByteArray := if n = 0 then ⟨#[110, 111, 110, 101]⟩ else if n = 1 then ⟨#[104, 111, 108, 101]⟩ else if n = 2 then ⟨#[110, 111, 116, 104, 105, 110, 103]⟩ else if n = 3 then ⟨#[112, 114, 105, 118]⟩ else if n = 4 then ⟨#[113, 117, 105, 101, 116]⟩ else if n = 5 then ⟨#[119, 114, 105, 116, 101]⟩ else if n = 6 then ⟨#[101, 120, 101, 99]⟩ else ⟨#[]⟩
def isF (n : Int) : Bool := decide (0 < n ∧ n < 7)
def worseI (a b : Int) : Int := if isF b = true ∧ (isF a = false ∨ b < a) then b else a
def letsB (a : Att) (x : Acc) : Bool := judgeI a x == 0
/-- Whether attributes let less be. -/
def lessB (a b : Att) : Bool := decide (∀ k : Fin 4, ∀ p : Bool, letsB a ⟨(k.val : Int), p, 0⟩ = true → letsB b ⟨(k.val : Int), p, 0⟩ = true)
theorem judge_va (a : Att) (k : Int) (p : Bool) (v u : Int) : judgeI a ⟨k, p, v⟩ = judgeI a ⟨k, p, u⟩ := rfl
theorem lets_va (a : Att) (k : Int) (p : Bool) (v u : Int) : letsB a ⟨k, p, v⟩ = letsB a ⟨k, p, u⟩ := rfl
theorem less_iff (a b : Att) : lessB a b = true ↔ ∀ k : Nat, k < 4 → ∀ p : Bool, letsB a ⟨(k : Int), p, 0⟩ = true → letsB b ⟨(k : Int), p, 0⟩ = true := by
  unfold lessB
  rw [decide_eq_true_eq]
  constructor
  · intro h k hk p; exact h ⟨k, hk⟩ p
  · intro h k p; exact h k.val k.isLt p
theorem less_refl (a : Att) : lessB a a = true := (less_iff a a).2 fun _ _ _ h => h
theorem less_trans {a b c : Att} (h : lessB a b = true) (g : lessB b c = true) : lessB a c = true :=
  (less_iff a c).2 fun k hk p h1 => (less_iff b c).1 g k hk p ((less_iff a b).1 h k hk p h1)
theorem less_lets {a b : Att} (h : lessB a b = true) (x : Acc) (h0 : 0 ≤ x.kind) (h1 : x.kind < 4) (hl : letsB a x = true) : letsB b x = true := by
  obtain ⟨k, p, v⟩ := x
  have := (less_iff a b).1 h k.toNat (by simp at h0 h1; omega) p
  rw [show ((k.toNat : Nat) : Int) = k by simp at h0; omega] at this
  exact this hl
theorem less_no {a b : Att} {k : Nat} (hk : k < 4) {p : Bool} (h1 : letsB a ⟨(k : Int), p, 0⟩ = true) (h2 : letsB b ⟨(k : Int), p, 0⟩ = false) : lessB a b = false := by
  cases h : lessB a b
  · rfl
  · have := (less_iff a b).1 h k hk p h1; rw [h2] at this; cases this
/-- P9.3 of attributes that lack one, or have one more. -/
theorem taken_write (a : Att) : lessB ⟨false, a.priv, a.exec, a.lock, a.global, a.quiet⟩ a = true := by
  obtain ⟨wr, pr, ex, lk, gl, qu⟩ := a
  cases wr <;> cases pr <;> cases ex <;> cases qu <;> (show _ = _; kernel_rfl)
theorem taken_exec (a : Att) : lessB ⟨a.write, a.priv, false, a.lock, a.global, a.quiet⟩ a = true := by
  obtain ⟨wr, pr, ex, lk, gl, qu⟩ := a
  cases wr <;> cases pr <;> cases ex <;> cases qu <;> (show _ = _; kernel_rfl)
theorem taken_priv (a : Att) : lessB ⟨a.write, true, a.exec, a.lock, a.global, a.quiet⟩ a = true := by
  obtain ⟨wr, pr, ex, lk, gl, qu⟩ := a
  cases wr <;> cases pr <;> cases ex <;> cases qu <;> (show _ = _; kernel_rfl)
theorem taken_quiet (a : Att) : lessB ⟨a.write, a.priv, a.exec, a.lock, a.global, true⟩ a = true := by
  obtain ⟨wr, pr, ex, lk, gl, qu⟩ := a
  cases wr <;> cases pr <;> cases ex <;> cases qu <;> (show _ = _; kernel_rfl)
theorem taken_none (a : Att) (l g : Bool) : lessB ⟨a.write, a.priv, a.exec, l, g, a.quiet⟩ a = true ∧ lessB a ⟨a.write, a.priv, a.exec, l, g, a.quiet⟩ = true :=
  ⟨less_refl a, less_refl a⟩
/-- P9.1: what attributes say is the worst of what each alone says. -/
theorem rows_worst (a : Att) (x : Acc) :
    worseI (worseI (judgeI ⟨true, a.priv, true, false, false, false⟩ x) (judgeI ⟨true, false, true, false, false, a.quiet⟩ x)) (worseI (judgeI ⟨a.write, false, true, false, false, false⟩ x) (judgeI ⟨true, false, a.exec, false, false, false⟩ x)) = judgeI a x := by
  obtain ⟨wr, pr, ex, lk, gl, qu⟩ := a
  obtain ⟨k, p, v⟩ := x
  by_cases h1 : k = 1
  · subst h1; cases wr <;> cases pr <;> cases ex <;> cases qu <;> cases p <;> (show _ = _; kernel_rfl)
  · by_cases h2 : k = 2
    · subst h2; cases wr <;> cases pr <;> cases ex <;> cases qu <;> cases p <;> (show _ = _; kernel_rfl)
    · by_cases h3 : k = 3
      · subst h3; cases wr <;> cases pr <;> cases ex <;> cases qu <;> cases p <;> (show _ = _; kernel_rfl)
      · have d1 : (k == 1) = false := by simpa using h1
        have d2 : (k == 2) = false := by simpa using h2
        have d3 : (k != 3) = true := by simpa using h3
        unfold judgeI
        dsimp only
        rw [d1, d2, d3]
        cases pr <;> cases p <;> cases qu <;> (show _ = _; kernel_rfl)
theorem rows_all (x : Acc) : judgeI ⟨true, false, true, false, false, false⟩ x = 0 := by
  unfold judgeI; simp
theorem ofI_good {e : Ent} {x : Acc} (h1 : holeB x.va = false) (h2 : e.hitsB x.va e.ctx = true) : ofI e e.ctx x = judgeI e.att x := by
  unfold ofI; rw [h1, h2]; rfl
theorem bounds {x : Acc} (h : x.wf) : (-9223372036854775808 ≤ x.kind ∧ x.kind ≤ 9223372036854775807) ∧ (0 ≤ x.va ∧ x.va ≤ 18446744073709551615) := h
end Go.Proofs.YtfkbloclogeacaaDoor.Jd
