/-
  Contracts of package tte's putAttr, and of Data. Conditions: words are below 2 to the 64.
-/
import Derived.Test.YtfkbloclogeacaaDoorTFlag
namespace Go.Proofs.YtfkbloclogeacaaDoor.Fld
open Go.ChangeShapes Go.WideShapes Go.ChangeAt Go.RowKit
set_option maxHeartbeats 1000000
set_option maxRecDepth 100000
/-- The attribute at a bit's number: its place in memory, and its truth. -/
def attBit (a : Att) : Nat → Option (Nat × Bool)
  | 0 => some (4, a.global)
  | 1 => some (0, a.write)
  | 2 => some (1, a.priv)
  | 3 => some (2, a.exec)
  | 6 => some (3, a.lock)
  | 60 => some (5, a.quiet)
  | _ => none
def putUp (a : Att) (x : Int) : Nat → Int
  | 0 => x
  | k + 1 => match attBit a k with | some (_, v) => putI (putUp a x k) k 1 ((v.toNat : Nat) : Int) | none => putUp a x k
theorem putUp_bd (a : Att) (x : Int) (h0 : 0 ≤ x) (h1 : x ≤ 18446744073709551615) (k : Nat) : 0 ≤ putUp a x k ∧ putUp a x k ≤ 18446744073709551615 := by
  induction k with
  | zero => exact ⟨h0, h1⟩
  | succ k ih =>
    unfold putUp
    split
    · exact putI_bd _ _ _ _ ih.1 ih.2
    · exact ih
theorem flagCells_at (b k : Nat) (h : k < 61) : (flagCells b)[k]? = some (flagAt b k) := by
  simp [flagCells, h]
theorem att_cases (a : Att) (b k : Nat) : (flagAt b k = .pointer none ∧ attBit a k = none) ∨ ∃ o v, o < 6 ∧ flagAt b k = .pointer (some ⟨b, o, none⟩) ∧ attBit a k = some (o, v) ∧ (#[Value.bool a.write, .bool a.priv, .bool a.exec, .bool a.lock, .bool a.global, .bool a.quiet])[o]? = some (.bool v) := by
  unfold flagAt attBit
  split
  · exact .inr ⟨4, a.global, by omega, rfl, rfl, rfl⟩
  · exact .inr ⟨0, a.write, by omega, rfl, rfl, rfl⟩
  · exact .inr ⟨1, a.priv, by omega, rfl, rfl, rfl⟩
  · exact .inr ⟨2, a.exec, by omega, rfl, rfl, rfl⟩
  · exact .inr ⟨3, a.lock, by omega, rfl, rfl, rfl⟩
  · exact .inr ⟨5, a.quiet, by omega, rfl, rfl, rfl⟩
  · exact .inl ⟨rfl, by split <;> simp_all⟩
theorem extract_one {α : Type} (xs : Array α) (k : Nat) (v : α) (h : xs[k]? = some v) : xs.extract k (k + 1) = #[v] := by
  obtain ⟨hk, hv⟩ := Array.getElem?_eq_some_iff.1 h
  apply Array.ext
  · simp; omega
  · intro i h1 h2
    simp at h2
    subst h2
    simp [hv]
end Go.Proofs.YtfkbloclogeacaaDoor.Fld
