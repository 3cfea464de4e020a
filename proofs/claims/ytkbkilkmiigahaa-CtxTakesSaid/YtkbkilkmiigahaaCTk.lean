/-
  Plain facts for CtxTakes: what a pool is behind Take. Conditions: none.
-/
import Derived.Test.YtkbkilkmiigahaaCFacts
namespace Go.Proofs.Ytkbkilkmiigahaa.Cx
theorem Pl.Ok.take_new {P : Pl} (ok : P.Ok) {x : Int} (x0 : 0 ≤ x) (h : P.of x = 0) (hf : P.free ≠ 0) :
    P.takeI x = P.free ∧ P.takeE x = 0 ∧ (P.take x).h = P.free % P.n + 1 ∧ (P.take x).ownI (P.free : Int) = x ∧ (P.take x).ownB (P.free : Int) = true := by
  have f := ok.free hf
  have ht : P.take x = P.own P.free x := by unfold Pl.take; rw [if_neg (by omega)]
  have hT : (P.own P.free x).T (P.free - 1) = x := by show setT P.T (P.free - 1) x (P.free - 1) = x; exact setT_same _ _ _
  have hB : (P.own P.free x).ownB (P.free : Int) = true := by
    unfold Pl.ownB
    rw [show ((P.free : Nat) : Int).toNat = P.free by simp, hT, decide_eq_true (show (1 : Int) ≤ P.free by omega), decide_eq_true (show (P.free : Int) ≤ ((P.own P.free x).n : Int) from by show (P.free : Int) ≤ (P.n : Int); omega), decide_eq_true x0]; rfl
  rw [ht]
  refine ⟨?_, ?_, rfl, ?_, hB⟩
  · unfold Pl.takeI; rw [if_neg (by omega), if_pos h]
  · unfold Pl.takeE; rw [if_neg (by omega), if_neg (by omega)]
  · unfold Pl.ownI; rw [if_pos hB, show ((P.free : Nat) : Int).toNat = P.free by simp, hT]
theorem Pl.take_none {P : Pl} {x : Int} (x0 : 0 ≤ x) (h : P.of x = 0) (hf : P.free = 0) : P.takeI x = 0 ∧ P.takeE x = 8 ∧ P.take x = P := by
  refine ⟨?_, ?_, ?_⟩
  · unfold Pl.takeI; rw [if_neg (by omega), if_pos h, hf]
  · unfold Pl.takeE; rw [if_neg (by omega), if_pos ⟨h, hf⟩]
  · unfold Pl.take; rw [if_pos (.inr (.inr hf))]
theorem Pl.take_had {P : Pl} {x : Int} (x0 : 0 ≤ x) (h : P.of x ≠ 0) : P.takeI x = P.of x ∧ P.takeE x = 0 ∧ P.take x = P := by
  refine ⟨?_, ?_, ?_⟩
  · unfold Pl.takeI; rw [if_neg (by omega), if_neg h]
  · unfold Pl.takeE; rw [if_neg (by omega), if_neg (fun e => h e.1)]
  · unfold Pl.take; rw [if_pos (.inr (.inl h))]
end Go.Proofs.Ytkbkilkmiigahaa.Cx
