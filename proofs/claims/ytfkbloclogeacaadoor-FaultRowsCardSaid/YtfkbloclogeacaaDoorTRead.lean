/-
  Contracts of package tte's guess and Read. Conditions: words are below 2 to the 64.
-/
import Derived.Test.YtfkbloclogeacaaDoorTData
import Derived.Test.YtfkbloclogeacaaDoorTGet
namespace Go.Proofs.YtfkbloclogeacaaDoor.Fld
open Go.ChangeShapes Go.WideShapes Go.ChangeAt Go.RowKit
set_option maxHeartbeats 1000000
set_option maxRecDepth 100000
theorem below_set {B o : Nat} {w w' : World} {u : Value} (h : Below B w w') : Below B w (w'.setCell ⟨B, o, none⟩ u) := h.setCell (Nat.le_refl _) u
/-- What guess answers. -/
def Ent.guessW (t d va : Int) : Ent :=
  ⟨getI d 61 2, getI t 48 13, baseI va (getI d 61 2), bits .and .u64 d (maskI 13 28), attOf d, bitI d 63 == 1⟩
theorem and_mask (x p s : Int) (h0 : 0 ≤ x) (h1 : x ≤ 18446744073709551615) (hm : mayB p s = true) : bits .and .u64 x (maskI p s) = getI x p s * ((2 ^ p.toNat : Nat) : Int) := by
  have hm' := mayB_true hm
  rw [maskI_of hm, getI_of hm, ← Int.natCast_mul, get_lift _ _ _ (by omega)]
  have hx : x = ((x.toNat : Nat) : Int) := by omega
  have h2 := maskN_lt p.toNat s.toNat
  conv => lhs; rw [hx]
  rw [bits_and_u64_nat _ _ (by omega) h2]
  congr 1
  apply Nat.eq_of_testBit_eq; intro i
  rw [Nat.testBit_and, maskN_testBit, ob_testBit]
  cases decide (i < 64) <;> cases inF p.toNat s.toNat i <;> simp
theorem Ent.guess_of (t d va : Int) (d0 : 0 ≤ d) (d1 : d ≤ 18446744073709551615) (h : bitI d 63 = 1) : Ent.guessW t d va = Ent.ofW t d va := by
  have e1 := and_mask d 13 28 d0 d1 (by decide)
  have e2 : ((2 ^ (13 : Int).toNat : Nat) : Int) = 8192 := by decide
  rw [e2] at e1
  have b : ∀ i : Nat, i < 64 → getI d i 1 = bitI d i := fun i hi => get1_bit d i hi d0
  have b1 : getI d 1 1 = bitI d 1 := b 1 (by omega)
  have b2 : getI d 2 1 = bitI d 2 := b 2 (by omega)
  have b3 : getI d 3 1 = bitI d 3 := b 3 (by omega)
  have b6 : getI d 6 1 = bitI d 6 := b 6 (by omega)
  have b0 : getI d 0 1 = bitI d 0 := b 0 (by omega)
  have b60 : getI d 60 1 = bitI d 60 := b 60 (by omega)
  unfold Ent.guessW Ent.ofW attOf
  rw [e1, h, b1, b2, b3, b6, b0, b60]
  rfl
theorem Ent.ofW_bd (t d va : Int) (t0 : 0 ≤ t) (d0 : 0 ≤ d) (v0 : 0 ≤ va) (v1 : va ≤ 18446744073709551615) : (0 ≤ (Ent.ofW t d va).ctx ∧ (Ent.ofW t d va).ctx ≤ 8191) ∧ (0 ≤ (Ent.ofW t d va).va ∧ (Ent.ofW t d va).va ≤ 18446744073709551615) ∧ (0 ≤ (Ent.ofW t d va).pa ∧ (Ent.ofW t d va).pa ≤ 18446744073709551615) ∧ (Ent.ofW t d va).valid = true := by
  have g4 : 0 ≤ getI t 48 13 ∧ getI t 48 13 ≤ 8191 := by rw [getI_at t 48 13 281474976710656 8192 (by decide) t0 (by decide) (by decide)]; omega
  have g5 : 0 ≤ getI d 13 28 * 8192 ∧ getI d 13 28 * 8192 ≤ 18446744073709551615 := by rw [getI_at d 13 28 8192 268435456 (by decide) d0 (by decide) (by decide)]; omega
  have g6 := base_bd va (getI d 61 2) v0 v1
  exact ⟨g4, ⟨g6.1, Int.le_trans g6.2 v1⟩, g5, rfl⟩
/-- Read, where the address is not in the hole and the data's highest bit stands. -/
theorem read_form (t d va : Int) (g : Ent) (hg : Ent.ofW t d va = g) (hh : holeB va = false) (hv : bitI d 63 = 1) :
    (g.mayB && (g.tagW == t) && (g.dataW == d)) = true ∧ Ent.readN t d va = 0 ∧ Ent.readE t d va = g ∨ (g.mayB && (g.tagW == t) && (g.dataW == d)) = false ∧ Ent.readN t d va = 2 ∧ Ent.readE t d va = Ent.zero := by
  have ha : Ent.areB t d va = (g.mayB && (g.tagW == t) && (g.dataW == d)) := by unfold Ent.areB; rw [hg]
  cases hq : (g.mayB && (g.tagW == t) && (g.dataW == d))
  · right
    have hn : Ent.readN t d va = 2 := by unfold Ent.readN; rw [hh, hv, ha, hq]; rfl
    exact ⟨rfl, hn, by unfold Ent.readE; rw [hn]; rfl⟩
  · left
    have hn : Ent.readN t d va = 0 := by unfold Ent.readN; rw [hh, hv, ha, hq]; rfl
    exact ⟨rfl, hn, by unfold Ent.readE; rw [hn, hg]; rfl⟩
theorem read_hole (t d va : Int) (hh : holeB va = true) : Ent.readN t d va = 3 ∧ Ent.readE t d va = Ent.zero := by
  have hn : Ent.readN t d va = 3 := by unfold Ent.readN; rw [hh]; rfl
  exact ⟨hn, by unfold Ent.readE; rw [hn]; rfl⟩
theorem read_state (t d va : Int) (hh : holeB va = false) (hv : bitI d 63 = 0) : Ent.readN t d va = 11 ∧ Ent.readE t d va = Ent.zero := by
  have hn : Ent.readN t d va = 11 := by unfold Ent.readN; rw [hh, hv]; rfl
  exact ⟨hn, by unfold Ent.readE; rw [hn]; rfl⟩
theorem bitI_01 (d i : Int) : bitI d i = 0 ∨ bitI d i = 1 := by have := bitI_bd d i; omega
end Go.Proofs.YtfkbloclogeacaaDoor.Fld
