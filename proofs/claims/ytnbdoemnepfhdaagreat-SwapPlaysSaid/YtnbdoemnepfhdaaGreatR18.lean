/-
  Contracts and plain facts: TGet, TRead, TRead2, TRRead, TRRead2. Conditions: each says its own.
-/
import Derived.Test.YtnbdoemnepfhdaaGreatR9
import Derived.Deep.RegionWith
import Derived.Test.YtnbdoemnepfhdaaGreatR10
import Derived.Test.YtnbdoemnepfhdaaGreatR7
namespace Go.Proofs.YtnbdoemnepfhdaaGreat.Fld
open Go.ChangeShapes Go.WideShapes Go.ChangeAt Go.RowKit
set_option maxHeartbeats 1000000
set_option maxRecDepth 100000
def Att.cells (a : Att) : Array Value := #[.bool a.write, .bool a.priv, .bool a.exec, .bool a.lock, .bool a.global, .bool a.quiet]
/-- The attributes of the bits below k of a word. -/
def attGet (d : Int) (k : Nat) : Att :=
  ⟨decide (1 < k) && (getI d 1 1 == 1), decide (2 < k) && (getI d 2 1 == 1), decide (3 < k) && (getI d 3 1 == 1), decide (6 < k) && (getI d 6 1 == 1), decide (0 < k) && (getI d 0 1 == 1), decide (60 < k) && (getI d 60 1 == 1)⟩
def attOf (d : Int) : Att := ⟨getI d 1 1 == 1, getI d 2 1 == 1, getI d 3 1 == 1, getI d 6 1 == 1, getI d 0 1 == 1, getI d 60 1 == 1⟩
theorem attGet_all (d : Int) : attGet d 61 = attOf d := rfl
theorem get_cases (d : Int) (b k : Nat) : (flagAt b k = .pointer none ∧ attGet d (k + 1) = attGet d k) ∨ ∃ o, o < 6 ∧ flagAt b k = .pointer (some ⟨b, o, none⟩) ∧ (attGet d (k + 1)).cells = (attGet d k).cells.setIfInBounds o (.bool (getI d k 1 == 1)) := by
  unfold flagAt
  split
  · exact .inr ⟨4, by omega, rfl, rfl⟩
  · exact .inr ⟨0, by omega, rfl, rfl⟩
  · exact .inr ⟨1, by omega, rfl, rfl⟩
  · exact .inr ⟨2, by omega, rfl, rfl⟩
  · exact .inr ⟨3, by omega, rfl, rfl⟩
  · exact .inr ⟨5, by omega, rfl, rfl⟩
  · rename_i h0 h1 h2 h3 h6 h60
    refine .inl ⟨rfl, ?_⟩
    have e : ∀ j : Nat, k ≠ j → decide (j < k + 1) = decide (j < k) := fun j hj => by
      rw [Bool.eq_iff_iff]; simp; omega
    unfold attGet
    rw [e 1 h1, e 2 h2, e 3 h3, e 6 h6, e 0 h0, e 60 h60]
theorem cells_at (a : Att) (o : Nat) (h : o < 6) : ∃ v, a.cells[o]? = some (.bool v) := by
  have : o = 0 ∨ o = 1 ∨ o = 2 ∨ o = 3 ∨ o = 4 ∨ o = 5 := by omega
  rcases this with rfl | rfl | rfl | rfl | rfl | rfl <;> exact ⟨_, rfl⟩
theorem set_row {w : World} {g : Nat} {t : TypeId} {cs : Array Value} (h : w.heap[g]? = some (.cells cs t (0, 0))) (i : Nat) (u : Value) : (w.setCell ⟨g, i, none⟩ u).heap[g]? = some (.cells (cs.setIfInBounds i u) t (0, 0)) := by
  simp [World.setCell, Array.getElem?_modify, h]
theorem row_frozen {w : World} {g : Nat} {t : TypeId} {cs : Array Value} (h : w.heap[g]? = some (.cells cs t (0, 0))) (i : Nat) : w.frozen? ⟨g, i, none⟩ = false := by
  simp [World.frozen?, h]
theorem getattr_any (d : Int) (d0 : 0 ≤ d) (d1 : d ≤ 18446744073709551615) (w : World) :
    Calls Tryz.prog 132 #[.int .u64 d] w fun r w' => r = .returned (.agg #[.bool (attOf d).write, .bool (attOf d).priv, .bool (attOf d).exec, .bool (attOf d).lock, .bool (attOf d).global, .bool (attOf d).quiet]) ∧ Below w.heap.size w w' := by
  go_enter Tryz.func132, Tryz.ntmps132
  go_wp2_with fail
  refine (flags_any _ _).mono ?_; rintro r w1 ⟨rfl, hb1⟩
  have hz : w.heap.size + 1 < w1.heap.size := by have := hb1.size; simp at this; omega
  have hbA := Lib.hid (show w1.heap[w.heap.size + 1]? = some (.cells #[.bool false, .bool false, .bool false, .bool false, .bool false, .bool false] 28 (0, 0)) from (hb1.block _ (by simp)).trans (heap_alloc2_new _ _ _))
  have hbR := Lib.hid (show w1.heap[w.heap.size]? = some (.cells #[.bool false, .bool false, .bool false, .bool false, .bool false, .bool false] 28 (0, 0)) from (hb1.block _ (by simp; omega)).trans ((Below.heap_alloc _ _ _ (by simp)).trans (heap_alloc_new _ _)))
  have hbw := Lib.hid (show Below w.heap.size w w1 from (((Below.refl _ _).alloc (Nat.le_refl _) _).alloc (by simp) _).trans (hb1.mono (by simp; omega)))
  clear hb1
  go_wp2
  go_loopw [7] (fun i wr => ∃ k : Nat, k ≤ 61 ∧ i = .int .i64 (k : Int) ∧ Hid (wr.heap[w.heap.size + 1]? = some (.cells (attGet d k).cells 28 (0, 0))) ∧ Hid (Below (w.heap.size + 1) w1 wr)) (fun i _ => 61 - (intOf i).toNat)
  case atStart => exact ⟨0, by omega, rfl, hbA, Below.refl _ _⟩
  case round =>
    obtain ⟨k, hk, rfl, hA, hbl⟩ := hrel
    have hzr : w.heap.size + 1 < wr.heap.size := by have := hbl.out.size; omega
    by_cases hlt : k < 61
    · have hat := run_index_flag (w.heap.size + 1) k hlt _ (flagCells_at (w.heap.size + 1) k hlt)
      have hlt' : (k : Int) < 61 := by omega
      rcases get_cases d (w.heap.size + 1) k with ⟨h1, h2⟩ | ⟨o, ho, h1, h2⟩
      · rw [h1] at hat
        have H2 := Lib.hid h2
        clear h1 h2
        go_wp2
        go_roundw
        case rel => exact ⟨k + 1, by omega, by go_num, by rw [H2.out]; exact (Below.heap_alloc _ _ _ hzr).trans hA.out, hbl.out.alloc (by omega) _⟩
        case measure => simp [intOf]; omega
      · rw [h1] at hat
        have H2 := Lib.hid h2
        obtain ⟨v, hv⟩ := cells_at (attGet d k) o ho
        have hcell : wr.cell? ⟨w.heap.size + 1, o, none⟩ = some (.bool v) := by rw [cell_of_row _ _ _ _ _ _ hA.out]; exact hv
        have hfro : wr.frozen? ⟨w.heap.size + 1, o, none⟩ = false := row_frozen hA.out o
        clear h1 h2 hv
        go_wp2_with fail
        go_region_with (go_at_call 106; refine (bit_any _ _ d0 d1 _).mono ?_; rintro r w2 ⟨rfl, n, rfl⟩)
        all_goals
          go_wp2
          go_roundw
          case rel => exact ⟨k + 1, by omega, by go_num, by rw [H2.out]; exact set_row (w := World.drewN _ _) ((Below.heap_alloc _ _ _ hzr).trans hA.out) o _, (below_drewN (hbl.out.alloc (by omega) _) _).setCell (Nat.le_refl _) _⟩
          case measure => simp [intOf]; omega
    · obtain rfl : k = 61 := by omega
      rw [attGet_all] at hA
      have a0 := (cell_of_row _ _ 0 _ _ _ hA.out).trans (show (attOf d).cells[0]? = some (.bool (attOf d).write) from rfl)
      have a1 := (cell_of_row _ _ 1 _ _ _ hA.out).trans (show (attOf d).cells[1]? = some (.bool (attOf d).priv) from rfl)
      have a2 := (cell_of_row _ _ 2 _ _ _ hA.out).trans (show (attOf d).cells[2]? = some (.bool (attOf d).exec) from rfl)
      have a3 := (cell_of_row _ _ 3 _ _ _ hA.out).trans (show (attOf d).cells[3]? = some (.bool (attOf d).lock) from rfl)
      have a4 := (cell_of_row _ _ 4 _ _ _ hA.out).trans (show (attOf d).cells[4]? = some (.bool (attOf d).global) from rfl)
      have a5 := (cell_of_row _ _ 5 _ _ _ hA.out).trans (show (attOf d).cells[5]? = some (.bool (attOf d).quiet) from rfl)
      have hR := (hbl.out.block w.heap.size (by omega)).trans hbR.out
      have r0 := cell_of_row _ _ 0 _ _ _ hR
      have r1 := cell_of_row _ _ 1 _ _ _ hR
      have r2 := cell_of_row _ _ 2 _ _ _ hR
      have r3 := cell_of_row _ _ 3 _ _ _ hR
      have r4 := cell_of_row _ _ 4 _ _ _ hR
      have r5 := cell_of_row _ _ 5 _ _ _ hR
      have hfr : ∀ i, wr.frozen? ⟨w.heap.size, i, none⟩ = false := fun i => row_frozen hR i
      clear hR
      obtain ⟨A, hAA⟩ : ∃ A, attOf d = A := ⟨_, rfl⟩
      rw [hAA] at a0 a1 a2 a3 a4 a5
      have HA := Lib.hid hAA
      clear hAA
      go_wp2
      refine bodyPost_ret (v := .agg #[.bool A.write, .bool A.priv, .bool A.exec, .bool A.lock, .bool A.global, .bool A.quiet]) (by simp [results, Tryz.results132, go_sem, r0, r1, r2, r3, r4, r5]) rfl ⟨by rw [HA.out], ?_⟩
      have hq := hbw.out.trans (hbl.out.mono (by omega))
      exact (((((hq.setCell (Nat.le_refl _) _).setCell (Nat.le_refl _) _).setCell (Nat.le_refl _) _).setCell (Nat.le_refl _) _).setCell (Nat.le_refl _) _).setCell (Nat.le_refl _) _
end Go.Proofs.YtnbdoemnepfhdaaGreat.Fld

namespace Go.Proofs.YtnbdoemnepfhdaaGreat.Fld
open Go.ChangeShapes Go.WideShapes Go.ChangeAt Go.RowKit
set_option maxHeartbeats 1000000
set_option maxRecDepth 100000
theorem below_set {B o : Nat} {w w' : World} {u : Value} (h : Below B w w') : Below B w (w'.setCell ⟨B, o, none⟩ u) := h.setCell (Nat.le_refl _) u
/-- What guess answers. -/
def Ent.guessW (t d va : Int) : Ent :=
  ⟨getI d 61 2, getI t 48 13, baseI va (getI d 61 2), bits .and .u64 d (maskI 13 28), attOf d, bitI d 63 == 1⟩
theorem guess_any (t d va : Int) (t0 : 0 ≤ t) (t1 : t ≤ 18446744073709551615) (d0 : 0 ≤ d) (d1 : d ≤ 18446744073709551615) (v0 : 0 ≤ va) (v1 : va ≤ 18446744073709551615) (w : World) :
    Calls Tryz.prog 111 #[.int .u64 t, .int .u64 d, .int .u64 va] w fun r w' => r = .returned (.agg #[.int .i64 (Ent.guessW t d va).size, .int .i64 (Ent.guessW t d va).ctx, .int .u64 (Ent.guessW t d va).va, .int .u64 (Ent.guessW t d va).pa, .bool (Ent.guessW t d va).att.write, .bool (Ent.guessW t d va).att.priv, .bool (Ent.guessW t d va).att.exec, .bool (Ent.guessW t d va).att.lock, .bool (Ent.guessW t d va).att.global, .bool (Ent.guessW t d va).att.quiet, .bool (Ent.guessW t d va).valid]) ∧ Below w.heap.size w w' := by
  have g1 := getI_bd d 61 2
  have g2 := getI_bd t 48 13
  have g3 : getI d 61 2 ≤ 3 := by rw [getI_at d 61 2 2305843009213693952 4 (by decide) d0 (by decide) (by decide)]; omega
  have g4 : getI t 48 13 ≤ 8191 := by rw [getI_at t 48 13 281474976710656 8192 (by decide) t0 (by decide) (by decide)]; omega
  go_enter Tryz.func111, Tryz.ntmps111
  go_wp2_with fail
  refine (get_any _ _ _ d0 d1 _).mono ?_; rintro r w2 ⟨rfl, n, rfl⟩
  go_wp2_with fail
  refine (get_any _ _ _ t0 t1 _).mono ?_; rintro r w2 ⟨rfl, n2, rfl⟩
  go_wp2_with fail
  refine (base_any _ _ v0 v1 _).mono ?_; rintro r w2 ⟨rfl, rfl⟩
  go_wp2_with fail
  refine (mask_any _ _ _).mono ?_; rintro r w2 ⟨rfl, rfl⟩
  go_wp2_with fail
  refine (getattr_any _ d0 d1 _).mono ?_; rintro r w2 ⟨rfl, hb⟩
  obtain ⟨hc, hf⟩ := bcell hb
  have hz : w.heap.size < w2.heap.size := by have := hb.size; simp at this; omega
  have HB := Lib.hid (show Below w.heap.size w w2 from (below_drewN ((Below.refl _ _).alloc (Nat.le_refl _) _) _).trans (hb.mono (by simp)))
  clear hb
  go_wp2_with fail
  refine (tvalid_any _ d0 d1 _).mono ?_; rintro r w3 ⟨rfl, n3, rfl⟩
  go_wp2_with fail
  refine bodyPost_ret (v := .agg #[.int .i64 (Ent.guessW t d va).size, .int .i64 (Ent.guessW t d va).ctx, .int .u64 (Ent.guessW t d va).va, .int .u64 (Ent.guessW t d va).pa, .bool (Ent.guessW t d va).att.write, .bool (Ent.guessW t d va).att.priv, .bool (Ent.guessW t d va).att.exec, .bool (Ent.guessW t d va).att.lock, .bool (Ent.guessW t d va).att.global, .bool (Ent.guessW t d va).att.quiet, .bool (Ent.guessW t d va).valid]) (by simp [results, Tryz.results111, go_sem, hc]; exact ⟨rfl, rfl, rfl, rfl, rfl, rfl, rfl, rfl, rfl, rfl, rfl⟩) rfl ⟨rfl, ?_⟩
  iterate 11 refine below_set ?_
  exact below_drewN HB.out _
theorem and_mask (x p s : Int) (h0 : 0 ≤ x) (h1 : x ≤ 18446744073709551615) (hm : mayB p s = true) : bits .and .u64 x (maskI p s) = getI x p s * ((2 ^ p.toNat : Nat) : Int) := by
  have hm' := mayB_true hm
  rw [maskI_of hm, getI_of hm, ← Int.natCast_mul, get_lift _ _ _ (by omega)]
  have hx : x = ((x.toNat : Nat) : Int) := by omega
  have h2 := maskN_lt p.toNat s.toNat
  conv => lhs; rw [hx]
  rw [bits_and_u64_nat _ _ (by omega) h2]
  congr 1
  apply Nat.eq_of_testBit_eq; intro i
  rw [Nat.testBit_and, maskN_testBit, ob_testBit]
  cases decide (i < 64) <;> cases inF p.toNat s.toNat i <;> simp
theorem Ent.guess_of (t d va : Int) (d0 : 0 ≤ d) (d1 : d ≤ 18446744073709551615) (h : bitI d 63 = 1) : Ent.guessW t d va = Ent.ofW t d va := by
  have e1 := and_mask d 13 28 d0 d1 (by decide)
  have e2 : ((2 ^ (13 : Int).toNat : Nat) : Int) = 8192 := by decide
  rw [e2] at e1
  have b : ∀ i : Nat, i < 64 → getI d i 1 = bitI d i := fun i hi => get1_bit d i hi d0
  have b1 : getI d 1 1 = bitI d 1 := b 1 (by omega)
  have b2 : getI d 2 1 = bitI d 2 := b 2 (by omega)
  have b3 : getI d 3 1 = bitI d 3 := b 3 (by omega)
  have b6 : getI d 6 1 = bitI d 6 := b 6 (by omega)
  have b0 : getI d 0 1 = bitI d 0 := b 0 (by omega)
  have b60 : getI d 60 1 = bitI d 60 := b 60 (by omega)
  unfold Ent.guessW Ent.ofW attOf
  rw [e1, h, b1, b2, b3, b6, b0, b60]
  rfl
theorem Ent.ofW_bd (t d va : Int) (t0 : 0 ≤ t) (d0 : 0 ≤ d) (v0 : 0 ≤ va) (v1 : va ≤ 18446744073709551615) : (0 ≤ (Ent.ofW t d va).ctx ∧ (Ent.ofW t d va).ctx ≤ 8191) ∧ (0 ≤ (Ent.ofW t d va).va ∧ (Ent.ofW t d va).va ≤ 18446744073709551615) ∧ (0 ≤ (Ent.ofW t d va).pa ∧ (Ent.ofW t d va).pa ≤ 18446744073709551615) ∧ (Ent.ofW t d va).valid = true := by
  have g4 : 0 ≤ getI t 48 13 ∧ getI t 48 13 ≤ 8191 := by rw [getI_at t 48 13 281474976710656 8192 (by decide) t0 (by decide) (by decide)]; omega
  have g5 : 0 ≤ getI d 13 28 * 8192 ∧ getI d 13 28 * 8192 ≤ 18446744073709551615 := by rw [getI_at d 13 28 8192 268435456 (by decide) d0 (by decide) (by decide)]; omega
  have g6 := base_bd va (getI d 61 2) v0 v1
  exact ⟨g4, ⟨g6.1, Int.le_trans g6.2 v1⟩, g5, rfl⟩
/-- Read, where the address is not in the hole and the data's highest bit stands. -/
theorem read_form (t d va : Int) (g : Ent) (hg : Ent.ofW t d va = g) (hh : holeB va = false) (hv : bitI d 63 = 1) :
    (g.mayB && (g.tagW == t) && (g.dataW == d)) = true ∧ Ent.readN t d va = 0 ∧ Ent.readE t d va = g ∨ (g.mayB && (g.tagW == t) && (g.dataW == d)) = false ∧ Ent.readN t d va = 2 ∧ Ent.readE t d va = Ent.zero := by
  have ha : Ent.areB t d va = (g.mayB && (g.tagW == t) && (g.dataW == d)) := by unfold Ent.areB; rw [hg]
  cases hq : (g.mayB && (g.tagW == t) && (g.dataW == d))
  · right
    have hn : Ent.readN t d va = 2 := by unfold Ent.readN; rw [hh, hv, ha, hq]; rfl
    exact ⟨rfl, hn, by unfold Ent.readE; rw [hn]; rfl⟩
  · left
    have hn : Ent.readN t d va = 0 := by unfold Ent.readN; rw [hh, hv, ha, hq]; rfl
    exact ⟨rfl, hn, by unfold Ent.readE; rw [hn, hg]; rfl⟩
theorem read_hole (t d va : Int) (hh : holeB va = true) : Ent.readN t d va = 3 ∧ Ent.readE t d va = Ent.zero := by
  have hn : Ent.readN t d va = 3 := by unfold Ent.readN; rw [hh]; rfl
  exact ⟨hn, by unfold Ent.readE; rw [hn]; rfl⟩
theorem read_state (t d va : Int) (hh : holeB va = false) (hv : bitI d 63 = 0) : Ent.readN t d va = 11 ∧ Ent.readE t d va = Ent.zero := by
  have hn : Ent.readN t d va = 11 := by unfold Ent.readN; rw [hh, hv]; rfl
  exact ⟨hn, by unfold Ent.readE; rw [hn]; rfl⟩
theorem bitI_01 (d i : Int) : bitI d i = 0 ∨ bitI d i = 1 := by have := bitI_bd d i; omega
end Go.Proofs.YtnbdoemnepfhdaaGreat.Fld

namespace Go.Proofs.YtnbdoemnepfhdaaGreat.Fld
open Go.ChangeShapes Go.WideShapes Go.ChangeAt Go.RowKit
set_option maxHeartbeats 1000000
set_option maxRecDepth 100000
theorem ret_read {g h : Ent} {n m : Int} (e1 : g = h) (e2 : n = m) : Ending.returned (.tuple #[.agg #[.int .i64 g.size, .int .i64 g.ctx, .int .u64 g.va, .int .u64 g.pa, .bool g.att.write, .bool g.att.priv, .bool g.att.exec, .bool g.att.lock, .bool g.att.global, .bool g.att.quiet, .bool g.valid], .int .i64 n]) = .returned (.tuple #[.agg #[.int .i64 h.size, .int .i64 h.ctx, .int .u64 h.va, .int .u64 h.pa, .bool h.att.write, .bool h.att.priv, .bool h.att.exec, .bool h.att.lock, .bool h.att.global, .bool h.att.quiet, .bool h.valid], .int .i64 m]) := by rw [e1, e2]
theorem tread_hole (t d va : Int) (v0 : 0 ≤ va) (v1 : va ≤ 18446744073709551615) (hh : holeB va = true) (w : World) :
    Calls Tryz.prog 75 #[.int .u64 t, .int .u64 d, .int .u64 va] w fun r w' => r = .returned (.tuple #[.agg #[.int .i64 Ent.zero.size, .int .i64 Ent.zero.ctx, .int .u64 Ent.zero.va, .int .u64 Ent.zero.pa, .bool Ent.zero.att.write, .bool Ent.zero.att.priv, .bool Ent.zero.att.exec, .bool Ent.zero.att.lock, .bool Ent.zero.att.global, .bool Ent.zero.att.quiet, .bool Ent.zero.valid], .int .i64 3]) ∧ Below w.heap.size w w' := by
  go_enter Tryz.func75, Tryz.ntmps75
  go_wp2_with (go_at_call 109; refine (hole_any _ v0 v1 _).mono ?_; rintro e w' ⟨rfl, n, rfl⟩)
  refine bodyPost_ret (v := .tuple #[.agg #[.int .i64 Ent.zero.size, .int .i64 Ent.zero.ctx, .int .u64 Ent.zero.va, .int .u64 Ent.zero.pa, .bool Ent.zero.att.write, .bool Ent.zero.att.priv, .bool Ent.zero.att.exec, .bool Ent.zero.att.lock, .bool Ent.zero.att.global, .bool Ent.zero.att.quiet, .bool Ent.zero.valid], .int .i64 3]) (by simp [results, Tryz.results75, go_sem, Ent.zero]) rfl ⟨rfl, ?_⟩
  iterate 11 refine below_set ?_
  exact below_drewN ((Below.refl _ _).alloc (Nat.le_refl _) _) _
theorem tread_state (t d va : Int) (d0 : 0 ≤ d) (d1 : d ≤ 18446744073709551615) (v0 : 0 ≤ va) (v1 : va ≤ 18446744073709551615) (hh : holeB va = false) (hv : (bitI d 63 == 1) = false) (w : World) :
    Calls Tryz.prog 75 #[.int .u64 t, .int .u64 d, .int .u64 va] w fun r w' => r = .returned (.tuple #[.agg #[.int .i64 Ent.zero.size, .int .i64 Ent.zero.ctx, .int .u64 Ent.zero.va, .int .u64 Ent.zero.pa, .bool Ent.zero.att.write, .bool Ent.zero.att.priv, .bool Ent.zero.att.exec, .bool Ent.zero.att.lock, .bool Ent.zero.att.global, .bool Ent.zero.att.quiet, .bool Ent.zero.valid], .int .i64 11]) ∧ Below w.heap.size w w' := by
  go_enter Tryz.func75, Tryz.ntmps75
  go_wp2_with (first | (go_at_call 109; refine (hole_any _ v0 v1 _).mono ?_; rintro e w' ⟨rfl, n, rfl⟩) | (go_at_call 110; refine (tvalid_any _ d0 d1 _).mono ?_; rintro e w' ⟨rfl, n, rfl⟩))
  refine bodyPost_ret (v := .tuple #[.agg #[.int .i64 Ent.zero.size, .int .i64 Ent.zero.ctx, .int .u64 Ent.zero.va, .int .u64 Ent.zero.pa, .bool Ent.zero.att.write, .bool Ent.zero.att.priv, .bool Ent.zero.att.exec, .bool Ent.zero.att.lock, .bool Ent.zero.att.global, .bool Ent.zero.att.quiet, .bool Ent.zero.valid], .int .i64 11]) (by simp [results, Tryz.results75, go_sem, Ent.zero]) rfl ⟨rfl, ?_⟩
  iterate 11 refine below_set ?_
  exact below_drewN ((Below.refl _ _).alloc (Nat.le_refl _) _) _
theorem tread_form (t d va : Int) (g : Ent) (hg : Ent.guessW t d va = g) (t0 : 0 ≤ t) (t1 : t ≤ 18446744073709551615) (d0 : 0 ≤ d) (d1 : d ≤ 18446744073709551615) (v0 : 0 ≤ va) (v1 : va ≤ 18446744073709551615) (hh : holeB va = false) (hv : (bitI d 63 == 1) = true)
    (gv0 : 0 ≤ g.va) (gv1 : g.va ≤ 18446744073709551615) (gp0 : 0 ≤ g.pa) (gp1 : g.pa ≤ 18446744073709551615) (w : World) :
    Calls Tryz.prog 75 #[.int .u64 t, .int .u64 d, .int .u64 va] w fun r w' => ((g.mayB && (g.tagG == t) && (g.dataG == d)) = true ∧ r = .returned (.tuple #[.agg #[.int .i64 g.size, .int .i64 g.ctx, .int .u64 g.va, .int .u64 g.pa, .bool g.att.write, .bool g.att.priv, .bool g.att.exec, .bool g.att.lock, .bool g.att.global, .bool g.att.quiet, .bool g.valid], .int .i64 0]) ∨ (g.mayB && (g.tagG == t) && (g.dataG == d)) = false ∧ r = .returned (.tuple #[.agg #[.int .i64 Ent.zero.size, .int .i64 Ent.zero.ctx, .int .u64 Ent.zero.va, .int .u64 Ent.zero.pa, .bool Ent.zero.att.write, .bool Ent.zero.att.priv, .bool Ent.zero.att.exec, .bool Ent.zero.att.lock, .bool Ent.zero.att.global, .bool Ent.zero.att.quiet, .bool Ent.zero.valid], .int .i64 2])) ∧ Below w.heap.size w w' := by
  have HG := Lib.hid (fun W => (hg ▸ guess_any t d va t0 t1 d0 d1 v0 v1 W : Calls Tryz.prog 111 #[.int .u64 t, .int .u64 d, .int .u64 va] W fun r w' => r = .returned (.agg #[.int .i64 g.size, .int .i64 g.ctx, .int .u64 g.va, .int .u64 g.pa, .bool g.att.write, .bool g.att.priv, .bool g.att.exec, .bool g.att.lock, .bool g.att.global, .bool g.att.quiet, .bool g.valid]) ∧ Below W.heap.size W w'))
  clear hg
  go_enter Tryz.func75, Tryz.ntmps75
  go_wp2_with (first | (go_at_call 109; refine (hole_any _ v0 v1 _).mono ?_; rintro e w' ⟨rfl, n, rfl⟩) | (go_at_call 110; refine (tvalid_any _ d0 d1 _).mono ?_; rintro e w' ⟨rfl, n, rfl⟩))
  refine (HG.out _).mono ?_; rintro r w2 ⟨rfl, hb⟩
  have hcR : ∀ o, w2.cell? ⟨w.heap.size, o, none⟩ = _ := fun o => (bcell hb).1 w.heap.size o (by simp)
  have hfR : ∀ o, w2.frozen? ⟨w.heap.size, o, none⟩ = _ := fun o => (bcell hb).2 w.heap.size o (by simp)
  have hz : w.heap.size < w2.heap.size := by have := hb.size; simp at this; omega
  have HB := Lib.hid (show Below w.heap.size w w2 from (below_drewN ((Below.refl _ _).alloc (Nat.le_refl _) _) _).trans (hb.mono (by simp)))
  clear hb
  go_wp2_with fail
  refine (tmay_any g gv0 gv1 gp0 gp1 _).mono ?_; rintro r w4 ⟨rfl, hb⟩
  have hcR4 : ∀ o, w4.cell? ⟨w.heap.size, o, none⟩ = _ := fun o => (bcell hb).1 w.heap.size o (by simp; omega)
  have hfR4 : ∀ o, w4.frozen? ⟨w.heap.size, o, none⟩ = _ := fun o => (bcell hb).2 w.heap.size o (by simp; omega)
  have hcE4 : ∀ o, w4.cell? ⟨w2.heap.size, o, none⟩ = _ := fun o => (bcell hb).1 w2.heap.size o (by simp)
  have hz4 : w2.heap.size < w4.heap.size := by have := hb.size; simp at this; omega
  have HB4 := Lib.hid (show Below w.heap.size w w4 from (HB.out.alloc (by omega) _).trans (hb.mono (by simp; omega)))
  clear hb
  cases hm : g.mayB
  · go_wp2_with fail
    refine bodyPost_ret (v := .tuple #[.agg #[.int .i64 Ent.zero.size, .int .i64 Ent.zero.ctx, .int .u64 Ent.zero.va, .int .u64 Ent.zero.pa, .bool Ent.zero.att.write, .bool Ent.zero.att.priv, .bool Ent.zero.att.exec, .bool Ent.zero.att.lock, .bool Ent.zero.att.global, .bool Ent.zero.att.quiet, .bool Ent.zero.valid], .int .i64 2]) (by simp [results, Tryz.results75, go_sem, Ent.zero, hz, hcR, hcR4]) rfl ⟨.inr ⟨by rw [hm]; rfl, rfl⟩, ?_⟩
    iterate 11 refine below_set ?_
    exact HB4.out
  go_wp2_with fail
  refine (ttag_any g gv0 gv1 _).mono ?_; rintro r w5 ⟨rfl, hb⟩
  have hcR5 : ∀ o, w5.cell? ⟨w.heap.size, o, none⟩ = _ := fun o => (bcell hb).1 w.heap.size o (by omega)
  have hfR5 : ∀ o, w5.frozen? ⟨w.heap.size, o, none⟩ = _ := fun o => (bcell hb).2 w.heap.size o (by omega)
  have hcE5 : ∀ o, w5.cell? ⟨w2.heap.size, o, none⟩ = _ := fun o => (bcell hb).1 w2.heap.size o (by omega)
  have hz5 : w2.heap.size < w5.heap.size := by have := hb.size; omega
  have HB5 := Lib.hid (show Below w.heap.size w w5 from HB4.out.trans (hb.mono (by omega)))
  clear hb
  cases ht : (g.tagG == t)
  · have ht' : (g.tagG != t) = true := by simp [bne, ht]
    go_wp2_with fail
    refine bodyPost_ret (v := .tuple #[.agg #[.int .i64 Ent.zero.size, .int .i64 Ent.zero.ctx, .int .u64 Ent.zero.va, .int .u64 Ent.zero.pa, .bool Ent.zero.att.write, .bool Ent.zero.att.priv, .bool Ent.zero.att.exec, .bool Ent.zero.att.lock, .bool Ent.zero.att.global, .bool Ent.zero.att.quiet, .bool Ent.zero.valid], .int .i64 2]) (by simp [results, Tryz.results75, go_sem, Ent.zero, hz, hcR, hcR4, hcR5]) rfl ⟨.inr ⟨by rw [hm, ht]; rfl, rfl⟩, ?_⟩
    iterate 11 refine below_set ?_
    exact HB5.out
  have ht' : (g.tagG != t) = false := by simp [bne, ht]
  go_wp2_with fail
  refine (tdata_any g gp0 gp1 _).mono ?_; rintro r w6 ⟨rfl, hb⟩
  have hcR6 : ∀ o, w6.cell? ⟨w.heap.size, o, none⟩ = _ := fun o => (bcell hb).1 w.heap.size o (by omega)
  have hfR6 : ∀ o, w6.frozen? ⟨w.heap.size, o, none⟩ = _ := fun o => (bcell hb).2 w.heap.size o (by omega)
  have hcE6 : ∀ o, w6.cell? ⟨w2.heap.size, o, none⟩ = _ := fun o => (bcell hb).1 w2.heap.size o (by omega)
  have hz6 : w2.heap.size < w6.heap.size := by have := hb.size; omega
  have HB6 := Lib.hid (show Below w.heap.size w w6 from HB5.out.trans (hb.mono (by omega)))
  clear hb
  cases hd : (g.dataG == d)
  · have hd' : (g.dataG != d) = true := by simp [bne, hd]
    go_wp2_with fail
    refine bodyPost_ret (v := .tuple #[.agg #[.int .i64 Ent.zero.size, .int .i64 Ent.zero.ctx, .int .u64 Ent.zero.va, .int .u64 Ent.zero.pa, .bool Ent.zero.att.write, .bool Ent.zero.att.priv, .bool Ent.zero.att.exec, .bool Ent.zero.att.lock, .bool Ent.zero.att.global, .bool Ent.zero.att.quiet, .bool Ent.zero.valid], .int .i64 2]) (by simp [results, Tryz.results75, go_sem, Ent.zero, hz, hcR, hcR4, hcR5, hcR6]) rfl ⟨.inr ⟨by rw [hm, ht, hd]; rfl, rfl⟩, ?_⟩
    iterate 11 refine below_set ?_
    exact HB6.out
  · have hd' : (g.dataG != d) = false := by simp [bne, hd]
    go_wp2_with fail
    refine bodyPost_ret (v := .tuple #[.agg #[.int .i64 g.size, .int .i64 g.ctx, .int .u64 g.va, .int .u64 g.pa, .bool g.att.write, .bool g.att.priv, .bool g.att.exec, .bool g.att.lock, .bool g.att.global, .bool g.att.quiet, .bool g.valid], .int .i64 0]) (by simp [results, Tryz.results75, go_sem, hz, hcR, hcR4, hcR5, hcR6]) rfl ⟨.inl ⟨by rw [hm, ht, hd]; rfl, rfl⟩, ?_⟩
    iterate 11 refine below_set ?_
    exact HB6.out
theorem tread_any (t d va : Int) (t0 : 0 ≤ t) (t1 : t ≤ 18446744073709551615) (d0 : 0 ≤ d) (d1 : d ≤ 18446744073709551615) (v0 : 0 ≤ va) (v1 : va ≤ 18446744073709551615) (w : World) :
    Calls Tryz.prog 75 #[.int .u64 t, .int .u64 d, .int .u64 va] w fun r w' => r = .returned (.tuple #[.agg #[.int .i64 (Ent.readE t d va).size, .int .i64 (Ent.readE t d va).ctx, .int .u64 (Ent.readE t d va).va, .int .u64 (Ent.readE t d va).pa, .bool (Ent.readE t d va).att.write, .bool (Ent.readE t d va).att.priv, .bool (Ent.readE t d va).att.exec, .bool (Ent.readE t d va).att.lock, .bool (Ent.readE t d va).att.global, .bool (Ent.readE t d va).att.quiet, .bool (Ent.readE t d va).valid], .int .i64 (Ent.readN t d va)]) ∧ Below w.heap.size w w' := by
  cases hh : holeB va
  · rcases bitI_01 d 63 with hv | hv
    · obtain ⟨e1, e2⟩ := read_state t d va hh hv
      exact (tread_state t d va d0 d1 v0 v1 hh (by rw [hv]; rfl) w).mono fun _ _ h => ⟨h.1.trans (ret_read e2.symm e1.symm), h.2⟩
    · have hg := Ent.guess_of t d va d0 d1 hv
      obtain ⟨b1, b2, b3, b4⟩ := Ent.ofW_bd t d va t0 d0 v0 v1
      obtain ⟨g, hgg⟩ : ∃ g, Ent.ofW t d va = g := ⟨_, rfl⟩
      rw [hgg] at hg b1 b2 b3 b4
      have hw := read_form t d va g hgg hh hv
      have ht := Ent.tagG_fit b1
      have hc : (g.mayB && (g.tagG == t) && (g.dataG == d)) = (g.mayB && (g.tagW == t) && (g.dataW == d)) := by
        rw [ht]
        cases hm : g.mayB
        · rfl
        · rw [Ent.dataG_fit (Ent.fit hm b3.1) b4]
      refine (tread_form t d va g hg t0 t1 d0 d1 v0 v1 hh (by rw [hv]; rfl) b2.1 b2.2 b3.1 b3.2 w).mono fun _ _ h => ⟨?_, h.2⟩
      rw [hc] at h
      rcases hw with ⟨q, e1, e2⟩ | ⟨q, e1, e2⟩
      · rcases h.1 with ⟨_, e⟩ | ⟨z, _⟩
        · exact e.trans (ret_read e2.symm e1.symm)
        · rw [q] at z; cases z
      · rcases h.1 with ⟨z, _⟩ | ⟨_, e⟩
        · rw [q] at z; cases z
        · exact e.trans (ret_read e2.symm e1.symm)
  · obtain ⟨e1, e2⟩ := read_hole t d va hh
    exact (tread_hole t d va v0 v1 hh w).mono fun _ _ h => ⟨h.1.trans (ret_read e2.symm e1.symm), h.2⟩
end Go.Proofs.YtnbdoemnepfhdaaGreat.Fld

namespace Go.Proofs.YtnbdoemnepfhdaaGreat.Fld
open Go.ChangeShapes Go.WideShapes Go.ChangeAt Go.RowKit
set_option maxHeartbeats 2000000
set_option maxRecDepth 100000
theorem rmaye_any (e : Ent) (v0 : 0 ≤ e.va) (v1 : e.va ≤ 18446744073709551615) (p0 : 0 ≤ e.pa) (p1 : e.pa ≤ 18446744073709551615) (w : World) :
    Calls Tryz.prog 126 #[.agg #[.int .i64 e.size, .int .i64 e.ctx, .int .u64 e.va, .int .u64 e.pa, .bool e.att.write, .bool e.att.priv, .bool e.att.exec, .bool e.att.lock, .bool e.att.global, .bool e.att.quiet, .bool e.valid]] w fun r w' => r = .returned (.bool e.mayB) ∧ Below w.heap.size w w' := by
  have H := Ent.may_half e
  cases hh : e.halfB
  · rw [hh, Bool.false_and] at H
    rw [H]; exact rmay_no e v0 v1 hh w
  · rw [hh, Bool.true_and] at H
    rw [H]; exact rmay_yes e v0 v1 p0 p1 hh w
theorem rread_hole (t d va : Int) (v0 : 0 ≤ va) (v1 : va ≤ 18446744073709551615) (hh : holeB va = true) (w : World) :
    Calls Tryz.prog 127 #[.int .u64 t, .int .u64 d, .int .u64 va] w fun r w' => r = .returned (.tuple #[.agg #[.int .i64 Ent.zero.size, .int .i64 Ent.zero.ctx, .int .u64 Ent.zero.va, .int .u64 Ent.zero.pa, .bool Ent.zero.att.write, .bool Ent.zero.att.priv, .bool Ent.zero.att.exec, .bool Ent.zero.att.lock, .bool Ent.zero.att.global, .bool Ent.zero.att.quiet, .bool Ent.zero.valid], .int .i64 3]) ∧ Below w.heap.size w w' := by
  go_enter Tryz.func127, Tryz.ntmps127
  go_wp2_with (go_at_call 138; refine (rhole_any _ v0 v1 _).mono ?_; rintro e w' ⟨rfl, rfl⟩)
  refine bodyPost_ret (v := .tuple #[.agg #[.int .i64 Ent.zero.size, .int .i64 Ent.zero.ctx, .int .u64 Ent.zero.va, .int .u64 Ent.zero.pa, .bool Ent.zero.att.write, .bool Ent.zero.att.priv, .bool Ent.zero.att.exec, .bool Ent.zero.att.lock, .bool Ent.zero.att.global, .bool Ent.zero.att.quiet, .bool Ent.zero.valid], .int .i64 3]) (by simp [results, Tryz.results127, go_sem, Ent.zero]) rfl ⟨rfl, ?_⟩
  exact ((Below.refl _ _).alloc (Nat.le_refl _) _).alloc (by simp) _
theorem rread_state (t d va : Int) (d0 : 0 ≤ d) (d1 : d ≤ 18446744073709551615) (v0 : 0 ≤ va) (v1 : va ≤ 18446744073709551615) (hh : holeB va = false) (hv : (bitI d 63 == 0) = true) (w : World) :
    Calls Tryz.prog 127 #[.int .u64 t, .int .u64 d, .int .u64 va] w fun r w' => r = .returned (.tuple #[.agg #[.int .i64 Ent.zero.size, .int .i64 Ent.zero.ctx, .int .u64 Ent.zero.va, .int .u64 Ent.zero.pa, .bool Ent.zero.att.write, .bool Ent.zero.att.priv, .bool Ent.zero.att.exec, .bool Ent.zero.att.lock, .bool Ent.zero.att.global, .bool Ent.zero.att.quiet, .bool Ent.zero.valid], .int .i64 11]) ∧ Below w.heap.size w w' := by
  go_enter Tryz.func127, Tryz.ntmps127
  go_wp2_with (first | (go_at_call 138; refine (rhole_any _ v0 v1 _).mono ?_; rintro e w' ⟨rfl, rfl⟩) | (go_at_call 87; refine (rbit_any _ _ d0 d1 (by omega) (by omega) _).mono ?_; rintro e w' ⟨rfl, rfl⟩))
  refine bodyPost_ret (v := .tuple #[.agg #[.int .i64 Ent.zero.size, .int .i64 Ent.zero.ctx, .int .u64 Ent.zero.va, .int .u64 Ent.zero.pa, .bool Ent.zero.att.write, .bool Ent.zero.att.priv, .bool Ent.zero.att.exec, .bool Ent.zero.att.lock, .bool Ent.zero.att.global, .bool Ent.zero.att.quiet, .bool Ent.zero.valid], .int .i64 11]) (by simp [results, Tryz.results127, go_sem, Ent.zero]) rfl ⟨rfl, ?_⟩
  exact ((Below.refl _ _).alloc (Nat.le_refl _) _).alloc (by simp) _
theorem below_setN' {B : Nat} {w w' : World} {a : Addr} {u : Value} (h : Below B w w') (hb : B ≤ a.block) : Below B w (w'.setCell a u) := h.setCell hb u
theorem row_eight {w : World} {g : Nat} {T : TypeId} {s c z2 z3 z4 z5 z6 z7 z8 z9 v x2 x3 x4 x5 x6 x7 x8 x9 : Value} (h : w.heap[g]? = some (.cells #[s, c, z2, z3, z4, z5, z6, z7, z8, z9, v] T (0, 0))) :
    ((((((((w.setCell ⟨g, 2, none⟩ x2).setCell ⟨g, 3, none⟩ x3).setCell ⟨g, 9, none⟩ x9).setCell ⟨g, 7, none⟩ x7).setCell ⟨g, 6, none⟩ x6).setCell ⟨g, 5, none⟩ x5).setCell ⟨g, 4, none⟩ x4).setCell ⟨g, 8, none⟩ x8).heap[g]? = some (.cells #[s, c, x2, x3, x4, x5, x6, x7, x8, x9, v] T (0, 0)) := by
  have h1 := set_row h 2 x2
  have h2 := set_row h1 3 x3
  have h3 := set_row h2 9 x9
  have h4 := set_row h3 7 x7
  have h5 := set_row h4 6 x6
  have h6 := set_row h5 5 x5
  have h7 := set_row h6 4 x4
  have h8 := set_row h7 8 x8
  clear h h1 h2 h3 h4 h5 h6 h7
  simp only [List.setIfInBounds_toArray, List.set_cons_succ, List.set_cons_zero] at h8
  exact h8
end Go.Proofs.YtnbdoemnepfhdaaGreat.Fld

namespace Go.Proofs.YtnbdoemnepfhdaaGreat.Fld
open Go.ChangeShapes Go.WideShapes Go.ChangeAt Go.RowKit
set_option maxHeartbeats 2000000
set_option maxRecDepth 100000
theorem rread_form (t d va : Int) (M : Bool) (T D : Int) (t0 : 0 ≤ t) (t1 : t ≤ 18446744073709551615) (d0 : 0 ≤ d) (d1 : d ≤ 18446744073709551615) (v0 : 0 ≤ va) (v1 : va ≤ 18446744073709551615) (hh : holeB va = false) (hv : (bitI d 63 == 0) = false)
    (HM : Hid (∀ W, Calls Tryz.prog 126 #[.agg #[.int .i64 (getI d 61 2), .int .i64 (getI t 48 13), .int .u64 (baseI va (getI d 61 2)), .int .u64 (getI d 13 28 * 8192), .bool (bitI d 1 == 1), .bool (bitI d 2 == 1), .bool (bitI d 3 == 1), .bool (bitI d 6 == 1), .bool (bitI d 0 == 1), .bool (bitI d 60 == 1), .bool true]] W fun r w' => r = .returned (.bool M) ∧ Below W.heap.size W w'))
    (HT : Hid (M = true → ∀ W, Calls Tryz.prog 90 #[.agg #[.int .i64 (getI d 61 2), .int .i64 (getI t 48 13), .int .u64 (baseI va (getI d 61 2)), .int .u64 (getI d 13 28 * 8192), .bool (bitI d 1 == 1), .bool (bitI d 2 == 1), .bool (bitI d 3 == 1), .bool (bitI d 6 == 1), .bool (bitI d 0 == 1), .bool (bitI d 60 == 1), .bool true]] W fun r w' => r = .returned (.int .u64 T) ∧ Below W.heap.size W w'))
    (HD : Hid (M = true → ∀ W, Calls Tryz.prog 92 #[.agg #[.int .i64 (getI d 61 2), .int .i64 (getI t 48 13), .int .u64 (baseI va (getI d 61 2)), .int .u64 (getI d 13 28 * 8192), .bool (bitI d 1 == 1), .bool (bitI d 2 == 1), .bool (bitI d 3 == 1), .bool (bitI d 6 == 1), .bool (bitI d 0 == 1), .bool (bitI d 60 == 1), .bool true]] W fun r w' => r = .returned (.int .u64 D) ∧ Below W.heap.size W w')) (w : World) :
    Calls Tryz.prog 127 #[.int .u64 t, .int .u64 d, .int .u64 va] w fun r w' => ((M && (T == t) && (D == d)) = true ∧ r = .returned (.tuple #[.agg #[.int .i64 (getI d 61 2), .int .i64 (getI t 48 13), .int .u64 (baseI va (getI d 61 2)), .int .u64 (getI d 13 28 * 8192), .bool (bitI d 1 == 1), .bool (bitI d 2 == 1), .bool (bitI d 3 == 1), .bool (bitI d 6 == 1), .bool (bitI d 0 == 1), .bool (bitI d 60 == 1), .bool true], .int .i64 0]) ∨ (M && (T == t) && (D == d)) = false ∧ r = .returned (.tuple #[.agg #[.int .i64 Ent.zero.size, .int .i64 Ent.zero.ctx, .int .u64 Ent.zero.va, .int .u64 Ent.zero.pa, .bool Ent.zero.att.write, .bool Ent.zero.att.priv, .bool Ent.zero.att.exec, .bool Ent.zero.att.lock, .bool Ent.zero.att.global, .bool Ent.zero.att.quiet, .bool Ent.zero.valid], .int .i64 2])) ∧ Below w.heap.size w w' := by
  have g1 := getI_bd d 61 2
  have g2 := getI_bd t 48 13
  have g3 : getI d 61 2 ≤ 3 := by rw [getI_at d 61 2 2305843009213693952 4 (by decide) d0 (by decide) (by decide)]; omega
  have g4 : getI t 48 13 ≤ 8191 := by rw [getI_at t 48 13 281474976710656 8192 (by decide) t0 (by decide) (by decide)]; omega
  have g5 : getI d 13 28 ≤ 268435455 := by rw [getI_at d 13 28 8192 268435456 (by decide) d0 (by decide) (by decide)]; omega
  have g6 := getI_bd d 13 28
  go_enter Tryz.func127, Tryz.ntmps127
  go_wp2_with (first | (go_at_call 138; refine (rhole_any _ v0 v1 _).mono ?_; rintro e w' ⟨rfl, rfl⟩) | (go_at_call 87; refine (rbit_any _ _ d0 d1 (by omega) (by omega) _).mono ?_; rintro e w' ⟨rfl, rfl⟩) | (go_at_call 139; refine (rget_any _ _ _ (by omega) (by omega) _).mono ?_; rintro e w' ⟨rfl, rfl⟩) | (go_at_call 53; refine (rbase_any _ _ v0 v1 _).mono ?_; rintro e w' ⟨rfl, n, rfl⟩))
  obtain ⟨W, hW⟩ : ∃ W, W = ((((((((((((w.alloc (.cells #[.int .i64 0, .int .i64 0, .int .u64 0, .int .u64 0, .bool false, .bool false, .bool false, .bool false, .bool false, .bool false, .bool false] 30)).alloc (.cells #[.int .i64 0, .int .i64 0, .int .u64 0, .int .u64 0, .bool false, .bool false, .bool false, .bool false, .bool false, .bool false, .bool false] 30)).alloc (.cells #[.int .i64 (getI d 61 2), .int .i64 (getI t 48 13), .int .u64 0, .int .u64 0, .bool false, .bool false, .bool false, .bool false, .bool false, .bool false, .bool true] 30)).drewN n).setCell ⟨w.heap.size + 1 + 1, 2, none⟩ (.int .u64 (baseI va (getI d 61 2)))).setCell ⟨w.heap.size + 1 + 1, 3, none⟩ (.int .u64 (getI d 13 28 * 8192))).setCell ⟨w.heap.size + 1 + 1, 9, none⟩ (.bool (bitI d 60 == 1))).setCell ⟨w.heap.size + 1 + 1, 7, none⟩ (.bool (bitI d 6 == 1))).setCell ⟨w.heap.size + 1 + 1, 6, none⟩ (.bool (bitI d 3 == 1))).setCell ⟨w.heap.size + 1 + 1, 5, none⟩ (.bool (bitI d 2 == 1))).setCell ⟨w.heap.size + 1 + 1, 4, none⟩ (.bool (bitI d 1 == 1))).setCell ⟨w.heap.size + 1 + 1, 8, none⟩ (.bool (bitI d 0 == 1))) := ⟨_, rfl⟩
  rw [← hW]
  have hR := Lib.hid (show W.heap[w.heap.size]? = some (.cells #[.int .i64 0, .int .i64 0, .int .u64 0, .int .u64 0, .bool false, .bool false, .bool false, .bool false, .bool false, .bool false, .bool false] 30 (0, 0)) by
    rw [hW]
    iterate 8 rw [Below.heap_setCell _ _ _ _ (by show w.heap.size ≠ w.heap.size + 1 + 1; omega)]
    exact (Below.heap_alloc _ _ _ (by simp; omega)).trans ((Below.heap_alloc _ _ _ (by simp)).trans (heap_alloc_new _ _)))
  have hN := Lib.hid (show W.heap[w.heap.size + 1]? = some (.cells #[.int .i64 0, .int .i64 0, .int .u64 0, .int .u64 0, .bool false, .bool false, .bool false, .bool false, .bool false, .bool false, .bool false] 30 (0, 0)) by
    rw [hW]
    iterate 8 rw [Below.heap_setCell _ _ _ _ (by show w.heap.size + 1 ≠ w.heap.size + 1 + 1; omega)]
    exact (Below.heap_alloc _ _ _ (by simp)).trans (heap_alloc2_new _ _ _))
  have hE := Lib.hid (show W.heap[w.heap.size + 1 + 1]? = some (.cells #[.int .i64 (getI d 61 2), .int .i64 (getI t 48 13), .int .u64 (baseI va (getI d 61 2)), .int .u64 (getI d 13 28 * 8192), .bool (bitI d 1 == 1), .bool (bitI d 2 == 1), .bool (bitI d 3 == 1), .bool (bitI d 6 == 1), .bool (bitI d 0 == 1), .bool (bitI d 60 == 1), .bool true] 30 (0, 0)) by
    rw [hW]
    have h := heap_alloc_new ((w.alloc (.cells #[.int .i64 0, .int .i64 0, .int .u64 0, .int .u64 0, .bool false, .bool false, .bool false, .bool false, .bool false, .bool false, .bool false] 30)).alloc (.cells #[.int .i64 0, .int .i64 0, .int .u64 0, .int .u64 0, .bool false, .bool false, .bool false, .bool false, .bool false, .bool false, .bool false] 30)) (.cells #[.int .i64 (getI d 61 2), .int .i64 (getI t 48 13), .int .u64 0, .int .u64 0, .bool false, .bool false, .bool false, .bool false, .bool false, .bool false, .bool true] 30)
    rw [World.size_alloc, World.size_alloc] at h
    exact row_eight (w := World.drewN _ n) h)
  have HB := Lib.hid (show Below w.heap.size w W by
    rw [hW]
    iterate 8 refine below_setN' ?_ (by show w.heap.size ≤ w.heap.size + 1 + 1; omega)
    exact below_drewN ((((Below.refl _ _).alloc (Nat.le_refl _) _).alloc (by simp) _).alloc (by simp; omega) _) _)
  have hz : w.heap.size + 1 + 1 < W.heap.size := by rw [hW]; simp
  clear hW
  refine (HM.out _).mono ?_; rintro r w1 ⟨rfl, hb⟩
  have hR1 := Lib.hid ((hb.block w.heap.size (by omega)).trans hR.out)
  have hN1 := Lib.hid ((hb.block (w.heap.size + 1) (by omega)).trans hN.out)
  have hE1 := Lib.hid ((hb.block (w.heap.size + 1 + 1) (by omega)).trans hE.out)
  have hz1 : w.heap.size + 1 + 1 < w1.heap.size := by have := hb.size; omega
  have HB1 := Lib.hid (show Below w.heap.size w w1 from HB.out.trans (hb.mono (by omega)))
  clear hb
  cases M
  · have r0 := cell_of_row _ _ 0 _ _ _ hR1.out
    have r1 := cell_of_row _ _ 1 _ _ _ hR1.out
    have r2 := cell_of_row _ _ 2 _ _ _ hR1.out
    have r3 := cell_of_row _ _ 3 _ _ _ hR1.out
    have r4 := cell_of_row _ _ 4 _ _ _ hR1.out
    have r5 := cell_of_row _ _ 5 _ _ _ hR1.out
    have r6 := cell_of_row _ _ 6 _ _ _ hR1.out
    have r7 := cell_of_row _ _ 7 _ _ _ hR1.out
    have r8 := cell_of_row _ _ 8 _ _ _ hR1.out
    have r9 := cell_of_row _ _ 9 _ _ _ hR1.out
    have r10 := cell_of_row _ _ 10 _ _ _ hR1.out
    have n0 := cell_of_row _ _ 0 _ _ _ hN1.out
    have n1 := cell_of_row _ _ 1 _ _ _ hN1.out
    have n2 := cell_of_row _ _ 2 _ _ _ hN1.out
    have n3 := cell_of_row _ _ 3 _ _ _ hN1.out
    have n4 := cell_of_row _ _ 4 _ _ _ hN1.out
    have n5 := cell_of_row _ _ 5 _ _ _ hN1.out
    have n6 := cell_of_row _ _ 6 _ _ _ hN1.out
    have n7 := cell_of_row _ _ 7 _ _ _ hN1.out
    have n8 := cell_of_row _ _ 8 _ _ _ hN1.out
    have n9 := cell_of_row _ _ 9 _ _ _ hN1.out
    have n10 := cell_of_row _ _ 10 _ _ _ hN1.out
    have fr : ∀ i, w1.frozen? ⟨w.heap.size, i, none⟩ = false := fun i => row_frozen hR1.out i
    go_wp2_with fail
    refine bodyPost_ret (v := .tuple #[.agg #[.int .i64 Ent.zero.size, .int .i64 Ent.zero.ctx, .int .u64 Ent.zero.va, .int .u64 Ent.zero.pa, .bool Ent.zero.att.write, .bool Ent.zero.att.priv, .bool Ent.zero.att.exec, .bool Ent.zero.att.lock, .bool Ent.zero.att.global, .bool Ent.zero.att.quiet, .bool Ent.zero.valid], .int .i64 2]) (by simp [results, Tryz.results127, go_sem, Ent.zero, r0, r1, r2, r3, r4, r5, r6, r7, r8, r9, r10]) rfl ⟨.inr ⟨rfl, rfl⟩, ?_⟩
    iterate 11 refine below_set ?_
    exact HB1.out
  have e0 := cell_of_row _ _ 0 _ _ _ hE1.out
  have e1 := cell_of_row _ _ 1 _ _ _ hE1.out
  have e2 := cell_of_row _ _ 2 _ _ _ hE1.out
  have e3 := cell_of_row _ _ 3 _ _ _ hE1.out
  have e4 := cell_of_row _ _ 4 _ _ _ hE1.out
  have e5 := cell_of_row _ _ 5 _ _ _ hE1.out
  have e6 := cell_of_row _ _ 6 _ _ _ hE1.out
  have e7 := cell_of_row _ _ 7 _ _ _ hE1.out
  have e8 := cell_of_row _ _ 8 _ _ _ hE1.out
  have e9 := cell_of_row _ _ 9 _ _ _ hE1.out
  have e10 := cell_of_row _ _ 10 _ _ _ hE1.out
  go_wp2_with fail
  clear e0 e1 e2 e3 e4 e5 e6 e7 e8 e9 e10
  refine (HT.out trivial _).mono ?_; rintro r w2 ⟨rfl, hb⟩
  have hR2 := Lib.hid ((hb.block w.heap.size (by omega)).trans hR1.out)
  have hN2 := Lib.hid ((hb.block (w.heap.size + 1) (by omega)).trans hN1.out)
  have hE2 := Lib.hid ((hb.block (w.heap.size + 1 + 1) (by omega)).trans hE1.out)
  have hz2 : w.heap.size + 1 + 1 < w2.heap.size := by have := hb.size; omega
  have HB2 := Lib.hid (show Below w.heap.size w w2 from HB1.out.trans (hb.mono (by omega)))
  clear hb
  cases ht : (T == t)
  · have ht' : (T != t) = true := by simp [bne, ht]
    have r0 := cell_of_row _ _ 0 _ _ _ hR2.out
    have r1 := cell_of_row _ _ 1 _ _ _ hR2.out
    have r2 := cell_of_row _ _ 2 _ _ _ hR2.out
    have r3 := cell_of_row _ _ 3 _ _ _ hR2.out
    have r4 := cell_of_row _ _ 4 _ _ _ hR2.out
    have r5 := cell_of_row _ _ 5 _ _ _ hR2.out
    have r6 := cell_of_row _ _ 6 _ _ _ hR2.out
    have r7 := cell_of_row _ _ 7 _ _ _ hR2.out
    have r8 := cell_of_row _ _ 8 _ _ _ hR2.out
    have r9 := cell_of_row _ _ 9 _ _ _ hR2.out
    have r10 := cell_of_row _ _ 10 _ _ _ hR2.out
    have n0 := cell_of_row _ _ 0 _ _ _ hN2.out
    have n1 := cell_of_row _ _ 1 _ _ _ hN2.out
    have n2 := cell_of_row _ _ 2 _ _ _ hN2.out
    have n3 := cell_of_row _ _ 3 _ _ _ hN2.out
    have n4 := cell_of_row _ _ 4 _ _ _ hN2.out
    have n5 := cell_of_row _ _ 5 _ _ _ hN2.out
    have n6 := cell_of_row _ _ 6 _ _ _ hN2.out
    have n7 := cell_of_row _ _ 7 _ _ _ hN2.out
    have n8 := cell_of_row _ _ 8 _ _ _ hN2.out
    have n9 := cell_of_row _ _ 9 _ _ _ hN2.out
    have n10 := cell_of_row _ _ 10 _ _ _ hN2.out
    have fr : ∀ i, w2.frozen? ⟨w.heap.size, i, none⟩ = false := fun i => row_frozen hR2.out i
    go_wp2_with fail
    refine bodyPost_ret (v := .tuple #[.agg #[.int .i64 Ent.zero.size, .int .i64 Ent.zero.ctx, .int .u64 Ent.zero.va, .int .u64 Ent.zero.pa, .bool Ent.zero.att.write, .bool Ent.zero.att.priv, .bool Ent.zero.att.exec, .bool Ent.zero.att.lock, .bool Ent.zero.att.global, .bool Ent.zero.att.quiet, .bool Ent.zero.valid], .int .i64 2]) (by simp [results, Tryz.results127, go_sem, Ent.zero, r0, r1, r2, r3, r4, r5, r6, r7, r8, r9, r10]) rfl ⟨.inr ⟨by rw [ht]; rfl, rfl⟩, ?_⟩
    iterate 11 refine below_set ?_
    exact HB2.out
  have ht' : (T != t) = false := by simp [bne, ht]
  have e0 := cell_of_row _ _ 0 _ _ _ hE2.out
  have e1 := cell_of_row _ _ 1 _ _ _ hE2.out
  have e2 := cell_of_row _ _ 2 _ _ _ hE2.out
  have e3 := cell_of_row _ _ 3 _ _ _ hE2.out
  have e4 := cell_of_row _ _ 4 _ _ _ hE2.out
  have e5 := cell_of_row _ _ 5 _ _ _ hE2.out
  have e6 := cell_of_row _ _ 6 _ _ _ hE2.out
  have e7 := cell_of_row _ _ 7 _ _ _ hE2.out
  have e8 := cell_of_row _ _ 8 _ _ _ hE2.out
  have e9 := cell_of_row _ _ 9 _ _ _ hE2.out
  have e10 := cell_of_row _ _ 10 _ _ _ hE2.out
  go_wp2_with fail
  clear e0 e1 e2 e3 e4 e5 e6 e7 e8 e9 e10
  refine (HD.out trivial _).mono ?_; rintro r w3 ⟨rfl, hb⟩
  have hR3 := Lib.hid ((hb.block w.heap.size (by omega)).trans hR2.out)
  have hN3 := Lib.hid ((hb.block (w.heap.size + 1) (by omega)).trans hN2.out)
  have hE3 := Lib.hid ((hb.block (w.heap.size + 1 + 1) (by omega)).trans hE2.out)
  have hz3 : w.heap.size + 1 + 1 < w3.heap.size := by have := hb.size; omega
  have HB3 := Lib.hid (show Below w.heap.size w w3 from HB2.out.trans (hb.mono (by omega)))
  clear hb
  cases hd : (D == d)
  · have hd' : (D != d) = true := by simp [bne, hd]
    have r0 := cell_of_row _ _ 0 _ _ _ hR3.out
    have r1 := cell_of_row _ _ 1 _ _ _ hR3.out
    have r2 := cell_of_row _ _ 2 _ _ _ hR3.out
    have r3 := cell_of_row _ _ 3 _ _ _ hR3.out
    have r4 := cell_of_row _ _ 4 _ _ _ hR3.out
    have r5 := cell_of_row _ _ 5 _ _ _ hR3.out
    have r6 := cell_of_row _ _ 6 _ _ _ hR3.out
    have r7 := cell_of_row _ _ 7 _ _ _ hR3.out
    have r8 := cell_of_row _ _ 8 _ _ _ hR3.out
    have r9 := cell_of_row _ _ 9 _ _ _ hR3.out
    have r10 := cell_of_row _ _ 10 _ _ _ hR3.out
    have n0 := cell_of_row _ _ 0 _ _ _ hN3.out
    have n1 := cell_of_row _ _ 1 _ _ _ hN3.out
    have n2 := cell_of_row _ _ 2 _ _ _ hN3.out
    have n3 := cell_of_row _ _ 3 _ _ _ hN3.out
    have n4 := cell_of_row _ _ 4 _ _ _ hN3.out
    have n5 := cell_of_row _ _ 5 _ _ _ hN3.out
    have n6 := cell_of_row _ _ 6 _ _ _ hN3.out
    have n7 := cell_of_row _ _ 7 _ _ _ hN3.out
    have n8 := cell_of_row _ _ 8 _ _ _ hN3.out
    have n9 := cell_of_row _ _ 9 _ _ _ hN3.out
    have n10 := cell_of_row _ _ 10 _ _ _ hN3.out
    have fr : ∀ i, w3.frozen? ⟨w.heap.size, i, none⟩ = false := fun i => row_frozen hR3.out i
    go_wp2_with fail
    refine bodyPost_ret (v := .tuple #[.agg #[.int .i64 Ent.zero.size, .int .i64 Ent.zero.ctx, .int .u64 Ent.zero.va, .int .u64 Ent.zero.pa, .bool Ent.zero.att.write, .bool Ent.zero.att.priv, .bool Ent.zero.att.exec, .bool Ent.zero.att.lock, .bool Ent.zero.att.global, .bool Ent.zero.att.quiet, .bool Ent.zero.valid], .int .i64 2]) (by simp [results, Tryz.results127, go_sem, Ent.zero, r0, r1, r2, r3, r4, r5, r6, r7, r8, r9, r10]) rfl ⟨.inr ⟨by rw [ht, hd]; rfl, rfl⟩, ?_⟩
    iterate 11 refine below_set ?_
    exact HB3.out
  · have hd' : (D != d) = false := by simp [bne, hd]
    have e0 := cell_of_row _ _ 0 _ _ _ hE3.out
    have e1 := cell_of_row _ _ 1 _ _ _ hE3.out
    have e2 := cell_of_row _ _ 2 _ _ _ hE3.out
    have e3 := cell_of_row _ _ 3 _ _ _ hE3.out
    have e4 := cell_of_row _ _ 4 _ _ _ hE3.out
    have e5 := cell_of_row _ _ 5 _ _ _ hE3.out
    have e6 := cell_of_row _ _ 6 _ _ _ hE3.out
    have e7 := cell_of_row _ _ 7 _ _ _ hE3.out
    have e8 := cell_of_row _ _ 8 _ _ _ hE3.out
    have e9 := cell_of_row _ _ 9 _ _ _ hE3.out
    have e10 := cell_of_row _ _ 10 _ _ _ hE3.out
    have r0 := cell_of_row _ _ 0 _ _ _ hR3.out
    have r1 := cell_of_row _ _ 1 _ _ _ hR3.out
    have r2 := cell_of_row _ _ 2 _ _ _ hR3.out
    have r3 := cell_of_row _ _ 3 _ _ _ hR3.out
    have r4 := cell_of_row _ _ 4 _ _ _ hR3.out
    have r5 := cell_of_row _ _ 5 _ _ _ hR3.out
    have r6 := cell_of_row _ _ 6 _ _ _ hR3.out
    have r7 := cell_of_row _ _ 7 _ _ _ hR3.out
    have r8 := cell_of_row _ _ 8 _ _ _ hR3.out
    have r9 := cell_of_row _ _ 9 _ _ _ hR3.out
    have r10 := cell_of_row _ _ 10 _ _ _ hR3.out
    have n0 := cell_of_row _ _ 0 _ _ _ hN3.out
    have n1 := cell_of_row _ _ 1 _ _ _ hN3.out
    have n2 := cell_of_row _ _ 2 _ _ _ hN3.out
    have n3 := cell_of_row _ _ 3 _ _ _ hN3.out
    have n4 := cell_of_row _ _ 4 _ _ _ hN3.out
    have n5 := cell_of_row _ _ 5 _ _ _ hN3.out
    have n6 := cell_of_row _ _ 6 _ _ _ hN3.out
    have n7 := cell_of_row _ _ 7 _ _ _ hN3.out
    have n8 := cell_of_row _ _ 8 _ _ _ hN3.out
    have n9 := cell_of_row _ _ 9 _ _ _ hN3.out
    have n10 := cell_of_row _ _ 10 _ _ _ hN3.out
    have fr : ∀ i, w3.frozen? ⟨w.heap.size, i, none⟩ = false := fun i => row_frozen hR3.out i
    go_wp2_with fail
    refine bodyPost_ret (v := .tuple #[.agg #[.int .i64 (getI d 61 2), .int .i64 (getI t 48 13), .int .u64 (baseI va (getI d 61 2)), .int .u64 (getI d 13 28 * 8192), .bool (bitI d 1 == 1), .bool (bitI d 2 == 1), .bool (bitI d 3 == 1), .bool (bitI d 6 == 1), .bool (bitI d 0 == 1), .bool (bitI d 60 == 1), .bool true], .int .i64 0]) (by simp [results, Tryz.results127, go_sem, r0, r1, r2, r3, r4, r5, r6, r7, r8, r9, r10]) rfl ⟨.inl ⟨by rw [ht, hd]; rfl, rfl⟩, ?_⟩
    iterate 11 refine below_set ?_
    exact HB3.out
theorem rread_any (t d va : Int) (t0 : 0 ≤ t) (t1 : t ≤ 18446744073709551615) (d0 : 0 ≤ d) (d1 : d ≤ 18446744073709551615) (v0 : 0 ≤ va) (v1 : va ≤ 18446744073709551615) (w : World) :
    Calls Tryz.prog 127 #[.int .u64 t, .int .u64 d, .int .u64 va] w fun r w' => r = .returned (.tuple #[.agg #[.int .i64 (Ent.readE t d va).size, .int .i64 (Ent.readE t d va).ctx, .int .u64 (Ent.readE t d va).va, .int .u64 (Ent.readE t d va).pa, .bool (Ent.readE t d va).att.write, .bool (Ent.readE t d va).att.priv, .bool (Ent.readE t d va).att.exec, .bool (Ent.readE t d va).att.lock, .bool (Ent.readE t d va).att.global, .bool (Ent.readE t d va).att.quiet, .bool (Ent.readE t d va).valid], .int .i64 (Ent.readN t d va)]) ∧ Below w.heap.size w w' := by
  cases hh : holeB va
  · rcases bitI_01 d 63 with hv | hv
    · obtain ⟨e1, e2⟩ := read_state t d va hh hv
      exact (rread_state t d va d0 d1 v0 v1 hh (by rw [hv]; rfl) w).mono fun _ _ h => ⟨h.1.trans (ret_read e2.symm e1.symm), h.2⟩
    · obtain ⟨b1, b2, b3, b4⟩ := Ent.ofW_bd t d va t0 d0 v0 v1
      have hw := read_form t d va _ rfl hh hv
      have HM := Lib.hid (fun W => rmaye_any (Ent.ofW t d va) b2.1 b2.2 b3.1 b3.2 W)
      have HT := Lib.hid (fun (h : (Ent.ofW t d va).mayB = true) (W : World) => rtage_any (Ent.ofW t d va) (Ent.fit h b3.1) b2.1 b2.2 W)
      have HD := Lib.hid (fun (h : (Ent.ofW t d va).mayB = true) (W : World) => rdata_any (Ent.ofW t d va) (Ent.fit h b3.1) W)
      refine (rread_form t d va _ _ _ t0 t1 d0 d1 v0 v1 hh (by rw [hv]; rfl) HM HT HD w).mono fun _ _ h => ⟨?_, h.2⟩
      rcases hw with ⟨q, e1, e2⟩ | ⟨q, e1, e2⟩
      · rcases h.1 with ⟨_, e⟩ | ⟨z, _⟩
        · exact e.trans (ret_read (g := Ent.ofW t d va) e2.symm e1.symm)
        · rw [q] at z; cases z
      · rcases h.1 with ⟨z, _⟩ | ⟨_, e⟩
        · rw [q] at z; cases z
        · exact e.trans (ret_read e2.symm e1.symm)
  · obtain ⟨e1, e2⟩ := read_hole t d va hh
    exact (rread_hole t d va v0 v1 hh w).mono fun _ _ h => ⟨h.1.trans (ret_read e2.symm e1.symm), h.2⟩
end Go.Proofs.YtnbdoemnepfhdaaGreat.Fld

