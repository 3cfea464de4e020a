/-
  The table of what kinds of faults are called, and told, and the contracts of package fault's find, Trap, Type and Show. Conditions: the table stands where it was laid.
-/
import Derived.Test.YtfkbloclogeacaaDoorJudge
import Derived.RegionTactic
namespace Go.Proofs.YtfkbloclogeacaaDoor.Jd
open Fld
open Go.ChangeShapes Go.WideShapes Go.ChangeAt Go.RowKit
set_option maxHeartbeats 1000000
set_option maxRecDepth 100000
/-- The traps of a kind: of all accesses but a Fetch, of a Fetch. -/
def trA (n : Int) : Int := trapI n 0
def trF (n : Int) : Int := trapI n 2
def tabL : List Value := [.string ⟨#[110, 111, 110, 101]⟩, .int .i64 0, .int .i64 0, .int .i64 0, .string ⟨#[104, 111, 108, 101]⟩, .int .i64 48, .int .i64 8, .int .i64 32, .string ⟨#[110, 111, 116, 104, 105, 110, 103]⟩, .int .i64 104, .int .i64 100, .int .i64 0, .string ⟨#[112, 114, 105, 118]⟩, .int .i64 48, .int .i64 8, .int .i64 1, .string ⟨#[113, 117, 105, 101, 116]⟩, .int .i64 48, .int .i64 8, .int .i64 2, .string ⟨#[119, 114, 105, 116, 101]⟩, .int .i64 108, .int .i64 108, .int .i64 0, .string ⟨#[101, 120, 101, 99]⟩, .int .i64 48, .int .i64 8, .int .i64 16]
def Tab (w : World) : Prop := 0 < w.heap.size ∧ ∀ i, i < 28 → w.cell? ⟨0, i, none⟩ = some (tabL.getD i (.bool false))
theorem Tab.below {w w' : World} {n : Nat} (h : Tab w) (hb : Below n w w') (hn : w.heap.size ≤ n) : Tab w' := by
  refine ⟨Nat.lt_of_lt_of_le h.1 hb.size, fun i hi => ?_⟩
  rw [hb.cell (p := ⟨0, i, none⟩) (Nat.lt_of_lt_of_le h.1 hn)]
  exact h.2 i hi
theorem Tab.alloc {w : World} (h : Tab w) (o : Obj) : Tab (w.alloc o) := h.below ((Below.refl _ _).alloc (Nat.le_refl _) _) (Nat.le_refl _)
theorem tab_cells (n : Nat) (h : n < 7) : tabL.getD (n * 4) (.bool false) = .string (showS n) ∧ tabL.getD (n * 4 + 1) (.bool false) = .int .i64 (trA n) ∧ tabL.getD (n * 4 + 2) (.bool false) = .int .i64 (trF n) ∧ tabL.getD (n * 4 + 3) (.bool false) = .int .i64 (typeI n) := by
  have : n = 0 ∨ n = 1 ∨ n = 2 ∨ n = 3 ∨ n = 4 ∨ n = 5 ∨ n = 6 := by omega
  rcases this with rfl | rfl | rfl | rfl | rfl | rfl | rfl <;> exact ⟨by kernel_rfl, by kernel_rfl, by kernel_rfl, by kernel_rfl⟩
theorem tab_at {w : World} (h : Tab w) (n : Nat) (hn : n < 7) : w.cell? ⟨0, n * 4, none⟩ = some (.string (showS n)) ∧ w.cell? ⟨0, n * 4 + 1, none⟩ = some (.int .i64 (trA n)) ∧ w.cell? ⟨0, n * 4 + 2, none⟩ = some (.int .i64 (trF n)) ∧ w.cell? ⟨0, n * 4 + 3, none⟩ = some (.int .i64 (typeI n)) := by
  obtain ⟨c0, c1, c2, c3⟩ := tab_cells n hn
  exact ⟨(h.2 _ (by omega)).trans (congrArg some c0), (h.2 _ (by omega)).trans (congrArg some c1), (h.2 _ (by omega)).trans (congrArg some c2), (h.2 _ (by omega)).trans (congrArg some c3)⟩
theorem none_of {n : Int} (h : ¬ (0 ≤ n ∧ n < 7)) : showS n = ⟨#[]⟩ ∧ trA n = 0 ∧ trF n = 0 ∧ typeI n = 0 := by
  refine ⟨?_, ?_, ?_, ?_⟩
  · unfold showS; rw [if_neg (by omega), if_neg (by omega), if_neg (by omega), if_neg (by omega), if_neg (by omega), if_neg (by omega), if_neg (by omega)]
  · unfold trA trapI; rw [if_neg (by omega), if_neg (by omega), if_neg (by omega)]
  · unfold trF trapI; rw [if_neg (by omega), if_neg (by omega), if_neg (by omega)]
  · unfold typeI; rw [if_neg (by omega), if_neg (by omega), if_neg (by omega), if_neg (by omega)]
theorem set_row {w : World} {b : Nat} {C : Array Value} {t : TypeId} {f : Nat × Nat} (h : w.heap[b]? = some (.cells C t f)) (o : Nat) (v : Value) : (w.setCell ⟨b, o, none⟩ v).heap[b]? = some (.cells (C.setIfInBounds o v) t f) := by
  simp [World.setCell, Array.getElem?_modify, h]
theorem set_four {w : World} {g : Nat} {T : TypeId} {z0 z1 z2 z3 x0 x1 x2 x3 : Value} (h : w.heap[g]? = some (.cells #[z0, z1, z2, z3] T (0, 0))) :
    ((((w.setCell ⟨g, 0, none⟩ x0).setCell ⟨g, 1, none⟩ x1).setCell ⟨g, 2, none⟩ x2).setCell ⟨g, 3, none⟩ x3).heap[g]? = some (.cells #[x0, x1, x2, x3] T (0, 0)) := by
  have h0 := set_row h 0 x0
  have h1 := set_row h0 1 x1
  have h2 := set_row h1 2 x2
  have h3 := set_row h2 3 x3
  clear h h0 h1 h2
  simp only [List.setIfInBounds_toArray, List.set_cons_succ, List.set_cons_zero] at h3
  exact h3
theorem find_any (n : Int) (w : World) (h : Tab w) :
    Calls Tryd.prog 32 #[.int .i64 n] w fun e w' => e = .returned (.agg #[.string (showS n), .int .i64 (trA n), .int .i64 (trF n), .int .i64 (typeI n)]) ∧ Below w.heap.size w w' := by
  have hlt := h.1
  by_cases hn : 0 ≤ n ∧ n < 7
  · obtain ⟨k, rfl⟩ : ∃ k : Nat, n = (k : Int) := ⟨n.toNat, by omega⟩
    have hk : k < 7 := by omega
    obtain ⟨c0, c1, c2, c3⟩ := tab_at h k hk
    have hk' : (k : Int) < 7 := by omega
    generalize showS (k : Int) = s at *
    generalize trA (k : Int) = p at *
    generalize trF (k : Int) = q at *
    generalize typeI (k : Int) = r at *
    go_enter Tryd.func32, Tryd.ntmps32
    go_wp2
    refine bodyPost_ret (results_cell_row rfl _ _ _ _ _ (0, 0) _ rfl (heap_alloc_new _ _) Tryd.underlying51 (by kernel_rfl) (by kernel_rfl)) rfl ⟨rfl, ?_⟩
    exact (Below.refl _ _).alloc (Nat.le_refl _) _
  · obtain ⟨e0, e1, e2, e3⟩ := none_of hn
    rw [e0, e1, e2, e3]
    go_enter Tryd.func32, Tryd.ntmps32
    go_wp2
    all_goals
      refine bodyPost_ret (results_cell_row rfl _ _ _ _ _ (0, 0) _ rfl (heap_alloc_new _ _) Tryd.underlying51 (by kernel_rfl) (by kernel_rfl)) rfl ⟨rfl, ?_⟩
      exact (Below.refl _ _).alloc (Nat.le_refl _) _
theorem field_row (s : ByteArray) (p q r : Int) (W : World) :
    (Instr.field 51 (.agg #[.string s, .int .i64 p, .int .i64 q, .int .i64 r]) 0).run Tryd.prog W = .ok (.string s) W ∧ (Instr.field 51 (.agg #[.string s, .int .i64 p, .int .i64 q, .int .i64 r]) 1).run Tryd.prog W = .ok (.int .i64 p) W ∧
    (Instr.field 51 (.agg #[.string s, .int .i64 p, .int .i64 q, .int .i64 r]) 2).run Tryd.prog W = .ok (.int .i64 q) W ∧ (Instr.field 51 (.agg #[.string s, .int .i64 p, .int .i64 q, .int .i64 r]) 3).run Tryd.prog W = .ok (.int .i64 r) W :=
  ⟨by kernel_rfl, by kernel_rfl, by kernel_rfl, by kernel_rfl⟩
theorem trap_eq (n k : Int) : trapI n k = if k = 2 then trF n else trA n := by
  unfold trF trA trapI
  by_cases h : k = 2
  · subst h; rfl
  · simp [h]
theorem trap_any (n : Int) (x : Acc) (w : World) (h : Tab w) :
    Calls Tryd.prog 16 #[.int .i64 n, .agg #[.int .i64 x.kind, .bool x.priv, .int .u64 x.va]] w fun e w' => e = .returned (.int .i64 (trapI n x.kind)) ∧ Below w.heap.size w w' := by
  obtain ⟨k, p, v⟩ := x
  dsimp only
  have HT := Lib.hid (trap_eq n k)
  have C := Lib.hid (fun W (hW : Tab W) => find_any n W hW)
  generalize trapI n k = V at *
  have h1 : Tab (w.alloc (.cells #[.int .i64 k, .bool p, .int .u64 v] 28)) := h.alloc _
  by_cases hk : k = 2
  · subst hk
    rw [if_pos rfl] at HT
    go_enter Tryd.func16, Tryd.ntmps16
    go_wp2_with fail
    refine (C.out _ h1).mono ?_; rintro r w1 ⟨rfl, hb⟩
    have ⟨f0, f1, f2, f3⟩ := field_row (showS n) (trA n) (trF n) (typeI n) w1
    go_wp2_with fail
    go_ret
    exact ⟨ret_int HT.out.symm, below_box hb⟩
  · rw [if_neg hk] at HT
    go_enter Tryd.func16, Tryd.ntmps16
    go_wp2_with fail
    refine (C.out _ h1).mono ?_; rintro r w1 ⟨rfl, hb⟩
    have ⟨f0, f1, f2, f3⟩ := field_row (showS n) (trA n) (trF n) (typeI n) w1
    go_wp2_with fail
    go_ret
    exact ⟨ret_int HT.out.symm, below_box hb⟩
theorem type_any (n : Int) (w : World) (h : Tab w) :
    Calls Tryd.prog 18 #[.int .i64 n] w fun e w' => e = .returned (.int .i64 (typeI n)) ∧ Below w.heap.size w w' := by
  have C := Lib.hid (fun W (hW : Tab W) => find_any n W hW)
  go_enter Tryd.func18, Tryd.ntmps18
  go_wp2_with fail
  refine (C.out _ h).mono ?_; rintro r w1 ⟨rfl, hb⟩
  have ⟨f0, f1, f2, f3⟩ := field_row (showS n) (trA n) (trF n) (typeI n) w1
  go_wp2_with fail
  go_ret
  exact ⟨rfl, hb⟩
theorem show_any (n : Int) (w : World) (h : Tab w) :
    Calls Tryd.prog 20 #[.int .i64 n] w fun e w' => e = .returned (.string (showS n)) ∧ Below w.heap.size w w' := by
  have C := Lib.hid (fun W (hW : Tab W) => find_any n W hW)
  go_enter Tryd.func20, Tryd.ntmps20
  go_wp2_with fail
  refine (C.out _ h).mono ?_; rintro r w1 ⟨rfl, hb⟩
  have ⟨f0, f1, f2, f3⟩ := field_row (showS n) (trA n) (trF n) (typeI n) w1
  go_wp2_with fail
  go_ret
  exact ⟨rfl, hb⟩
theorem rtrap_any (n : Int) (x : Acc) (w : World) :
    Calls Tryd.prog 17 #[.int .i64 n, .agg #[.int .i64 x.kind, .bool x.priv, .int .u64 x.va]] w fun e w' => e = .returned (.int .i64 (trapI n x.kind)) ∧ Below w.heap.size w w' := by
  obtain ⟨k, p, v⟩ := x
  dsimp only
  have HT := Lib.hid (show trapI n k = if n = 1 ∨ n = 3 ∨ n = 4 ∨ n = 6 then (if k = 2 then 8 else 48) else if n = 2 then (if k = 2 then 100 else 104) else if n = 5 then 108 else 0 from rfl)
  generalize trapI n k = V at *
  go_enter Tryd.func17, Tryd.ntmps17
  go_wp2
  all_goals
    go_ret
    refine ⟨ret_int ?_, (Below.refl _ _).alloc (Nat.le_refl _) _⟩
    rw [HT.out]; simp_all
theorem rtype_any (n : Int) (w : World) :
    Calls Tryd.prog 19 #[.int .i64 n] w fun e w' => e = .returned (.int .i64 (typeI n)) ∧ Below w.heap.size w w' := by
  have HT := Lib.hid (show typeI n = if n = 1 then 32 else if n = 3 then 1 else if n = 4 then 2 else if n = 6 then 16 else 0 from rfl)
  generalize typeI n = V at *
  go_enter Tryd.func19, Tryd.ntmps19
  go_wp2
  all_goals
    go_ret
    refine ⟨ret_int ?_, Below.refl _ _⟩
    rw [HT.out]; simp_all
theorem rshow_any (n : Int) (w : World) :
    Calls Tryd.prog 21 #[.int .i64 n] w fun e w' => e = .returned (.string (showS n)) ∧ Below w.heap.size w w' := by
  by_cases hn : 0 ≤ n ∧ n < 7
  · obtain ⟨k, rfl⟩ : ∃ k : Nat, n = (k : Int) := ⟨n.toNat, by omega⟩
    have : k = 0 ∨ k = 1 ∨ k = 2 ∨ k = 3 ∨ k = 4 ∨ k = 5 ∨ k = 6 := by omega
    rcases this with rfl | rfl | rfl | rfl | rfl | rfl | rfl
    all_goals
      clear hn
      go_enter Tryd.func21, Tryd.ntmps21
      go_wp2
      go_ret
      exact ⟨rfl, (Below.refl _ _).alloc (Nat.le_refl _) _⟩
  · rw [(none_of hn).1]
    go_enter Tryd.func21, Tryd.ntmps21
    go_wp2
    all_goals
      go_ret
      exact ⟨rfl, (Below.refl _ _).alloc (Nat.le_refl _) _⟩
end Go.Proofs.YtfkbloclogeacaaDoor.Jd
