/-
  Contract of the law's does: a pair is put. Conditions: both memories have the same bytes.
-/
import Derived.Test.YtmhgofhclckdpaaMDeed
namespace Go.Proofs.Ytmhgofhclckdpaa.Mem
open Go.ChangeShapes Go.WideShapes Go.ChangeAt Go.RowKit Go.Maps
set_option maxHeartbeats 4000000
set_option linter.unusedVariables false
set_option maxRecDepth 100000 in
theorem does_2 (sb bm S : Nat) (g : Nat → Nat) (a x y : Int) (v : Value) (w : World) (h : MemAt w sb bm S g) (hl : HasL w S g v) (a0 : 0 ≤ a) (a1 : a < 18446744073709551616) (x0 : 0 ≤ x) (x1 : x < 18446744073709551616) (y0 : 0 ≤ y) (y1 : y < 18446744073709551616) :
    Calls Try.prog 19 #[.pointer (some ⟨sb, 0, none⟩), .agg #[.int .u64 (S : Int), v], .agg #[.int .i64 2, .int .u64 a, .int .u64 x, .int .u64 y]] w (DoneD w sb bm S) := by
  have hS := h.good.le
  obtain ⟨ao, n, cap, rfl⟩ := hl.shape
  have X0 := DR.start h hl #[.int .i64 2, .int .u64 a, .int .u64 x, .int .u64 y]
  by_cases hm : mayI S a 16 16 = 0
  · have q := (may_zero hm).2
    have HST := Lib.hid (show stP S g a x y = setW (setW g a.toNat x.toNat) (a + 8).toNat y.toNat by unfold stP; rw [if_pos hm]; congr 1; omega)
    have WA : IntKind.u64.wrap (a + 8) = a + 8 := by rw [IntKind.wrap_u64]; omega
    go_enter Try.func19, Try.ntmps19
    go_wp2_with (go_at_call 15; refine (DR.ref X0 (fun hl => rmay_any S _ _ _ _ _ (by omega) (by omega) (by omega) (by omega) (by omega) (by omega) (by omega) (by omega) hl.shape)).mono ?_; rintro e w3 ⟨rfl, X3⟩; obtain ⟨m0, m1, d0, d1, d2, d3⟩ := X3.dw.cells)
    clear X0 hl h
    have XD := X3.drew
    refine wp_region_held_drew (S := fun w1 => w1.cell? ⟨w.heap.size + 1, 0, none⟩ = some (.int .i64 2) ∧ w1.cell? ⟨w.heap.size + 1, 1, none⟩ = some (.int .u64 a) ∧ w1.cell? ⟨w.heap.size + 1, 2, none⟩ = some (.int .u64 x) ∧ w1.cell? ⟨w.heap.size + 1, 3, none⟩ = some (.int .u64 y)) (by kernel_rfl) (deed_D XD) (fun hHeld => ?_)
    refine wpAnyH_take (i := 1) (v := ?v1) rfl (by kernel_rfl) (by kernel_rfl) (by kernel_rfl) (fun _ _ _ h => h) (Or.inl ⟨by rfl, ?hy1⟩) (by assumption) ?rest1
    case hy1 => (intro w hSw; (try dsimp only at hSw); go_simp <;> (with_reducible rfl))
    simp only [Act.put, List.setIfInBounds_toArray, List.set_cons_zero, List.set_cons_succ, List.getElem_toArray, List.getElem_cons_zero, List.getElem_cons_succ]
    refine wpAnyH_take (i := 2) (v := ?v2) rfl (by kernel_rfl) (by kernel_rfl) (by kernel_rfl) (fun _ _ _ h => h) (Or.inl ⟨by rfl, ?hy2⟩) (by assumption) ?rest2
    case hy2 => (intro w hSw; (try dsimp only at hSw); go_simp <;> (with_reducible rfl))
    simp only [Act.put, List.setIfInBounds_toArray, List.set_cons_zero, List.set_cons_succ, List.getElem_toArray, List.getElem_cons_zero, List.getElem_cons_succ]
    refine wpAnyH_take (i := 3) (v := ?v3) rfl (by kernel_rfl) (by kernel_rfl) (by kernel_rfl) (fun _ _ _ h => h) (Or.inl ⟨by rfl, ?hy3⟩) (by assumption) ?rest3
    case hy3 => (intro w hSw; (try dsimp only at hSw); go_simp <;> (with_reducible rfl))
    simp only [Act.put, List.setIfInBounds_toArray, List.set_cons_zero, List.set_cons_succ, List.getElem_toArray, List.getElem_cons_zero, List.getElem_cons_succ]
    refine wpAnyH_take (i := 4) (v := ?v4) rfl (by kernel_rfl) (by kernel_rfl) (by kernel_rfl) (fun _ _ _ h => h) (Or.inl ⟨by rfl, ?hy4⟩) (by assumption) ?rest4
    case hy4 => (intro w hSw; (try dsimp only at hSw); go_simp <;> (with_reducible rfl))
    simp only [Act.put, List.setIfInBounds_toArray, List.set_cons_zero, List.set_cons_succ, List.getElem_toArray, List.getElem_cons_zero, List.getElem_cons_succ]
    refine wpAnyH_take (i := 6) (v := ?v6) rfl (by kernel_rfl) (by kernel_rfl) (by kernel_rfl) (fun _ _ _ h => h) (Or.inl ⟨by rfl, ?hy6⟩) (by assumption) ?rest6
    case hy6 => (intro w hSw; (try dsimp only at hSw); go_simp <;> (with_reducible rfl))
    simp only [Act.put, List.setIfInBounds_toArray, List.set_cons_zero, List.set_cons_succ, List.getElem_toArray, List.getElem_cons_zero, List.getElem_cons_succ]
    refine wpAnyH_take (i := 7) (v := ?v7) rfl (by kernel_rfl) (by kernel_rfl) (by kernel_rfl) (fun _ _ _ h => h) (Or.inl ⟨by rfl, ?hy7⟩) (by assumption) ?rest7
    case hy7 => (intro w hSw; (try dsimp only at hSw); go_simp <;> (with_reducible rfl))
    simp only [Act.put, List.setIfInBounds_toArray, List.set_cons_zero, List.set_cons_succ, List.getElem_toArray, List.getElem_cons_zero, List.getElem_cons_succ]
    refine wpAnyH_take (i := 8) (v := ?v8) rfl (by kernel_rfl) (by kernel_rfl) (by kernel_rfl) (fun _ _ _ h => h) (Or.inl ⟨by rfl, ?hy8⟩) (by assumption) ?rest8
    case hy8 => (intro w hSw; (try dsimp only at hSw); go_simp <;> (with_reducible rfl))
    simp only [Act.put, List.setIfInBounds_toArray, List.set_cons_zero, List.set_cons_succ, List.getElem_toArray, List.getElem_cons_zero, List.getElem_cons_succ]
    refine wpAnyH_take (i := 9) (v := ?v9) rfl (by kernel_rfl) (by kernel_rfl) (by kernel_rfl) (fun _ _ _ h => h) (Or.inl ⟨by rfl, ?hy9⟩) (by assumption) ?rest9
    case hy9 => (intro w hSw; (try dsimp only at hSw); go_simp <;> (with_reducible rfl))
    simp only [Act.put, List.setIfInBounds_toArray, List.set_cons_zero, List.set_cons_succ, List.getElem_toArray, List.getElem_cons_zero, List.getElem_cons_succ]
    refine wpAnyH_take (i := 10) (v := ?v10) rfl (by kernel_rfl) (by kernel_rfl) (by kernel_rfl) (fun _ _ _ h => h) (Or.inl ⟨by rfl, ?hy10⟩) (by assumption) ?rest10
    case hy10 => (intro w hSw; (try dsimp only at hSw); go_simp <;> (with_reducible rfl))
    simp only [Act.put, List.setIfInBounds_toArray, List.set_cons_zero, List.set_cons_succ, List.getElem_toArray, List.getElem_cons_zero, List.getElem_cons_succ]
    refine wpAnyH_ready (rs := [0]) (by kernel_rfl) (by simp) ?_
    refine AllReadyH.cons rfl (fun K hK => ?_) AllReadyH.nil
    go_simp
    refine hK.out _ _ (deed_D XD) (fun hHeld => ?_)
    clear hK K
    try simp only [Act.put, List.setIfInBounds_toArray, List.set_cons_zero, List.set_cons_succ, List.getElem_toArray, List.getElem_cons_zero, List.getElem_cons_succ]
    refine wpAnyH_ready (rs := [5]) (by kernel_rfl) (by simp) ?_
    refine AllReadyH.cons rfl (fun K hK => ?_) AllReadyH.nil
    go_simp
    refine (DR.make XD (fun hl => putWord_int S _ _ _ _ _ hl (by omega) (by omega) (by omega) (by omega))).mono ?_
    rintro e w4 ⟨ao2, n2, cap2, rfl, hl2, X4⟩
    try go_simp
    refine hK.out _ _ (deed_D X4) (fun hHeld => ?_)
    clear hK K
    try simp only [Act.put, List.setIfInBounds_toArray, List.set_cons_zero, List.set_cons_succ, List.getElem_toArray, List.getElem_cons_zero, List.getElem_cons_succ]
    refine wpAnyH_ready (rs := [11]) (by kernel_rfl) (by simp) ?_
    refine AllReadyH.cons rfl (fun K hK => ?_) AllReadyH.nil
    go_simp
    refine (DR.again X4 hl2 (fun hl => putWord_int S _ _ _ _ _ hl (by omega) (by omega) (by omega) (by omega))).mono ?_
    rintro e w5 ⟨ao3, n3, cap3, rfl, hl3, X5⟩
    obtain ⟨p0, p1, e0, e1, e2, e3⟩ := X5.dw.cells
    obtain ⟨fr0, fr1⟩ := X5.dw.free
    try go_simp
    refine hK.out _ _ (deed_D X5) (fun hHeld => ?_)
    clear hK K
    try simp only [Act.put, List.setIfInBounds_toArray, List.set_cons_zero, List.set_cons_succ, List.getElem_toArray, List.getElem_cons_zero, List.getElem_cons_succ]
    have XZ := X5.put hl3
    refine wpAnyH_ready (rs := [12]) (by kernel_rfl) (by simp) ?_
    refine AllReadyH.cons rfl (fun K hK => ?_) AllReadyH.nil
    go_simp
    refine hK.out _ _ (deed_D XZ) (fun hHeld => ?_)
    clear hK K
    try simp only [Act.put, List.setIfInBounds_toArray, List.set_cons_zero, List.set_cons_succ, List.getElem_toArray, List.getElem_cons_zero, List.getElem_cons_succ]
    refine wpAnyH_done (by kernel_rfl) ?_ _
    generalize (w5.setCell ⟨w.heap.size, 0, none⟩ (.int .u64 (S : Int))).setCell ⟨w.heap.size, 1, none⟩ (.slice ao3 n3 cap3) = W6 at XZ hHeld ⊢
    clear hHeld p0 p1 e0 e1 e2 e3 fr0 fr1 X5 X4 X3 XD hl2 hl3 m0 m1 d0 d1 d2 d3
    go_wp2_with fail
    go_region_held3 (fun w1 => w1.cell? ⟨w.heap.size, 0, none⟩ = some (.int .u64 (S : Int)) ∧ w1.cell? ⟨w.heap.size, 1, none⟩ = some (.slice ao3 n3 cap3) ∧ w1.cell? ⟨w.heap.size + 1, 0, none⟩ = some (.int .i64 2) ∧ w1.cell? ⟨w.heap.size + 1, 1, none⟩ = some (.int .u64 a) ∧ w1.cell? ⟨w.heap.size + 1, 2, none⟩ = some (.int .u64 x) ∧ w1.cell? ⟨w.heap.size + 1, 3, none⟩ = some (.int .u64 y))
      ((first | (refine deed_S (sb := sb) (bm := bm) (g := g) (gl := setW (setW g a.toNat x.toNat) (a + 8).toNat y.toNat) ?_; first | assumption | (refine DR.drew ?_; assumption)) | (refine deed_S (sb := sb) (bm := bm) (g := setW (setW g a.toNat x.toNat) (a + 8).toNat y.toNat) (gl := setW (setW g a.toNat x.toNat) (a + 8).toNat y.toNat) ?_; assumption) | (refine deed_T (sb := sb) (bm := bm) (g := setW (setW g a.toNat x.toNat) (a + 8).toNat y.toNat) ?_; assumption)))
      (first | (go_at_call 21; (with_reducible refine (DR.call XZ.drew (fun bmi M => putPair_any sb bmi S g _ _ _ _ M (by omega) (by omega) (by omega) (by omega) (by omega) (by omega))).mono ?_); rintro e w6 ⟨rfl, X6⟩; rw [HST.out] at X6; obtain ⟨r0, r1, r2, r3⟩ := X6.rcells))
    obtain ⟨L1, L2⟩ := DR.done (by assumption : DR w _ sb bm S (setW (setW g a.toNat x.toNat) (a + 8).toNat y.toNat) (setW (setW g a.toNat x.toNat) (a + 8).toNat y.toNat) (.slice ao3 n3 cap3) #[.int .i64 2, .int .u64 a, .int .u64 x, .int .u64 y])
    go_wp2
    exact deed_ret rfl rfl rfl L1 L2
  · have HST := Lib.hid (show stP S g a x y = g by unfold stP; rw [if_neg hm])
    go_enter Try.func19, Try.ntmps19
    go_wp2_with (go_at_call 15; refine (DR.ref X0 (fun hl => rmay_any S _ _ _ _ _ (by omega) (by omega) (by omega) (by omega) (by omega) (by omega) (by omega) (by omega) hl.shape)).mono ?_; rintro e w3 ⟨rfl, X3⟩; obtain ⟨m0, m1, d0, d1, d2, d3⟩ := X3.dw.cells)
    clear X0 hl h m0 m1 d0 d1 d2 d3
    go_region_held3 (fun w1 => w1.cell? ⟨w.heap.size, 0, none⟩ = some (.int .u64 (S : Int)) ∧ w1.cell? ⟨w.heap.size, 1, none⟩ = some (.slice ao n cap) ∧ w1.cell? ⟨w.heap.size + 1, 0, none⟩ = some (.int .i64 2) ∧ w1.cell? ⟨w.heap.size + 1, 1, none⟩ = some (.int .u64 a) ∧ w1.cell? ⟨w.heap.size + 1, 2, none⟩ = some (.int .u64 x) ∧ w1.cell? ⟨w.heap.size + 1, 3, none⟩ = some (.int .u64 y))
      ((first | (refine deed_S (sb := sb) (bm := bm) (g := g) (gl := g) ?_; first | assumption | (refine DR.drew ?_; assumption)) | (refine deed_S (sb := sb) (bm := bm) (g := g) (gl := g) ?_; assumption) | (refine deed_T (sb := sb) (bm := bm) (g := g) ?_; assumption)))
      (first | (go_at_call 21; (with_reducible refine (DR.call X3.drew (fun bmi M => putPair_any sb bmi S g _ _ _ _ M (by omega) (by omega) (by omega) (by omega) (by omega) (by omega))).mono ?_); rintro e w6 ⟨rfl, X6⟩; rw [HST.out] at X6; obtain ⟨r0, r1, r2, r3⟩ := X6.rcells))
    obtain ⟨L1, L2⟩ := DR.done (by assumption : DR w _ sb bm S (g) (g) (.slice ao n cap) #[.int .i64 2, .int .u64 a, .int .u64 x, .int .u64 y])
    go_wp2
    exact deed_ret rfl rfl rfl L1 L2
end Go.Proofs.Ytmhgofhclckdpaa.Mem
