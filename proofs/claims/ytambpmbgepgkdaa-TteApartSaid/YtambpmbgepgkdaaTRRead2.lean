/-
  The contract of the document's own Read of layer 3, where words are held against an entry's own. Conditions: words are below 2 to the 64.
-/
import Derived.Test.YtambpmbgepgkdaaTRRead
namespace Go.Proofs.Ytambpmbgepgkdaa.Fld
open Go.ChangeShapes Go.WideShapes Go.ChangeAt Go.RowKit
set_option maxHeartbeats 2000000
set_option maxRecDepth 100000
theorem rread_form (t d va : Int) (M : Bool) (T D : Int) (t0 : 0 ≤ t) (t1 : t ≤ 18446744073709551615) (d0 : 0 ≤ d) (d1 : d ≤ 18446744073709551615) (v0 : 0 ≤ va) (v1 : va ≤ 18446744073709551615) (hh : holeB va = false) (hv : (bitI d 63 == 0) = false)
    (HM : Hid (∀ W, Calls Try.prog 13 #[.agg #[.int .i64 (getI d 61 2), .int .i64 (getI t 48 13), .int .u64 (baseI va (getI d 61 2)), .int .u64 (getI d 13 28 * 8192), .bool (bitI d 1 == 1), .bool (bitI d 2 == 1), .bool (bitI d 3 == 1), .bool (bitI d 6 == 1), .bool (bitI d 0 == 1), .bool (bitI d 60 == 1), .bool true]] W fun r w' => r = .returned (.bool M) ∧ Below W.heap.size W w'))
    (HT : Hid (M = true → ∀ W, Calls Try.prog 15 #[.agg #[.int .i64 (getI d 61 2), .int .i64 (getI t 48 13), .int .u64 (baseI va (getI d 61 2)), .int .u64 (getI d 13 28 * 8192), .bool (bitI d 1 == 1), .bool (bitI d 2 == 1), .bool (bitI d 3 == 1), .bool (bitI d 6 == 1), .bool (bitI d 0 == 1), .bool (bitI d 60 == 1), .bool true]] W fun r w' => r = .returned (.int .u64 T) ∧ Below W.heap.size W w'))
    (HD : Hid (M = true → ∀ W, Calls Try.prog 17 #[.agg #[.int .i64 (getI d 61 2), .int .i64 (getI t 48 13), .int .u64 (baseI va (getI d 61 2)), .int .u64 (getI d 13 28 * 8192), .bool (bitI d 1 == 1), .bool (bitI d 2 == 1), .bool (bitI d 3 == 1), .bool (bitI d 6 == 1), .bool (bitI d 0 == 1), .bool (bitI d 60 == 1), .bool true]] W fun r w' => r = .returned (.int .u64 D) ∧ Below W.heap.size W w')) (w : World) :
    Calls Try.prog 22 #[.int .u64 t, .int .u64 d, .int .u64 va] w fun r w' => ((M && (T == t) && (D == d)) = true ∧ r = .returned (.tuple #[.agg #[.int .i64 (getI d 61 2), .int .i64 (getI t 48 13), .int .u64 (baseI va (getI d 61 2)), .int .u64 (getI d 13 28 * 8192), .bool (bitI d 1 == 1), .bool (bitI d 2 == 1), .bool (bitI d 3 == 1), .bool (bitI d 6 == 1), .bool (bitI d 0 == 1), .bool (bitI d 60 == 1), .bool true], .int .i64 0]) ∨ (M && (T == t) && (D == d)) = false ∧ r = .returned (.tuple #[.agg #[.int .i64 Ent.zero.size, .int .i64 Ent.zero.ctx, .int .u64 Ent.zero.va, .int .u64 Ent.zero.pa, .bool Ent.zero.att.write, .bool Ent.zero.att.priv, .bool Ent.zero.att.exec, .bool Ent.zero.att.lock, .bool Ent.zero.att.global, .bool Ent.zero.att.quiet, .bool Ent.zero.valid], .int .i64 2])) ∧ Below w.heap.size w w' := by
  have g1 := getI_bd d 61 2
  have g2 := getI_bd t 48 13
  have g3 : getI d 61 2 ≤ 3 := by rw [getI_at d 61 2 2305843009213693952 4 (by decide) d0 (by decide) (by decide)]; omega
  have g4 : getI t 48 13 ≤ 8191 := by rw [getI_at t 48 13 281474976710656 8192 (by decide) t0 (by decide) (by decide)]; omega
  have g5 : getI d 13 28 ≤ 268435455 := by rw [getI_at d 13 28 8192 268435456 (by decide) d0 (by decide) (by decide)]; omega
  have g6 := getI_bd d 13 28
  go_enter Try.func22, Try.ntmps22
  go_wp2_with (first | (go_at_call 40; refine (rhole_any _ v0 v1 _).mono ?_; rintro e w' ⟨rfl, rfl⟩) | (go_at_call 24; refine (rbit_any _ _ d0 d1 (by omega) (by omega) _).mono ?_; rintro e w' ⟨rfl, rfl⟩) | (go_at_call 50; refine (rget_any _ _ _ (by omega) (by omega) _).mono ?_; rintro e w' ⟨rfl, rfl⟩) | (go_at_call 32; refine (rbase_any _ _ v0 v1 _).mono ?_; rintro e w' ⟨rfl, n, rfl⟩))
  obtain ⟨W, hW⟩ : ∃ W, W = ((((((((((((w.alloc (.cells #[.int .i64 0, .int .i64 0, .int .u64 0, .int .u64 0, .bool false, .bool false, .bool false, .bool false, .bool false, .bool false, .bool false] 26)).alloc (.cells #[.int .i64 0, .int .i64 0, .int .u64 0, .int .u64 0, .bool false, .bool false, .bool false, .bool false, .bool false, .bool false, .bool false] 26)).alloc (.cells #[.int .i64 (getI d 61 2), .int .i64 (getI t 48 13), .int .u64 0, .int .u64 0, .bool false, .bool false, .bool false, .bool false, .bool false, .bool false, .bool true] 26)).drewN n).setCell ⟨w.heap.size + 1 + 1, 2, none⟩ (.int .u64 (baseI va (getI d 61 2)))).setCell ⟨w.heap.size + 1 + 1, 3, none⟩ (.int .u64 (getI d 13 28 * 8192))).setCell ⟨w.heap.size + 1 + 1, 9, none⟩ (.bool (bitI d 60 == 1))).setCell ⟨w.heap.size + 1 + 1, 7, none⟩ (.bool (bitI d 6 == 1))).setCell ⟨w.heap.size + 1 + 1, 6, none⟩ (.bool (bitI d 3 == 1))).setCell ⟨w.heap.size + 1 + 1, 5, none⟩ (.bool (bitI d 2 == 1))).setCell ⟨w.heap.size + 1 + 1, 4, none⟩ (.bool (bitI d 1 == 1))).setCell ⟨w.heap.size + 1 + 1, 8, none⟩ (.bool (bitI d 0 == 1))) := ⟨_, rfl⟩
  rw [← hW]
  have hR := Lib.hid (show W.heap[w.heap.size]? = some (.cells #[.int .i64 0, .int .i64 0, .int .u64 0, .int .u64 0, .bool false, .bool false, .bool false, .bool false, .bool false, .bool false, .bool false] 26 (0, 0)) by
    rw [hW]
    iterate 8 rw [Below.heap_setCell _ _ _ _ (by show w.heap.size ≠ w.heap.size + 1 + 1; omega)]
    exact (Below.heap_alloc _ _ _ (by simp; omega)).trans ((Below.heap_alloc _ _ _ (by simp)).trans (heap_alloc_new _ _)))
  have hN := Lib.hid (show W.heap[w.heap.size + 1]? = some (.cells #[.int .i64 0, .int .i64 0, .int .u64 0, .int .u64 0, .bool false, .bool false, .bool false, .bool false, .bool false, .bool false, .bool false] 26 (0, 0)) by
    rw [hW]
    iterate 8 rw [Below.heap_setCell _ _ _ _ (by show w.heap.size + 1 ≠ w.heap.size + 1 + 1; omega)]
    exact (Below.heap_alloc _ _ _ (by simp)).trans (heap_alloc2_new _ _ _))
  have hE := Lib.hid (show W.heap[w.heap.size + 1 + 1]? = some (.cells #[.int .i64 (getI d 61 2), .int .i64 (getI t 48 13), .int .u64 (baseI va (getI d 61 2)), .int .u64 (getI d 13 28 * 8192), .bool (bitI d 1 == 1), .bool (bitI d 2 == 1), .bool (bitI d 3 == 1), .bool (bitI d 6 == 1), .bool (bitI d 0 == 1), .bool (bitI d 60 == 1), .bool true] 26 (0, 0)) by
    rw [hW]
    have h := heap_alloc_new ((w.alloc (.cells #[.int .i64 0, .int .i64 0, .int .u64 0, .int .u64 0, .bool false, .bool false, .bool false, .bool false, .bool false, .bool false, .bool false] 26)).alloc (.cells #[.int .i64 0, .int .i64 0, .int .u64 0, .int .u64 0, .bool false, .bool false, .bool false, .bool false, .bool false, .bool false, .bool false] 26)) (.cells #[.int .i64 (getI d 61 2), .int .i64 (getI t 48 13), .int .u64 0, .int .u64 0, .bool false, .bool false, .bool false, .bool false, .bool false, .bool false, .bool true] 26)
    rw [World.size_alloc, World.size_alloc] at h
    exact row_eight (w := World.drewN _ n) h)
  have HB := Lib.hid (show Below w.heap.size w W by
    rw [hW]
    iterate 8 refine below_setN' ?_ (by show w.heap.size ≤ w.heap.size + 1 + 1; omega)
    exact below_drewN ((((Below.refl _ _).alloc (Nat.le_refl _) _).alloc (by simp) _).alloc (by simp; omega) _) _)
  have hz : w.heap.size + 1 + 1 < W.heap.size := by rw [hW]; simp
  clear hW
  refine (HM.out _).mono ?_; rintro r w1 ⟨rfl, hb⟩
  have hR1 := Lib.hid ((hb.block w.heap.size (by omega)).trans hR.out)
  have hN1 := Lib.hid ((hb.block (w.heap.size + 1) (by omega)).trans hN.out)
  have hE1 := Lib.hid ((hb.block (w.heap.size + 1 + 1) (by omega)).trans hE.out)
  have hz1 : w.heap.size + 1 + 1 < w1.heap.size := by have := hb.size; omega
  have HB1 := Lib.hid (show Below w.heap.size w w1 from HB.out.trans (hb.mono (by omega)))
  clear hb
  cases M
  · have r0 := cell_of_row _ _ 0 _ _ _ hR1.out
    have r1 := cell_of_row _ _ 1 _ _ _ hR1.out
    have r2 := cell_of_row _ _ 2 _ _ _ hR1.out
    have r3 := cell_of_row _ _ 3 _ _ _ hR1.out
    have r4 := cell_of_row _ _ 4 _ _ _ hR1.out
    have r5 := cell_of_row _ _ 5 _ _ _ hR1.out
    have r6 := cell_of_row _ _ 6 _ _ _ hR1.out
    have r7 := cell_of_row _ _ 7 _ _ _ hR1.out
    have r8 := cell_of_row _ _ 8 _ _ _ hR1.out
    have r9 := cell_of_row _ _ 9 _ _ _ hR1.out
    have r10 := cell_of_row _ _ 10 _ _ _ hR1.out
    have n0 := cell_of_row _ _ 0 _ _ _ hN1.out
    have n1 := cell_of_row _ _ 1 _ _ _ hN1.out
    have n2 := cell_of_row _ _ 2 _ _ _ hN1.out
    have n3 := cell_of_row _ _ 3 _ _ _ hN1.out
    have n4 := cell_of_row _ _ 4 _ _ _ hN1.out
    have n5 := cell_of_row _ _ 5 _ _ _ hN1.out
    have n6 := cell_of_row _ _ 6 _ _ _ hN1.out
    have n7 := cell_of_row _ _ 7 _ _ _ hN1.out
    have n8 := cell_of_row _ _ 8 _ _ _ hN1.out
    have n9 := cell_of_row _ _ 9 _ _ _ hN1.out
    have n10 := cell_of_row _ _ 10 _ _ _ hN1.out
    have fr : ∀ i, w1.frozen? ⟨w.heap.size, i, none⟩ = false := fun i => row_frozen hR1.out i
    go_wp2_with fail
    refine bodyPost_ret (v := .tuple #[.agg #[.int .i64 Ent.zero.size, .int .i64 Ent.zero.ctx, .int .u64 Ent.zero.va, .int .u64 Ent.zero.pa, .bool Ent.zero.att.write, .bool Ent.zero.att.priv, .bool Ent.zero.att.exec, .bool Ent.zero.att.lock, .bool Ent.zero.att.global, .bool Ent.zero.att.quiet, .bool Ent.zero.valid], .int .i64 2]) (by simp [results, Try.results22, go_sem, Ent.zero, r0, r1, r2, r3, r4, r5, r6, r7, r8, r9, r10]) rfl ⟨.inr ⟨rfl, rfl⟩, ?_⟩
    iterate 11 refine below_set ?_
    exact HB1.out
  have e0 := cell_of_row _ _ 0 _ _ _ hE1.out
  have e1 := cell_of_row _ _ 1 _ _ _ hE1.out
  have e2 := cell_of_row _ _ 2 _ _ _ hE1.out
  have e3 := cell_of_row _ _ 3 _ _ _ hE1.out
  have e4 := cell_of_row _ _ 4 _ _ _ hE1.out
  have e5 := cell_of_row _ _ 5 _ _ _ hE1.out
  have e6 := cell_of_row _ _ 6 _ _ _ hE1.out
  have e7 := cell_of_row _ _ 7 _ _ _ hE1.out
  have e8 := cell_of_row _ _ 8 _ _ _ hE1.out
  have e9 := cell_of_row _ _ 9 _ _ _ hE1.out
  have e10 := cell_of_row _ _ 10 _ _ _ hE1.out
  go_wp2_with fail
  clear e0 e1 e2 e3 e4 e5 e6 e7 e8 e9 e10
  refine (HT.out trivial _).mono ?_; rintro r w2 ⟨rfl, hb⟩
  have hR2 := Lib.hid ((hb.block w.heap.size (by omega)).trans hR1.out)
  have hN2 := Lib.hid ((hb.block (w.heap.size + 1) (by omega)).trans hN1.out)
  have hE2 := Lib.hid ((hb.block (w.heap.size + 1 + 1) (by omega)).trans hE1.out)
  have hz2 : w.heap.size + 1 + 1 < w2.heap.size := by have := hb.size; omega
  have HB2 := Lib.hid (show Below w.heap.size w w2 from HB1.out.trans (hb.mono (by omega)))
  clear hb
  cases ht : (T == t)
  · have ht' : (T != t) = true := by simp [bne, ht]
    have r0 := cell_of_row _ _ 0 _ _ _ hR2.out
    have r1 := cell_of_row _ _ 1 _ _ _ hR2.out
    have r2 := cell_of_row _ _ 2 _ _ _ hR2.out
    have r3 := cell_of_row _ _ 3 _ _ _ hR2.out
    have r4 := cell_of_row _ _ 4 _ _ _ hR2.out
    have r5 := cell_of_row _ _ 5 _ _ _ hR2.out
    have r6 := cell_of_row _ _ 6 _ _ _ hR2.out
    have r7 := cell_of_row _ _ 7 _ _ _ hR2.out
    have r8 := cell_of_row _ _ 8 _ _ _ hR2.out
    have r9 := cell_of_row _ _ 9 _ _ _ hR2.out
    have r10 := cell_of_row _ _ 10 _ _ _ hR2.out
    have n0 := cell_of_row _ _ 0 _ _ _ hN2.out
    have n1 := cell_of_row _ _ 1 _ _ _ hN2.out
    have n2 := cell_of_row _ _ 2 _ _ _ hN2.out
    have n3 := cell_of_row _ _ 3 _ _ _ hN2.out
    have n4 := cell_of_row _ _ 4 _ _ _ hN2.out
    have n5 := cell_of_row _ _ 5 _ _ _ hN2.out
    have n6 := cell_of_row _ _ 6 _ _ _ hN2.out
    have n7 := cell_of_row _ _ 7 _ _ _ hN2.out
    have n8 := cell_of_row _ _ 8 _ _ _ hN2.out
    have n9 := cell_of_row _ _ 9 _ _ _ hN2.out
    have n10 := cell_of_row _ _ 10 _ _ _ hN2.out
    have fr : ∀ i, w2.frozen? ⟨w.heap.size, i, none⟩ = false := fun i => row_frozen hR2.out i
    go_wp2_with fail
    refine bodyPost_ret (v := .tuple #[.agg #[.int .i64 Ent.zero.size, .int .i64 Ent.zero.ctx, .int .u64 Ent.zero.va, .int .u64 Ent.zero.pa, .bool Ent.zero.att.write, .bool Ent.zero.att.priv, .bool Ent.zero.att.exec, .bool Ent.zero.att.lock, .bool Ent.zero.att.global, .bool Ent.zero.att.quiet, .bool Ent.zero.valid], .int .i64 2]) (by simp [results, Try.results22, go_sem, Ent.zero, r0, r1, r2, r3, r4, r5, r6, r7, r8, r9, r10]) rfl ⟨.inr ⟨by rw [ht]; rfl, rfl⟩, ?_⟩
    iterate 11 refine below_set ?_
    exact HB2.out
  have ht' : (T != t) = false := by simp [bne, ht]
  have e0 := cell_of_row _ _ 0 _ _ _ hE2.out
  have e1 := cell_of_row _ _ 1 _ _ _ hE2.out
  have e2 := cell_of_row _ _ 2 _ _ _ hE2.out
  have e3 := cell_of_row _ _ 3 _ _ _ hE2.out
  have e4 := cell_of_row _ _ 4 _ _ _ hE2.out
  have e5 := cell_of_row _ _ 5 _ _ _ hE2.out
  have e6 := cell_of_row _ _ 6 _ _ _ hE2.out
  have e7 := cell_of_row _ _ 7 _ _ _ hE2.out
  have e8 := cell_of_row _ _ 8 _ _ _ hE2.out
  have e9 := cell_of_row _ _ 9 _ _ _ hE2.out
  have e10 := cell_of_row _ _ 10 _ _ _ hE2.out
  go_wp2_with fail
  clear e0 e1 e2 e3 e4 e5 e6 e7 e8 e9 e10
  refine (HD.out trivial _).mono ?_; rintro r w3 ⟨rfl, hb⟩
  have hR3 := Lib.hid ((hb.block w.heap.size (by omega)).trans hR2.out)
  have hN3 := Lib.hid ((hb.block (w.heap.size + 1) (by omega)).trans hN2.out)
  have hE3 := Lib.hid ((hb.block (w.heap.size + 1 + 1) (by omega)).trans hE2.out)
  have hz3 : w.heap.size + 1 + 1 < w3.heap.size := by have := hb.size; omega
  have HB3 := Lib.hid (show Below w.heap.size w w3 from HB2.out.trans (hb.mono (by omega)))
  clear hb
  cases hd : (D == d)
  · have hd' : (D != d) = true := by simp [bne, hd]
    have r0 := cell_of_row _ _ 0 _ _ _ hR3.out
    have r1 := cell_of_row _ _ 1 _ _ _ hR3.out
    have r2 := cell_of_row _ _ 2 _ _ _ hR3.out
    have r3 := cell_of_row _ _ 3 _ _ _ hR3.out
    have r4 := cell_of_row _ _ 4 _ _ _ hR3.out
    have r5 := cell_of_row _ _ 5 _ _ _ hR3.out
    have r6 := cell_of_row _ _ 6 _ _ _ hR3.out
    have r7 := cell_of_row _ _ 7 _ _ _ hR3.out
    have r8 := cell_of_row _ _ 8 _ _ _ hR3.out
    have r9 := cell_of_row _ _ 9 _ _ _ hR3.out
    have r10 := cell_of_row _ _ 10 _ _ _ hR3.out
    have n0 := cell_of_row _ _ 0 _ _ _ hN3.out
    have n1 := cell_of_row _ _ 1 _ _ _ hN3.out
    have n2 := cell_of_row _ _ 2 _ _ _ hN3.out
    have n3 := cell_of_row _ _ 3 _ _ _ hN3.out
    have n4 := cell_of_row _ _ 4 _ _ _ hN3.out
    have n5 := cell_of_row _ _ 5 _ _ _ hN3.out
    have n6 := cell_of_row _ _ 6 _ _ _ hN3.out
    have n7 := cell_of_row _ _ 7 _ _ _ hN3.out
    have n8 := cell_of_row _ _ 8 _ _ _ hN3.out
    have n9 := cell_of_row _ _ 9 _ _ _ hN3.out
    have n10 := cell_of_row _ _ 10 _ _ _ hN3.out
    have fr : ∀ i, w3.frozen? ⟨w.heap.size, i, none⟩ = false := fun i => row_frozen hR3.out i
    go_wp2_with fail
    refine bodyPost_ret (v := .tuple #[.agg #[.int .i64 Ent.zero.size, .int .i64 Ent.zero.ctx, .int .u64 Ent.zero.va, .int .u64 Ent.zero.pa, .bool Ent.zero.att.write, .bool Ent.zero.att.priv, .bool Ent.zero.att.exec, .bool Ent.zero.att.lock, .bool Ent.zero.att.global, .bool Ent.zero.att.quiet, .bool Ent.zero.valid], .int .i64 2]) (by simp [results, Try.results22, go_sem, Ent.zero, r0, r1, r2, r3, r4, r5, r6, r7, r8, r9, r10]) rfl ⟨.inr ⟨by rw [ht, hd]; rfl, rfl⟩, ?_⟩
    iterate 11 refine below_set ?_
    exact HB3.out
  · have hd' : (D != d) = false := by simp [bne, hd]
    have e0 := cell_of_row _ _ 0 _ _ _ hE3.out
    have e1 := cell_of_row _ _ 1 _ _ _ hE3.out
    have e2 := cell_of_row _ _ 2 _ _ _ hE3.out
    have e3 := cell_of_row _ _ 3 _ _ _ hE3.out
    have e4 := cell_of_row _ _ 4 _ _ _ hE3.out
    have e5 := cell_of_row _ _ 5 _ _ _ hE3.out
    have e6 := cell_of_row _ _ 6 _ _ _ hE3.out
    have e7 := cell_of_row _ _ 7 _ _ _ hE3.out
    have e8 := cell_of_row _ _ 8 _ _ _ hE3.out
    have e9 := cell_of_row _ _ 9 _ _ _ hE3.out
    have e10 := cell_of_row _ _ 10 _ _ _ hE3.out
    have r0 := cell_of_row _ _ 0 _ _ _ hR3.out
    have r1 := cell_of_row _ _ 1 _ _ _ hR3.out
    have r2 := cell_of_row _ _ 2 _ _ _ hR3.out
    have r3 := cell_of_row _ _ 3 _ _ _ hR3.out
    have r4 := cell_of_row _ _ 4 _ _ _ hR3.out
    have r5 := cell_of_row _ _ 5 _ _ _ hR3.out
    have r6 := cell_of_row _ _ 6 _ _ _ hR3.out
    have r7 := cell_of_row _ _ 7 _ _ _ hR3.out
    have r8 := cell_of_row _ _ 8 _ _ _ hR3.out
    have r9 := cell_of_row _ _ 9 _ _ _ hR3.out
    have r10 := cell_of_row _ _ 10 _ _ _ hR3.out
    have n0 := cell_of_row _ _ 0 _ _ _ hN3.out
    have n1 := cell_of_row _ _ 1 _ _ _ hN3.out
    have n2 := cell_of_row _ _ 2 _ _ _ hN3.out
    have n3 := cell_of_row _ _ 3 _ _ _ hN3.out
    have n4 := cell_of_row _ _ 4 _ _ _ hN3.out
    have n5 := cell_of_row _ _ 5 _ _ _ hN3.out
    have n6 := cell_of_row _ _ 6 _ _ _ hN3.out
    have n7 := cell_of_row _ _ 7 _ _ _ hN3.out
    have n8 := cell_of_row _ _ 8 _ _ _ hN3.out
    have n9 := cell_of_row _ _ 9 _ _ _ hN3.out
    have n10 := cell_of_row _ _ 10 _ _ _ hN3.out
    have fr : ∀ i, w3.frozen? ⟨w.heap.size, i, none⟩ = false := fun i => row_frozen hR3.out i
    go_wp2_with fail
    refine bodyPost_ret (v := .tuple #[.agg #[.int .i64 (getI d 61 2), .int .i64 (getI t 48 13), .int .u64 (baseI va (getI d 61 2)), .int .u64 (getI d 13 28 * 8192), .bool (bitI d 1 == 1), .bool (bitI d 2 == 1), .bool (bitI d 3 == 1), .bool (bitI d 6 == 1), .bool (bitI d 0 == 1), .bool (bitI d 60 == 1), .bool true], .int .i64 0]) (by simp [results, Try.results22, go_sem, r0, r1, r2, r3, r4, r5, r6, r7, r8, r9, r10]) rfl ⟨.inl ⟨by rw [ht, hd]; rfl, rfl⟩, ?_⟩
    iterate 11 refine below_set ?_
    exact HB3.out
theorem rread_any (t d va : Int) (t0 : 0 ≤ t) (t1 : t ≤ 18446744073709551615) (d0 : 0 ≤ d) (d1 : d ≤ 18446744073709551615) (v0 : 0 ≤ va) (v1 : va ≤ 18446744073709551615) (w : World) :
    Calls Try.prog 22 #[.int .u64 t, .int .u64 d, .int .u64 va] w fun r w' => r = .returned (.tuple #[.agg #[.int .i64 (Ent.readE t d va).size, .int .i64 (Ent.readE t d va).ctx, .int .u64 (Ent.readE t d va).va, .int .u64 (Ent.readE t d va).pa, .bool (Ent.readE t d va).att.write, .bool (Ent.readE t d va).att.priv, .bool (Ent.readE t d va).att.exec, .bool (Ent.readE t d va).att.lock, .bool (Ent.readE t d va).att.global, .bool (Ent.readE t d va).att.quiet, .bool (Ent.readE t d va).valid], .int .i64 (Ent.readN t d va)]) ∧ Below w.heap.size w w' := by
  cases hh : holeB va
  · rcases bitI_01 d 63 with hv | hv
    · obtain ⟨e1, e2⟩ := read_state t d va hh hv
      exact (rread_state t d va d0 d1 v0 v1 hh (by rw [hv]; rfl) w).mono fun _ _ h => ⟨h.1.trans (ret_read e2.symm e1.symm), h.2⟩
    · obtain ⟨b1, b2, b3, b4⟩ := Ent.ofW_bd t d va t0 d0 v0 v1
      have hw := read_form t d va _ rfl hh hv
      have HM := Lib.hid (fun W => rmaye_any (Ent.ofW t d va) b2.1 b2.2 b3.1 b3.2 W)
      have HT := Lib.hid (fun (h : (Ent.ofW t d va).mayB = true) (W : World) => rtage_any (Ent.ofW t d va) (Ent.fit h b3.1) b2.1 b2.2 W)
      have HD := Lib.hid (fun (h : (Ent.ofW t d va).mayB = true) (W : World) => rdata_any (Ent.ofW t d va) (Ent.fit h b3.1) W)
      refine (rread_form t d va _ _ _ t0 t1 d0 d1 v0 v1 hh (by rw [hv]; rfl) HM HT HD w).mono fun _ _ h => ⟨?_, h.2⟩
      rcases hw with ⟨q, e1, e2⟩ | ⟨q, e1, e2⟩
      · rcases h.1 with ⟨_, e⟩ | ⟨z, _⟩
        · exact e.trans (ret_read (g := Ent.ofW t d va) e2.symm e1.symm)
        · rw [q] at z; cases z
      · rcases h.1 with ⟨z, _⟩ | ⟨_, e⟩
        · rw [q] at z; cases z
        · exact e.trans (ret_read e2.symm e1.symm)
  · obtain ⟨e1, e2⟩ := read_hole t d va hh
    exact (rread_hole t d va v0 v1 hh w).mono fun _ _ h => ⟨h.1.trans (ret_read e2.symm e1.symm), h.2⟩
end Go.Proofs.Ytambpmbgepgkdaa.Fld
