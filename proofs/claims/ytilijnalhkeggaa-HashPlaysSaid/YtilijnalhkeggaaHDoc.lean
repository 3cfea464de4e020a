/-
  Contracts of what the laws of layer 11 make of keys, and of the document's May and Chain. Conditions: a key's numbers are those that Go's types hold.
-/
import Derived.Test.YtilijnalhkeggaaHRowOf
import Derived.Test.YtilijnalhkeggaaPCov
namespace Go.Proofs.Ytilijnalhkeggaa.Hs
open Fld
open Go.ChangeShapes Go.WideShapes Go.ChangeAt Go.RowKit Go.Maps
set_option maxHeartbeats 200000
set_option maxRecDepth 100000
def goodK (k : Ky) : Ky := ⟨nrm k.sp 64, baseI k.va (nrm k.sz 4), nrm k.sz 4⟩
theorem goodK_ok {k : Ky} (h : k.wf) : (goodK k).Ok := by
  have h1 := nrm_bd k.sp 64 (by decide)
  have h2 := nrm_bd k.sz 4 (by decide)
  have hs : sizeB (nrm k.sz 4) = true := sizeB_mk (by omega)
  obtain ⟨_, _, v0, v1, _, _⟩ := h
  refine ⟨?_, ?_, ?_⟩
  · unfold kmayB startsB goodK
    have e : baseI k.va (nrm k.sz 4) % bytesI (nrm k.sz 4) = 0 := by unfold baseI; rw [hs]; simp
    rw [hs, decide_eq_true h1.1, decide_eq_true h1.2, decide_eq_true e]; rfl
  · have := base_bd k.va (nrm k.sz 4) v0 v1; exact this.1
  · have := base_bd k.va (nrm k.sz 4) v0 v1; exact Int.le_trans this.2 v1
theorem set_three {W : World} {g : Nat} {a b c : Value} {t : TypeId} (h : W.heap[g]? = some (.cells #[a, b, c] t (0, 0))) (x y z : Value) :
    (((W.setCell ⟨g, 0, none⟩ x).setCell ⟨g, 1, none⟩ y).setCell ⟨g, 2, none⟩ z).heap[g]? = some (.cells #[x, y, z] t (0, 0)) ∧ (∀ B, B ≤ g → Below B W (((W.setCell ⟨g, 0, none⟩ x).setCell ⟨g, 1, none⟩ y).setCell ⟨g, 2, none⟩ z)) := by
  refine ⟨?_, fun B hB => ((((Below.refl B W).setCell hB x).setCell hB y).setCell hB z)⟩
  rw [setCell_eq_setRow W g 0 _ _ _ _ h]
  have h1 := setRow_heap W g _ (#[a, b, c].setIfInBounds 0 x) _ _ h
  rw [setCell_eq_setRow _ g 1 _ _ _ _ h1]
  have h2 := setRow_heap _ g _ ((#[a, b, c].setIfInBounds 0 x).setIfInBounds 1 y) _ _ h1
  rw [setCell_eq_setRow _ g 2 _ _ _ _ h2]
  have h3 := setRow_heap _ g _ (((#[a, b, c].setIfInBounds 0 x).setIfInBounds 1 y).setIfInBounds 2 z) _ _ h2
  simpa using h3
theorem key_any (k : Ky) (w : World) :
    Calls Try.prog 16 #[.agg #[.int .i64 k.sp, .int .u64 k.va, .int .i64 k.sz]] w fun e w' => e = .returned (.agg #[.int .i64 k.sp, .int .u64 k.va, .int .i64 k.sz]) ∧ Below w.heap.size w w' := by
  have b1 : Below w.heap.size w ((w.alloc (.cells #[.int .i64 k.sp, .int .u64 k.va, .int .i64 k.sz] 33)).alloc (.cells #[.int .i64 k.sp, .int .u64 k.va, .int .i64 k.sz] 41)) := ((Below.refl _ _).alloc (Nat.le_refl _) _).alloc (by simp) _
  have x1 := heap_alloc_new (w.alloc (.cells #[.int .i64 k.sp, .int .u64 k.va, .int .i64 k.sz] 33)) (.cells #[.int .i64 k.sp, .int .u64 k.va, .int .i64 k.sz] 41)
  rw [World.size_alloc] at x1
  go_enter Try.func16, Try.ntmps16
  go_wp2_with fail
  refine bodyPost_ret (results_cell_row rfl _ _ _ _ _ (0, 0) _ rfl x1 Try.underlying41 (by kernel_rfl) (by kernel_rfl)) rfl ?_
  exact ⟨rfl, b1⟩
theorem good_any (k : Ky) (h : k.wf) (w : World) :
    Calls Try.prog 14 #[.agg #[.int .i64 k.sp, .int .u64 k.va, .int .i64 k.sz]] w fun e w' => e = .returned (.agg #[.int .i64 (goodK k).sp, .int .u64 (goodK k).va, .int .i64 (goodK k).sz]) ∧ Below w.heap.size w w' := by
  obtain ⟨s0, s1, v0, v1, z0, z1⟩ := h
  have h1 := nrm_bd k.sp 64 (by decide)
  have h2 := nrm_bd k.sz 4 (by decide)
  have HG := Lib.hid (show goodK k = ⟨nrm k.sp 64, baseI k.va (nrm k.sz 4), nrm k.sz 4⟩ from rfl)
  have b1 : Below w.heap.size w ((w.alloc (.cells #[.int .i64 k.sp, .int .u64 k.va, .int .i64 k.sz] 33)).alloc (.cells #[.int .i64 Ky.zero.sp, .int .u64 Ky.zero.va, .int .i64 Ky.zero.sz] 33)) := ((Below.refl _ _).alloc (Nat.le_refl _) _).alloc (by simp) _
  have x1 := heap_alloc_new (w.alloc (.cells #[.int .i64 k.sp, .int .u64 k.va, .int .i64 k.sz] 33)) (.cells #[.int .i64 Ky.zero.sp, .int .u64 Ky.zero.va, .int .i64 Ky.zero.sz] 33)
  rw [World.size_alloc] at x1
  rcases nrm_or k.sp 64 with ⟨e1, hs⟩ | ⟨e1, hs⟩ <;> rcases nrm_or k.sz 4 with ⟨e2, hz⟩ | ⟨e2, hz⟩
  all_goals
    have CB := Lib.hid (fun w => rbase_any k.va (nrm k.sz 4) v0 v1 w)
    have E1 := e1.out
    have E2 := e2.out
    go_enter Try.func14, Try.ntmps14
    go_wp2_with (first | (go_at_call 40; refine (CB.out _).mono ?_; rintro e w1 ⟨rfl, m, rfl⟩))
    have h3 := set_three (show (((w.alloc (.cells #[.int .i64 k.sp, .int .u64 k.va, .int .i64 k.sz] 33)).alloc (.cells #[.int .i64 Ky.zero.sp, .int .u64 Ky.zero.va, .int .i64 Ky.zero.sz] 33)).drewN m).heap[w.heap.size + 1]? = _ from x1) (.int .i64 (nrm k.sp 64)) (.int .u64 (baseI k.va (nrm k.sz 4))) (.int .i64 (nrm k.sz 4))
    refine bodyPost_ret (results_cell_row rfl _ _ _ _ _ (0, 0) _ rfl h3.1 Try.underlying33 (by kernel_rfl) (by kernel_rfl)) rfl ⟨rfl, ?_⟩
    exact (below_drewN b1 m).trans (h3.2 _ (by omega))
theorem rmay_any (k : Ky) (h : k.wf) (w : World) :
    Calls Try.prog 18 #[.agg #[.int .i64 k.sp, .int .u64 k.va, .int .i64 k.sz]] w fun e w' => e = .returned (.bool (kmayB k)) ∧ Below w.heap.size w w' := by
  obtain ⟨s0, s1, v0, v1, z0, z1⟩ := h
  have CS := Lib.hid (fun w => same_sym (rstarts_any k.va k.sz v0 v1 w))
  have b1 : Below w.heap.size w (w.alloc (.cells #[.int .i64 k.sp, .int .u64 k.va, .int .i64 k.sz] 33)) := (Below.refl _ _).alloc (Nat.le_refl _) _
  by_cases h0 : 0 ≤ k.sp
  · by_cases h1 : k.sp ≤ 63
    · have H := Lib.hid (show kmayB k = startsB k.va k.sz by unfold kmayB; rw [decide_eq_true h0, decide_eq_true (show k.sp < 64 by omega)]; rfl)
      go_enter Try.func18, Try.ntmps18
      go_wp2_with (first | (go_at_call 44; refine (CS.out _).mono ?_; rintro e w1 ⟨rfl, rfl⟩))
      go_ret
      exact ⟨ret_bool H.out.symm, b1⟩
    · have H := Lib.hid (show kmayB k = false by unfold kmayB; rw [decide_eq_false (show ¬ k.sp < 64 by omega)]; simp)
      go_enter Try.func18, Try.ntmps18
      go_wp2_with (first | (go_at_call 44; refine (CS.out _).mono ?_; rintro e w1 ⟨rfl, rfl⟩))
      go_ret
      exact ⟨ret_bool H.out.symm, b1⟩
  · have H := Lib.hid (show kmayB k = false by unfold kmayB; rw [decide_eq_false h0]; rfl)
    go_enter Try.func18, Try.ntmps18
    go_wp2_with (first | (go_at_call 44; refine (CS.out _).mono ?_; rintro e w1 ⟨rfl, rfl⟩))
    go_ret
    exact ⟨ret_bool H.out.symm, b1⟩
theorem rchain_any (k : Ky) (h : k.Ok) (n : Nat) (hn : 1 ≤ n) (hn1 : n ≤ 9223372036854775807) (w : World) :
    Calls Try.prog 19 #[.agg #[.int .i64 k.sp, .int .u64 k.va, .int .i64 k.sz], .int .i64 (n : Int)] w fun e w' => e = .returned (.int .i64 (chainI k n)) ∧ Below w.heap.size w w' := by
  obtain ⟨p0, p1, ps, _⟩ := kmay_parts h.may
  have hz := sizeB_true ps
  have v0 := h.v0; have v1 := h.v1
  obtain ⟨q0, q1, q2, q3⟩ := sum_bd h
  have HS := Lib.hid (show sumI k = k.va / bytesI k.sz + 7 * k.sz + 31 * k.sp from rfl)
  have H := Lib.hid (show chainI k n = sumI k % (n : Int) from rfl)
  have hB : 8192 ≤ bytesI k.sz ∧ bytesI k.sz ≤ 4194304 := by rcases hz with e | e | e | e <;> rw [e] <;> decide
  have CB := Lib.hid (fun w => same_sym (rbytes_any k.sz w))
  have hnz : ¬ bytesI k.sz = 0 := by omega
  have k1 : ¬ (n : Int) = 0 := by omega
  generalize bytesI k.sz = B at *
  have b1 : Below w.heap.size w (w.alloc (.cells #[.int .i64 k.sp, .int .u64 k.va, .int .i64 k.sz] 33)) := (Below.refl _ _).alloc (Nat.le_refl _) _
  have m1 : 0 ≤ 7 * k.sz ∧ 7 * k.sz ≤ 21 := by omega
  have m2 : 0 ≤ 31 * k.sp ∧ 31 * k.sp ≤ 1953 := by omega
  go_enter Try.func19, Try.ntmps19
  go_wp2_with fail
  go_quiet (first | (go_at_call 45; exact Calls.quiet_of_same (CB.out _)))
  go_wp2_with fail
  go_ret
  refine ⟨ret_int ?_, below_drewN b1 _⟩
  have e2 : 0 ≤ (k.va / B + 7 * k.sz + 31 * k.sp) % (n : Int) := Int.emod_nonneg _ (by omega)
  have e3 : (k.va / B + 7 * k.sz + 31 * k.sp) % (n : Int) < n := Int.emod_lt_of_pos _ (by omega)
  rw [H.out, HS.out]; unfold wrap64; omega
end Go.Proofs.Ytilijnalhkeggaa.Hs
