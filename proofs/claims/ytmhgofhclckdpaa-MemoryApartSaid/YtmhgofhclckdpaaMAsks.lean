/-
  Contract of the law's asks: what is read of a memory is what the document says. Conditions: both have the same bytes.
-/
import Derived.Test.YtmhgofhclckdpaaMDoes
namespace Go.Proofs.Ytmhgofhclckdpaa.Mem
open Go.ChangeShapes Go.WideShapes Go.ChangeAt Go.RowKit Go.Maps
set_option maxHeartbeats 1000000
theorem asks_any (sb bm S : Nat) (g : Nat → Nat) (k a x y : Int) (v : Value) (w : World) (h : MemAt w sb bm S g) (hl : HasL w S g v) (a0 : 0 ≤ a) (a1 : a < 18446744073709551616) :
    Calls Try.prog 32 #[.pointer (some ⟨sb, 0, none⟩), .agg #[.int .u64 (S : Int), v], .agg #[.int .i64 k, .int .u64 a, .int .u64 x, .int .u64 y]] w fun e w' => e = .returned (.bool true) ∧ MemTo w w' sb bm S g := by
  have hS := h.good.le
  obtain ⟨ao, n, cap, rfl⟩ := hl.shape
  have X0 := DW.start h hl #[.int .i64 k, .int .u64 a, .int .u64 x, .int .u64 y]
  by_cases k3 : k = 3
  · subst k3
    by_cases hm : mayI S a 1 1 = 0
    · have B : rdB S g a = ((g a.toNat : Nat) : Int) := by unfold rdB; rw [if_pos hm]
      go_enter Try.func32, Try.ntmps32
      go_wp2_with (go_at_call 11; refine (DW.read X0 (fun bmi M => byte_any sb bmi S g _ _ M (by omega) (by omega))).mono ?_; rintro e w2 ⟨rfl, X⟩; obtain ⟨m0, m1, d0, d1, d2, d3⟩ := X.cells)
      go_wp2_with (go_at_call 15; refine (DW.ref X (fun hl => rmay_any S _ _ _ _ _ (by omega) (by omega) (by omega) (by omega) (by omega) (by omega) (by omega) (by omega) hl.shape)).mono ?_; rintro e w3 ⟨rfl, X3⟩; obtain ⟨m0, m1, d0, d1, d2, d3⟩ := X3.cells)
      go_wp2_with (go_at_call 36; refine (DW.ref X3 (fun hl => get_rel S _ _ _ _ hl (by omega))).mono ?_; rintro e w4 ⟨rfl, X4⟩; obtain ⟨n0, n1, e0, e1, e2, e3⟩ := X4.cells)
      go_ret
      exact ⟨rfl, X4.mem⟩
    · have B : rdB S g a = 0 := by unfold rdB; rw [if_neg hm]
      go_enter Try.func32, Try.ntmps32
      go_wp2_with (go_at_call 11; refine (DW.read X0 (fun bmi M => byte_any sb bmi S g _ _ M (by omega) (by omega))).mono ?_; rintro e w2 ⟨rfl, X⟩; obtain ⟨m0, m1, d0, d1, d2, d3⟩ := X.cells)
      go_wp2_with (go_at_call 15; refine (DW.ref X (fun hl => rmay_any S _ _ _ _ _ (by omega) (by omega) (by omega) (by omega) (by omega) (by omega) (by omega) (by omega) hl.shape)).mono ?_; rintro e w3 ⟨rfl, X3⟩; obtain ⟨m0, m1, d0, d1, d2, d3⟩ := X3.cells)
      go_ret
      exact ⟨rfl, X3.mem⟩
  · by_cases k4 : k = 4
    · subst k4
      by_cases hm : mayI S a 8 8 = 0
      · have B : rdW S g a = ((word g a.toNat : Nat) : Int) := by unfold rdW; rw [if_pos hm]
        have q := (may_zero hm).2
        go_enter Try.func32, Try.ntmps32
        go_wp2_with (go_at_call 10; refine (DW.read X0 (fun bmi M => (word_any sb bmi S g _ _ M (by omega) (by omega)).mono (fun _ _ ⟨p, q⟩ => ⟨p, 0, q.symm⟩))).mono ?_; rintro e w2 ⟨rfl, X⟩; obtain ⟨m0, m1, d0, d1, d2, d3⟩ := X.cells)
        go_wp2_with (go_at_call 15; refine (DW.ref X (fun hl => rmay_any S _ _ _ _ _ (by omega) (by omega) (by omega) (by omega) (by omega) (by omega) (by omega) (by omega) hl.shape)).mono ?_; rintro e w3 ⟨rfl, X3⟩; obtain ⟨m0, m1, d0, d1, d2, d3⟩ := X3.cells)
        go_wp2_with (go_at_call 37; refine (DW.ref X3 (fun hl => word_rel S _ _ _ _ hl (by omega) (by omega))).mono ?_; rintro e w4 ⟨rfl, X4⟩; obtain ⟨n0, n1, e0, e1, e2, e3⟩ := X4.cells)
        go_ret
        exact ⟨rfl, X4.mem⟩
      · have B : rdW S g a = 0 := by unfold rdW; rw [if_neg hm]
        go_enter Try.func32, Try.ntmps32
        go_wp2_with (go_at_call 10; refine (DW.read X0 (fun bmi M => (word_any sb bmi S g _ _ M (by omega) (by omega)).mono (fun _ _ ⟨p, q⟩ => ⟨p, 0, q.symm⟩))).mono ?_; rintro e w2 ⟨rfl, X⟩; obtain ⟨m0, m1, d0, d1, d2, d3⟩ := X.cells)
        go_wp2_with (go_at_call 15; refine (DW.ref X (fun hl => rmay_any S _ _ _ _ _ (by omega) (by omega) (by omega) (by omega) (by omega) (by omega) (by omega) (by omega) hl.shape)).mono ?_; rintro e w3 ⟨rfl, X3⟩; obtain ⟨m0, m1, d0, d1, d2, d3⟩ := X3.cells)
        go_ret
        exact ⟨rfl, X3.mem⟩
    · have k3' : (k == 3) = false := by simpa using k3
      have k4' : (k == 4) = false := by simpa using k4
      by_cases hm : mayI S a 16 16 = 0
      · have B : rdP S g a 0 = ((word g a.toNat : Nat) : Int) := by unfold rdP; rw [if_pos hm]; rfl
        have B8 : rdP S g a 8 = ((word g (a + 8).toNat : Nat) : Int) := by unfold rdP; rw [if_pos hm]; congr 2; omega
        have q := (may_zero hm).2
        go_enter Try.func32, Try.ntmps32
        go_wp2_with (go_at_call 14; refine (DW.read X0 (fun bmi M => pair_any sb bmi S g _ _ M (by omega) (by omega))).mono ?_; rintro e w2 ⟨rfl, X⟩; obtain ⟨m0, m1, d0, d1, d2, d3⟩ := X.cells)
        go_wp2_with (go_at_call 15; refine (DW.ref X (fun hl => rmay_any S _ _ _ _ _ (by omega) (by omega) (by omega) (by omega) (by omega) (by omega) (by omega) (by omega) hl.shape)).mono ?_; rintro e w3 ⟨rfl, X3⟩; obtain ⟨m0, m1, d0, d1, d2, d3⟩ := X3.cells)
        refine (DW.ref X3 (fun hl => word_rel S _ _ _ _ hl (by omega) (by omega))).mono ?_
        rintro e w4 ⟨rfl, X4⟩
        obtain ⟨n0, n1, e0, e1, e2, e3⟩ := X4.cells
        go_wp2_with fail
        refine (DW.ref X4 (fun hl => word_rel S _ _ _ _ hl (by omega) (by omega))).mono ?_
        rintro e w5 ⟨rfl, X5⟩
        go_wp2
        go_ret
        exact ⟨rfl, X5.mem⟩
      · have B : rdP S g a 0 = 0 := by unfold rdP; rw [if_neg hm]
        have B8 : rdP S g a 8 = 0 := by unfold rdP; rw [if_neg hm]
        go_enter Try.func32, Try.ntmps32
        go_wp2_with (go_at_call 14; refine (DW.read X0 (fun bmi M => pair_any sb bmi S g _ _ M (by omega) (by omega))).mono ?_; rintro e w2 ⟨rfl, X⟩; obtain ⟨m0, m1, d0, d1, d2, d3⟩ := X.cells)
        go_wp2_with (go_at_call 15; refine (DW.ref X (fun hl => rmay_any S _ _ _ _ _ (by omega) (by omega) (by omega) (by omega) (by omega) (by omega) (by omega) (by omega) hl.shape)).mono ?_; rintro e w3 ⟨rfl, X3⟩; obtain ⟨m0, m1, d0, d1, d2, d3⟩ := X3.cells)
        go_ret
        exact ⟨rfl, X3.mem⟩
end Go.Proofs.Ytmhgofhclckdpaa.Mem
