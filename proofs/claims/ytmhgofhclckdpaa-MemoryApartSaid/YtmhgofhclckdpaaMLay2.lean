/-
  Contract of lay of package memory: eight bytes are laid over others, at any address. Conditions: those that are not 0 come to stand in the memory.
-/
import Derived.Test.YtmhgofhclckdpaaMLay
namespace Go.Proofs.Ytmhgofhclckdpaa.Mem
open Go.ChangeShapes Go.WideShapes Go.ChangeAt Go.RowKit Go.Maps
set_option maxHeartbeats 400000
theorem lay_any (sb bm S a b : Nat) (g : Nat → Nat) (w : World) (h : MemAt w sb bm S g) (ha : a < 18446744073709551616) (hb : b < 18446744073709551616) (hin : ∀ j, j < 8 → byteW b j ≠ 0 → (a + j) % 18446744073709551616 < S) :
    Calls Try.prog 27 #[.pointer (some ⟨sb, 0, none⟩), .int .u64 (a : Int), .int .u64 (b : Int)] w fun e w' => e = .returned (.tuple #[]) ∧ MemTo w w' sb bm S (layG S g a b) := by
  obtain ⟨m2, hm2, c0, c1, c2, f1, f2⟩ := h.cells
  have hS := h.good.le
  have G1 := lay1_good h.good ha hb hin
  have G2 := lay2_eq h.good ha hb hin
  have hl := h.words.look ((a : Int) - (a : Int) % 8) (by omega) (by omega) (by omega)
  rw [show ((a : Int) - (a : Int) % 8).toNat = a - a % 8 by omega] at hl
  have s0 : 0 ≤ (a : Int) % 8 * 8 := by omega
  have s1 : 0 ≤ 64 - (a : Int) % 8 * 8 := by omega
  have HIN := Lib.hid hin
  have G2' := Lib.hid G2
  clear hin G2
  have E1 : bits BinOp.or IntKind.u64 ((word g (a - a % 8) : Nat) : Int) ((b : Int) / 2 ^ (a % 8 * 8)) = ((word g (a - a % 8) ||| b / 2 ^ (a % 8 * 8) : Nat) : Int) := by
    have e : (b : Int) / 2 ^ (a % 8 * 8) = ((b / 2 ^ (a % 8 * 8) : Nat) : Int) := by rw [Int.natCast_ediv, Int.natCast_pow]; rfl
    rw [e]; exact bits_or_u64_nat _ _ (word_lt g h.good.lt _) (Nat.lt_of_le_of_lt (Nat.div_le_self _ _) hb)
  have b1 : word g (a - a % 8) ||| b / 2 ^ (a % 8 * 8) < 18446744073709551616 := Nat.or_lt_two_pow (n := 64) (word_lt g h.good.lt _) (Nat.lt_of_le_of_lt (Nat.div_le_self _ _) hb)
  have SW := Lib.hid (show setW g ((a : Int) - (a : Int) % 8).toNat ((word g (a - a % 8) ||| b / 2 ^ (a % 8 * 8) : Nat) : Int).toNat = lay1 g a b by
    rw [Int.toNat_natCast, show ((a : Int) - (a : Int) % 8).toNat = a - a % 8 by omega]; rfl)
  have WR : IntKind.u64.wrap ((a : Int) - (a : Int) % 8 + 8) = ((nextW a : Nat) : Int) := by rw [IntKind.wrap_u64]; unfold nextW; omega
  have nx : nextW a % 8 = 0 ∧ nextW a < 18446744073709551616 := by unfold nextW; omega
  obtain ⟨nx1, nx2⟩ := nx
  have E2 : bits BinOp.or IntKind.u64 ((word (lay1 g a b) (nextW a) : Nat) : Int) (IntKind.u64.wrap ((b : Int) * 2 ^ (64 - a % 8 * 8))) = ((word (lay1 g a b) (nextW a) ||| b * 2 ^ (64 - a % 8 * 8) % 18446744073709551616 : Nat) : Int) := by
    have e : IntKind.u64.wrap ((b : Int) * 2 ^ (64 - a % 8 * 8)) = ((b * 2 ^ (64 - a % 8 * 8) % 18446744073709551616 : Nat) : Int) := by
      rw [IntKind.wrap_u64, Int.natCast_emod, Int.natCast_mul, Int.natCast_pow]; rfl
    rw [e]; exact bits_or_u64_nat _ _ (word_lt _ G1.lt _) (Nat.mod_lt _ (by decide))
  have b2 : word (lay1 g a b) (nextW a) ||| b * 2 ^ (64 - a % 8 * 8) % 18446744073709551616 < 18446744073709551616 := Nat.or_lt_two_pow (n := 64) (word_lt _ G1.lt _) (Nat.mod_lt _ (by decide))
  have SW2 := Lib.hid (show setW (lay1 g a b) ((nextW a : Nat) : Int).toNat ((word (lay1 g a b) (nextW a) ||| b * 2 ^ (64 - a % 8 * 8) % 18446744073709551616 : Nat) : Int).toNat = layG S g a b by
    rw [Int.toNat_natCast, Int.toNat_natCast, ← G2'.out]; rfl)
  have TN : (64 - (a : Int) % 8 * 8).toNat = 64 - a % 8 * 8 := by omega
  go_enter Try.func27, Try.ntmps27
  go_wp2_with (go_at_call 24; refine (wordOf_any _ (by omega) (by omega) _).mono ?_; rintro e w' ⟨rfl, rfl⟩)
  refine (set_any sb bm S _ _ g _ h (by omega) (by omega) (by omega) (by omega) (by omega) (by rw [SW.out]; exact G1)).mono ?_
  rintro e w1 ⟨rfl, M1⟩
  rw [SW.out] at M1
  obtain ⟨bm1, M1, bb1, t1⟩ := M1
  obtain ⟨m3, hm3, d0, d1, d2, d3, d4⟩ := M1.cells
  have hl2 := M1.words.look ((nextW a : Nat) : Int) (by omega) (by omega) (by omega)
  rw [Int.toNat_natCast] at hl2
  clear hl
  go_wp2_with fail
  refine (set_any sb bm1 S _ _ _ _ M1 (by omega) (by omega) (by omega) (by omega) (by omega) (by rw [SW2.out]; exact layG_good h.good a b)).mono ?_
  rintro e w2 ⟨rfl, M2⟩
  rw [SW2.out] at M2
  go_wp2
  go_end0
  exact ⟨rfl, M2.trans bb1 t1⟩
end Go.Proofs.Ytmhgofhclckdpaa.Mem
