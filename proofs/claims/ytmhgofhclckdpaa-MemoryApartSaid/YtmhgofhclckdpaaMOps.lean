/-
  Contracts of Byte, Word, Pair, Used of package memory: what stands there, or the error. Conditions: addresses are below 2 to the 64.
-/
import Derived.Test.YtmhgofhclckdpaaMSet2
namespace Go.Proofs.Ytmhgofhclckdpaa.Mem
open Go.ChangeShapes Go.WideShapes Go.ChangeAt Go.RowKit Go.Maps
set_option maxHeartbeats 400000
theorem WordsAt.look {w : World} {b : Nat} {g : Nat → Nat} (h : WordsAt w b g) (k : Int) (k0 : 0 ≤ k) (hk : k % 8 = 0) (hk1 : k < 18446744073709551616) :
    (Instr.lookup 54 (.map (some b)) (.int .u64 k) false).run Try.prog w = .ok (.int .u64 ((word g k.toNat : Nat) : Int)) w := by
  obtain ⟨D, hown, hD⟩ := h
  have hkey := keyOf_int_mk (P := Try.prog) Try.underlying22 (wf_u64 (k := k.toNat) (by omega))
  obtain ⟨c, hrun, hat, _⟩ := hown.lookup_int lawU Try.underlying54 Try.underlying22 (zeroU w) hkey
  have e := hD.at_ k.toNat (by omega)
  have e2 : (elt (word g k.toNat)) = .lit (.int .u64 c) := e.symm.trans hat
  injection e2 with e2; injection e2 with _ e2
  rw [Int.toNat_of_nonneg k0] at hrun
  rw [hrun, ← e2]
theorem WordsAt.drewN {w : World} {b : Nat} {g : Nat → Nat} (h : WordsAt w b g) (n : Nat) : WordsAt (w.drewN n) b g := h.same rfl
theorem wordOf_same (a : Int) (h0 : 0 ≤ a) (h1 : a < 18446744073709551616) (w : World) :
    Calls Try.prog 24 #[.int .u64 a] w fun e w' => e = .returned (.int .u64 (a - a % 8)) ∧ w' = w := (wordOf_any a h0 h1 w).mono fun _ _ ⟨a, b⟩ => ⟨a, b.symm⟩
theorem byteShift_same (a : Int) (h0 : 0 ≤ a) (h1 : a < 18446744073709551616) (w : World) :
    Calls Try.prog 25 #[.int .u64 a] w fun e w' => e = .returned (.int .u64 ((7 - a % 8) * 8)) ∧ w' = w := (byteShift_any a h0 h1 w).mono fun _ _ ⟨a, b⟩ => ⟨a, b.symm⟩
/-- What Byte, Word, Pair read. -/
def rdB (S : Nat) (g : Nat → Nat) (a : Int) : Int := if mayI S a 1 1 = 0 then ((g a.toNat : Nat) : Int) else 0
def rdW (S : Nat) (g : Nat → Nat) (a : Int) : Int := if mayI S a 8 8 = 0 then ((word g a.toNat : Nat) : Int) else 0
def rdP (S : Nat) (g : Nat → Nat) (a : Int) (d : Nat) : Int := if mayI S a 16 16 = 0 then ((word g (a.toNat + d) : Nat) : Int) else 0
theorem word_any (sb bm S : Nat) (g : Nat → Nat) (a : Int) (w : World) (h : MemAt w sb bm S g) (h0 : 0 ≤ a) (h1 : a < 18446744073709551616) :
    Calls Try.prog 10 #[.pointer (some ⟨sb, 0, none⟩), .int .u64 a] w fun e w' => e = .returned (.tuple #[.int .u64 (rdW S g a), .int .i64 (mayI S a 8 8)]) ∧ w = w' := by
  obtain ⟨m2, hm2, c0, c1, c2, f1, f2⟩ := h.cells
  have hS := h.good.le
  by_cases hm : mayI S a 8 8 = 0
  · have H := Lib.hid (show rdW S g a = ((word g a.toNat : Nat) : Int) by unfold rdW; rw [if_pos hm])
    have hl := h.words.look a h0 (by unfold mayI at hm; split at hm <;> omega) h1
    go_enter Try.func10, Try.ntmps10
    go_wp2_with (go_at_call 22; refine (may_any sb S _ _ _ _ (by omega) (by omega) (by omega) (by omega) (by omega) (by omega) (by omega) (by omega) c0).mono ?_; rintro e w' ⟨rfl, rfl⟩)
    go_ret2
    rw [H.out, hm]
    exact ⟨rfl, rfl⟩
  · have H := Lib.hid (show rdW S g a = 0 by unfold rdW; rw [if_neg hm])
    go_enter Try.func10, Try.ntmps10
    go_wp2_with (go_at_call 22; refine (may_any sb S _ _ _ _ (by omega) (by omega) (by omega) (by omega) (by omega) (by omega) (by omega) (by omega) c0).mono ?_; rintro e w' ⟨rfl, rfl⟩)
    go_ret2
    rw [H.out]
    exact ⟨rfl, rfl⟩
theorem used_any (sb bm S : Nat) (g : Nat → Nat) (w : World) (h : MemAt w sb bm S g) (l : List Nat) (hn : l.Nodup) (hl : ∀ k, k ∈ l ↔ k % 8 = 0 ∧ word g k ≠ 0) :
    Calls Try.prog 20 #[.pointer (some ⟨sb, 0, none⟩)] w fun e w' => e = .returned (.int .i64 (l.length : Int)) ∧ w = w' := by
  obtain ⟨m2, hm2, c0, c1, c2, f1, f2⟩ := h.cells
  obtain ⟨D, hown, hD⟩ := h.words
  have E := Lib.hid (size_support hD (hown.canon lawU) l hn hl)
  have hln := fun ty => hown.len Try.underlying54 ty
  clear hn hl hown
  go_enter Try.func20, Try.ntmps20
  go_wp2
  go_ret
  exact ⟨ret_int (by rw [E.out]), rfl⟩
theorem byte_calc (g : Nat → Nat) (hg : ∀ a, g a < 256) (a : Int) (h0 : 0 ≤ a) : ((word g (a - a % 8).toNat : Nat) : Int) / 2 ^ ((7 - a % 8) * 8).toNat % 256 = ((g a.toNat : Nat) : Int) := by
  have e := byte_of_word g hg a.toNat
  unfold byteW at e
  have e1 : (a - a % 8).toNat = a.toNat - a.toNat % 8 := by omega
  have e2 : ((7 - a % 8) * 8).toNat = 8 * (7 - a.toNat % 8) := by omega
  rw [e1, e2, ← e, Int.natCast_emod, Int.natCast_ediv, Int.natCast_pow]; rfl
theorem byte_any (sb bm S : Nat) (g : Nat → Nat) (a : Int) (w : World) (h : MemAt w sb bm S g) (h0 : 0 ≤ a) (h1 : a < 18446744073709551616) :
    Calls Try.prog 11 #[.pointer (some ⟨sb, 0, none⟩), .int .u64 a] w fun e w' => e = .returned (.tuple #[.int .u8 (rdB S g a), .int .i64 (mayI S a 1 1)]) ∧ ∃ n, w' = w.drewN n := by
  obtain ⟨m2, hm2, c0, c1, c2, f1, f2⟩ := h.cells
  have hS := h.good.le
  by_cases hm : mayI S a 1 1 = 0
  · have H := Lib.hid (show rdB S g a = ((g a.toNat : Nat) : Int) by unfold rdB; rw [if_pos hm])
    have hl := fun n => (h.words.drewN n).look (a - a % 8) (by omega) (by omega) (by omega)
    have s0 : 0 ≤ (7 - a % 8) * 8 := by omega
    go_enter Try.func11, Try.ntmps11
    go_wp2_with (go_at_call 22; refine (may_any sb S _ _ _ _ (by omega) (by omega) (by omega) (by omega) (by omega) (by omega) (by omega) (by omega) c0).mono ?_; rintro e w' ⟨rfl, rfl⟩)
    go_quiet (first | (go_at_call 24; exact Calls.quiet_of_same (wordOf_same _ (by omega) (by omega) _)) | (go_at_call 25; exact Calls.quiet_of_same (byteShift_same _ (by omega) (by omega) _)))
    go_wp2
    go_ret2
    rw [H.out, hm, ← byte_calc g h.good.lt a h0]
    exact ⟨rfl, _, rfl⟩
  · have H := Lib.hid (show rdB S g a = 0 by unfold rdB; rw [if_neg hm])
    go_enter Try.func11, Try.ntmps11
    go_wp2_with (go_at_call 22; refine (may_any sb S _ _ _ _ (by omega) (by omega) (by omega) (by omega) (by omega) (by omega) (by omega) (by omega) c0).mono ?_; rintro e w' ⟨rfl, rfl⟩)
    go_ret2
    rw [H.out]
    exact ⟨rfl, 0, rfl⟩
theorem pair_any (sb bm S : Nat) (g : Nat → Nat) (a : Int) (w : World) (h : MemAt w sb bm S g) (h0 : 0 ≤ a) (h1 : a < 18446744073709551616) :
    Calls Try.prog 14 #[.pointer (some ⟨sb, 0, none⟩), .int .u64 a] w fun e w' => e = .returned (.tuple #[.int .u64 (rdP S g a 0), .int .u64 (rdP S g a 8), .int .i64 (mayI S a 16 16)]) ∧ ∃ n, w' = w.drewN n := by
  obtain ⟨m2, hm2, c0, c1, c2, f1, f2⟩ := h.cells
  have hS := h.good.le
  by_cases hm : mayI S a 16 16 = 0
  · have hb : a % 16 = 0 ∧ a + 16 ≤ S := by unfold mayI at hm; split at hm <;> (try split at hm) <;> omega
    obtain ⟨hb1, hb2⟩ := hb
    have H := Lib.hid (show rdP S g a 0 = ((word g a.toNat : Nat) : Int) by unfold rdP; rw [if_pos hm]; rfl)
    have H2 := Lib.hid (show rdP S g a 8 = ((word g (a + 8).toNat : Nat) : Int) by unfold rdP; rw [if_pos hm]; congr 2; omega)
    have hl := fun n => (h.words.drewN n).look a (by omega) (by omega) (by omega)
    have hl8 := fun n => (h.words.drewN n).look (a + 8) (by omega) (by omega) (by omega)
    have wr : IntKind.u64.wrap (a + 8) = a + 8 := by rw [IntKind.wrap_u64]; omega
    go_enter Try.func14, Try.ntmps14
    go_wp2_with (go_at_call 22; refine (may_any sb S _ _ _ _ (by omega) (by omega) (by omega) (by omega) (by omega) (by omega) (by omega) (by omega) c0).mono ?_; rintro e w' ⟨rfl, rfl⟩)
    go_quiet (fail)
    go_wp2
    go_ret3
    rw [H.out, H2.out, hm]
    exact ⟨rfl, _, rfl⟩
  · have H := Lib.hid (show ∀ d, rdP S g a d = 0 by intro d; unfold rdP; rw [if_neg hm])
    go_enter Try.func14, Try.ntmps14
    go_wp2_with (go_at_call 22; refine (may_any sb S _ _ _ _ (by omega) (by omega) (by omega) (by omega) (by omega) (by omega) (by omega) (by omega) c0).mono ?_; rintro e w' ⟨rfl, rfl⟩)
    go_ret3
    rw [H.out, H.out]
    exact ⟨rfl, 0, rfl⟩
end Go.Proofs.Ytmhgofhclckdpaa.Mem
