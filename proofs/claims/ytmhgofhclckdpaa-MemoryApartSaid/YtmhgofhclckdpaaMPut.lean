/-
  Contracts of PutByte, PutWord, PutPair of package memory: it stands there then, or the error. Conditions: addresses and words are below 2 to the 64.
-/
import Derived.Test.YtmhgofhclckdpaaMOps
import Derived.Test.YtmhgofhclckdpaaMath
namespace Go.Proofs.Ytmhgofhclckdpaa.Mem
open Go.ChangeShapes Go.WideShapes Go.ChangeAt Go.RowKit Go.Maps
set_option maxHeartbeats 400000
theorem may_zero {S a st n : Int} (h : mayI S a st n = 0) : a % st = 0 ∧ (n ≤ 0 ∨ a + n ≤ S) := by
  unfold mayI at h
  split at h
  · omega
  · rename_i h1
    split at h
    · omega
    · rename_i h2; exact ⟨by omega, by omega⟩
theorem Good.setW {S : Nat} {g : Nat → Nat} (h : Good S g) {k : Nat} (hk : k + 8 ≤ S) (v : Nat) : Good S (setW g k v) :=
  ⟨h.le, setW_lt h.lt k v, fun a ha => by unfold Mem.setW; rw [if_neg (by omega)]; exact h.out a ha⟩
theorem Good.setB {S : Nat} {g : Nat → Nat} (h : Good S g) {k : Nat} (hk : k < S) {v : Nat} (hv : v < 256) : Good S (setB g k v) :=
  ⟨h.le, setB_lt h.lt k v hv, fun a ha => by unfold Mem.setB; rw [if_neg (by omega)]; exact h.out a ha⟩
theorem setW_of {g g' : Nat → Nat} {k : Nat} (h : ∀ a, g' a < 256) (hg : ∀ a, ¬ (k ≤ a ∧ a < k + 8) → g' a = g a) : setW g k (word g' k) = g' := by
  funext a; unfold setW; split
  · rw [byteW_word g' h _ _ (by omega)]; congr 1; omega
  · rw [hg a (by assumption)]
def notN (a b : Nat) : Nat := Fld.ob (fun i => a.testBit i && !b.testBit i) 64
theorem notN_testBit (a b i : Nat) : (notN a b).testBit i = (decide (i < 64) && (a.testBit i && !b.testBit i)) := Fld.ob_testBit _ _ _
theorem notN_lt (a b : Nat) : notN a b < 18446744073709551616 := Fld.ob_lt64 _
theorem shlN_testBit (b s i : Nat) : (b * 2 ^ s % 18446744073709551616).testBit i = (decide (i < 64) && (decide (s ≤ i) && b.testBit (i - s))) := by
  rw [show (18446744073709551616 : Nat) = 2 ^ 64 from rfl, Nat.testBit_mod_two_pow, Nat.mul_comm, Nat.testBit_two_pow_mul]
theorem putByte_nat (g : Nat → Nat) (hg : ∀ a, g a < 256) (n b : Nat) (hb : b < 256) :
    notN (word g (n - n % 8)) (255 * 2 ^ ((7 - n % 8) * 8) % 18446744073709551616) ||| (b * 2 ^ ((7 - n % 8) * 8) % 18446744073709551616) = word (setB g n b) (n - n % 8) := by
  apply Nat.eq_of_testBit_eq; intro i
  rw [Nat.testBit_or, notN_testBit, shlN_testBit, shlN_testBit, word_testBit _ hg, word_testBit _ (setB_lt hg n b hb), show (255 : Nat) = 2 ^ 8 - 1 from rfl, Nat.testBit_two_pow_sub_one]
  by_cases hi : i < 64
  · by_cases hs : (7 - n % 8) * 8 ≤ i ∧ i - (7 - n % 8) * 8 < 8
    · obtain ⟨h1, h2⟩ := hs
      have e1 : n - n % 8 + (7 - i / 8) = n := by omega
      have e2 : i - (7 - n % 8) * 8 = i % 8 := by omega
      have e3 : setB g n b n = b := by unfold setB; rw [if_pos rfl]
      have h3 : i % 8 < 8 := by omega
      rw [e1, e2, e3]
      simp [hi, h1, h3]
    · have e1 : n - n % 8 + (7 - i / 8) ≠ n := by omega
      have e3 : setB g n b (n - n % 8 + (7 - i / 8)) = g (n - n % 8 + (7 - i / 8)) := by unfold setB; rw [if_neg e1]
      rw [e3]
      by_cases h1 : (7 - n % 8) * 8 ≤ i
      · have h2 : ¬ i - (7 - n % 8) * 8 < 8 := fun h => hs ⟨h1, h⟩
        have h4 : b.testBit (i - (7 - n % 8) * 8) = false := testBit_hi8 hb (by omega)
        simp [hi, h2, h4]
      · simp [hi, h1]
  · simp [hi]
theorem putByte_calc (g : Nat → Nat) (hg : ∀ a, g a < 256) (a v : Int) (h0 : 0 ≤ a) (v0 : 0 ≤ v) (v1 : v < 256) :
    bits BinOp.or IntKind.u64 (bits BinOp.andNot IntKind.u64 ((word g (a - a % 8).toNat : Nat) : Int) (IntKind.u64.wrap (255 * 2 ^ ((7 - a % 8) * 8).toNat))) (IntKind.u64.wrap (v * 2 ^ ((7 - a % 8) * 8).toNat)) =
      ((word (setB g a.toNat v.toNat) (a - a % 8).toNat : Nat) : Int) := by
  have e1 : (a - a % 8).toNat = a.toNat - a.toNat % 8 := by omega
  have e2 : ((7 - a % 8) * 8).toNat = (7 - a.toNat % 8) * 8 := by omega
  have e := putByte_nat g hg a.toNat v.toNat (by omega)
  rw [e1, e2, ← e]
  generalize (7 - a.toNat % 8) * 8 = s
  have f1 : ∀ b : Nat, IntKind.u64.wrap ((b : Int) * 2 ^ s) = ((b * 2 ^ s % 18446744073709551616 : Nat) : Int) := fun b => by
    rw [IntKind.wrap_u64, Int.natCast_emod, Int.natCast_mul, Int.natCast_pow]; rfl
  have f2 : IntKind.u64.wrap (255 * 2 ^ s) = ((255 * 2 ^ s % 18446744073709551616 : Nat) : Int) := f1 255
  have f3 : IntKind.u64.wrap (v * 2 ^ s) = ((v.toNat * 2 ^ s % 18446744073709551616 : Nat) : Int) := by
    have := f1 v.toNat; rwa [Int.toNat_of_nonneg v0] at this
  rw [f2, f3, Fld.bits_andNot_u64_nat _ _ (word_lt g hg _) (Nat.mod_lt _ (by decide))]
  exact bits_or_u64_nat _ _ (Fld.ob_lt64 _) (Nat.mod_lt _ (by decide))
def stW (S : Nat) (g : Nat → Nat) (a v : Int) : Nat → Nat := if mayI S a 8 8 = 0 then setW g a.toNat v.toNat else g
def stB (S : Nat) (g : Nat → Nat) (a v : Int) : Nat → Nat := if mayI S a 1 1 = 0 then setB g a.toNat v.toNat else g
def stP (S : Nat) (g : Nat → Nat) (a x y : Int) : Nat → Nat := if mayI S a 16 16 = 0 then setW (setW g a.toNat x.toNat) (a.toNat + 8) y.toNat else g
theorem putWord_any (sb bm S : Nat) (g : Nat → Nat) (a v : Int) (w : World) (h : MemAt w sb bm S g) (h0 : 0 ≤ a) (h1 : a < 18446744073709551616) (v0 : 0 ≤ v) (v1 : v < 18446744073709551616) :
    Calls Try.prog 9 #[.pointer (some ⟨sb, 0, none⟩), .int .u64 a, .int .u64 v] w fun e w' => e = .returned (.int .i64 (mayI S a 8 8)) ∧ MemTo w w' sb bm S (stW S g a v) := by
  obtain ⟨m2, hm2, c0, c1, c2, f1, f2⟩ := h.cells
  have hS := h.good.le
  by_cases hm : mayI S a 8 8 = 0
  · obtain ⟨q1, q2⟩ := may_zero hm
    have H := Lib.hid (show stW S g a v = setW g a.toNat v.toNat by unfold stW; rw [if_pos hm])
    go_enter Try.func9, Try.ntmps9
    go_wp2_with (first | (go_at_call 22; refine (may_any sb S _ _ _ _ (by omega) (by omega) (by omega) (by omega) (by omega) (by omega) (by omega) (by omega) c0).mono ?_; rintro e w' ⟨rfl, rfl⟩) | (go_at_call 23; refine (set_any sb bm S _ _ g _ h (by omega) (by omega) (by omega) (by omega) (by omega) (h.good.setW (by omega) _)).mono ?_; rintro e w' ⟨rfl, M⟩))
    go_ret
    exact ⟨ret_int hm.symm, by rw [H.out]; exact M⟩
  · have H := Lib.hid (show stW S g a v = g by unfold stW; rw [if_neg hm])
    go_enter Try.func9, Try.ntmps9
    go_wp2_with (go_at_call 22; refine (may_any sb S _ _ _ _ (by omega) (by omega) (by omega) (by omega) (by omega) (by omega) (by omega) (by omega) c0).mono ?_; rintro e w' ⟨rfl, rfl⟩)
    go_ret
    exact ⟨rfl, by rw [H.out]; exact h.to⟩
theorem putByte_any (sb bm S : Nat) (g : Nat → Nat) (a v : Int) (w : World) (h : MemAt w sb bm S g) (h0 : 0 ≤ a) (h1 : a < 18446744073709551616) (v0 : 0 ≤ v) (v1 : v < 256) :
    Calls Try.prog 18 #[.pointer (some ⟨sb, 0, none⟩), .int .u64 a, .int .u8 v] w fun e w' => e = .returned (.int .i64 (mayI S a 1 1)) ∧ MemTo w w' sb bm S (stB S g a v) := by
  obtain ⟨m2, hm2, c0, c1, c2, f1, f2⟩ := h.cells
  have hS := h.good.le
  by_cases hm : mayI S a 1 1 = 0
  · obtain ⟨q1, q2⟩ := may_zero hm
    have H := Lib.hid (show stB S g a v = setB g a.toNat v.toNat by unfold stB; rw [if_pos hm])
    have hl := h.words.look (a - a % 8) (by omega) (by omega) (by omega)
    have s0 : 0 ≤ (7 - a % 8) * 8 := by omega
    have PB := putByte_calc g h.good.lt a v h0 v0 v1
    have PW := Lib.hid (show setW g (a - a % 8).toNat ((word (setB g a.toNat v.toNat) (a - a % 8).toNat : Nat) : Int).toNat = setB g a.toNat v.toNat by
      rw [Int.toNat_natCast]
      exact setW_of (setB_lt h.good.lt _ _ (by omega)) (fun x hx => by unfold setB; rw [if_neg (by omega)]))
    have GB := h.good.setB (k := a.toNat) (by omega) (v := v.toNat) (by omega)
    have wl := word_lt _ GB.lt (a - a % 8).toNat
    clear q1 q2
    go_enter Try.func18, Try.ntmps18
    go_wp2_with (first | (go_at_call 22; refine (may_any sb S _ _ _ _ (by omega) (by omega) (by omega) (by omega) (by omega) (by omega) (by omega) (by omega) c0).mono ?_; rintro e w' ⟨rfl, rfl⟩) | (go_at_call 24; refine (wordOf_any _ (by omega) (by omega) _).mono ?_; rintro e w' ⟨rfl, rfl⟩) | (go_at_call 25; refine (byteShift_any _ (by omega) (by omega) _).mono ?_; rintro e w' ⟨rfl, rfl⟩) | (go_at_call 23; refine (set_any sb bm S _ _ g _ h (by omega) (by omega) (by omega) (by omega) (by omega) (by rw [PW.out]; exact GB)).mono ?_; rintro e w' ⟨rfl, M⟩))
    rw [PW.out] at M
    go_ret
    exact ⟨ret_int hm.symm, by rw [H.out]; exact M⟩
  · have H := Lib.hid (show stB S g a v = g by unfold stB; rw [if_neg hm])
    go_enter Try.func18, Try.ntmps18
    go_wp2_with (go_at_call 22; refine (may_any sb S _ _ _ _ (by omega) (by omega) (by omega) (by omega) (by omega) (by omega) (by omega) (by omega) c0).mono ?_; rintro e w' ⟨rfl, rfl⟩)
    go_ret
    exact ⟨rfl, by rw [H.out]; exact h.to⟩
theorem MemTo.trans {w w1 w2 : World} {sb bm bm1 S : Nat} {g' : Nat → Nat} (hb : bm1 = bm ∨ w.heap.size ≤ bm1) (t : Turn w w1 sb bm) (h2 : MemTo w1 w2 sb bm1 S g') : MemTo w w2 sb bm S g' := by
  obtain ⟨b, a1, a2, a3⟩ := h2
  refine ⟨b, a1, ?_, t.trans a3 hb⟩
  rcases a2 with rfl | a2
  · exact hb
  · exact .inr (Nat.le_trans t.size a2)
theorem putPair_any (sb bm S : Nat) (g : Nat → Nat) (a x y : Int) (w : World) (h : MemAt w sb bm S g) (h0 : 0 ≤ a) (h1 : a < 18446744073709551616) (x0 : 0 ≤ x) (x1 : x < 18446744073709551616) (y0 : 0 ≤ y) (y1 : y < 18446744073709551616) :
    Calls Try.prog 21 #[.pointer (some ⟨sb, 0, none⟩), .int .u64 a, .int .u64 x, .int .u64 y] w fun e w' => e = .returned (.int .i64 (mayI S a 16 16)) ∧ MemTo w w' sb bm S (stP S g a x y) := by
  obtain ⟨m2, hm2, c0, c1, c2, f1, f2⟩ := h.cells
  have hS := h.good.le
  by_cases hm : mayI S a 16 16 = 0
  · obtain ⟨q1, q2⟩ := may_zero hm
    have H := Lib.hid (show stP S g a x y = setW (setW g a.toNat x.toNat) (a + 8).toNat y.toNat by unfold stP; rw [if_pos hm]; congr 1; omega)
    go_enter Try.func21, Try.ntmps21
    go_wp2_with (first | (go_at_call 22; refine (may_any sb S _ _ _ _ (by omega) (by omega) (by omega) (by omega) (by omega) (by omega) (by omega) (by omega) c0).mono ?_; rintro e w' ⟨rfl, rfl⟩) | fail)
    refine (set_any sb bm S _ _ g _ h (by omega) (by omega) (by omega) (by omega) (by omega) (h.good.setW (by omega) _)).mono ?_
    rintro e w1 ⟨rfl, bm1, M1, b1, t1⟩
    go_wp2_with (go_at_call 23; refine (set_any sb bm1 S _ _ _ _ M1 (by omega) (by omega) (by omega) (by omega) (by omega) (M1.good.setW (by omega) _)).mono ?_; rintro e w' ⟨rfl, M⟩)
    go_ret
    exact ⟨ret_int hm.symm, by rw [H.out]; exact M.trans b1 t1⟩
  · have H := Lib.hid (show stP S g a x y = g by unfold stP; rw [if_neg hm])
    go_enter Try.func21, Try.ntmps21
    go_wp2_with (go_at_call 22; refine (may_any sb S _ _ _ _ (by omega) (by omega) (by omega) (by omega) (by omega) (by omega) (by omega) (by omega) c0).mono ?_; rintro e w' ⟨rfl, rfl⟩)
    go_ret
    exact ⟨rfl, by rw [H.out]; exact h.to⟩
end Go.Proofs.Ytmhgofhclckdpaa.Mem
