/-
  A memory that was made since a world W, and what each call in range does to it. Conditions: addresses and words are below 2 to the 64.
-/
import Derived.Test.YtmhgofhclckdpaaMPut
namespace Go.Proofs.Ytmhgofhclckdpaa.Mem
open Go.ChangeShapes Go.WideShapes Go.ChangeAt Go.RowKit Go.Maps
set_option maxHeartbeats 400000
/-- Since W nothing that was there has turned, and there is a memory at sb. -/
def Has (W w : World) (sb S : Nat) (g : Nat → Nat) : Prop := ∃ bm, W.heap.size ≤ sb ∧ W.heap.size ≤ bm ∧ Below W.heap.size W w ∧ MemAt w sb bm S g
theorem Has.below {W w : World} {sb S : Nat} {g : Nat → Nat} (h : Has W w sb S g) : Below W.heap.size W w := by obtain ⟨_, _, _, h, _⟩ := h; exact h
theorem Has.good {W w : World} {sb S : Nat} {g : Nat → Nat} (h : Has W w sb S g) : Good S g := by obtain ⟨_, _, _, _, h⟩ := h; exact h.good
theorem Has.drewN {W w : World} {sb S : Nat} {g : Nat → Nat} (h : Has W w sb S g) (n : Nat) : Has W (w.drewN n) sb S g := by
  obtain ⟨bm, a, b, c, d⟩ := h
  exact ⟨bm, a, b, ⟨c.os, c.tape, c.output, c.size, c.block⟩, d.drewN n⟩
theorem Has.call {W w w' : World} {sb S : Nat} {g : Nat → Nat} (h : Has W w sb S g) (hb : Below w.heap.size w w') : Has W w' sb S g := by
  obtain ⟨bm, a, b, c, d⟩ := h
  exact ⟨bm, a, b, c.trans (hb.mono c.size), d.same (hb.block _ d.lt.1) (hb.block _ d.lt.2)⟩
theorem Has.to {W w w' : World} {sb bm S : Nat} {g g' : Nat → Nat} (a : W.heap.size ≤ sb) (b : W.heap.size ≤ bm) (c : Below W.heap.size W w) (_d : MemAt w sb bm S g) (k : MemTo w w' sb bm S g') : Has W w' sb S g' := by
  obtain ⟨bm', k1, k2, k3⟩ := k
  have hs := c.size
  refine ⟨bm', a, by omega, ⟨k3.os.trans c.os, k3.tape.trans c.tape, k3.output.trans c.output, Nat.le_trans hs k3.size, fun i hi => ?_⟩, k1⟩
  rw [k3.block i (by omega) (by omega) (by omega)]; exact c.block i hi
theorem may_ok {S a st n : Int} (h1 : a % st = 0) (h2 : a + n ≤ S) : mayI S a st n = 0 := by
  unfold mayI; rw [if_neg (by omega), if_neg (by omega)]
theorem hnew (s : Nat) (h1 : s ≤ 2199023255552) (w : World) :
    Calls Try.prog 8 #[.int .u64 (s : Int)] w fun e w' => e = .returned (.pointer (some ⟨w.heap.size + 1, 0, none⟩)) ∧ Has w w' (w.heap.size + 1) s (fun _ => 0) := by
  refine (new_any s (by omega) (by omega) w).mono ?_
  rintro e w' ⟨rfl, M, B⟩
  have e1 : (min (s : Int) 2199023255552).toNat = s := by omega
  rw [e1] at M
  exact ⟨rfl, _, by omega, Nat.le_refl _, B, M⟩
theorem hputWord {W w : World} {sb S : Nat} {g : Nat → Nat} (h : Has W w sb S g) (a v : Int) (h0 : 0 ≤ a) (h1 : a % 8 = 0) (h2 : a + 8 ≤ S) (v0 : 0 ≤ v) (v1 : v < 18446744073709551616) :
    Calls Try.prog 9 #[.pointer (some ⟨sb, 0, none⟩), .int .u64 a, .int .u64 v] w fun e w' => e = .returned (.int .i64 0) ∧ Has W w' sb S (setW g a.toNat v.toNat) := by
  obtain ⟨bm, a1, b1, c1, d1⟩ := h
  have hS := d1.good.le
  have hm : mayI S a 8 8 = 0 := may_ok h1 h2
  refine (putWord_any sb bm S g a v w d1 h0 (by omega) v0 v1).mono ?_
  rintro e w' ⟨rfl, M⟩
  unfold stW at M; rw [if_pos hm] at M
  exact ⟨by rw [hm], Has.to a1 b1 c1 d1 M⟩
theorem hputPair {W w : World} {sb S : Nat} {g : Nat → Nat} (h : Has W w sb S g) (a x y : Int) (h0 : 0 ≤ a) (h1 : a % 16 = 0) (h2 : a + 16 ≤ S) (x0 : 0 ≤ x) (x1 : x < 18446744073709551616) (y0 : 0 ≤ y) (y1 : y < 18446744073709551616) :
    Calls Try.prog 21 #[.pointer (some ⟨sb, 0, none⟩), .int .u64 a, .int .u64 x, .int .u64 y] w fun e w' => e = .returned (.int .i64 0) ∧ Has W w' sb S (setW (setW g a.toNat x.toNat) (a.toNat + 8) y.toNat) := by
  obtain ⟨bm, a1, b1, c1, d1⟩ := h
  have hS := d1.good.le
  have hm : mayI S a 16 16 = 0 := may_ok h1 h2
  refine (putPair_any sb bm S g a x y w d1 h0 (by omega) x0 x1 y0 y1).mono ?_
  rintro e w' ⟨rfl, M⟩
  unfold stP at M; rw [if_pos hm] at M
  exact ⟨by rw [hm], Has.to a1 b1 c1 d1 M⟩
theorem hputByte {W w : World} {sb S : Nat} {g : Nat → Nat} (h : Has W w sb S g) (a v : Int) (h0 : 0 ≤ a) (h2 : a + 1 ≤ S) (v0 : 0 ≤ v) (v1 : v < 256) :
    Calls Try.prog 18 #[.pointer (some ⟨sb, 0, none⟩), .int .u64 a, .int .u8 v] w fun e w' => e = .returned (.int .i64 0) ∧ Has W w' sb S (setB g a.toNat v.toNat) := by
  obtain ⟨bm, a1, b1, c1, d1⟩ := h
  have hS := d1.good.le
  have hm : mayI S a 1 1 = 0 := may_ok (by omega) h2
  refine (putByte_any sb bm S g a v w d1 h0 (by omega) v0 v1).mono ?_
  rintro e w' ⟨rfl, M⟩
  unfold stB at M; rw [if_pos hm] at M
  exact ⟨by rw [hm], Has.to a1 b1 c1 d1 M⟩
theorem hword {W w : World} {sb S : Nat} {g : Nat → Nat} (h : Has W w sb S g) (a : Int) (h0 : 0 ≤ a) (h1 : a % 8 = 0) (h2 : a + 8 ≤ S) :
    Calls Try.prog 10 #[.pointer (some ⟨sb, 0, none⟩), .int .u64 a] w fun e w' => e = .returned (.tuple #[.int .u64 ((word g a.toNat : Nat) : Int), .int .i64 0]) ∧ w = w' := by
  obtain ⟨bm, a1, b1, c1, d1⟩ := h
  have hS := d1.good.le
  have hm : mayI S a 8 8 = 0 := may_ok h1 h2
  refine (word_any sb bm S g a w d1 h0 (by omega)).mono ?_
  rintro e w' ⟨rfl, rfl⟩
  unfold rdW; rw [if_pos hm, hm]; exact ⟨rfl, rfl⟩
theorem hbyte {W w : World} {sb S : Nat} {g : Nat → Nat} (h : Has W w sb S g) (a : Int) (h0 : 0 ≤ a) (h2 : a + 1 ≤ S) :
    Calls Try.prog 11 #[.pointer (some ⟨sb, 0, none⟩), .int .u64 a] w fun e w' => e = .returned (.tuple #[.int .u8 ((g a.toNat : Nat) : Int), .int .i64 0]) ∧ Has W w' sb S g := by
  obtain ⟨bm, a1, b1, c1, d1⟩ := h
  have hS := d1.good.le
  have hm : mayI S a 1 1 = 0 := may_ok (by omega) h2
  refine (byte_any sb bm S g a w d1 h0 (by omega)).mono ?_
  rintro e w' ⟨rfl, n, rfl⟩
  unfold rdB; rw [if_pos hm, hm]; exact ⟨rfl, Has.drewN ⟨bm, a1, b1, c1, d1⟩ n⟩
theorem hpair {W w : World} {sb S : Nat} {g : Nat → Nat} (h : Has W w sb S g) (a : Int) (h0 : 0 ≤ a) (h1 : a % 16 = 0) (h2 : a + 16 ≤ S) :
    Calls Try.prog 14 #[.pointer (some ⟨sb, 0, none⟩), .int .u64 a] w fun e w' => e = .returned (.tuple #[.int .u64 ((word g a.toNat : Nat) : Int), .int .u64 ((word g (a.toNat + 8) : Nat) : Int), .int .i64 0]) ∧ Has W w' sb S g := by
  obtain ⟨bm, a1, b1, c1, d1⟩ := h
  have hS := d1.good.le
  have hm : mayI S a 16 16 = 0 := may_ok h1 h2
  refine (pair_any sb bm S g a w d1 h0 (by omega)).mono ?_
  rintro e w' ⟨rfl, n, rfl⟩
  unfold rdP; rw [if_pos hm, if_pos hm, hm]; exact ⟨rfl, Has.drewN ⟨bm, a1, b1, c1, d1⟩ n⟩
theorem hused {W w : World} {sb S : Nat} {g : Nat → Nat} (h : Has W w sb S g) (l : List Nat) (hn : l.Nodup) (hl : ∀ k, k ∈ l ↔ k % 8 = 0 ∧ word g k ≠ 0) :
    Calls Try.prog 20 #[.pointer (some ⟨sb, 0, none⟩)] w fun e w' => e = .returned (.int .i64 (l.length : Int)) ∧ w = w' := by
  obtain ⟨bm, a1, b1, c1, d1⟩ := h
  exact used_any sb bm S g w d1 l hn hl
theorem hbyte' {W w : World} {sb S : Nat} {g : Nat → Nat} (h : Has W w sb S g) (a v : Int) (h0 : 0 ≤ a) (h2 : a + 1 ≤ S) (hv : ((g a.toNat : Nat) : Int) = v) :
    Calls Try.prog 11 #[.pointer (some ⟨sb, 0, none⟩), .int .u64 a] w fun e w' => e = .returned (.tuple #[.int .u8 v, .int .i64 0]) ∧ Has W w' sb S g := hv ▸ hbyte h a h0 h2
theorem hword' {W w : World} {sb S : Nat} {g : Nat → Nat} (h : Has W w sb S g) (a v : Int) (h0 : 0 ≤ a) (h1 : a % 8 = 0) (h2 : a + 8 ≤ S) (hv : ((word g a.toNat : Nat) : Int) = v) :
    Calls Try.prog 10 #[.pointer (some ⟨sb, 0, none⟩), .int .u64 a] w fun e w' => e = .returned (.tuple #[.int .u64 v, .int .i64 0]) ∧ w = w' := hv ▸ hword h a h0 h1 h2
theorem hpair' {W w : World} {sb S : Nat} {g : Nat → Nat} (h : Has W w sb S g) (a x y : Int) (h0 : 0 ≤ a) (h1 : a % 16 = 0) (h2 : a + 16 ≤ S) (hx : ((word g a.toNat : Nat) : Int) = x) (hy : ((word g (a.toNat + 8) : Nat) : Int) = y) :
    Calls Try.prog 14 #[.pointer (some ⟨sb, 0, none⟩), .int .u64 a] w fun e w' => e = .returned (.tuple #[.int .u64 x, .int .u64 y, .int .i64 0]) ∧ Has W w' sb S g := hx ▸ hy ▸ hpair h a h0 h1 h2
theorem one_support {k v : Nat} (hk : k % 8 = 0) (hv : v < 18446744073709551616) (hv0 : v ≠ 0) : ∀ x, x ∈ [k] ↔ x % 8 = 0 ∧ word (setW (fun _ => 0) k v) x ≠ 0 := fun x => by
  constructor
  · intro hx
    obtain rfl : x = k := by simpa using hx
    exact ⟨hk, by rw [word_setW_same (fun _ => by decide) _ hv]; exact hv0⟩
  · rintro ⟨h1, h2⟩
    by_cases e : x = k
    · simp [e]
    · rw [word_setW_other hk h1 e, word_eq_zero (fun _ _ => rfl)] at h2; exact absurd rfl h2
theorem mlives_any (w : World) :
    Calls Try.prog 12 #[] w fun e w' => e = .returned (.bool true) ∧ Below w.heap.size w w' := by
  have b1 : setW (fun _ => 0) 8 1 15 = 1 := by decide
  have B1 := Lib.hid b1
  clear b1
  go_enter Try.func12, Try.ntmps12
  go_wp2_with (go_at_call 8; refine (hnew 16 (by omega) _).mono ?_; rintro e w1 ⟨rfl, H1⟩)
  go_wp2_with (go_at_call 9; refine (hputWord H1 8 1 (by omega) (by omega) (by omega) (by omega) (by omega)).mono ?_; rintro e w2 ⟨rfl, H2⟩)
  have H2 : Has w w2 (w.heap.size + 1) 16 (setW (fun _ => 0) 8 1) := H2
  go_wp2_with (go_at_call 11; refine (hbyte' H2 15 1 (by omega) (by omega) (congrArg Nat.cast B1.out)).mono ?_; rintro e w3 ⟨rfl, H3⟩)
  go_wp2_with (go_at_call 20; refine (hused H3 [8] (by simp) (one_support (by decide) (by decide) (by decide))).mono ?_; rintro e w4 ⟨rfl, rfl⟩)
  go_ret
  exact ⟨rfl, H3.below⟩
end Go.Proofs.Ytmhgofhclckdpaa.Mem
