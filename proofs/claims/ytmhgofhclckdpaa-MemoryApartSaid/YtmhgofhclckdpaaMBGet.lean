/-
  Contracts of Get, Word, Put, Clear of the document's answer for memory: each answers what the plain functions on lists say; what was in memory stays. Conditions: lists of at most 2 to the 42 bytes.
-/
import Derived.Test.YtmhgofhclckdpaaMBMath
namespace Go.Proofs.Ytmhgofhclckdpaa.Mem
open Go.ChangeShapes Go.WideShapes Go.ChangeAt Go.RowKit Go.Maps
set_option maxHeartbeats 400000
theorem rget_any (S B a cap : Nat) (ao : Option Addr) (l : List (Nat × Nat)) (w : World) (h : w.ownsRow B 69 2 (.slice ao l.length cap) l.length (flatB l)) (hl : l.length ≤ 4398046511104) :
    Calls Try.prog 36 #[.agg #[.int .u64 (S : Int), .slice ao l.length cap], .int .u64 (a : Int)] w fun e w' => e = .returned (.int .u8 ((getL l a : Nat) : Int)) ∧ Below w.heap.size w w' := by
  have ho : (w.alloc (.cells #[.int .u64 (S : Int), .slice ao l.length cap] 35)).ownsRow B 69 2 (.slice ao l.length cap) l.length (flatB l) := h.alloc _
  have hb : Below w.heap.size w (w.alloc (.cells #[.int .u64 (S : Int), .slice ao l.length cap] 35)) := (Below.refl _ _).alloc (Nat.le_refl _) _
  go_enter Try.func36, Try.ntmps36
  go_wp2
  go_loop [5] (fun i => ∃ k : Nat, k ≤ l.length ∧ i = .int .i64 (k : Int) ∧ getL l a = getL (l.drop k) a) (fun i => l.length - (intOf i).toNat)
  case atStart => exact ⟨0, by omega, rfl, rfl⟩
  case round =>
    obtain ⟨k, hk, rfl, hg⟩ := hrel
    have HG := Lib.hid hg
    clear hg
    by_cases hlt : (k : Int) < (l.length : Int)
    · obtain ⟨gb, x, b, rfl, hkb, c1, c2⟩ := rowB_at ho k (by omega)
      have HD := Lib.hid (getL_drop hkb a)
      clear hkb
      by_cases hx : x = a
      · subst hx
        go_wp2
        go_ret
        exact ⟨ret_int (by rw [HG.out, HD.out]; simp), hb⟩
      · have hx1 : ((x : Int) == (a : Int)) = false := by simp; omega
        go_wp2
        go_round
        case rel => exact ⟨k + 1, by omega, by go_num, by rw [HG.out, HD.out, if_neg hx]⟩
        case measure => simp [intOf]; omega
    · go_wp2
      go_ret
      exact ⟨ret_int (by rw [HG.out, List.drop_of_length_le (by omega)]; rfl), hb⟩
theorem getL_lt {l : List (Nat × Nat)} (h : ∀ p ∈ l, p.2 < 256) (a : Nat) : getL l a < 256 := by
  induction l with
  | nil => simp [getL]
  | cons p r ih =>
    simp only [getL]; split
    · exact h p (by simp)
    · exact ih (fun q hq => h q (by simp [hq]))
theorem rword_any (S B a cap : Nat) (ao : Option Addr) (l : List (Nat × Nat)) (w : World) (h : w.ownsRow B 69 2 (.slice ao l.length cap) l.length (flatB l)) (hl : l.length ≤ 4398046511104) (hb : ∀ p ∈ l, p.2 < 256) (ha : a + 8 ≤ 18446744073709551616) :
    Calls Try.prog 37 #[.agg #[.int .u64 (S : Int), .slice ao l.length cap], .int .u64 (a : Int)] w fun e w' => e = .returned (.int .u64 ((word (getL l) a : Nat) : Int)) ∧ Below w.heap.size w w' := by
  have gl := fun x => getL_lt hb x
  go_enter Try.func37, Try.ntmps37
  go_wp2
  go_loopw [5, 6] (fun n i wr => ∃ k : Nat, k ≤ 8 ∧ i = .int .u64 (k : Int) ∧ n = .int .u64 ((wordN (getL l) a k : Nat) : Int) ∧ Below w.heap.size w wr ∧ wr.ownsRow B 69 2 (.slice ao l.length cap) l.length (flatB l) ∧ wr.heap[w.heap.size]? = some (.cells #[.int .u64 (S : Int), .slice ao l.length cap] 35 (0, 0))) (fun _ i _ => 8 - (intOf i).toNat)
  case atStart => exact ⟨0, by omega, rfl, rfl, (Below.refl _ _).alloc (Nat.le_refl _) _, h.alloc _, heap_alloc_new _ _⟩
  case round =>
    obtain ⟨k, hk, rfl, rfl, hbw, ho, hm⟩ := hrel
    have m1 : wr.cell? ⟨w.heap.size, 0, none⟩ = some (.int .u64 (S : Int)) := by simp [World.cell?, hm]
    have m2 : wr.cell? ⟨w.heap.size, 1, none⟩ = some (.slice ao l.length cap) := by simp [World.cell?, hm]
    have HM := Lib.hid hm
    clear hm
    by_cases hlt : k < 8
    · have b1 : wordN (getL l) a k < 72057594037927936 := Nat.lt_of_lt_of_le (wordN_lt _ gl _ k) (Nat.pow_le_pow_right (n := 256) (j := 7) (by decide) (by omega))
      have b2 := gl (a + k)
      have E := Lib.hid (show 256 * ((wordN (getL l) a k : Nat) : Int) + ((getL l (a + k) : Nat) : Int) = ((wordN (getL l) a (k + 1) : Nat) : Int) by
        have e2 : wordN (getL l) a (k + 1) = 256 * wordN (getL l) a k + getL l (a + k) := rfl
        rw [e2]; omega)
      have C := Lib.hid (fun W h => rget_any S B (a + k) cap ao l W h hl)
      go_wp2_with fail
      refine (C.out _ ho).mono ?_
      rintro e w' ⟨rfl, hb2⟩
      go_wp2
      go_roundw
      case rel => exact ⟨k + 1, by omega, by go_num, by rw [← E.out], hbw.trans (hb2.mono hbw.size), ⟨ho.1, by
        rcases ho.2 with hn | ⟨g, c, cur, hv, hB, hg, rest⟩
        · exact .inl hn
        · exact .inr ⟨g, c, cur, hv, hB, (hb2.block _ (lt_of_block hg)).trans hg, rest⟩⟩, (hb2.block _ (lt_of_block HM.out)).trans HM.out⟩
      case measure => simp [intOf]; omega
    · obtain rfl : k = 8 := by omega
      go_wp2
      go_ret
      exact ⟨rfl, hbw⟩
end Go.Proofs.Ytmhgofhclckdpaa.Mem
