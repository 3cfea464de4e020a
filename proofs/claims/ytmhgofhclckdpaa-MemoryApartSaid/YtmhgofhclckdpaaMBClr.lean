/-
  Contract of Clear of the document's answer for memory. Conditions: lists of at most 2 to the 42 bytes, addresses below 2 to the 64.
-/
import Derived.Test.YtmhgofhclckdpaaMBPut
namespace Go.Proofs.Ytmhgofhclckdpaa.Mem
open Go.ChangeShapes Go.WideShapes Go.ChangeAt Go.RowKit Go.Maps
set_option maxHeartbeats 400000
theorem own_below {w w' : World} {B : Nat} {e : TypeId} {z : Nat} {v : Value} {n : Nat} {xs : List Value} (h : w.ownsRow B e z v n xs) (hb : Below w.heap.size w w') : w'.ownsRow B e z v n xs := by
  refine ⟨h.1, ?_⟩
  rcases h.2 with hn | ⟨g, cap, cur, rfl, hb2, hg, rest⟩
  · exact .inl hn
  · refine .inr ⟨g, cap, cur, rfl, hb2, ?_, rest⟩
    rw [hb.block g (Array.getElem?_eq_some_iff.1 hg).1]; exact hg
theorem rclear_any (S B a n cap : Nat) (ao : Option Addr) (l : List (Nat × Nat)) (w : World) (h : w.ownsRow B 69 2 (.slice ao l.length cap) l.length (flatB l)) (hl : l.length ≤ 4398046511104) (hx64 : ∀ p ∈ l, p.1 < 18446744073709551616) (ha : a < 18446744073709551616) (hn : n < 18446744073709551616) :
    Calls Try.prog 30 #[.agg #[.int .u64 (S : Int), .slice ao l.length cap], .int .u64 (a : Int), .int .u64 (n : Int)] w (GivesL w S (clrL l a n)) := by
  obtain ⟨i0, hi, hz0, hz1, hz2⟩ := info_parts infoR
  have F0 := Flt.start w S (.slice ao l.length cap)
  go_enter Try.func30, Try.ntmps30
  go_wp2
  go_loopw [7, 8] (fun v' i wr => ∃ k : Nat, k ≤ l.length ∧ i = .int .i64 (k : Int) ∧ Flt w wr S (.slice ao l.length cap) v' ((l.take k).filter (keepC a n))) (fun _ i _ => l.length - (intOf i).toNat)
  case atStart => exact ⟨0, by omega, rfl, F0⟩
  case round =>
    obtain ⟨k, hk, rfl, F⟩ := hrel
    clear F0
    obtain ⟨ao', cap', rfl⟩ := own_shape F.own
    obtain ⟨m1, m2, m3, m4, r1, r2, r3, r4⟩ := F.cells
    have pl : ((l.take k).filter (keepC a n)).length ≤ k := Nat.le_trans (List.length_filter_le _ _) (by simp; omega)
    by_cases hlt : (k : Int) < (l.length : Int)
    · have hbo := own_below h F.below
      obtain ⟨gb, x, y, rfl, hkb, c1, c2⟩ := rowB_at hbo k (by omega)
      have ST := Lib.hid (filter_step hkb (keepC a n))
      have x64 := hx64 _ (List.mem_of_getElem? hkb)
      simp only at x64
      clear hkb hbo
      by_cases hx : (x : Int) < (a : Int)
      · have _h := hx
        have kc : keepC a n (x, y) = true := by simp [keepC]; omega
        generalize hPP : (l.take k).filter (keepC a n) = PP at F pl ST m1
        go_wp2_with (at_builtin; refine wpList_append_own_at _ rfl _ _ 33 rfl w.heap.size 69 i0 (.agg #[.int .u64 0, .int .u8 0]) 2 16 Try.underlying33 hi hz0 hz1 hz2 rfl (by decide) (.slice ao' PP.length cap') _ _ rfl (F.own.alloc _) ⟨wr.heap.size, 0, none⟩ 1 1 [.int .u64 (x : Int), .int .u8 (y : Int)] rfl rfl (cell_two_new _ _ _ _) (two_oneB _ _) (by unfold maxLen; omega) (by omega) (by have := F.below.size; simp; omega) ?_; intro v1 w1 ho1 hg1 hn1 hat1; obtain ⟨ao1, cap1, rfl⟩ := own_shape ho1)
        go_roundw
        case rel =>
          refine ⟨k + 1, by omega, by go_num, ?_⟩
          rw [ST.out, if_pos kc]
          have F1 := F.add hg1 ho1
          rw [show PP.length + 1 = (PP ++ [(x, y)]).length by simp] at F1
          simpa using F1
        case measure => simp [intOf]; omega
      · by_cases hx2 : (n : Int) ≤ (x : Int) - (a : Int)
        · have _h := hx
          have kc : keepC a n (x, y) = true := by simp [keepC]; omega
          generalize hPP : (l.take k).filter (keepC a n) = PP at F pl ST m1
          go_wp2_with (at_builtin; refine wpList_append_own_at _ rfl _ _ 33 rfl w.heap.size 69 i0 (.agg #[.int .u64 0, .int .u8 0]) 2 16 Try.underlying33 hi hz0 hz1 hz2 rfl (by decide) (.slice ao' PP.length cap') _ _ rfl (F.own.alloc _) ⟨wr.heap.size, 0, none⟩ 1 1 [.int .u64 (x : Int), .int .u8 (y : Int)] rfl rfl (cell_two_new _ _ _ _) (two_oneB _ _) (by unfold maxLen; omega) (by omega) (by have := F.below.size; simp; omega) ?_; intro v1 w1 ho1 hg1 hn1 hat1; obtain ⟨ao1, cap1, rfl⟩ := own_shape ho1)
          go_roundw
          case rel =>
            refine ⟨k + 1, by omega, by go_num, ?_⟩
            rw [ST.out, if_pos kc]
            have F1 := F.add hg1 ho1
            rw [show PP.length + 1 = (PP ++ [(x, y)]).length by simp] at F1
            simpa using F1
          case measure => simp [intOf]; omega
        · have kc : keepC a n (x, y) = false := by simp [keepC]; omega
          go_wp2
          go_roundw
          case rel => exact ⟨k + 1, by omega, by go_num, by rw [ST.out, kc]; simpa using F⟩
          case measure => simp [intOf]; omega
    · obtain rfl : k = l.length := by omega
      generalize hPP : (l.take l.length).filter (keepC a n) = PP at F pl m1
      rw [List.take_length] at hPP
      obtain ⟨L1, L2, L3⟩ := F.last
      have HL := Lib.hid L1
      have EP := Lib.hid (show clrL l a n = PP from hPP)
      clear L1 hPP
      go_wp2
      rw [EP.out]
      exact bodyPost_ret (results_cell_row rfl _ _ _ _ #[.int .u64 (S : Int), .slice ao' PP.length cap'] (0, 0) _ rfl HL.out Try.underlying35 (by kernel_rfl) (by kernel_rfl)) rfl ⟨ao', cap', rfl, L2, L3⟩
end Go.Proofs.Ytmhgofhclckdpaa.Mem
