/-
  Contracts of Put and Clear of the document's answer for memory. Conditions: lists of at most 2 to the 42 bytes.
-/
import Derived.Test.YtmhgofhclckdpaaMBGet
namespace Go.Proofs.Ytmhgofhclckdpaa.Mem
open Go.ChangeShapes Go.WideShapes Go.ChangeAt Go.RowKit Go.Maps
set_option maxHeartbeats 400000
/-- Since w: the boxed memory, the result's place, and a list that is made. -/
structure Flt (w wr : World) (S : Nat) (v v' : Value) (P : List (Nat × Nat)) : Prop where
  below : Below w.heap.size w wr
  m : wr.heap[w.heap.size]? = some (.cells #[.int .u64 (S : Int), v] 35 (0, 0))
  r : wr.heap[w.heap.size + 1]? = some (.cells #[.int .u64 0, .slice none 0 0] 35 (0, 0))
  own : wr.ownsRow w.heap.size 69 2 v' P.length (flatB P)
theorem Flt.start (w : World) (S : Nat) (v : Value) : Flt w ((w.alloc (.cells #[.int .u64 (S : Int), v] 35)).alloc (.cells #[.int .u64 0, .slice none 0 0] 35)) S v (.slice none 0 0) [] where
  below := ((Below.refl _ _).alloc (Nat.le_refl _) _).alloc (by simp) _
  m := by rw [Below.heap_alloc _ _ _ (by simp)]; exact heap_alloc_new _ _
  r := by
    have := heap_alloc_new (w.alloc (.cells #[.int .u64 (S : Int), v] 35)) (.cells #[.int .u64 0, .slice none 0 0] 35)
    simpa using this
  own := World.ownsRow_nil _ _ _ _
theorem Flt.add {w wr w1 : World} {S : Nat} {v v' v1 : Value} {P : List (Nat × Nat)} {k b : Nat} {o : Obj} (h : Flt w wr S v v' P) (hg : (wr.alloc o).grownBy w1 v'.ownBlock) (ho : w1.ownsRow w.heap.size 69 2 v1 (P.length + 1) (flatB P ++ [.int .u64 (k : Int), .int .u8 (b : Int)])) : Flt w w1 S v v1 (P ++ [(k, b)]) := by
  have kp : ∀ (i : Nat) (c : Array Value), wr.heap[i]? = some (.cells c 35 (0, 0)) → w1.heap[i]? = some (.cells c 35 (0, 0)) := fun i c hi =>
    (hg.block i (by have := lt_of_block hi; simp; omega) (own_ne h.own hi (by decide)).symm).trans ((Below.heap_alloc _ _ _ (lt_of_block hi)).trans hi)
  refine ⟨?_, kp _ _ h.m, kp _ _ h.r, by rw [flatB_one, List.length_append]; exact ho⟩
  have hs := h.below.size
  exact (h.below.alloc h.below.size _).grown hg (by simp; omega) (fun j hj => (h.own.lt j hj).1)
theorem Flt.cells {w wr : World} {S : Nat} {v v' : Value} {P : List (Nat × Nat)} (h : Flt w wr S v v' P) : wr.cell? ⟨w.heap.size, 0, none⟩ = some (.int .u64 (S : Int)) ∧ wr.cell? ⟨w.heap.size, 1, none⟩ = some v ∧ wr.frozen? ⟨w.heap.size, 0, none⟩ = false ∧ wr.frozen? ⟨w.heap.size, 1, none⟩ = false ∧ wr.cell? ⟨w.heap.size + 1, 0, none⟩ = some (.int .u64 0) ∧ wr.cell? ⟨w.heap.size + 1, 1, none⟩ = some (.slice none 0 0) ∧ wr.frozen? ⟨w.heap.size + 1, 0, none⟩ = false ∧ wr.frozen? ⟨w.heap.size + 1, 1, none⟩ = false :=
  ⟨by simp [World.cell?, h.m], by simp [World.cell?, h.m], by simp [World.frozen?, h.m], by simp [World.frozen?, h.m], by simp [World.cell?, h.r], by simp [World.cell?, h.r], by simp [World.frozen?, h.r], by simp [World.frozen?, h.r]⟩
/-- What a function of the document does that makes a new list: it answers a memory of it. -/
def GivesL (w : World) (S : Nat) (P : List (Nat × Nat)) (e : Ending) (w' : World) : Prop := ∃ ao cap, e = .returned (.agg #[.int .u64 (S : Int), .slice ao P.length cap]) ∧ w'.ownsRow w.heap.size 69 2 (.slice ao P.length cap) P.length (flatB P) ∧ Below w.heap.size w w'
/-- The end: the list is laid into the boxed memory, that into the result's place. -/
theorem Flt.last {w wr : World} {S : Nat} {v v' : Value} {P : List (Nat × Nat)} (h : Flt w wr S v v' P) :
    (((wr.setCell ⟨w.heap.size, 1, none⟩ v').setCell ⟨w.heap.size + 1, 0, none⟩ (.int .u64 (S : Int))).setCell ⟨w.heap.size + 1, 1, none⟩ v').heap[w.heap.size + 1]? = some (.cells #[.int .u64 (S : Int), v'] 35 (0, 0)) ∧
    (((wr.setCell ⟨w.heap.size, 1, none⟩ v').setCell ⟨w.heap.size + 1, 0, none⟩ (.int .u64 (S : Int))).setCell ⟨w.heap.size + 1, 1, none⟩ v').ownsRow w.heap.size 69 2 v' P.length (flatB P) ∧
    Below w.heap.size w (((wr.setCell ⟨w.heap.size, 1, none⟩ v').setCell ⟨w.heap.size + 1, 0, none⟩ (.int .u64 (S : Int))).setCell ⟨w.heap.size + 1, 1, none⟩ v') := by
  have n1 := own_ne h.own h.m (by decide)
  have n2 := own_ne h.own h.r (by decide)
  refine ⟨?_, ?_, ?_⟩
  · have h1 : (wr.setCell ⟨w.heap.size, 1, none⟩ v').heap[w.heap.size + 1]? = some (.cells #[.int .u64 0, .slice none 0 0] 35 (0, 0)) := (Below.heap_setCell _ _ _ _ (by simp)).trans h.r
    rw [heap_set (heap_set h1 _) _]; rfl
  · exact ownsRow_setCell_other (ownsRow_setCell_other (ownsRow_setCell_other h.own n1 _) n2 _) n2 _
  · exact ((h.below.setCell (Nat.le_refl _) _).setCell (by simp) _).setCell (by simp) _
theorem rput_any (S B a b cap : Nat) (ao : Option Addr) (l : List (Nat × Nat)) (w : World) (h : w.ownsRow B 69 2 (.slice ao l.length cap) l.length (flatB l)) (hl : l.length ≤ 4398046511104) :
    Calls Try.prog 28 #[.agg #[.int .u64 (S : Int), .slice ao l.length cap], .int .u64 (a : Int), .int .u8 (b : Int)] w (GivesL w S (putL l a b)) := by
  obtain ⟨i0, hi, hz0, hz1, hz2⟩ := info_parts infoR
  have F0 := Flt.start w S (.slice ao l.length cap)
  go_enter Try.func28, Try.ntmps28
  go_wp2
  go_loopw [7, 8] (fun v' i wr => ∃ k : Nat, k ≤ l.length ∧ i = .int .i64 (k : Int) ∧ Flt w wr S (.slice ao l.length cap) v' ((l.take k).filter (fun p => p.1 != a))) (fun _ i _ => l.length - (intOf i).toNat)
  case atStart => exact ⟨0, by omega, rfl, F0⟩
  case round =>
    obtain ⟨k, hk, rfl, F⟩ := hrel
    clear F0
    obtain ⟨ao', cap', rfl⟩ := own_shape F.own
    obtain ⟨m1, m2, m3, m4, r1, r2, r3, r4⟩ := F.cells
    have pl : ((l.take k).filter (fun p => p.1 != a)).length ≤ k := Nat.le_trans (List.length_filter_le _ _) (by simp; omega)
    by_cases hlt : (k : Int) < (l.length : Int)
    · have hbo : wr.ownsRow B 69 2 (.slice ao l.length cap) l.length (flatB l) := ⟨h.1, by
        rcases h.2 with hn | ⟨g, c, cur, hv, hB, hg, rest⟩
        · exact .inl hn
        · exact .inr ⟨g, c, cur, hv, hB, (F.below.block _ (lt_of_block hg)).trans hg, rest⟩⟩
      obtain ⟨gb, x, y, rfl, hkb, c1, c2⟩ := rowB_at hbo k (by omega)
      have ST := Lib.hid (filter_step hkb (fun p => p.1 != a))
      clear hkb hbo
      by_cases hx : x = a
      · have hx1 : ((x : Int) != (a : Int)) = false := by simp; omega
        go_wp2
        go_roundw
        case rel => exact ⟨k + 1, by omega, by go_num, by rw [ST.out]; simpa [hx] using F⟩
        case measure => simp [intOf]; omega
      · have hx1 : ((x : Int) != (a : Int)) = true := by simp; omega
        generalize hPP : (l.take k).filter (fun p => p.1 != a) = PP at F pl ST m1
        go_wp2_with (at_builtin; refine wpList_append_own_at _ rfl _ _ 33 rfl w.heap.size 69 i0 (.agg #[.int .u64 0, .int .u8 0]) 2 16 Try.underlying33 hi hz0 hz1 hz2 rfl (by decide) (.slice ao' PP.length cap') _ _ rfl (F.own.alloc _) ⟨wr.heap.size, 0, none⟩ 1 1 [.int .u64 (x : Int), .int .u8 (y : Int)] rfl rfl (cell_two_new _ _ _ _) (two_oneB _ _) (by unfold maxLen; omega) (by omega) (by have := F.below.size; simp; omega) ?_; intro v1 w1 ho1 hg1 hn1 hat1; obtain ⟨ao1, cap1, rfl⟩ := own_shape ho1)
        go_roundw
        case rel =>
          refine ⟨k + 1, by omega, by go_num, ?_⟩
          rw [ST.out, if_pos (by simpa using hx)]
          have F1 := F.add hg1 ho1
          rw [show PP.length + 1 = (PP ++ [(x, y)]).length by simp] at F1
          simpa using F1
        case measure => simp [intOf]; omega
    · obtain rfl : k = l.length := by omega
      generalize hPP : (l.take l.length).filter (fun p => p.1 != a) = PP at F pl m1
      rw [List.take_length] at hPP
      by_cases hb : b = 0
      · subst hb
        obtain ⟨L1, L2, L3⟩ := F.last
        have HL := Lib.hid L1
        have EP := Lib.hid (show putL l a 0 = PP by unfold putL; rw [hPP]; simp)
        clear L1 hPP
        go_wp2
        rw [EP.out]
        exact bodyPost_ret (results_cell_row rfl _ _ _ _ #[.int .u64 (S : Int), .slice ao' PP.length cap'] (0, 0) _ rfl HL.out Try.underlying35 (by kernel_rfl) (by kernel_rfl)) rfl ⟨ao', cap', rfl, L2, L3⟩
      · have hb1 : ((b : Int) != 0) = true := by simp; omega
        have EP := Lib.hid (show putL l a b = PP ++ [(a, b)] by unfold putL; rw [hPP, if_neg hb])
        clear hPP
        go_wp2_with (at_builtin; refine wpList_append_own_at _ rfl _ _ 33 rfl w.heap.size 69 i0 (.agg #[.int .u64 0, .int .u8 0]) 2 16 Try.underlying33 hi hz0 hz1 hz2 rfl (by decide) (.slice ao' PP.length cap') _ _ rfl (F.own.alloc _) ⟨wr.heap.size, 0, none⟩ 1 1 [.int .u64 (a : Int), .int .u8 (b : Int)] rfl rfl (cell_two_new _ _ _ _) (two_oneB _ _) (by unfold maxLen; omega) (by omega) (by have := F.below.size; simp; omega) ?_; intro v1 w1 ho1 hg1 hn1 hat1; obtain ⟨ao1, cap1, rfl⟩ := own_shape ho1; have F1 := F.add hg1 ho1; obtain ⟨m1, m2, m3, m4, r1, r2, r3, r4⟩ := F1.cells)
        obtain ⟨L1, L2, L3⟩ := F1.last
        rw [EP.out]
        have e1 : PP.length + 1 = (PP ++ [(a, b)]).length := by simp
        rw [e1] at L1 L2 L3 ⊢
        exact bodyPost_ret (results_cell_row rfl _ _ _ _ #[.int .u64 (S : Int), .slice ao1 (PP ++ [(a, b)]).length cap1] (0, 0) _ rfl L1 Try.underlying35 (by kernel_rfl) (by kernel_rfl)) rfl ⟨ao1, cap1, rfl, L2, L3⟩
end Go.Proofs.Ytmhgofhclckdpaa.Mem
