/-
  Contracts of package hash: New, Len, Free, Chains, Get. Conditions: a key's numbers are those that Go's types hold; a table that is there.
-/
import Derived.Test.YtilijnalhkeggaaHProg
namespace Go.Proofs.Ytilijnalhkeggaa.Hs
open Fld
open Go.ChangeShapes Go.WideShapes Go.ChangeAt Go.RowKit Go.Maps
set_option maxHeartbeats 1000000
set_option maxRecDepth 100000
theorem ret_got {a b a' b' : Int} {c c' : Bool} (h1 : a = a') (h2 : b = b') (h3 : c = c') : Ending.returned (.tuple #[.int .i64 a', .int .i64 b', .bool c']) = .returned (.tuple #[.int .i64 a, .int .i64 b, .bool c]) := by rw [h1, h2, h3]
theorem len_any {sb bm n : Nat} {bl : Int} {L : Nat → List Bk} {V : Nat → Value} (w : World) (h : TabAt w sb bm n bl L V) :
    Calls Try.prog 23 #[.pointer (some ⟨sb, 0, none⟩)] w fun e w' => e = .returned (.int .i64 (lenL L n : Int)) ∧ w' = w := by
  obtain ⟨c0, c1, c2, c3, fr⟩ := h.cells
  clear h
  go_enter Try.func23, Try.ntmps23
  go_wp2
  go_ret
  exact ⟨rfl, rfl⟩
theorem chains_any {sb bm n : Nat} {bl : Int} {L : Nat → List Bk} {V : Nat → Value} (w : World) (h : TabAt w sb bm n bl L V) :
    Calls Try.prog 22 #[.pointer (some ⟨sb, 0, none⟩)] w fun e w' => e = .returned (.int .i64 (n : Int)) ∧ w' = w := by
  obtain ⟨c0, c1, c2, c3, fr⟩ := h.cells
  clear h
  go_enter Try.func22, Try.ntmps22
  go_wp2
  go_ret
  exact ⟨rfl, rfl⟩
theorem free_any {sb bm n : Nat} {bl : Int} {L : Nat → List Bk} {V : Nat → Value} (w : World) (h : TabAt w sb bm n bl L V) :
    Calls Try.prog 31 #[.pointer (some ⟨sb, 0, none⟩)] w fun e w' => e = .returned (.int .i64 (bl - (lenL L n : Int))) ∧ ∃ m, w' = w.drewN m := by
  obtain ⟨c0, c1, c2, c3, fr⟩ := h.cells
  have hf := h.few
  have hb := h.b1
  clear h
  go_enter Try.func31, Try.ntmps31
  have hl : (0 : Int) ≤ (lenL L n : Int) := by omega
  go_wp2_with fail
  go_quiet (fail)
  go_wp2_with fail
  go_ret
  exact ⟨rfl, _, rfl⟩
theorem get_any {sb bm n : Nat} {bl : Int} {L : Nat → List Bk} {V : Nat → Value} (k : Ky) (hk : k.wf) (w : World) (h : TabAt w sb bm n bl L V) :
    Calls Try.prog 24 #[.pointer (some ⟨sb, 0, none⟩), .agg #[.int .i64 k.sp, .int .u64 k.va, .int .i64 k.sz]] w fun e w' => e = .returned (.tuple #[.int .i64 (getV n L k), .int .i64 (getN n L k), .bool (getB n L k)]) ∧ Below w.heap.size w w' := by
  have hn := h.n0
  have F := FK.new h k
  have B1 : Below w.heap.size w (w.alloc (.cells #[.int .i64 k.sp, .int .u64 k.va, .int .i64 k.sz] 41)) := (Below.refl _ _).alloc (Nat.le_refl _) _
  cases hm : kmayB k
  · have e1 := Lib.hid (show getV n L k = 0 by unfold getV getB; rw [hm]; rfl)
    have e2 := Lib.hid (show getN n L k = 0 by unfold getN getB; rw [hm]; rfl)
    have e3 := Lib.hid (show getB n L k = false by unfold getB; rw [hm]; rfl)
    obtain ⟨x0, x1, x2⟩ := F.cells
    go_enter Try.func24, Try.ntmps24
    go_wp2_with (first | (go_at_call 17; refine (kmay_any k hk _).mono ?_; rintro e w1 ⟨rfl, hb1⟩; rw [hm]))
    go_ret3
    exact ⟨ret_got e1.out e2.out e3.out, B1.trans (hb1.mono (by simp))⟩
  · have hok := hk.ok hm
    have hcn := chN_lt k hn
    rw [chN_ok hok] at hcn
    obtain ⟨x0, x1, x2⟩ := F.cells
    have CF := Lib.hid (fun w h => find_any (sb := sb) (bm := bm) (n := n) (bl := bl) (L := L) (V := V) k hk w h)
    rw [chN_ok hok] at CF
    go_enter Try.func24, Try.ntmps24
    go_wp2_with fail
    refine (kmay_any k hk _).mono ?_; rintro e w1 ⟨rfl, hb1⟩; rw [hm]
    have F1 := F.call hb1
    have B2 := B1.trans (hb1.mono (by simp))
    obtain ⟨x0, x1, x2⟩ := F1.cells
    clear F B1 hb1
    go_wp2_with fail
    refine (CF.out _ F1.tab).mono ?_; rintro e w2 ⟨rfl, hb2⟩
    have F2 := F1.call hb2
    have B3 := B2.trans (hb2.mono B2.size)
    clear F1 hb2 CF B2 x0 x1 x2
    have ho := F2.tab.rows _ hcn
    have hg : getB n L k = hasB (L (chainN k n)) k := by unfold getB; rw [hm]; rfl
    cases hh : hasB (L (chainN k n)) k
    · rw [hh] at hg
      have e1 := Lib.hid (show getV n L k = 0 by unfold getV; rw [hg]; rfl)
      have e2 := Lib.hid (show getN n L k = ((L (chainN k n)).length : Int) by unfold getN; rw [hg, hm]; rfl)
      have e3 := Lib.hid hg
      have e4 := place_no hh
      rw [e4]
      clear e4 hg hh
      rcases own_form ho with ⟨hv, h0⟩ | ⟨g, cap, hv, hgb, hnc, hcm⟩
      · rw [hv]
        rw [h0] at e2
        clear ho F2
        go_wp2_with fail
        go_ret3
        exact ⟨ret_got e1.out e2.out e3.out, B3⟩
      · rw [hv]
        clear ho F2
        go_wp2_with fail
        go_ret3
        exact ⟨ret_got e1.out e2.out e3.out, B3⟩
    · rw [hh] at hg
      have hlt := has_lt hh
      have e1 := Lib.hid (show getV n L k = (at_ (L (chainN k n)) (posN (L (chainN k n)) k)).v by unfold getV; rw [hg]; rfl)
      have e2 := Lib.hid (show getN n L k = (posN (L (chainN k n)) k : Int) + 1 by unfold getN; rw [hg]; rfl)
      have e3 := Lib.hid hg
      rw [place_yes hh]
      clear hg hh
      have hle := bk_few F2.tab hcn
      rcases own_form ho with ⟨hv, h0⟩ | ⟨g, cap, hv, hgb, hnc, hcm⟩
      · omega
      · obtain ⟨y0, y1, y2, y3⟩ := own_rowC ho hgb hlt
        rw [hv]
        clear ho F2
        generalize posN (L (chainN k n)) k = j at *
        generalize L (chainN k n) = l at *
        have hlt' : (j : Int) < (l.length : Int) := by omega
        have hj0 : ¬ (j : Int) < 0 := by omega
        go_wp2_with fail
        go_ret3
        exact ⟨ret_got e1.out e2.out e3.out, B3⟩
end Go.Proofs.Ytilijnalhkeggaa.Hs
