/-
  Contract of All of package hash: it hands back an iterator over a list of its own. Conditions: a table that is there.
-/
import Derived.Test.YtilijnalhkeggaaHSort
import Derived.Test.YtilijnalhkeggaaHLaw
namespace Go.Proofs.Ytilijnalhkeggaa.Hs
open Fld
open Go.ChangeShapes Go.WideShapes Go.ChangeAt Go.RowKit Go.Maps
set_option maxHeartbeats 1000000
set_option maxRecDepth 100000
def catL (L : Nat → List Bk) (is : List Nat) : List Bk := is.flatMap L
theorem cat_live {w : World} {sb bm n : Nat} {bl : Int} {L : Nat → List Bk} {V : Nat → Value} (h : TabAt w sb bm n bl L V) : ∀ m, m ≤ n → catL L (liveN V m) = allL L m
  | 0, _ => rfl
  | m + 1, hm => by
    have ih := cat_live h m (by omega)
    unfold liveN allL
    split
    · rename_i hv
      rw [ih, h.nilV (by omega) (nilB_iff.1 hv), List.append_nil]
    · rw [← ih]; unfold catL; rw [List.flatMap_append]; simp
theorem cat_take (L : Nat → List Bk) (is : List Nat) {j : Nat} (h : j < is.length) : catL L (is.take (j + 1)) = catL L (is.take j) ++ L is[j] := by
  unfold catL; rw [List.take_add_one, List.getElem?_eq_getElem h, List.flatMap_append]; simp
theorem cat_len {w : World} {sb bm n : Nat} {bl : Int} {L : Nat → List Bk} {V : Nat → Value} (h : TabAt w sb bm n bl L V) (j : Nat) : (catL L ((liveN V n).take j)).length ≤ lenL L n := by
  have e : lenL L n = (catL L (liveN V n)).length := by rw [cat_live h n (Nat.le_refl _)]; rfl
  have e2 : catL L (liveN V n) = catL L ((liveN V n).take j) ++ catL L ((liveN V n).drop j) := by unfold catL; rw [← List.flatMap_append, List.take_append_drop]
  rw [e, e2, List.length_append]; omega
theorem liveI_get {V : Nat → Value} {n j : Nat} (h : j < (liveN V n).length) : ((liveI V n).map encZ)[j]? = some (.int .i64 (((liveN V n)[j] : Nat) : Int)) := by
  simp [liveI, h]
theorem make_any (w : World) (c : Nat) (hc : c ≤ 1073741824) : ∃ cur, (Instr.makeSlice 78 (.int .i64 0) (.int .i64 (c : Int))).run Try.prog w = .ok (.slice (some ⟨w.heap.size, 0, none⟩) 0 c) (w.alloc (.cells cur 83)) ∧ (w.alloc (.cells cur 83)).ownsRow w.heap.size 83 4 (.slice (some ⟨w.heap.size, 0, none⟩) 0 c) 0 [] := by
  obtain ⟨i, hi, hz0, hz1, hz2⟩ := info_parts infoB
  have hb : (i.bytes : Int) * c ≤ 281474976710656 := by rw [hz2]; omega
  have hr := run_make (P := Try.prog) w 78 83 i _ Try.underlying78 hi hz0 .i64 .i64 0 (c : Int) (Int.le_refl _) (by omega) hb (by omega)
  simp only [Int.toNat_zero, Int.toNat_natCast] at hr
  exact ⟨_, hr, World.ownsRow_made w _ c (Nat.le_refl _) (by unfold maxLen; omega) (by rw [hz1]; exact size_madeCells _ _)⟩
/-- What is there between two rounds. -/
structure AP (w wr : World) (xb : Nat) (v : Value) (l : List Bk) (vs : Value) (ks : List Value) : Prop where
  bel : Below w.heap.size w wr
  box : wr.heap[xb]? = some (.cells #[v] 78 (0, 0))
  own : wr.ownsRow w.heap.size 83 4 v l.length (bkL l)
  keys : wr.ownsRow w.heap.size 3 1 vs ks.length ks
  lo : w.heap.size ≤ xb
theorem AP.drew {w wr : World} {xb : Nat} {v vs : Value} {l : List Bk} {ks : List Value} (h : AP w wr xb v l vs ks) : AP w wr.drew xb v l vs ks := ⟨h.bel.drew, h.box, own_same h.own (fun _ _ => rfl), own_same h.keys (fun _ _ => rfl), h.lo⟩
theorem AP.ne {w wr : World} {xb : Nat} {v vs : Value} {l : List Bk} {ks : List Value} (h : AP w wr xb v l vs ks) : v.ownBlock ≠ some xb ∧ ∀ g, vs.ownBlock = some g → g ≠ xb ∧ v.ownBlock ≠ some g := by
  have hb := h.box
  refine ⟨fun e => ?_, fun g e => ⟨?_, fun e2 => ?_⟩⟩
  · obtain ⟨cur, hc⟩ := own_obj h.own e
    rw [hb] at hc; injection hc with hc; injection hc with _ hc _; exact absurd hc (by decide)
  · rintro rfl
    obtain ⟨cur, hc⟩ := own_obj h.keys e
    rw [hb] at hc; injection hc with hc; injection hc with _ hc _; exact absurd hc (by decide)
  · obtain ⟨c1, h1⟩ := own_obj h.keys e
    obtain ⟨c2, h2⟩ := own_obj h.own e2
    rw [h1] at h2; injection h2 with h2; injection h2 with _ h2 _; exact absurd h2 (by decide)
/-- What was appended is put into the box. -/
theorem AP.put {w wr w1 : World} {xb : Nat} {v v' vs : Value} {l l' : List Bk} {ks : List Value} (h : AP w wr xb v l vs ks) (hg : wr.grownBy w1 v.ownBlock) (ho : w1.ownsRow w.heap.size 83 4 v' l'.length (bkL l')) :
    (w1.cell? ⟨xb, 0, none⟩ = some v ∧ w1.frozen? ⟨xb, 0, none⟩ = false) ∧ AP w (w1.setCell ⟨xb, 0, none⟩ v') xb v' l' vs ks := by
  obtain ⟨n1, n2⟩ := h.ne
  have hlt : ∀ {k o}, wr.heap[k]? = some o → k < wr.heap.size := fun h => (Array.getElem?_eq_some_iff.1 h).1
  have hbx := (hg.block xb (hlt h.box) (fun e => n1 e.symm)).trans h.box
  refine ⟨⟨by simp [World.cell?, hbx], by simp [World.frozen?, hbx]⟩, (h.bel.grown hg h.bel.size (fun j hj => (h.own.lt j hj).1)).setCell h.lo _, ?_, own_same ho (fun g e => Below.heap_setCell _ _ _ _ ?_), own_same h.keys (fun g e => (Below.heap_setCell _ _ _ _ (n2 g e).1).trans (hg.block g ((h.keys.lt g e).2) (fun e2 => (n2 g e).2 e2.symm))), h.lo⟩
  · rw [setCell_eq_setRow w1 xb 0 _ _ _ _ hbx]
    have := setRow_heap w1 xb _ (#[v].setIfInBounds 0 v') _ _ hbx
    simpa using this
  · rintro rfl
    obtain ⟨c2, h2⟩ := own_obj ho e
    rw [hbx] at h2; injection h2 with h2; injection h2 with _ h2 _; exact absurd h2 (by decide)
/-- The list of an iterator that All hands back. -/
structure ItAt (w : World) (B xb : Nat) (v : Value) (l : List Bk) : Prop where
  box : w.heap[xb]? = some (.cells #[v] 78 (0, 0))
  own : w.ownsRow B 83 4 v l.length (bkL l)
theorem all_any {sb n : Nat} {bl : Int} {L : Nat → List Bk} {O : Nat → Prop} (w : World) (h : Tab w sb O n bl L) :
    Calls Try.prog 48 #[.pointer (some ⟨sb, 0, none⟩)] w fun e w' => ∃ xb v, e = .returned (.func (.func 61) #[] #[.pointer (some ⟨xb, 0, none⟩)]) ∧ w.heap.size ≤ xb ∧ ItAt w' w.heap.size xb v (allL L n) ∧ Below w.heap.size w w' := by
  obtain ⟨bm, V, h, _⟩ := h
  obtain ⟨ik, hik, hz0, hz1, hz2⟩ := info_parts infoB
  obtain ⟨c0, c1, c2, c3, fr⟩ := h.cells
  have hfew := h.few
  have hb1 := h.b1
  obtain ⟨cur, hmk, hown0⟩ := make_any w (lenL L n) (by omega)
  have hT := h
  go_enter Try.func48, Try.ntmps48
  obtain ⟨_, _, _, d3, _⟩ := ((hT.alloc (.cells cur 83)).alloc (.cells #[.slice (some ⟨w.heap.size, 0, none⟩) 0 (lenL L n)] 78)).cells
  have T2 := (hT.alloc (.cells cur 83)).alloc (.cells #[.slice (some ⟨w.heap.size, 0, none⟩) 0 (lenL L n)] 78)
  have b2 : Below w.heap.size w ((w.alloc (.cells cur 83)).alloc (.cells #[.slice (some ⟨w.heap.size, 0, none⟩) 0 (lenL L n)] 78)) := ((Below.refl _ _).alloc (Nat.le_refl _) _).alloc (by simp) _
  have x2 : ((w.alloc (.cells cur 83)).alloc (.cells #[.slice (some ⟨w.heap.size, 0, none⟩) 0 (lenL L n)] 78)).heap[w.heap.size + 1]? = some (.cells #[.slice (some ⟨w.heap.size, 0, none⟩) 0 (lenL L n)] 78 (0, 0)) := by
    have := heap_alloc_new (w.alloc (.cells cur 83)) (.cells #[.slice (some ⟨w.heap.size, 0, none⟩) 0 (lenL L n)] 78)
    rwa [World.size_alloc] at this
  have o2 := hown0.alloc (.cells #[.slice (some ⟨w.heap.size, 0, none⟩) 0 (lenL L n)] 78)
  go_wp2_with fail
  refine (mkeys_any bm _).mono ?_; rintro e w1 ⟨rfl, rfl⟩
  generalize World.alloc (World.alloc w _) _ = W2 at *
  obtain ⟨D, hD, hM⟩ := T2.map
  have T3 := T2.alloc (.cells #[.map (some bm)] 64)
  obtain ⟨D3, hD3, hM3⟩ := T3.map
  have hms := T3.msize hD3 hM3
  have b3 := b2.alloc b2.size (.cells #[.map (some bm)] 64)
  have x3 := blk_low x2 ((Below.refl _ W2).alloc (Nat.le_refl _) (.cells #[.map (some bm)] 64))
  have o3 := o2.alloc (.cells #[.map (some bm)] 64)
  have y3 := heap_alloc_new W2 (.cells #[.map (some bm)] 64)
  have CS := Lib.hid (msorted_any _ y3 hD3 hM3 hms)
  clear hM hD D y3 hD3 hM3 hms x2 o2 T2 b2 d3 c0 c1 c2 c3 fr hmk
  go_wp2_with fail
  refine CS.out.mono ?_; rintro e w4 ⟨vs, rfl, hrow, hb4⟩
  have T4 := T3.below hb4 (Nat.le_refl _)
  have A4 : AP w w4 (w.heap.size + 1) (.slice (some ⟨w.heap.size, 0, none⟩) 0 (lenL L n)) [] vs ((liveI V n).map encZ) := ⟨lo_step b3 hb4, blk_low x3 hb4, (own_same o3 (fun g hg => hb4.block g (o3.lt g hg).2)), by
    have e : ((liveI V n).map encZ).length = (liveI V n).length := by simp
    rw [e]
    refine ⟨hrow.1, ?_⟩
    rcases hrow.2 with hn | ⟨g, cap, cur, a, b, c⟩
    · exact .inl hn
    · exact .inr ⟨g, cap, cur, a, Nat.le_trans b3.size b, c⟩, by omega⟩
  have hll : (liveI V n).length = (liveN V n).length := by simp [liveI]
  have hlen : (liveN V n).length ≤ 1073741824 := by
    have e1 : ∀ m, m ≤ n → (liveN V m).length ≤ lenL L m := by
      intro m
      induction m with
      | zero => intro _; exact Nat.zero_le _
      | succ m ih =>
        intro hm
        have := ih (by omega)
        rw [len_succ]
        unfold liveN
        split
        · omega
        · rename_i hv
          have : L m ≠ [] := fun e => hv (nilB_iff.2 (hT.nil m (by omega) e))
          have := List.length_pos_iff.2 this
          simp; omega
    have := e1 n (Nat.le_refl _); omega
  obtain ⟨cs, hcs⟩ : ∃ cs, cs = (liveI V n).map encZ := ⟨_, rfl⟩
  have hcl : cs.length = (liveN V n).length := by rw [hcs]; simp [liveI]
  have HC := Lib.hid hcs
  rw [← hcs] at A4
  rw [hll] at hrow
  obtain ⟨ao, cap, rfl⟩ := own_shape3 hrow
  clear hrow hb4 T3 b3 x3 o3 CS hll hown0 hcs
  have HL := Lib.hid hcl
  generalize hm : (liveN V n).length = m at *
  have HM := Lib.hid hm
  clear hm hcl
  go_wp2_with fail
  go_loopw [18] (fun i wr => ∃ (j : Nat) (v : Value), i = .int .i64 (j : Int) ∧ j ≤ m ∧ AP w wr (w.heap.size + 1) v (catL L ((liveN V n).take j)) (.slice ao m cap) cs ∧ TabAt wr sb bm n bl L V) (fun i _ => m - (RowKit.intOf i).toNat)
  case atStart => exact ⟨0, _, rfl, Nat.zero_le _, A4, T4⟩
  case round =>
    clear A4 T4
    obtain ⟨j, v, rfl, hj, A, T⟩ := hrel
    by_cases hlt : j < m
    · have hlt' : (j : Int) < (m : Int) := by omega
      have hj' : j < (liveN V n).length := by rw [HM.out]; exact hlt
      obtain ⟨i, hi⟩ : ∃ i, (liveN V n)[j] = i := ⟨_, rfl⟩
      have hmem : i ∈ liveN V n := by rw [← hi]; exact List.getElem_mem hj'
      obtain ⟨hin, hvn⟩ := mem_live.1 hmem
      have hck : cs[j]? = some (.int .i64 (i : Int)) := by rw [HC.out, liveI_get hj', hi]
      have htk := Lib.hid (show catL L ((liveN V n).take (j + 1)) = catL L ((liveN V n).take j) ++ L i by rw [cat_take L _ hj', hi])
      have hl0 := cat_len T j
      have hl1 := cat_len T (j + 1)
      rw [htk.out, List.length_append] at hl1
      obtain ⟨g1, cap1, hv1, hg1, hnc1, hcm1⟩ : ∃ g c', Value.slice ao m cap = .slice (some ⟨g, 0, none⟩) m c' ∧ (Value.slice ao m cap).ownBlock = some g ∧ m ≤ c' ∧ c' ≤ maxLen := by
        have hk := A.keys
        rw [HL.out] at hk
        rcases own_form hk with ⟨_, h0⟩ | ⟨g, cap2, hv, hgb, hnc, hcm⟩
        · omega
        · exact ⟨g, cap2, hv, hgb, hnc, hcm⟩
      have hkc := A.keys.cells hg1 j _ hck
      rw [addr_lit, Nat.zero_add] at hkc
      simp only [Value.slice.injEq, true_and] at hv1
      obtain ⟨rfl, rfl⟩ := hv1
      rcases own_form (T.rows i hin) with ⟨hv, _⟩ | ⟨g, capr, hv, hgb, hnc, hcm⟩
      · exact absurd hv hvn
      have hpos : 0 < (L i).length := by
        rcases Nat.eq_zero_or_pos (L i).length with h0 | h0
        · exact absurd (T.nil i hin (List.eq_nil_of_length_eq_zero h0)) hvn
        · exact h0
      obtain ⟨_, _, _, c3, _⟩ := T.cells
      have hlook := T.drew.lookN hin
      have hnews := (T.drew.rows i hin).cells hgb
      have hx : wr.cell? ⟨w.heap.size + 1, 0, none⟩ = some v := by have := A.box; simp [World.cell?, this]
      rw [hv] at hlook
      have HA := Lib.hid A
      have HT := Lib.hid T
      have hTH := Lib.hid hT
      have hck2 := Lib.hid hck
      clear A T hck hmem hi hj'
      unfold maxLen at hcm1
      go_wp2_with fail
      go_region_law (refine step_append_lies _ rfl _ _ 78 rfl w.heap.size 83 ik _ 4 32 Try.underlying78 hik hz0 hz1 hz2 rfl (by decide) v _ _ (by simp [Act.eval]) HA.out.drew.own ⟨g, 0, none⟩ (L i).length capr (bkL (L i)) (by simp [Act.eval]) (bkL_length _) hnews (bkL_one _) hpos (by unfold maxLen; omega) (by omega) (by have := HA.out.bel.size; simpa using this) _ rfl ?_; intro g2 cap2 w1 ho2 hg2 hat2 hlt2; obtain ⟨⟨q1, q2⟩, A2⟩ := HA.out.drew.put (l' := catL L ((liveN V n).take (j + 1))) (v' := .slice (some ⟨g2, 0, none⟩) ((catL L ((liveN V n).take j)).length + (L i).length) cap2) hg2 (by rw [htk.out, List.length_append, bkL_append]; exact ho2))
      all_goals
        have T2 := hTH.out.below A2.bel (Nat.le_refl _)
        clear ho2 hg2 hat2 hlt2 q1 q2 hnews hlook HA HT
        go_wp2_with fail
        go_roundw
        case rel => exact ⟨j + 1, _, by go_num, by omega, A2, T2⟩
        case measure => simp [RowKit.intOf]; omega
    · obtain rfl : m = j := by omega
      have hcat := cat_live T n (Nat.le_refl _)
      have htk : (liveN V n).take m = liveN V n := by rw [← HM.out, List.take_length]
      rw [htk, hcat] at A
      have HA := Lib.hid A
      clear A T
      go_wp2_with fail
      go_ret
      exact ⟨w.heap.size + 1, v, rfl, by omega, ⟨HA.out.box, HA.out.own⟩, HA.out.bel⟩
end Go.Proofs.Ytilijnalhkeggaa.Hs
