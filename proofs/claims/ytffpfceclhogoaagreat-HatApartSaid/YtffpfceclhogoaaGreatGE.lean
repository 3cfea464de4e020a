/-
  YtffpfceclhogoaaGreatGE: the contracts and plain facts of several texts, laid together. Conditions: those that each theorem names.
-/
import Derived.Test.YtffpfceclhogoaaGreatGD
import Derived.Test.YtffpfceclhogoaaGreatGLay
import Derived.Test.YtffpfceclhogoaaGreatGC
import Derived.LoopTactic
import Derived.Test.YtffpfceclhogoaaGreatRows
import Derived.RangeFuncNested
import Derived.RangeFuncCalls
import Derived.RangeFuncLeaves
import Derived.RangeFuncBox
import Derived.RangeFuncBound
import Derived.Shelf.Abstract
import Derived.Shelf.RegionOpen
import Derived.OwnWalkIn
import Derived.TacticsInMore
import Derived.LoopNIn
import Derived.LoopIn
import Derived.BigQuiet
import Derived.BigRegionIn
import Derived.WalkKit
import Derived.ProofKit
import Derived.Lib.Hide
import Derived.Deep.RegionHeld3
namespace Go.Proofs.YtffpfceclhogoaaGreat.Hp
open Fld Hs
open Go.RowKit Go.Maps Go.Sort Go.Shelf
open Go.ChangeAt
set_option maxHeartbeats 1000000
set_option maxRecDepth 100000
/-- The numbers of the chains that have keys. -/
def liveI (V : Nat → Value) (n : Nat) : List Int := (liveN V n).map (fun i : Nat => (i : Int))
theorem live_perm {w : World} {b m n : Nat} {D : DataW Unit} {V : Nat → Value} (h : Owns w b m D) (hm : MapIs D n V) : (liveI V n).Perm (intKeys D) := by
  obtain ⟨es, rfl, hpw, hk⟩ := h.entries lawI
  have hp : es.Pairwise (fun p q => p.1 ≠ q.1) := by first | exact hpw | exact hpw.imp (fun h => h)
  refine perm_intKeys hp (fun p hp' => ?_) ?_ (fun x => ?_)
  · obtain ⟨i, _, e, _⟩ := hm.has_ p.1 (List.any_eq_true.2 ⟨p, hp', by obtain ⟨es', he, hr, hl⟩ := h.canon lawI; cases he; exact WideAt.sameKey_self (hl p hp')⟩)
    exact ⟨(i : Int), e⟩
  · unfold liveI
    exact List.pairwise_map.2 ((live_rises V n).imp (fun {a b} hab => by omega))
  · unfold liveI
    rw [List.mem_map]
    constructor
    · rintro ⟨i, hi, rfl⟩
      obtain ⟨a, c⟩ := mem_live.1 hi
      exact hm.nz i a c
    · intro hx
      obtain ⟨i, a, e, c⟩ := hm.has_ _ hx
      injection e with _ e
      exact ⟨i, mem_live.2 ⟨a, c⟩, e.symm⟩
theorem live_sorted {w : World} {b m n : Nat} {D : DataW Unit} {V : Nat → Value} (h : Owns w b m D) (hm : MapIs D n V) {ss : List Int} (hs : ss.Perm (intKeys D)) : ss.mergeSort (fun x y => decide (x ≤ y)) = liveI V n := by
  have e1 := mergeSort_of_perm_i (hs.trans (live_perm h hm).symm)
  refine e1.trans ?_
  have tr : ∀ a b c : Int, leI a b = true → leI b c = true → leI a c = true := fun a b c h1 h2 => by simp only [leI, decide_eq_true_eq] at *; exact Int.le_trans h1 h2
  have to : ∀ a b : Int, (leI a b || leI b a) = true := fun a b => by simp only [leI, Bool.or_eq_true, decide_eq_true_eq]; exact Int.le_total a b
  refine List.Perm.eq_of_pairwise (le := fun a b => leI a b = true) (fun a b _ _ h1 h2 => ?_) (List.pairwise_mergeSort tr to _) ?_ (List.mergeSort_perm _ leI)
  · simp only [leI, decide_eq_true_eq] at h1 h2
    exact Int.le_antisymm h1 h2
  · unfold liveI
    exact List.pairwise_map.2 ((live_rises V n).imp (fun {a b} hab => by simp only [leI, decide_eq_true_eq]; omega))
theorem sortsIn (m : Nat) : AnyZI.SortsIn Tryz.prog laySorted_ren Fence.wide m :=
  ⟨fun blk off cap ss W hH hblk hsz => callsIn_wide.2 (AnyM.slices_Sort_int laySort blk off cap ss W hH hblk hsz),
   fun p cap W => callsIn_wide.2 (AnyM.slices_Sort_int_none laySort p cap W)⟩
theorem mkeys_any (b : Nat) (w : World) : Calls Tryz.prog 82 #[.map (some b)] w fun e w' => e = .returned (.func (.func 110) #[] #[.pointer (some ⟨w.heap.size, 0, none⟩)]) ∧ w' = w.alloc (.cells #[.map (some b)] 108) :=
  (callsIn_wide (n := 5)).1 (AnyZI.keys_in layKeys Fence.wide 5 trivial rfl (some b) w)
theorem msorted_any {bp b m n : Nat} {D : DataW Unit} {V : Nat → Value} (w : World) (hb : w.heap[bp]? = some (.cells #[.map (some b)] 108 (0, 0))) (h : Owns w b m D) (hm : MapIs D n V) (hsz : Maps.size D ≤ 1073741824) :
    Calls Tryz.prog 81 #[.func (.func 110) #[] #[.pointer (some ⟨bp, 0, none⟩)]] w fun e w' =>
      ∃ v, e = .returned v ∧ w'.ownsRow w.heap.size 3 1 v (liveI V n).length ((liveI V n).map encZ) ∧ Below w.heap.size w w' := by
  have hbl := (Array.getElem?_eq_some_iff.1 hb).1
  have hseq : SeqGives Fence.wide 3 Tryz.prog 110 #[.pointer (some ⟨bp, 0, none⟩)] encZ (fun ss => ss.Perm (intKeys D)) (Maps.size D) w :=
    AnyZI.keys_gives (ρ := layKeys_ren) { layKeys with } Fence.wide _ trivial rfl (by omega) bp b m D _ hbl (by simp [World.cell?, hb]) h
  have cS := AnyZI.sorted_in laySorted Fence.wide 6 trivial trivial trivial trivial rfl (by omega) (sortsIn _) (enters_of Tryz.func109 (by kernel_rfl) rfl) 110 #[.pointer (some ⟨bp, 0, none⟩)] trivial (enters_of Tryz.func110 (by kernel_rfl) rfl) _ _ (by unfold maxLen; omega) (by omega) _ hseq
  refine ((callsIn_wide (n := 6)).1 cS).mono ?_
  rintro e w' ⟨v, ss, rfl, hS, hrow, _, hbel⟩
  have e1 := live_sorted h hm hS
  have e2 : ss.length = (liveI V n).length := by rw [← e1, List.length_mergeSort]
  rw [e1, e2] at hrow
  exact ⟨v, rfl, hrow, hbel⟩
end Go.Proofs.YtffpfceclhogoaaGreat.Hp
namespace Go.Proofs.YtffpfceclhogoaaGreat.Hp
open Fld Hs
open Go.ChangeShapes Go.WideShapes Go.ChangeAt Go.RowKit Go.Maps
set_option maxHeartbeats 1000000
set_option maxRecDepth 100000
def catL (L : Nat → List Bk) (is : List Nat) : List Bk := is.flatMap L
theorem cat_live {w : World} {sb bm n : Nat} {bl : Int} {L : Nat → List Bk} {V : Nat → Value} (h : TabAt w sb bm n bl L V) : ∀ m, m ≤ n → catL L (liveN V m) = allL L m
  | 0, _ => rfl
  | m + 1, hm => by
    have ih := cat_live h m (by omega)
    unfold liveN allL
    split
    · rename_i hv
      rw [ih, h.nilV (by omega) (nilB_iff.1 hv), List.append_nil]
    · rw [← ih]; unfold catL; rw [List.flatMap_append]; simp
theorem cat_take (L : Nat → List Bk) (is : List Nat) {j : Nat} (h : j < is.length) : catL L (is.take (j + 1)) = catL L (is.take j) ++ L is[j] := by
  unfold catL; rw [List.take_add_one, List.getElem?_eq_getElem h, List.flatMap_append]; simp
theorem cat_len {w : World} {sb bm n : Nat} {bl : Int} {L : Nat → List Bk} {V : Nat → Value} (h : TabAt w sb bm n bl L V) (j : Nat) : (catL L ((liveN V n).take j)).length ≤ lenL L n := by
  have e : lenL L n = (catL L (liveN V n)).length := by rw [cat_live h n (Nat.le_refl _)]; rfl
  have e2 : catL L (liveN V n) = catL L ((liveN V n).take j) ++ catL L ((liveN V n).drop j) := by unfold catL; rw [← List.flatMap_append, List.take_append_drop]
  rw [e, e2, List.length_append]; omega
theorem liveI_get {V : Nat → Value} {n j : Nat} (h : j < (liveN V n).length) : ((liveI V n).map encZ)[j]? = some (.int .i64 (((liveN V n)[j] : Nat) : Int)) := by
  simp [liveI, h]
theorem make_any (w : World) (c : Nat) (hc : c ≤ 1073741824) : ∃ cur, (Instr.makeSlice 125 (.int .i64 0) (.int .i64 (c : Int))).run Tryz.prog w = .ok (.slice (some ⟨w.heap.size, 0, none⟩) 0 c) (w.alloc (.cells cur 133)) ∧ (w.alloc (.cells cur 133)).ownsRow w.heap.size 133 14 (.slice (some ⟨w.heap.size, 0, none⟩) 0 c) 0 [] := by
  obtain ⟨i, hi, hz0, hz1, hz2⟩ := info_parts infoB
  have hb : (i.bytes : Int) * c ≤ 281474976710656 := by rw [hz2]; omega
  have hr := run_make (P := Tryz.prog) w 125 133 i _ Tryz.underlying125 hi hz0 .i64 .i64 0 (c : Int) (Int.le_refl _) (by omega) hb (by omega)
  simp only [Int.toNat_zero, Int.toNat_natCast] at hr
  exact ⟨_, hr, World.ownsRow_made w _ c (Nat.le_refl _) (by unfold maxLen; omega) (by rw [hz1]; exact size_madeCells _ _)⟩
/-- What is there between two rounds. -/
structure AP (w wr : World) (xb : Nat) (v : Value) (l : List Bk) (vs : Value) (ks : List Value) : Prop where
  bel : Below w.heap.size w wr
  box : wr.heap[xb]? = some (.cells #[v] 125 (0, 0))
  own : wr.ownsRow w.heap.size 133 14 v l.length (bkL l)
  keys : wr.ownsRow w.heap.size 3 1 vs ks.length ks
  lo : w.heap.size ≤ xb
theorem AP.drew {w wr : World} {xb : Nat} {v vs : Value} {l : List Bk} {ks : List Value} (h : AP w wr xb v l vs ks) : AP w wr.drew xb v l vs ks := ⟨h.bel.drew, h.box, own_same h.own (fun _ _ => rfl), own_same h.keys (fun _ _ => rfl), h.lo⟩
theorem AP.ne {w wr : World} {xb : Nat} {v vs : Value} {l : List Bk} {ks : List Value} (h : AP w wr xb v l vs ks) : v.ownBlock ≠ some xb ∧ ∀ g, vs.ownBlock = some g → g ≠ xb ∧ v.ownBlock ≠ some g := by
  have hb := h.box
  refine ⟨fun e => ?_, fun g e => ⟨?_, fun e2 => ?_⟩⟩
  · obtain ⟨cur, hc⟩ := own_obj h.own e
    rw [hb] at hc; injection hc with hc; injection hc with _ hc _; exact absurd hc (by decide)
  · rintro rfl
    obtain ⟨cur, hc⟩ := own_obj h.keys e
    rw [hb] at hc; injection hc with hc; injection hc with _ hc _; exact absurd hc (by decide)
  · obtain ⟨c1, h1⟩ := own_obj h.keys e
    obtain ⟨c2, h2⟩ := own_obj h.own e2
    rw [h1] at h2; injection h2 with h2; injection h2 with _ h2 _; exact absurd h2 (by decide)
/-- What was appended is put into the box. -/
theorem AP.put {w wr w1 : World} {xb : Nat} {v v' vs : Value} {l l' : List Bk} {ks : List Value} (h : AP w wr xb v l vs ks) (hg : wr.grownBy w1 v.ownBlock) (ho : w1.ownsRow w.heap.size 133 14 v' l'.length (bkL l')) :
    (w1.cell? ⟨xb, 0, none⟩ = some v ∧ w1.frozen? ⟨xb, 0, none⟩ = false) ∧ AP w (w1.setCell ⟨xb, 0, none⟩ v') xb v' l' vs ks := by
  obtain ⟨n1, n2⟩ := h.ne
  have hlt : ∀ {k o}, wr.heap[k]? = some o → k < wr.heap.size := fun h => (Array.getElem?_eq_some_iff.1 h).1
  have hbx := (hg.block xb (hlt h.box) (fun e => n1 e.symm)).trans h.box
  refine ⟨⟨by simp [World.cell?, hbx], by simp [World.frozen?, hbx]⟩, (h.bel.grown hg h.bel.size (fun j hj => (h.own.lt j hj).1)).setCell h.lo _, ?_, own_same ho (fun g e => Below.heap_setCell _ _ _ _ ?_), own_same h.keys (fun g e => (Below.heap_setCell _ _ _ _ (n2 g e).1).trans (hg.block g ((h.keys.lt g e).2) (fun e2 => (n2 g e).2 e2.symm))), h.lo⟩
  · rw [setCell_eq_setRow w1 xb 0 _ _ _ _ hbx]
    have := setRow_heap w1 xb _ (#[v].setIfInBounds 0 v') _ _ hbx
    simpa using this
  · rintro rfl
    obtain ⟨c2, h2⟩ := own_obj ho e
    rw [hbx] at h2; injection h2 with h2; injection h2 with _ h2 _; exact absurd h2 (by decide)
/-- The list of an iterator that All hands back. -/
structure ItAt (w : World) (B xb : Nat) (v : Value) (l : List Bk) : Prop where
  box : w.heap[xb]? = some (.cells #[v] 125 (0, 0))
  own : w.ownsRow B 133 14 v l.length (bkL l)
theorem all_any {sb n : Nat} {bl : Int} {L : Nat → List Bk} {O : Nat → Prop} (w : World) (h : Tab w sb O n bl L) :
    Calls Tryz.prog 45 #[.pointer (some ⟨sb, 0, none⟩)] w fun e w' => ∃ xb v, e = .returned (.func (.func 83) #[] #[.pointer (some ⟨xb, 0, none⟩)]) ∧ w.heap.size ≤ xb ∧ ItAt w' w.heap.size xb v (allL L n) ∧ Below w.heap.size w w' := by
  obtain ⟨bm, V, h, _⟩ := h
  obtain ⟨ik, hik, hz0, hz1, hz2⟩ := info_parts infoB
  obtain ⟨c0, c1, c2, c3, fr⟩ := h.cells
  have hfew := h.few
  have hb1 := h.b1
  obtain ⟨cur, hmk, hown0⟩ := make_any w (lenL L n) (by omega)
  have hT := h
  go_enter Tryz.func45, Tryz.ntmps45
  obtain ⟨_, _, _, d3, _⟩ := ((hT.alloc (.cells cur 133)).alloc (.cells #[.slice (some ⟨w.heap.size, 0, none⟩) 0 (lenL L n)] 125)).cells
  have T2 := (hT.alloc (.cells cur 133)).alloc (.cells #[.slice (some ⟨w.heap.size, 0, none⟩) 0 (lenL L n)] 125)
  have b2 : Below w.heap.size w ((w.alloc (.cells cur 133)).alloc (.cells #[.slice (some ⟨w.heap.size, 0, none⟩) 0 (lenL L n)] 125)) := ((Below.refl _ _).alloc (Nat.le_refl _) _).alloc (by simp) _
  have x2 : ((w.alloc (.cells cur 133)).alloc (.cells #[.slice (some ⟨w.heap.size, 0, none⟩) 0 (lenL L n)] 125)).heap[w.heap.size + 1]? = some (.cells #[.slice (some ⟨w.heap.size, 0, none⟩) 0 (lenL L n)] 125 (0, 0)) := by
    have := heap_alloc_new (w.alloc (.cells cur 133)) (.cells #[.slice (some ⟨w.heap.size, 0, none⟩) 0 (lenL L n)] 125)
    rwa [World.size_alloc] at this
  have o2 := hown0.alloc (.cells #[.slice (some ⟨w.heap.size, 0, none⟩) 0 (lenL L n)] 125)
  go_wp2_with fail
  refine (mkeys_any bm _).mono ?_; rintro e w1 ⟨rfl, rfl⟩
  generalize World.alloc (World.alloc w _) _ = W2 at *
  obtain ⟨D, hD, hM⟩ := T2.map
  have T3 := T2.alloc (.cells #[.map (some bm)] 108)
  obtain ⟨D3, hD3, hM3⟩ := T3.map
  have hms := T3.msize hD3 hM3
  have b3 := b2.alloc b2.size (.cells #[.map (some bm)] 108)
  have x3 := blk_low x2 ((Below.refl _ W2).alloc (Nat.le_refl _) (.cells #[.map (some bm)] 108))
  have o3 := o2.alloc (.cells #[.map (some bm)] 108)
  have y3 := heap_alloc_new W2 (.cells #[.map (some bm)] 108)
  have CS := Lib.hid (msorted_any _ y3 hD3 hM3 hms)
  clear hM hD D y3 hD3 hM3 hms x2 o2 T2 b2 d3 c0 c1 c2 c3 fr hmk
  go_wp2_with fail
  refine CS.out.mono ?_; rintro e w4 ⟨vs, rfl, hrow, hb4⟩
  have T4 := T3.below hb4 (Nat.le_refl _)
  have A4 : AP w w4 (w.heap.size + 1) (.slice (some ⟨w.heap.size, 0, none⟩) 0 (lenL L n)) [] vs ((liveI V n).map encZ) := ⟨lo_step b3 hb4, blk_low x3 hb4, (own_same o3 (fun g hg => hb4.block g (o3.lt g hg).2)), by
    have e : ((liveI V n).map encZ).length = (liveI V n).length := by simp
    rw [e]
    refine ⟨hrow.1, ?_⟩
    rcases hrow.2 with hn | ⟨g, cap, cur, a, b, c⟩
    · exact .inl hn
    · exact .inr ⟨g, cap, cur, a, Nat.le_trans b3.size b, c⟩, by omega⟩
  have hll : (liveI V n).length = (liveN V n).length := by simp [liveI]
  have hlen : (liveN V n).length ≤ 1073741824 := by
    have e1 : ∀ m, m ≤ n → (liveN V m).length ≤ lenL L m := by
      intro m
      induction m with
      | zero => intro _; exact Nat.zero_le _
      | succ m ih =>
        intro hm
        have := ih (by omega)
        rw [len_succ]
        unfold liveN
        split
        · omega
        · rename_i hv
          have : L m ≠ [] := fun e => hv (nilB_iff.2 (hT.nil m (by omega) e))
          have := List.length_pos_iff.2 this
          simp; omega
    have := e1 n (Nat.le_refl _); omega
  obtain ⟨cs, hcs⟩ : ∃ cs, cs = (liveI V n).map encZ := ⟨_, rfl⟩
  have hcl : cs.length = (liveN V n).length := by rw [hcs]; simp [liveI]
  have HC := Lib.hid hcs
  rw [← hcs] at A4
  rw [hll] at hrow
  obtain ⟨ao, cap, rfl⟩ := own_shape3 hrow
  clear hrow hb4 T3 b3 x3 o3 CS hll hown0 hcs
  have HL := Lib.hid hcl
  generalize hm : (liveN V n).length = m at *
  have HM := Lib.hid hm
  clear hm hcl
  go_wp2_with fail
  go_loopw [18] (fun i wr => ∃ (j : Nat) (v : Value), i = .int .i64 (j : Int) ∧ j ≤ m ∧ AP w wr (w.heap.size + 1) v (catL L ((liveN V n).take j)) (.slice ao m cap) cs ∧ TabAt wr sb bm n bl L V) (fun i _ => m - (RowKit.intOf i).toNat)
  case atStart => exact ⟨0, _, rfl, Nat.zero_le _, A4, T4⟩
  case round =>
    clear A4 T4
    obtain ⟨j, v, rfl, hj, A, T⟩ := hrel
    by_cases hlt : j < m
    · have hlt' : (j : Int) < (m : Int) := by omega
      have hj' : j < (liveN V n).length := by rw [HM.out]; exact hlt
      obtain ⟨i, hi⟩ : ∃ i, (liveN V n)[j] = i := ⟨_, rfl⟩
      have hmem : i ∈ liveN V n := by rw [← hi]; exact List.getElem_mem hj'
      obtain ⟨hin, hvn⟩ := mem_live.1 hmem
      have hck : cs[j]? = some (.int .i64 (i : Int)) := by rw [HC.out, liveI_get hj', hi]
      have htk := Lib.hid (show catL L ((liveN V n).take (j + 1)) = catL L ((liveN V n).take j) ++ L i by rw [cat_take L _ hj', hi])
      have hl0 := cat_len T j
      have hl1 := cat_len T (j + 1)
      rw [htk.out, List.length_append] at hl1
      obtain ⟨g1, cap1, hv1, hg1, hnc1, hcm1⟩ : ∃ g c', Value.slice ao m cap = .slice (some ⟨g, 0, none⟩) m c' ∧ (Value.slice ao m cap).ownBlock = some g ∧ m ≤ c' ∧ c' ≤ maxLen := by
        have hk := A.keys
        rw [HL.out] at hk
        rcases own_form hk with ⟨_, h0⟩ | ⟨g, cap2, hv, hgb, hnc, hcm⟩
        · omega
        · exact ⟨g, cap2, hv, hgb, hnc, hcm⟩
      have hkc := A.keys.cells hg1 j _ hck
      rw [addr_lit, Nat.zero_add] at hkc
      simp only [Value.slice.injEq, true_and] at hv1
      obtain ⟨rfl, rfl⟩ := hv1
      rcases own_form (T.rows i hin) with ⟨hv, _⟩ | ⟨g, capr, hv, hgb, hnc, hcm⟩
      · exact absurd hv hvn
      have hpos : 0 < (L i).length := by
        rcases Nat.eq_zero_or_pos (L i).length with h0 | h0
        · exact absurd (T.nil i hin (List.eq_nil_of_length_eq_zero h0)) hvn
        · exact h0
      obtain ⟨_, _, _, c3, _⟩ := T.cells
      have hlook := T.drew.lookN hin
      have hnews := (T.drew.rows i hin).cells hgb
      have hx : wr.cell? ⟨w.heap.size + 1, 0, none⟩ = some v := by have := A.box; simp [World.cell?, this]
      rw [hv] at hlook
      have HA := Lib.hid A
      have HT := Lib.hid T
      have hTH := Lib.hid hT
      have hck2 := Lib.hid hck
      clear A T hck hmem hi hj'
      unfold maxLen at hcm1
      go_wp2_with fail
      go_region_law (refine step_append_lies _ rfl _ _ 125 rfl w.heap.size 133 ik _ 14 56 Tryz.underlying125 hik hz0 hz1 hz2 rfl (by decide) v _ _ (by simp [Act.eval]) HA.out.drew.own ⟨g, 0, none⟩ (L i).length capr (bkL (L i)) (by simp [Act.eval]) (bkL_length _) hnews (bkL_one _) hpos (by unfold maxLen; omega) (by omega) (by have := HA.out.bel.size; simpa using this) _ rfl ?_; intro g2 cap2 w1 ho2 hg2 hat2 hlt2; obtain ⟨⟨q1, q2⟩, A2⟩ := HA.out.drew.put (l' := catL L ((liveN V n).take (j + 1))) (v' := .slice (some ⟨g2, 0, none⟩) ((catL L ((liveN V n).take j)).length + (L i).length) cap2) hg2 (by rw [htk.out, List.length_append, bkL_append]; exact ho2))
      all_goals
        have T2 := hTH.out.below A2.bel (Nat.le_refl _)
        clear ho2 hg2 hat2 hlt2 q1 q2 hnews hlook HA HT
        go_wp2_with fail
        go_roundw
        case rel => exact ⟨j + 1, _, by go_num, by omega, A2, T2⟩
        case measure => simp [RowKit.intOf]; omega
    · obtain rfl : m = j := by omega
      have hcat := cat_live T n (Nat.le_refl _)
      have htk : (liveN V n).take m = liveN V n := by rw [← HM.out, List.take_length]
      rw [htk, hcat] at A
      have HA := Lib.hid A
      clear A T
      go_wp2_with fail
      go_ret
      exact ⟨w.heap.size + 1, v, rfl, by omega, ⟨HA.out.box, HA.out.own⟩, HA.out.bel⟩
end Go.Proofs.YtffpfceclhogoaaGreat.Hp
namespace Go.Proofs.YtffpfceclhogoaaGreat.Hp
open Fld Hs
open Go.ChangeShapes Go.WideShapes Go.ChangeAt Go.RowKit Go.Maps
set_option maxHeartbeats 1000000
set_option maxRecDepth 100000
theorem longest_any {sb bm n : Nat} {bl : Int} {L : Nat → List Bk} {V : Nat → Value} (w : World) (h : TabAt w sb bm n bl L V) :
    Calls Tryz.prog 52 #[.pointer (some ⟨sb, 0, none⟩)] w fun e w' => e = .returned (.int .i64 (lngL L n : Int)) ∧ Below w.heap.size w w' := by
  obtain ⟨c0, c1, c2, c3, fr⟩ := h.cells
  obtain ⟨D, hown, hM⟩ := h.map
  have hT := Lib.hid h
  clear h c0 c1 c2 fr
  go_enter Tryz.func52, Tryz.ntmps52
  go_wp2_with (at_range; refine wpList_range_own _ rfl _ 108 rfl 3 125 lawI Tryz.underlying108 _ bm _ D rfl hown ?_; intro w0 hrg0 hg0 hs0)
  go_frame
  have b0 : Below w.heap.size w w0 := ⟨hg0.os, hg0.tape, hg0.output, hg0.size, fun k hk => hg0.block k hk (by simp)⟩
  have HM := Lib.hid hM
  clear hg0 hs0 hM
  go_loopw [3] (fun v wr => ∃ (m : Nat) (left : Lit → Bool) (cnt : Nat), v = .int .i64 (m : Int) ∧ wr.ranges Tryz.prog 3 hdR bm w.heap.size (Maps.size D) D left cnt ∧ Below w.heap.size w wr ∧ (∀ i, i < n → V i ≠ nilS → left (keyL (i : Int)) = false → (L i).length ≤ m) ∧ (m = 0 ∨ ∃ i, i < n ∧ m = (L i).length))
    (fun _ wr => wr.rangeLeft bm w.heap.size)
  case atStart => exact ⟨0, _, _, rfl, hrg0, b0, fun i hi hv hl => absurd (HM.out.nz i hi hv) (by rw [hl]; simp), .inl rfl⟩
  case round =>
    clear hrg0 b0
    obtain ⟨m, left, cnt, rfl, hrg, hbel, hall, hone⟩ := hrel
    go_wp2_with (at_next; refine wpList_next_ranges _ rfl _ rfl 3 lawI hdR (Value.int .i64) id (fun key kl hk => by obtain ⟨x, hx, _⟩ := Maps.keyOf_int_inv Tryz.underlying3 hk; exact ⟨x, hx⟩) (fun v _ _ => ⟨v, rfl⟩) bm w.heap.size _ _ _ _ rfl hrg ?_ ?_)
    · intro hc0 hl0
      have hfin : m = lngL L n := lng_unique L n m (fun i hi => by
        by_cases hv : V i = nilS
        · rw [hT.out.nilV hi hv]; exact Nat.zero_le _
        · exact hall i hi hv (hl0 _)) hone
      go_wp2_with fail
      go_ret
      exact ⟨by rw [hfin]; rfl, hbel⟩
    · intro x c kl y yp w2 cnt2 hkey hlk hv hat hrg2 hlt hg2 hs2 hen
      obtain ⟨x', ex, rfl, _⟩ := Maps.keyOf_int_inv Tryz.underlying3 hkey
      cases ex
      obtain ⟨i, hi, hki, hvi⟩ := HM.out.has_ _ (has_true_of_atKey hat)
      have hxi : x = (i : Int) := by injection hki
      subst hxi
      have hc : c = V i := by
        have h1 := HM.out.at_ (i : Int)
        rw [hat, rowV_in hi] at h1
        have h2 := (hdR_inv hv).1
        have h3 : y = hdD c := congrArg Prod.fst h2
        exact hdD_inj hv (hdR_own (hT.out.rows i hi)) (by rw [← h3, h1])
      subst hc
      have hle := bk_few hT.out hi
      rcases own_form (hT.out.rows i hi) with ⟨hn, _⟩ | ⟨g, cap, hv2, _⟩
      · exact absurd hn hvi
      rw [hv2] at hen
      have hone' := hone
      have hb2 := hbel.grown hg2 hbel.size (fun j hj => by cases hj; exact Nat.le_refl _)
      have hA : ∀ i', i' < n → V i' ≠ nilS → (left (keyL (i' : Int)) && !(keyL (i' : Int)).sameKey (keyL (i : Int))) = false → (L i').length ≤ max m (L i).length := fun i' h1 h2 h3 => by
        cases hl : left (keyL (i' : Int))
        · have := hall i' h1 h2 hl; omega
        · rw [hl] at h3
          have : (i' : Int) = (i : Int) := by simpa [Lit.sameKey] using h3
          have : i' = i := by omega
          subst this; omega
      have hO : max m (L i).length = 0 ∨ ∃ i', i' < n ∧ max m (L i).length = (L i').length := by
        rcases Nat.le_total m (L i).length with h1 | h1
        · exact .inr ⟨i, hi, by omega⟩
        · rcases hone with h2 | ⟨i', h2, h3⟩
          · exact .inr ⟨i, hi, by omega⟩
          · exact .inr ⟨i', h2, by omega⟩
      have hmx := Lib.hid (show max (m : Int) ((L i).length : Int) = ((max m (L i).length : Nat) : Int) by omega)
      have HA := Lib.hid hA
      have HO := Lib.hid hO
      clear hA hO hall hone hkey hv hat hki
      have hm0 : (m : Int) ≤ 1073741824 := by
        rcases hone' with h2 | ⟨i', h2, h3⟩
        · omega
        · have := bk_few hT.out h2; omega
      go_wp2_with fail
      all_goals
        go_roundw
        case rel => exact ⟨max m (L i).length, _, cnt2, by rw [← hmx.out], hrg2, hb2, HA.out, HO.out⟩
        case measure => rw [hrg2.left_eq, hrg.left_eq]; exact hlt
end Go.Proofs.YtffpfceclhogoaaGreat.Hp
namespace Go.Proofs.YtffpfceclhogoaaGreat.Ts
open Go.ChangeShapes Go.WideShapes Go.ChangeAt Go.RowKit
/-! ### Regions that only read, within a round -/
def noDefer (o : Oper) : Bool := match o.op with | .defer _ => false | _ => true
/-! ### The loop -/
theorem wide_fn (f : Nat) : Fence.wide.fn f := trivial
def Lp (o : Obj) : Prop := match o with | .loop _ => True | .deferred _ => True | _ => False
def Sp (o : Obj) : Prop := match o with | .loop _ => True | .deferred _ => True | .cells c _ _ => c.size = 1 | _ => False
/-- Loops' own blocks, and boxes of one cell, from B on stay. -/
def Stay (B : Nat) (W W' : World) : Prop := ∀ (k : Nat) (o : Obj), B ≤ k → W.heap[k]? = some o → Sp o → W'.heap[k]? = some o
theorem Stay.refl (B : Nat) (W : World) : Stay B W W := fun _ _ _ h _ => h
theorem Stay.trans {B : Nat} {U V W : World} (h : Stay B U V) (k : Stay B V W) : Stay B U W := fun i o hi ho hl => k i o hi (h i o hi ho hl) hl
theorem Stay.mono {B C : Nat} {V W : World} (h : Stay B V W) (hC : B ≤ C) : Stay C V W := fun i o hi ho hl => h i o (Nat.le_trans hC hi) ho hl
theorem Stay.put {B l : Nat} (V : World) (o : Obj) (hB : l < B) : Stay B V (V.putObj l o) := fun k _ hk ho _ => (World.putObj_heap_other (by omega)).trans ho
theorem Stay.cell {B : Nat} (V : World) (p : Addr) (u : Value) (hB : p.block < B) : Stay B V (V.setCell p u) := fun k _ hk ho _ => (Below.heap_setCell _ _ _ _ (by omega)).trans ho
theorem Stay.grown {B : Nat} {V V' : World} {row : Option Nat} (hg : V.grownBy V' row) (hr : ∀ j, row = some j → j < B ∨ ∀ o, V.heap[j]? = some o → ¬ Sp o) : Stay B V V' := fun k o hk ho hs =>
  (hg.block k (Array.getElem?_eq_some_iff.1 ho).1 (fun e => by
    rcases hr k e.symm with h | h
    · omega
    · exact h o ho hs)).trans ho
theorem Stay.below {B : Nat} {V W : World} (h : Below V.heap.size V W) : Stay B V W := fun i _ _ ho _ => (h.block i (Array.getElem?_eq_some_iff.1 ho).1).trans ho
/-- All stays but loops' own blocks from B on, and what is new. -/
structure Soft (B : Nat) (V V' : World) : Prop where
  os : V'.os = V.os
  tape : V'.tape = V.tape
  output : V'.output = V.output
  size : V.heap.size ≤ V'.heap.size
  block : ∀ k, k < V.heap.size → (k < B ∨ ∀ o, V.heap[k]? = some o → ¬ Lp o) → V'.heap[k]? = V.heap[k]?
theorem Soft.below {B : Nat} {V V' : World} (h : Below V.heap.size V V') : Soft B V V' := ⟨h.os, h.tape, h.output, h.size, fun k hk _ => h.block k hk⟩
theorem Soft.put {B l : Nat} {V : World} {o o' : Obj} (h : V.heap[l]? = some o) (hl : Lp o) (hB : B ≤ l) : Soft B V (V.putObj l o') :=
  ⟨rfl, rfl, rfl, by simp, fun k _ hk => World.putObj_heap_other (by
    rintro rfl
    rcases hk with hk | hk
    · omega
    · exact hk _ h hl)⟩
theorem Soft.mono {B C : Nat} {V V' : World} (h : Soft C V V') (hB : B ≤ C) : Soft B V V' := ⟨h.os, h.tape, h.output, h.size, fun k hk hc => h.block k hk (hc.imp (fun h => Nat.lt_of_lt_of_le h hB) id)⟩
def Firm (B : Nat) (I : World → Prop) : Prop := ∀ V V', I V → Soft B V V' → I V'
theorem Firm.mono {B C : Nat} {I : World → Prop} (h : Firm B I) (hB : B ≤ C) : Firm C I := fun V V' hi hs => h V V' hi (hs.mono hB)
theorem Firm.and {B : Nat} {I K : World → Prop} (h : Firm B I) (k : Firm B K) : Firm B (fun W => I W ∧ K W) := fun V V' hs hv => ⟨h V V' hs.1 hv, k V V' hs.2 hv⟩
theorem Firm.pure (B : Nat) (p : Prop) : Firm B (fun _ => p) := fun _ _ h _ => h
theorem Firm.cells (B b : Nat) (c : Array Value) (t : TypeId) (f : Nat × Nat) : Firm B (fun W => W.heap[b]? = some (.cells c t f)) := fun _ _ h hv => (hv.block b (Array.getElem?_eq_some_iff.1 h).1 (.inr fun o ho => by rw [h] at ho; cases ho; exact id)).trans h
theorem Firm.low {B : Nat} {I : World → Prop} (h : Firm B I) {V V' : World} (hi : I V) (hb : Below V.heap.size V V') : I V' := h _ _ hi (Soft.below hb)
/-- The blocks of a world w stay (all are old). -/
theorem Firm.since (w : World) {B : Nat} (hB : w.heap.size ≤ B) (p : Nat → Prop) : Firm B (fun W => W.os = w.os ∧ W.tape = w.tape ∧ W.output = w.output ∧ w.heap.size ≤ W.heap.size ∧ ∀ k, k < w.heap.size → p k → W.heap[k]? = w.heap[k]?) := fun V V' h hv =>
  ⟨hv.os.trans h.1, hv.tape.trans h.2.1, hv.output.trans h.2.2.1, Nat.le_trans h.2.2.2.1 hv.size, fun k hk hp => (hv.block k (Nat.lt_of_lt_of_le hk h.2.2.2.1) (.inl (by omega))).trans (h.2.2.2.2 k hk hp)⟩
/-- What an iterator does that yields by numbers i < N that are live, what 'enc i' says; it reads what Rd tells. -/
def IterN (n gf : Nat) (bnd lb : Array Value) (enc : Nat → Array Value) (live : Nat → Prop) (N : Nat) (Rd : Nat → World → Prop) : Prop :=
  ∀ (l : Nat) (J : Nat → World → Prop) (W : World), (∀ i V, J i V → Rd i V) → (∀ i, Firm W.heap.size (J i)) →
    (∀ i V, J i V → i < N → ¬ live i → J (i + 1) V) →
    (∀ m i V, J i V → i < N → live i → YieldAt Fence.wide m Tryz.prog l (enc i) V fun e V' => e = .returned (.bool true) ∧ J (i + 1) V' ∧ Stay W.heap.size V V') →
    J 0 W →
    CallsIn Fence.wide n Tryz.prog gf (bnd ++ #[.func (.yield l) #[] #[]] ++ lb) W fun e W' => (∃ v, e = .returned v) ∧ J N W'
/-- The two blocks that a range over a function keeps for itself. -/
structure Two (W : World) (l D : Nat) (r : Loop) : Prop where
  lp : W.heap[l]? = some (.loop r)
  df : W.heap[D]? = some (.deferred (some []))
theorem Two.put {W : World} {l D : Nat} {r : Loop} (h : Two W l D r) (r' : Loop) (hne : D ≠ l) : Two (W.putObj l (.loop r')) l D r' :=
  ⟨World.putObj_heap_same (Array.getElem?_eq_some_iff.1 h.lp).1, (World.putObj_heap_other hne).trans h.df⟩
theorem Two.keep {W W' : World} {B l D : Nat} {r : Loop} (h : Two W l D r) (k : Stay B W W') (hl : B ≤ l) (hD : B ≤ D) : Two W' l D r :=
  ⟨k l _ hl h.lp trivial, k D _ hD h.df trivial⟩
theorem Two.firm {l D B : Nat} {r : Loop} (hl : l < B) (hD : D < B) : Firm B (fun W => Two W l D r) := fun _ _ h hv =>
  ⟨(hv.block l (Array.getElem?_eq_some_iff.1 h.lp).1 (.inl hl)).trans h.lp, (hv.block D (Array.getElem?_eq_some_iff.1 h.df).1 (.inl hD)).trans h.df⟩
def lastMark (D : Nat) (a : Act) : Act := { a with defers := { target := .collected D, args := #[] } :: a.defers }
/-- How a round's body must be left. -/
def endBy (B : Nat) (I : World → Prop) (W : World) : Exit → Act → World → Prop
  | .normal, _, W' => Stay B W W' ∧ I W'
  | .ret, _, _ => False
  | .exit _, _, _ => False
  | .goto _, _, _ => False
  | .panic _, _, _ => False
  | .outgrown, _, _ => False
end Go.Proofs.YtffpfceclhogoaaGreat.Ts
namespace Go.Proofs.YtffpfceclhogoaaGreat.Hs
open Ts (Stay Soft Firm Two lastMark)
open Go.ChangeShapes Go.WideShapes Go.ChangeAt Go.RowKit
/-- What an iterator does that yields by numbers i < N what 'enc i' says, or ends where a round says so; it reads what Rd tells. -/
def IterS (n gf : Nat) (bnd lb : Array Value) (enc : Nat → Array Value) (N : Nat) (Rd : Nat → World → Prop) : Prop :=
  ∀ (l : Nat) (J : Nat → World → Prop) (Jx : World → Prop) (W : World), (∀ i V, J i V → Rd i V) → (∀ i, Firm W.heap.size (J i)) →
    (∀ m i V, J i V → i < N → YieldAt Fence.wide m Tryz.prog l (enc i) V fun e V' => Stay W.heap.size V V' ∧ ((e = .returned (.bool true) ∧ J (i + 1) V') ∨ (e = .returned (.bool false) ∧ Jx V'))) →
    J 0 W →
    CallsIn Fence.wide n Tryz.prog gf (bnd ++ #[.func (.yield l) #[] #[]] ++ lb) W fun e W' => (∃ v, e = .returned v) ∧ (J N W' ∨ Jx W')
/-- How a round's body must be left. -/
def endOr (B : Nat) (I Ix : World → Prop) (id : Nat) (W : World) : Exit → Act → World → Prop
  | .normal, _, W' => Stay B W W' ∧ I W'
  | .ret, _, _ => False
  | .exit id', _, W' => id' = id ∧ Stay B W W' ∧ Ix W'
  | .goto _, _, _ => False
  | .panic _, _, _ => False
  | .outgrown, _, _ => False
theorem range_its {n : Nat} {g : Operand} {ps : Array Tmp} {assign body : Code} {Q : Exit → Act → World → Prop} {a : Act} {w : World}
    {gf : Nat} {bnd lb : Array Value} (hg : a.eval g = .func (.func gf) bnd lb) (eg : ∀ args w, (callFunc gf args).run Tryz.prog w = .ok (.enter gf args) w)
    {enc : Nat → Array Value} {N : Nat} {Rd : Nat → World → Prop} (hit : ∀ n, IterS n gf bnd lb enc N Rd) (hps : ∀ s, (enc s).size = ps.size)
    (I : Nat → World → Prop) (Ix : World → Prop) (id : Nat) (hRd : ∀ i W, I i W → Rd i W) (hI : ∀ i, Firm w.heap.size (I i)) (hIx : Firm w.heap.size Ix) (h0 : I 0 w)
    (Ax : Nat → Act → World → Prop) (hAx : ∀ i a', Firm w.heap.size (Ax i a'))
    (hassign : ∀ (m l i : Nat) (W : World) (K : Act → World → Prop), I i W → i < N → (∀ a' W', Stay w.heap.size W W' → I i W' → Ax i a' W' → K a' W') →
      assign.wpIn (Fence.wide.inRound l) m Tryz.prog (Exit.then K (fun _ _ _ => False)) { tmps := (ps.zip (enc i)).foldl (fun t (p, v) => t.setIfInBounds p v) a.tmps, defers := [] } W)
    (hbody : ∀ (m l i : Nat) (a' : Act) (W : World), I i W → Ax i a' W → i < N → body.wpIn (Fence.wide.inRound l) m Tryz.prog (endOr w.heap.size (I (i + 1)) Ix id W) a' W)
    (hdone : ∀ (W : World), I N W → W.heap[w.heap.size]? = some (.deferred (some [])) → Q .normal (lastMark w.heap.size a) W)
    (hstop : ∀ (W : World), Ix W → W.heap[w.heap.size]? = some (.deferred (some [])) → (Code.exit id).wpIn Fence.wide n Tryz.prog Q (lastMark w.heap.size a) W) :
    (Code.rangeFunc g ps assign body).wpIn Fence.wide n Tryz.prog Q a w := by
  refine wpIn_rangeFunc fun fn hfn => ?_
  obtain ⟨M, hM⟩ : ∃ M : LoopState → Option Code → Loop, ∀ st pe, M st pe = { state := st, pending := pe, fn, tmps := a.tmps, params := ps, assign, body, defers := w.heap.size } := ⟨_, fun _ _ => rfl⟩
  obtain ⟨V, hV⟩ : ∃ V, (w.alloc (.deferred (some []))).alloc (.loop (M .ready none)) = V := ⟨_, rfl⟩
  have hv : Two V (w.heap.size + 1) w.heap.size (M .ready none) := by
    refine ⟨?_, ?_⟩
    · have := World.alloc_heap_new (w.alloc (.deferred (some []))) (.loop (M .ready none))
      rwa [hV, World.size_alloc] at this
    · rw [← hV]; exact (Below.heap_alloc _ _ _ (by simp)).trans (World.alloc_heap_new w _)
  have bv : Below w.heap.size w V := by rw [← hV]; exact ((Below.refl _ w).alloc (Nat.le_refl _) _).alloc (by simp) _
  have iv : I 0 V := (hI 0).low h0 bv
  have hsz : V.heap.size = w.heap.size + 1 + 1 := by rw [← hV]; simp
  refine ⟨w.heap.size + 1, [{ target := .collected w.heap.size, args := #[] }], V, { target := .fn (.func gf) lb, args := bnd ++ #[.func (.yield (w.heap.size + 1)) #[] #[]] }, V, gf, bnd ++ #[.func (.yield (w.heap.size + 1)) #[] #[]] ++ lb, V, ?_, ?_, ?_, ?_, fun h => absurd h (by decide), ?_⟩
  · rw [← hV, hM]; exact run_enterLoop_outer _ _ _ _ _
  · simp only [resolve, hg]; simp [go_sem]
  · intro f' _; trivial
  · simp [invoke, go_sem, eg]
  refine (hit (n - 1) (w.heap.size + 1) (fun s W => I s W ∧ Two W (w.heap.size + 1) w.heap.size (M .ready none)) (fun W => Ix W ∧ Two W (w.heap.size + 1) w.heap.size (M .done (some (.exit id)))) V (fun i U h => hRd i U h.1)
    (fun i => Firm.and (fun U U' hu hs => hI i U U' hu (hs.mono (by omega))) (Two.firm (by omega) (by omega))) ?_ ⟨iv, hv⟩).mono ?_
  · rintro m s W ⟨hi, ht⟩ hsN
    have hy := run_yield (P := Tryz.prog) (args := enc s) ht.lp (by rw [hM]; exact hps s)
    rw [hM] at hy
    refine ⟨fn, _, assign, body, hy, roundIn_of_wpIn hfn (hassign _ _ s W _ hi hsN fun a' W1 st1 i1 x1 => ?_)⟩
    clear hy
    have t1 := ht.keep st1 (by omega) (Nat.le_refl _)
    refine ⟨_, run_beginRound t1.lp (by rw [hM]), ?_⟩
    have hbusy : ({ M .ready none with state := LoopState.busy } : Loop) = M .busy none := by rw [hM, hM]
    rw [hbusy]
    have t2 := t1.put (M .busy none) (by omega)
    have s2 : Soft w.heap.size W1 (W1.putObj (w.heap.size + 1) (.loop (M .busy none))) := Soft.put t1.lp trivial (by omega)
    have i2 := hI s _ _ i1 s2
    have x2 := hAx s a' _ _ x1 s2
    have hstay : ∀ W3 r, Stay w.heap.size (W1.putObj (w.heap.size + 1) (.loop (M .busy none))) W3 → Stay V.heap.size W (W3.putObj (w.heap.size + 1) (.loop r)) := by
      intro W3 r k3 k o hk ho hl
      rw [hsz] at hk
      have h1 := st1 k o (by omega) ho hl
      have h2 : (W1.putObj (w.heap.size + 1) (.loop (M .busy none))).heap[k]? = some o := (World.putObj_heap_other (by omega)).trans h1
      have h3 := k3 k o (by omega) h2 hl
      exact (World.putObj_heap_other (by omega)).trans h3
    refine wpIn_mono (hbody _ _ s a' _ i2 x2 hsN) ?_
    rintro e a3 W3 hp
    cases e with
    | normal =>
      obtain ⟨k3, i3⟩ := hp
      have t3 := t2.keep k3 (by omega) (Nat.le_refl _)
      have he := run_endRound (P := Tryz.prog) none t3.lp
      rw [show ({ M .busy none with state := if (none : Option Code).isNone then LoopState.ready else .done, pending := none } : Loop) = M .ready none by rw [hM, hM]; rfl] at he
      exact ⟨_, _, he, hstay W3 _ k3, .inl ⟨rfl, hI (s + 1) _ _ i3 (Soft.put t3.lp trivial (by omega)), t3.put _ (by omega)⟩⟩
    | ret => exact hp.elim
    | exit id' =>
      obtain ⟨rfl, k3, i3⟩ := hp
      have t3 := t2.keep k3 (by omega) (Nat.le_refl _)
      have he := run_endRound (P := Tryz.prog) (some (.exit id')) t3.lp
      rw [show ({ M .busy none with state := if (some (Code.exit id') : Option Code).isNone then LoopState.ready else .done, pending := some (Code.exit id') } : Loop) = M .done (some (.exit id')) by rw [hM, hM]; rfl] at he
      exact ⟨_, _, he, hstay W3 _ k3, .inr ⟨rfl, hIx _ _ i3 (Soft.put t3.lp trivial (by omega)), t3.put _ (by omega)⟩⟩
    | goto t => exact hp.elim
    | panic ch => exact hp.elim
    | outgrown => exact hp.elim
  · rintro e W2 ⟨⟨v, rfl⟩, (⟨hi, ht⟩ | ⟨hi, ht⟩)⟩
    · have he := run_endLoop (P := Tryz.prog) ht.lp (by rw [hM]; simp)
      rw [show (M .ready none).pending = none by rw [hM]] at he
      exact ⟨none, _, he, hdone _ (hI N _ _ hi (Soft.put ht.lp trivial (by omega))) (ht.put _ (by omega)).df⟩
    · have he := run_endLoop (P := Tryz.prog) ht.lp (by rw [hM]; simp)
      rw [show (M .done (some (.exit id))).pending = some (.exit id) by rw [hM]] at he
      exact ⟨some (.exit id), _, he, hstop _ (hIx _ _ hi (Soft.put ht.lp trivial (by omega))) (ht.put _ (by omega)).df⟩
/-! ### Regions that draw their order, within a round: by the plain laws -/
theorem uponIn_round {P : Program} {o : Oper} {a : Act} {K : Act → World → Prop} {Q : Exit → Act → World → Prop} {l n : Nat} : ∀ {r : Result Next}, o.upon P a K Q r → o.uponIn (Fence.wide.inRound l) n P a K Q r
  | .ok (.value _) _, h => h
  | .ok .skip _, h => h
  | .ok (.defer _) _, h => h
  | .ok (.enter _ _) _, h => ⟨fun hh => absurd (show Fence.wide.depth.isSome = true from hh) (by decide), CallsIn.inRound l (callsIn_wide.2 h)⟩
  | .ok (.row _ _) _, h => ⟨fun hh => absurd (show Fence.wide.depth.isSome = true from hh) (by decide), fun c cs _ => let ⟨v, w', r, s⟩ := h c cs; ⟨v, w', r, stepsIn_wide.2 s⟩⟩
  | .halt (.panic _) _, h => h
  | .ok (.round _ _ _ _ _) _, h => by simp only [Oper.upon] at h
theorem wpAnyIn_of_any {P : Program} {ops : Array Oper} {md : Region.Mode} {n l : Nat} {Q : Exit → Act → World → Prop} (hd : ∀ (j : Nat) (o : Oper) (c : Call), ops[j]? = some o → o.op ≠ .defer c) (hQ : ¬ LetsOut Q) : ∀ (fuel : Nat) (listed : Array Bool) (a : Act) (w : World),
    wpAny P md ops Q fuel listed a w → wpAnyIn (Fence.wide.inRound l) n P md ops Q fuel listed a w
  | 0, _, _, _, h => h
  | fuel + 1, listed, a, w, h => ⟨h.1, fun i hi => by
    have h2 := h.2 i hi
    unfold wpOp at h2
    unfold wpOpIn
    cases ho : ops[i]? with
    | none => simp only [ho] at h2 ⊢; exact wpAnyIn_of_any hd hQ fuel _ _ _ h2
    | some o =>
      simp only [ho] at h2 ⊢
      by_cases hw : Region.wanted o (yielded ops a.tmps) = true
      · simp only [hw, if_true] at h2 ⊢
        rcases h2 with h2 | h2
        · have h3 := Oper.wp_mono (K' := wpAnyIn (Fence.wide.inRound l) n P md ops Q fuel (listed.setIfInBounds i true)) (fun a' w' hh => wpAnyIn_of_any hd hQ fuel _ _ _ hh) h2
          unfold Oper.wp at h3
          unfold Oper.wpIn
          refine ⟨fun _ _ => trivial, ?_⟩
          rw [Oper.semAt_plain _ _ _ (fun c => hd i o c ho)]
          exact uponIn_round h3
        · exact absurd h2.2 hQ
      · have hw' : Region.wanted o (yielded ops a.tmps) = false := by simpa using hw
        simp only [hw', Bool.false_eq_true, if_false] at h2 ⊢
        exact ⟨fun _ _ => trivial, wpAnyIn_of_any hd hQ fuel _ _ _ h2⟩⟩
theorem region_round_held {P : Program} {n l id : Nat} {S : World → Prop} {Q : Exit → Act → World → Prop} {a : Act} {w : World} {ol : List Oper} (hm : P.follows .mixedOrders = true) (hd : ol.all Ts.noDefer = true) (hQ : ¬ LetsOut Q) (hS : S w.drew)
    (h : S w.drew → wpAnyH P .any ol.toArray Q S ol.toArray.size (Array.replicate ol.toArray.size false) a w.drew) : (Code.region id ol.toArray true).wpIn (Fence.wide.inRound l) n P Q a w := by
  have hd' : ∀ (j : Nat) (o : Oper) (c : Call), ol.toArray[j]? = some o → o.op ≠ .defer c := fun j o c ho hc => by
    have hm' : o ∈ ol := by rw [List.getElem?_toArray] at ho; exact List.mem_of_getElem? ho
    have := List.all_eq_true.1 hd o hm'
    unfold Ts.noDefer at this
    rw [hc] at this; cases this
  exact wpIn_region_any hm (wpAnyIn_of_any hd' hQ _ _ _ _ (wpAny_of_held _ _ _ _ (h hS)))
end Go.Proofs.YtffpfceclhogoaaGreat.Hs
namespace Go.Proofs.YtffpfceclhogoaaGreat.Hp
open Fld Hs
open Ts (Stay Soft Firm)
open Go.ChangeShapes Go.WideShapes Go.ChangeAt Go.RowKit Go.Maps
attribute [local go_sem] Oper.semAt_some
set_option maxHeartbeats 2000000
set_option maxRecDepth 100000
def encB (l : List Bk) (i : Nat) : Array Value := #[.agg #[.int .i64 (at_ l i).k.sp, .int .u64 (at_ l i).k.va, .int .i64 (at_ l i).k.sz], .agg #[.int .u64 (at_ l i).v.va, .int .i64 (at_ l i).v.sz, .int .u64 (at_ l i).v.pa, .bool (at_ l i).v.att.write, .bool (at_ l i).v.att.priv, .bool (at_ l i).v.att.exec, .bool (at_ l i).v.att.lock, .bool (at_ l i).v.att.global, .bool (at_ l i).v.att.quiet, .bool (at_ l i).v.ref, .bool (at_ l i).v.mod]]
theorem none_ret {fn : Func} {R : Ending → World → Prop} {a : Act} {w : World} (h : fn.results = #[]) (hd : a.defers = []) (hR : R (.returned (.tuple #[])) w) : bodyPost Tryz.prog fn R .ret a w := bodyPost_ret (results_none h _ _ _) hd hR
theorem ItAt.low {w w' : World} {B xb : Nat} {v : Value} {l : List Bk} (h : ItAt w B xb v l) (hb : Below w.heap.size w w') : ItAt w' B xb v l :=
  ⟨blk_low h.box hb, own_same h.own (fun g hg => hb.block g (h.own.lt g hg).2)⟩
theorem all_iter (n : Nat) {B xb : Nat} {v : Value} {l : List Bk} : IterS n 83 #[] #[.pointer (some ⟨xb, 0, none⟩)] (encB l) l.length (fun _ V => ItAt V B xb v l) := by
  intro lb J Jx W hRd hF hY h0
  have hit := hRd 0 W h0
  have c0 : W.cell? ⟨xb, 0, none⟩ = some v := by have := hit.box; simp [World.cell?, this]
  rcases own_form hit.own with ⟨rfl, hz⟩ | ⟨g, cap, rfl, hgb, hnc, hcm⟩
  · rw [hz] at *
    refine callsIn_of_wp Tryz.func83 rfl (Ts.wide_fn _) ?_ rfl
    simp only [Tryz.ntmps83, List.size_toArray, List.length_cons, List.length_nil, Nat.reduceAdd, Nat.reduceSub, Array.replicate_succ, Array.replicate_zero, List.push_toArray, List.append_toArray, List.nil_append, List.cons_append]
    clear hY
    gi_wp2
    gi_loopw [7] (fun i wr => i = .int .i64 0 ∧ J 0 wr) (fun _ _ => 0)
    case atStart => exact ⟨rfl, h0⟩
    case round =>
      obtain ⟨rfl, hJ⟩ := hrel
      gi_wp2
      go_end0
      exact ⟨⟨_, rfl⟩, .inl hJ⟩
  · unfold maxLen at hcm
    refine callsIn_of_wp Tryz.func83 rfl (Ts.wide_fn _) ?_ rfl
    simp only [Tryz.ntmps83, List.size_toArray, List.length_cons, List.length_nil, Nat.reduceAdd, Nat.reduceSub, Array.replicate_succ, Array.replicate_zero, List.push_toArray, List.append_toArray, List.nil_append, List.cons_append]
    clear hit
    gi_wp2
    clear c0
    gi_loopw [7] (fun i wr => ∃ j : Nat, i = .int .i64 (j : Int) ∧ j ≤ l.length ∧ J j wr) (fun i _ => l.length - (RowKit.intOf i).toNat)
    case atStart => exact ⟨0, rfl, Nat.zero_le _, h0⟩
    case round =>
      clear h0
      obtain ⟨j, rfl, hj, hJ⟩ := hrel
      by_cases hlt : j < l.length
      · have hit := hRd j wr hJ
        obtain ⟨y0, y1, y2, y3, y4, y5, y6, y7, y8, y9, y10, y11, y12, y13⟩ := own_rowC hit.own hgb hlt
        have hJ1 : J j (wr.alloc (.cells #[.int .i64 (at_ l j).k.sp, .int .u64 (at_ l j).k.va, .int .i64 (at_ l j).k.sz, .int .u64 (at_ l j).v.va, .int .i64 (at_ l j).v.sz, .int .u64 (at_ l j).v.pa, .bool (at_ l j).v.att.write, .bool (at_ l j).v.att.priv, .bool (at_ l j).v.att.exec, .bool (at_ l j).v.att.lock, .bool (at_ l j).v.att.global, .bool (at_ l j).v.att.quiet, .bool (at_ l j).v.ref, .bool (at_ l j).v.mod] 133)) := (hF j).low hJ ((Below.refl _ _).alloc (Nat.le_refl _) _)
        obtain ⟨fn, tmps, assign, body, hy, hR⟩ := hY (n - 1) j _ hJ1 hlt
        unfold encB at hy
        have hlt' : (j : Int) < (l.length : Int) := by omega
        clear hY hit hJ hJ1
        gi_wp2
        refine ⟨fun h => absurd h (by decide), hR.mono ?_⟩
        rintro e W3 ⟨_, (⟨rfl, hJ3⟩ | ⟨rfl, hJ3⟩)⟩
        · clear hR hy
          gi_wp2
          go_roundw
          case rel => exact ⟨j + 1, by go_num, by omega, hJ3⟩
          case measure => simp [RowKit.intOf]; omega
        · clear hR hy
          gi_wp2
          refine none_ret rfl rfl ?_
          exact ⟨⟨_, rfl⟩, .inr hJ3⟩
      · obtain rfl : j = l.length := by omega
        clear hY
        gi_wp2
        go_end0
        exact ⟨⟨_, rfl⟩, .inl hJ⟩
end Go.Proofs.YtffpfceclhogoaaGreat.Hp
namespace Go.Proofs.YtffpfceclhogoaaGreat.Hp
open Fld Hs
open Ts (Stay Soft Firm Lp Sp)
open Go.ChangeShapes Go.WideShapes Go.ChangeAt Go.RowKit Go.Maps
set_option maxHeartbeats 1000000
set_option maxRecDepth 100000
/-- The chains of the first j keys. -/
def resN (l : List Bk) (m j : Nat) : Nat → List Bk := fun i => (l.take j).filter (fun b => chainN b.k m == i)
theorem resN_zero (l : List Bk) (m i : Nat) : resN l m 0 i = [] := by simp [resN]
theorem resN_all (L : Nat → List Bk) (n m : Nat) : resN (allL L n) m (allL L n).length = resT L n m := by
  funext i; unfold resN resT; rw [List.take_length]
theorem resN_step {l : List Bk} {m j : Nat} (h : j < l.length) : resN l m (j + 1) = setL (resN l m j) (chainN (at_ l j).k m) (resN l m j (chainN (at_ l j).k m) ++ [at_ l j]) := by
  funext i
  unfold resN setL
  rw [List.take_add_one, at_eq l j h, List.filter_append]
  by_cases e : i = chainN (at_ l j).k m
  · subst e; simp
  · rw [if_neg e]
    have : (chainN (at_ l j).k m == i) = false := by simpa using fun x => e x.symm
    simp [this]
theorem resN_len {l : List Bk} {m j : Nat} (hm : 1 ≤ m) (hj : j ≤ l.length) : lenL (resN l m j) m = j := by
  rw [len_res (l.take j) (fun b => chainN b.k m) (resN l m j) (fun _ => rfl) m, List.filter_eq_self.2 (fun b _ => by simpa using chain_lt b.k hm), List.length_take]
  omega
theorem live_le {n : Nat} {L : Nat → List Bk} {V : Nat → Value} (h : ∀ i, i < n → L i = [] → V i = nilS) : ∀ m, m ≤ n → (liveN V m).length ≤ lenL L m
  | 0, _ => Nat.zero_le _
  | m + 1, hm => by
    have ih := live_le h m (by omega)
    rw [len_succ]
    unfold liveN
    split
    · omega
    · rename_i hv
      have : L m ≠ [] := fun e => hv (nilB_iff.2 (h m (by omega) e))
      have := List.length_pos_iff.2 this
      simp; omega
/-- What is there between two rounds. -/
structure RS (w : World) (B C cb rb mb xb m : Nat) (v : Value) (l : List Bk) (j : Nat) (V : World) : Prop where
  bel : Below w.heap.size w V
  cbx : V.heap[cb]? = some (.cells #[.int .i64 (m : Int)] 3 (0, 0))
  rbx : V.heap[rb]? = some (.cells #[.map (some mb)] 108 (0, 0))
  it : ItAt V B xb v l
  sz : C ≤ V.heap.size
  mp : ∃ VV, (∃ D, Owns V mb (Maps.size D) D ∧ MapIs D m VV) ∧ (∀ i, i < m → V.ownsRow C 133 14 (VV i) (resN l m j i).length (bkL (resN l m j i))) ∧ (∀ i, i < m → resN l m j i = [] → VV i = nilS) ∧
    (∀ i k g, i < m → k < m → (VV i).ownBlock = some g → (VV k).ownBlock = some g → i = k)
/-- What does not change over the loop. -/
structure RF (w : World) (C cb rb mb xb m : Nat) (v : Value) (l : List Bk) : Prop where
  cb0 : w.heap.size ≤ cb
  rb0 : w.heap.size ≤ rb
  mb0 : w.heap.size ≤ mb
  xb0 : w.heap.size ≤ xb
  C0 : w.heap.size ≤ C
  cb1 : cb < C
  rb1 : rb < C
  mb1 : mb < C
  xb1 : xb < C
  vlt : ∀ g, v.ownBlock = some g → g < C
  m0 : 1 ≤ m
  m1 : m ≤ 9223372036854775807
  ok : ∀ b ∈ l, b.k.Ok
  few : l.length ≤ 1073741824
theorem RS.firm {w : World} {B C cb rb mb xb m j F : Nat} {v : Value} {l : List Bk} (hF : w.heap.size ≤ F) : Firm F (RS w B C cb rb mb xb m v l j) := by
  intro V V' h hs
  have keep : ∀ {k : Nat} {cs : Array Value} {t : TypeId} {fr : Nat × Nat}, V.heap[k]? = some (.cells cs t fr) → V'.heap[k]? = V.heap[k]? := fun {k cs t fr} hk =>
    hs.block k (Array.getElem?_eq_some_iff.1 hk).1 (.inr fun o ho => by rw [hk] at ho; cases ho; exact id)
  obtain ⟨VV, hmap, hrows, hnil, hap⟩ := h.mp
  refine ⟨⟨hs.os.trans h.bel.os, hs.tape.trans h.bel.tape, hs.output.trans h.bel.output, Nat.le_trans h.bel.size hs.size, fun k hk => (hs.block k (Nat.lt_of_lt_of_le hk h.bel.size) (.inl (by omega))).trans (h.bel.block k hk)⟩,
    (keep h.cbx).trans h.cbx, (keep h.rbx).trans h.rbx, ⟨(keep h.it.box).trans h.it.box, own_same h.it.own (fun g hg => by obtain ⟨cur, hc⟩ := own_obj h.it.own hg; exact keep hc)⟩, Nat.le_trans h.sz hs.size,
    VV, map_same hmap ?_, fun i hi => own_same (hrows i hi) (fun g hg => by obtain ⟨cur, hc⟩ := own_obj (hrows i hi) hg; exact keep hc), hnil, hap⟩
  obtain ⟨D, ⟨es, clock, h1, _⟩, _⟩ := hmap
  exact hs.block mb (Array.getElem?_eq_some_iff.1 h1).1 (.inr fun o ho => by rw [h1] at ho; cases ho; exact id)
theorem RS.low {w V V' : World} {B C cb rb mb xb m j : Nat} {v : Value} {l : List Bk} (h : RS w B C cb rb mb xb m v l j V) (hb : Below V.heap.size V V') : RS w B C cb rb mb xb m v l j V' :=
  RS.firm (F := w.heap.size) (Nat.le_refl _) _ _ h (Soft.below hb)
/-- A key in a box, beside it. -/
structure RK (w : World) (B C cb rb mb xb m : Nat) (v : Value) (l : List Bk) (j kb : Nat) (V : World) : Prop where
  rs : RS w B C cb rb mb xb m v l j V
  key : V.heap[kb]? = some (.cells #[.int .i64 (at_ l j).k.sp, .int .u64 (at_ l j).k.va, .int .i64 (at_ l j).k.sz] 89 (0, 0))
  pg : RowP V (kb + 1) (at_ l j).v
theorem RK.low {w V V' : World} {B C cb rb mb xb m j kb : Nat} {v : Value} {l : List Bk} (h : RK w B C cb rb mb xb m v l j kb V) (hb : Below V.heap.size V V') : RK w B C cb rb mb xb m v l j kb V' := ⟨h.rs.low hb, blk_low h.key hb, h.pg.low hb⟩
theorem RK.cells {w V : World} {B C cb rb mb xb m j kb : Nat} {v : Value} {l : List Bk} (h : RK w B C cb rb mb xb m v l j kb V) : V.cell? ⟨rb, 0, none⟩ = some (.map (some mb)) ∧ (V.cell? ⟨kb, 0, none⟩ = some (.int .i64 (at_ l j).k.sp) ∧ V.cell? ⟨kb, 1, none⟩ = some (.int .u64 (at_ l j).k.va) ∧ V.cell? ⟨kb, 2, none⟩ = some (.int .i64 (at_ l j).k.sz)) ∧ V.cell? ⟨(kb + 1), 0, none⟩ = some (.int .u64 (at_ l j).v.va) ∧ V.cell? ⟨(kb + 1), 1, none⟩ = some (.int .i64 (at_ l j).v.sz) ∧ V.cell? ⟨(kb + 1), 2, none⟩ = some (.int .u64 (at_ l j).v.pa) ∧ V.cell? ⟨(kb + 1), 3, none⟩ = some (.bool (at_ l j).v.att.write) ∧ V.cell? ⟨(kb + 1), 4, none⟩ = some (.bool (at_ l j).v.att.priv) ∧ V.cell? ⟨(kb + 1), 5, none⟩ = some (.bool (at_ l j).v.att.exec) ∧ V.cell? ⟨(kb + 1), 6, none⟩ = some (.bool (at_ l j).v.att.lock) ∧ V.cell? ⟨(kb + 1), 7, none⟩ = some (.bool (at_ l j).v.att.global) ∧ V.cell? ⟨(kb + 1), 8, none⟩ = some (.bool (at_ l j).v.att.quiet) ∧ V.cell? ⟨(kb + 1), 9, none⟩ = some (.bool (at_ l j).v.ref) ∧ V.cell? ⟨(kb + 1), 10, none⟩ = some (.bool (at_ l j).v.mod) := by
  have := h.rs.rbx
  exact ⟨by simp [World.cell?, this], key_cells h.key, h.pg.cells⟩
theorem bk_new (W : World) (b : Bk) : (W.alloc (.cells #[.int .i64 b.k.sp, .int .u64 b.k.va, .int .i64 b.k.sz, .int .u64 b.v.va, .int .i64 b.v.sz, .int .u64 b.v.pa, .bool b.v.att.write, .bool b.v.att.priv, .bool b.v.att.exec, .bool b.v.att.lock, .bool b.v.att.global, .bool b.v.att.quiet, .bool b.v.ref, .bool b.v.mod] 133)).heap[W.heap.size]? = some (.cells #[.int .i64 b.k.sp, .int .u64 b.k.va, .int .i64 b.k.sz, .int .u64 b.v.va, .int .i64 b.v.sz, .int .u64 b.v.pa, .bool b.v.att.write, .bool b.v.att.priv, .bool b.v.att.exec, .bool b.v.att.lock, .bool b.v.att.global, .bool b.v.att.quiet, .bool b.v.ref, .bool b.v.mod] 133 (0, 0)) := heap_alloc_new W _
/-- The rows and the map, as RS has them. -/
structure RV (V : World) (C mb m : Nat) (l : List Bk) (j : Nat) (VV : Nat → Value) : Prop where
  map : ∃ D, Owns V mb (Maps.size D) D ∧ MapIs D m VV
  rows : ∀ i, i < m → V.ownsRow C 133 14 (VV i) (resN l m j i).length (bkL (resN l m j i))
  nil : ∀ i, i < m → resN l m j i = [] → VV i = nilS
  apart : ∀ i k g, i < m → k < m → (VV i).ownBlock = some g → (VV k).ownBlock = some g → i = k
theorem RS.rv {w V : World} {B C cb rb mb xb m j : Nat} {v : Value} {l : List Bk} (h : RS w B C cb rb mb xb m v l j V) : ∃ VV, RV V C mb m l j VV := by
  obtain ⟨VV, a, b, c, d⟩ := h.mp; exact ⟨VV, a, b, c, d⟩
theorem RV.low {V V' : World} {C mb m j : Nat} {l : List Bk} {VV : Nat → Value} (h : RV V C mb m l j VV) (hb : Below V.heap.size V V') : RV V' C mb m l j VV := by
  refine ⟨map_same h.map ?_, fun i hi => own_same (h.rows i hi) (fun g hg => hb.block g ((h.rows i hi).lt g hg).2), h.nil, h.apart⟩
  obtain ⟨D, ⟨es, clock, h1, _⟩, _⟩ := h.map
  exact hb.block mb (Array.getElem?_eq_some_iff.1 h1).1
theorem RV.drew {V : World} {C mb m j : Nat} {l : List Bk} {VV : Nat → Value} (h : RV V C mb m l j VV) : RV V.drew C mb m l j VV := h.low (Below.refl _ V).drew
theorem RV.zero {V : World} {C mb m : Nat} {l : List Bk} (hm : ∃ D, Owns V mb (Maps.size D) D ∧ MapIs D m (fun _ => nilS)) : RV V C mb m l 0 (fun _ => nilS) :=
  ⟨hm, fun i _ => by rw [resN_zero]; exact World.ownsRow_nil _ _ _ 14, fun _ _ _ => rfl, fun _ _ _ _ _ h => by cases h⟩
theorem RV.look {V : World} {C mb m j : Nat} {l : List Bk} {VV : Nat → Value} (h : RV V C mb m l j VV) (hm1 : m ≤ 9223372036854775807) {c : Nat} (hc : c < m) :
    (Instr.lookup 108 (.map (some mb)) (.int .i64 (c : Int)) false).run Tryz.prog V = .ok (VV c) V := by
  obtain ⟨D, hown, hD⟩ := h.map
  obtain ⟨v, ps, hrun, hv⟩ := hown.lookup lawI Tryz.underlying108 (zeroS V) hdR_nil (keyOf_int_mk Tryz.underlying3 (wfI (a := (c : Int)) (by omega) (by omega)))
  have e1 := (hdR_inv hv).1
  have e2 : hdD v = hdD (VV c) := by
    have := congrArg Prod.fst e1
    refine this.symm.trans ((hD.at_ (c : Int)).trans ?_)
    rw [rowV_in hc]
  rw [hrun, hdD_inj hv (hdR_own (h.rows c hc)) e2]
theorem RV.msize {V : World} {C mb m j : Nat} {l : List Bk} {VV : Nat → Value} (h : RV V C mb m l j VV) (hm : 1 ≤ m) (hj : j ≤ l.length) (hl : l.length ≤ 1073741824) {D : DataW Unit} (ho : Owns V mb (Maps.size D) D) (hD : MapIs D m VV) : Maps.size D ≤ 1073741824 := by
  have h1 := hD.size_le (ho.canon lawI)
  have h2 := live_le h.nil m (Nat.le_refl _)
  rw [resN_len hm hj] at h2
  omega
/-- A row's longer, and stands in the map. -/
theorem RK.put {w V W2 : World} {B C cb rb mb xb m j kb c g cap : Nat} {v : Value} {l : List Bk} {VV : Nat → Value} (F : RF w C cb rb mb xb m v l) (h : RK w B C cb rb mb xb m v l j kb V) (hv : RV V C mb m l j VV) (hj : j < l.length) (hc : c = chainN (at_ l j).k m)
    (ho : W2.ownsRow C 133 14 (.slice (some ⟨g, 0, none⟩) ((resN l m j c).length + 1) cap) ((resN l m j c).length + 1) (bkL (resN l m j c) ++ bkC (at_ l j)))
    (hg : (V.drew.alloc (.cells #[.int .i64 (at_ l j).k.sp, .int .u64 (at_ l j).k.va, .int .i64 (at_ l j).k.sz, .int .u64 (at_ l j).v.va, .int .i64 (at_ l j).v.sz, .int .u64 (at_ l j).v.pa, .bool (at_ l j).v.att.write, .bool (at_ l j).v.att.priv, .bool (at_ l j).v.att.exec, .bool (at_ l j).v.att.lock, .bool (at_ l j).v.att.global, .bool (at_ l j).v.att.quiet, .bool (at_ l j).v.ref, .bool (at_ l j).v.mod] 133)).grownBy W2 (VV c).ownBlock) (hat : (VV c).ownBlock = some g ∨ g = (V.drew.alloc (.cells #[.int .i64 (at_ l j).k.sp, .int .u64 (at_ l j).k.va, .int .i64 (at_ l j).k.sz, .int .u64 (at_ l j).v.va, .int .i64 (at_ l j).v.sz, .int .u64 (at_ l j).v.pa, .bool (at_ l j).v.att.write, .bool (at_ l j).v.att.priv, .bool (at_ l j).v.att.exec, .bool (at_ l j).v.att.lock, .bool (at_ l j).v.att.global, .bool (at_ l j).v.att.quiet, .bool (at_ l j).v.ref, .bool (at_ l j).v.mod] 133)).heap.size) :
    (W2.cell? ⟨rb, 0, none⟩ = some (.map (some mb)) ∧ (W2.cell? ⟨kb, 0, none⟩ = some (.int .i64 (at_ l j).k.sp) ∧ W2.cell? ⟨kb, 1, none⟩ = some (.int .u64 (at_ l j).k.va) ∧ W2.cell? ⟨kb, 2, none⟩ = some (.int .i64 (at_ l j).k.sz)) ∧ W2.cell? ⟨(kb + 1), 0, none⟩ = some (.int .u64 (at_ l j).v.va) ∧ W2.cell? ⟨(kb + 1), 1, none⟩ = some (.int .i64 (at_ l j).v.sz) ∧ W2.cell? ⟨(kb + 1), 2, none⟩ = some (.int .u64 (at_ l j).v.pa) ∧ W2.cell? ⟨(kb + 1), 3, none⟩ = some (.bool (at_ l j).v.att.write) ∧ W2.cell? ⟨(kb + 1), 4, none⟩ = some (.bool (at_ l j).v.att.priv) ∧ W2.cell? ⟨(kb + 1), 5, none⟩ = some (.bool (at_ l j).v.att.exec) ∧ W2.cell? ⟨(kb + 1), 6, none⟩ = some (.bool (at_ l j).v.att.lock) ∧ W2.cell? ⟨(kb + 1), 7, none⟩ = some (.bool (at_ l j).v.att.global) ∧ W2.cell? ⟨(kb + 1), 8, none⟩ = some (.bool (at_ l j).v.att.quiet) ∧ W2.cell? ⟨(kb + 1), 9, none⟩ = some (.bool (at_ l j).v.ref) ∧ W2.cell? ⟨(kb + 1), 10, none⟩ = some (.bool (at_ l j).v.mod)) ∧
    ∃ W3, (Instr.mapUpdate 108 (.map (some mb)) (.int .i64 (c : Int)) (.slice (some ⟨g, 0, none⟩) ((resN l m j c).length + 1) cap)).run Tryz.prog W2 = .ok () W3 ∧
      (W3.cell? ⟨rb, 0, none⟩ = some (.map (some mb)) ∧ (W3.cell? ⟨kb, 0, none⟩ = some (.int .i64 (at_ l j).k.sp) ∧ W3.cell? ⟨kb, 1, none⟩ = some (.int .u64 (at_ l j).k.va) ∧ W3.cell? ⟨kb, 2, none⟩ = some (.int .i64 (at_ l j).k.sz)) ∧ W3.cell? ⟨(kb + 1), 0, none⟩ = some (.int .u64 (at_ l j).v.va) ∧ W3.cell? ⟨(kb + 1), 1, none⟩ = some (.int .i64 (at_ l j).v.sz) ∧ W3.cell? ⟨(kb + 1), 2, none⟩ = some (.int .u64 (at_ l j).v.pa) ∧ W3.cell? ⟨(kb + 1), 3, none⟩ = some (.bool (at_ l j).v.att.write) ∧ W3.cell? ⟨(kb + 1), 4, none⟩ = some (.bool (at_ l j).v.att.priv) ∧ W3.cell? ⟨(kb + 1), 5, none⟩ = some (.bool (at_ l j).v.att.exec) ∧ W3.cell? ⟨(kb + 1), 6, none⟩ = some (.bool (at_ l j).v.att.lock) ∧ W3.cell? ⟨(kb + 1), 7, none⟩ = some (.bool (at_ l j).v.att.global) ∧ W3.cell? ⟨(kb + 1), 8, none⟩ = some (.bool (at_ l j).v.att.quiet) ∧ W3.cell? ⟨(kb + 1), 9, none⟩ = some (.bool (at_ l j).v.ref) ∧ W3.cell? ⟨(kb + 1), 10, none⟩ = some (.bool (at_ l j).v.mod)) ∧ RS w B C cb rb mb xb m v l (j + 1) W3 ∧ Stay C V W3 := by
  have hcm : c < m := by rw [hc]; exact chain_lt _ F.m0
  have hlt : ∀ {k o}, V.heap[k]? = some o → k < V.heap.size := fun h => (Array.getElem?_eq_some_iff.1 h).1
  have ha : ∀ k, k < V.heap.size → (V.drew.alloc (.cells #[.int .i64 (at_ l j).k.sp, .int .u64 (at_ l j).k.va, .int .i64 (at_ l j).k.sz, .int .u64 (at_ l j).v.va, .int .i64 (at_ l j).v.sz, .int .u64 (at_ l j).v.pa, .bool (at_ l j).v.att.write, .bool (at_ l j).v.att.priv, .bool (at_ l j).v.att.exec, .bool (at_ l j).v.att.lock, .bool (at_ l j).v.att.global, .bool (at_ l j).v.att.quiet, .bool (at_ l j).v.ref, .bool (at_ l j).v.mod] 133)).heap[k]? = V.heap[k]? := fun k hk => Below.heap_alloc V.drew _ k hk
  have hsa : (V.drew.alloc (.cells #[.int .i64 (at_ l j).k.sp, .int .u64 (at_ l j).k.va, .int .i64 (at_ l j).k.sz, .int .u64 (at_ l j).v.va, .int .i64 (at_ l j).v.sz, .int .u64 (at_ l j).v.pa, .bool (at_ l j).v.att.write, .bool (at_ l j).v.att.priv, .bool (at_ l j).v.att.exec, .bool (at_ l j).v.att.lock, .bool (at_ l j).v.att.global, .bool (at_ l j).v.att.quiet, .bool (at_ l j).v.ref, .bool (at_ l j).v.mod] 133)).heap.size = V.heap.size + 1 := by simp
  -- the row that grows is none of the others
  have hrow : ∀ k, (VV c).ownBlock = some k → C ≤ k ∧ k < V.heap.size ∧ ∃ cur, V.heap[k]? = some (.cells cur 133 (0, 0)) := fun k hk => ⟨((hv.rows c hcm).lt k hk).1, ((hv.rows c hcm).lt k hk).2, own_obj (hv.rows c hcm) hk⟩
  have hkb : (VV c).ownBlock ≠ some kb := fun e => by
    obtain ⟨_, _, cur, h1⟩ := hrow kb e
    rw [h.key] at h1; injection h1 with h1; injection h1 with _ h1 _; exact absurd h1 (by decide)
  have k2 : ∀ k, k < V.heap.size → (VV c).ownBlock ≠ some k → W2.heap[k]? = V.heap[k]? := fun k hk hne => (hg.block k (by omega) (fun e => hne e.symm)).trans (ha k hk)
  have lowne : ∀ k, k < C → (VV c).ownBlock ≠ some k := fun k hk e => by have := (hrow k e).1; omega
  have hrs := h.rs
  have hsz := hrs.sz
  obtain ⟨D, hown, hD⟩ := hv.map
  have hmb := hown.lt
  have hms := hv.msize F.m0 (Nat.le_of_lt hj) F.few hown hD
  have e2 : W2.heap[mb]? = V.heap[mb]? := k2 mb hmb (lowne mb F.mb1)
  have key2 : W2.heap[kb]? = some (.cells #[.int .i64 (at_ l j).k.sp, .int .u64 (at_ l j).k.va, .int .i64 (at_ l j).k.sz] 89 (0, 0)) := (k2 kb (hlt h.key) hkb).trans h.key
  have hpb : (VV c).ownBlock ≠ some (kb + 1) := fun e => by
    obtain ⟨_, _, cur, h1⟩ := hrow (kb + 1) e
    rw [h.pg.row] at h1; injection h1 with h1; injection h1 with _ h1 _; exact absurd h1 (by decide)
  have pg2 : RowP W2 (kb + 1) (at_ l j).v := ⟨(k2 (kb + 1) (hlt h.pg.row) hpb).trans h.pg.row⟩
  have rbx2 : W2.heap[rb]? = some (.cells #[.map (some mb)] 108 (0, 0)) := (k2 rb (by have := F.rb1; omega) (lowne rb F.rb1)).trans hrs.rbx
  have hown2 : ∃ D, Owns W2 mb (Maps.size D) D ∧ MapIs D m VV ∧ Maps.size D ≤ 1073741824 := by
    obtain ⟨es, clock, h1, h2⟩ := hown
    exact ⟨D, ⟨es, clock, e2.trans h1, h2⟩, hD, hms⟩
  obtain ⟨W3, hr, hm3, hg3⟩ := map_store hown2 hcm F.m1 (v := .slice (some ⟨g, 0, none⟩) ((resN l m j c).length + 1) cap) (fun e => by cases e) rfl
  have hs2 : V.heap.size + 1 ≤ W2.heap.size := by have := hg.size; omega
  have hs3 := hg3.size
  have k3 : ∀ k, k < V.heap.size → (VV c).ownBlock ≠ some k → k ≠ mb → W3.heap[k]? = V.heap[k]? := fun k hk h1 h2 => (hg3.block k (by omega) (fun e => h2 (Option.some.inj e))).trans (k2 k hk h1)
  have key3 : W3.heap[kb]? = some (.cells #[.int .i64 (at_ l j).k.sp, .int .u64 (at_ l j).k.va, .int .i64 (at_ l j).k.sz] 89 (0, 0)) := (k3 kb (hlt h.key) hkb (fun e => by
    obtain ⟨es, clock, h1, _⟩ := hown
    rw [← e, h.key] at h1; cases h1)).trans h.key
  have pg3 : RowP W3 (kb + 1) (at_ l j).v := ⟨(k3 (kb + 1) (hlt h.pg.row) hpb (fun e => by
    obtain ⟨es, clock, h1, _⟩ := hown
    have h2 := h.pg.row
    rw [e, h1] at h2; cases h2)).trans h.pg.row⟩
  have nemb : ∀ {k : Nat} {cs : Array Value} {t : TypeId} {fr : Nat × Nat}, V.heap[k]? = some (.cells cs t fr) → k ≠ mb := fun {k cs t fr} hk e => by
    obtain ⟨es, clock, h1, _⟩ := hown
    rw [← e, hk] at h1; cases h1
  have rbx3 : W3.heap[rb]? = some (.cells #[.map (some mb)] 108 (0, 0)) := (k3 rb (hlt hrs.rbx) (lowne rb F.rb1) (nemb hrs.rbx)).trans hrs.rbx
  have r2 := rbx2
  refine ⟨⟨by simp [World.cell?, rbx2], key_cells key2, pg2.cells⟩, W3, hr, ⟨by simp [World.cell?, rbx3], key_cells key3, pg3.cells⟩, ?_, ?_⟩
  · refine ⟨⟨hg3.os.trans (hg.os.trans hrs.bel.os), hg3.tape.trans (hg.tape.trans hrs.bel.tape), hg3.output.trans (hg.output.trans hrs.bel.output), Nat.le_trans hrs.bel.size (by omega), fun k hk => ?_⟩, ?_, rbx3, ⟨?_, own_same hrs.it.own (fun q hq => ?_)⟩, by omega, setV VV c (.slice (some ⟨g, 0, none⟩) ((resN l m j c).length + 1) cap), ?_, ?_, ?_, ?_⟩
    · have := F.C0; have := F.mb0; have := hrs.bel.size
      exact (k3 k (by omega) (lowne k (by omega)) (by omega)).trans (hrs.bel.block k hk)
    · exact (k3 cb (hlt hrs.cbx) (lowne cb F.cb1) (nemb hrs.cbx)).trans hrs.cbx
    · exact (k3 xb (hlt hrs.it.box) (lowne xb F.xb1) (nemb hrs.it.box)).trans hrs.it.box
    · obtain ⟨cur, hc3⟩ := own_obj hrs.it.own hq
      exact k3 q (hlt hc3) (lowne q (F.vlt q hq)) (nemb hc3)
    · obtain ⟨D', h1, h2⟩ := hm3; exact ⟨D', h1, h2⟩
    · intro i hi
      rw [resN_step hj, ← hc]
      by_cases e : i = c
      · subst e
        rw [setL_same, setV_same, List.length_append, bkL_append]
        refine own_same (by simpa [bkL] using ho) (fun q hq => hg3.block q ?_ (fun e => ?_))
        · exact ((ho.lt q (by simpa [Value.ownBlock] using hq))).2
        · obtain ⟨cur, hc3⟩ := own_obj ho (by simpa [Value.ownBlock] using hq : (Value.slice (some ⟨g, 0, none⟩) ((resN l m j i).length + 1) cap).ownBlock = some q)
          obtain ⟨D2, ⟨es, clock, h1, _⟩, _⟩ := hown2
          obtain rfl := Option.some.inj e
          rw [h1] at hc3; cases hc3
      · rw [setL_other _ _ e, setV_other _ _ e]
        refine own_same (hv.rows i hi) (fun q hq => ?_)
        obtain ⟨cur, hc3⟩ := own_obj (hv.rows i hi) hq
        exact k3 q (hlt hc3) (fun e2 => e (hv.apart i c q hi hcm hq e2)) (nemb hc3)
    · intro i hi he
      rw [resN_step hj, ← hc] at he
      by_cases e : i = c
      · subst e; rw [setL_same] at he; simp at he
      · rw [setL_other _ _ e] at he; rw [setV_other _ _ e]; exact hv.nil i hi he
    · have hfre : ∀ q, (Value.slice (some ⟨g, 0, none⟩) ((resN l m j c).length + 1) cap).ownBlock = some q → (VV c).ownBlock = some q ∨ V.heap.size ≤ q := fun q hq => by
        obtain rfl : g = q := by simpa [Value.ownBlock] using hq
        rcases hat with h1 | h1
        · exact .inl h1
        · right; omega
      intro i k q hi hk h1 h2
      by_cases e : i = c
      · by_cases f : k = c
        · omega
        · subst e
          rw [setV_same] at h1; rw [setV_other _ _ f] at h2
          rcases hfre q h1 with h3 | h3
          · exact hv.apart i k q hi hk h3 h2
          · have := ((hv.rows k hk).lt q h2).2; omega
      · by_cases f : k = c
        · subst f
          rw [setV_same] at h2; rw [setV_other _ _ e] at h1
          rcases hfre q h2 with h3 | h3
          · exact hv.apart i k q hi hk h1 h3
          · have := ((hv.rows i hi).lt q h1).2; omega
        · rw [setV_other _ _ e] at h1; rw [setV_other _ _ f] at h2; exact hv.apart i k q hi hk h1 h2
  · refine ((Stay.below (V := V) (W := V.drew.alloc (.cells #[.int .i64 (at_ l j).k.sp, .int .u64 (at_ l j).k.va, .int .i64 (at_ l j).k.sz, .int .u64 (at_ l j).v.va, .int .i64 (at_ l j).v.sz, .int .u64 (at_ l j).v.pa, .bool (at_ l j).v.att.write, .bool (at_ l j).v.att.priv, .bool (at_ l j).v.att.exec, .bool (at_ l j).v.att.lock, .bool (at_ l j).v.att.global, .bool (at_ l j).v.att.quiet, .bool (at_ l j).v.ref, .bool (at_ l j).v.mod] 133)) ((Below.refl _ V).drew.alloc (Nat.le_refl _) _)).trans (Stay.grown hg (fun q hq => .inr fun o ho hs => ?_))).trans (Stay.grown hg3 (fun q hq => .inl (by cases hq; exact F.mb1)))
    obtain ⟨_, hlq, cur, hcq⟩ := hrow q hq
    rw [ha q hlq, hcq] at ho
    cases ho
    rcases (hv.rows c hcm).2 with ⟨hn, _⟩ | ⟨g', cap', cur', hv', _, hgg, h1, h2, h3, h4⟩
    · rw [hn] at hq; cases hq
    · rw [hv'] at hq
      obtain rfl : g' = q := by simpa [Value.ownBlock] using hq
      rw [hcq] at hgg
      cases hgg
      have : cur.size = 1 := hs
      omega
/-- At the end: the table has the new chains. -/
theorem RS.done {w V X : World} {B C cb rb mb xb m sb bm n : Nat} {v : Value} {bl : Int} {L : Nat → List Bk} {V0 : Nat → Value} {O : Nat → Prop} (F : RF w C cb rb mb xb m v (allL L n)) (ht : TabAt w sb bm n bl L V0) (hO : ∀ k, O k ↔ own sb bm n V0 k)
    (h : RS w B C cb rb mb xb m v (allL L n) (allL L n).length V) (hD : V.heap[C]? = some (.deferred (some []))) (hos : X.os = V.os) (htp : X.tape = V.tape) (hou : X.output = V.output) (hsz : X.heap.size = V.heap.size)
    (hsb : X.heap[sb]? = some (.cells #[.int .i64 bl, .int .i64 (lenL L n : Int), .int .i64 (m : Int), .map (some mb)] 110 (0, 0)))
    (hX : ∀ k, k ≠ sb → k ≠ C → X.heap[k]? = V.heap[k]?) : TabTo w X sb O m bl (resT L n m) := by
  obtain ⟨VV, rv⟩ := h.rv
  have hsl := ht.lt (.inl rfl)
  have hlen : lenL (resT L n m) m = lenL L n := res_len F.m0
  have hfew := ht.few
  have hC0 := F.C0
  have hrows : ∀ i, i < m → X.ownsRow 0 133 14 (VV i) (resT L n m i).length (bkL (resT L n m i)) := fun i hi => by
    have h1 := rv.rows i hi
    rw [resN_all] at h1
    refine own_base (own_same h1 (fun g hg => ?_))
    obtain ⟨cur, hc⟩ := own_obj h1 hg
    have := (h1.lt g hg).1
    exact hX g (by omega) (fun e => by rw [e, hD] at hc; cases hc)
  have hT : TabAt X sb mb m bl (resT L n m) VV := by
    refine ⟨by rw [hlen]; exact hsb, map_same rv.map ?_, hrows, fun i hi he => rv.nil i hi (by rw [resN_all]; exact he), rv.apart, ht.good.res m, F.m0, F.m1, by rw [hlen]; exact hfew, ht.b1⟩
    obtain ⟨D, ⟨es, clock, h1, _⟩, _⟩ := rv.map
    have := F.mb0
    exact hX mb (by omega) (fun e => by rw [e, hD] at h1; cases h1)
  refine ⟨own sb mb m VV, ⟨mb, VV, hT, fun _ => Iff.rfl⟩, ⟨hos.trans h.bel.os, htp.trans h.bel.tape, hou.trans h.bel.output, by rw [hsz]; exact h.bel.size, fun k hk hk2 => (hX k (fun e => hk2 (by rw [e]; exact (hO sb).2 (.inl rfl))) (by omega)).trans (h.bel.block k hk)⟩, fun k hk => ?_⟩
  rcases hk with rfl | rfl | ⟨i, hi, e⟩
  · exact .inl ((hO _).2 (.inl rfl))
  · exact .inr F.mb0
  · have h1 := rv.rows i hi
    have := (h1.lt k e).1
    exact .inr (by omega)
end Go.Proofs.YtffpfceclhogoaaGreat.Hp
namespace Go.Proofs.YtffpfceclhogoaaGreat.Hp
open Fld Hs
open Ts (Stay Soft Firm Lp Sp lastMark)
open Go.ChangeShapes Go.WideShapes Go.ChangeAt Go.RowKit Go.Maps Go.Shelf
attribute [local go_sem] Oper.semAt_some
set_option maxHeartbeats 2000000
set_option maxRecDepth 100000
theorem resize_no {sb : Nat} (m : Int) (hm : m < 1) (w : World) :
    Calls Tryz.prog 75 #[.pointer (some ⟨sb, 0, none⟩), .int .i64 m] w fun e w' => e = .returned (.int .i64 1) ∧ Below w.heap.size w w' := by
  go_enter Tryz.func75, Tryz.ntmps75
  go_wp2
  go_ret
  exact ⟨rfl, (Below.refl _ _).alloc (Nat.le_refl _) _⟩
theorem resize_yes {sb n : Nat} {bl : Int} {L : Nat → List Bk} {O : Nat → Prop} (m : Nat) (hm : 1 ≤ m) (m1 : m ≤ 9223372036854775807) (w : World) (h : Tab w sb O n bl L) :
    Calls Tryz.prog 75 #[.pointer (some ⟨sb, 0, none⟩), .int .i64 (m : Int)] w fun e w' => e = .returned (.int .i64 0) ∧ TabTo w w' sb O m bl (resT L n m) := by
  have hT := h
  have hm0 : ¬ (m : Int) < 1 := by omega
  have hmm := @run_makeMap Tryz.prog
  refine (callsIn_wide (n := 3)).1 ?_
  refine callsIn_of_wp_marks Tryz.func75 rfl trivial ?_ rfl; simp only [Tryz.ntmps75, List.size_toArray, List.length_cons, List.length_nil, Nat.reduceAdd, Nat.reduceSub, Array.replicate_succ, Array.replicate_zero, List.push_toArray, List.append_toArray, List.nil_append, List.cons_append]
  gi_wp2_with fail
  have s3 : (((w.alloc (.cells #[.int .i64 (m : Int)] 3)).alloc (.map #[] 0)).alloc (.cells #[.map (some (w.heap.size + 1))] 108)).heap.size = w.heap.size + 1 + 1 + 1 := by simp
  have b3 : Below w.heap.size w (((w.alloc (.cells #[.int .i64 (m : Int)] 3)).alloc (.map #[] 0)).alloc (.cells #[.map (some (w.heap.size + 1))] 108)) := by (repeat (first | (with_reducible assumption) | (with_reducible exact Below.refl _ _) | (with_reducible refine lo_step ?_ (by assumption)) | (with_reducible refine lo_drew ?_) | (with_reducible refine lo_drewN ?_ _) | (with_reducible refine lo_alloc ?_ _))) 
  have x1 : (((w.alloc (.cells #[.int .i64 (m : Int)] 3)).alloc (.map #[] 0)).alloc (.cells #[.map (some (w.heap.size + 1))] 108)).heap[w.heap.size]? = some (.cells #[.int .i64 (m : Int)] 3 (0, 0)) :=
    blk_low (blk_low (heap_alloc_new w _) ((Below.refl _ _).alloc (Nat.le_refl _) _)) ((Below.refl _ _).alloc (Nat.le_refl _) _)
  have x2 : ∃ D, Owns (((w.alloc (.cells #[.int .i64 (m : Int)] 3)).alloc (.map #[] 0)).alloc (.cells #[.map (some (w.heap.size + 1))] 108)) (w.heap.size + 1) (Maps.size D) D ∧ MapIs D m (fun _ => nilS) := by
    have h1 := (World.ownsMap_made (w.alloc (.cells #[.int .i64 (m : Int)] 3)) Tryz.prog 3 hdR).alloc (.cells #[.map (some (w.heap.size + 1))] 108)
    rw [World.size_alloc] at h1
    exact ⟨_, owns_size h1, MapIs.empty m⟩
  have x3 : (((w.alloc (.cells #[.int .i64 (m : Int)] 3)).alloc (.map #[] 0)).alloc (.cells #[.map (some (w.heap.size + 1))] 108)).heap[w.heap.size + 1 + 1]? = some (.cells #[.map (some (w.heap.size + 1))] 108 (0, 0)) := by
    have := heap_alloc_new ((w.alloc (.cells #[.int .i64 (m : Int)] 3)).alloc (.map #[] 0)) (.cells #[.map (some (w.heap.size + 1))] 108)
    rwa [World.size_alloc, World.size_alloc] at this
  generalize World.alloc (World.alloc (World.alloc w _) _) _ = W3 at *
  refine ⟨trivial, (callsIn_wide.2 (all_any W3 (h.below b3 (Nat.le_refl _)))).mono ?_⟩
  rintro e W4 ⟨xb, v, rfl, hxb, hit, hb4⟩
  have s4 := hb4.size
  obtain ⟨bm, V0, ht, hO⟩ := h
  have hfew := ht.few
  have hb1 := ht.b1
  have hxl := (Array.getElem?_eq_some_iff.1 hit.box).1
  have F : RF w W4.heap.size w.heap.size (w.heap.size + 1 + 1) (w.heap.size + 1) xb m v (allL L n) := ⟨Nat.le_refl _, by omega, by omega, by omega, by omega, by omega, by omega, by omega, hxl, fun g hg => (hit.own.lt g hg).2, hm, m1, fun b hb => by
    obtain ⟨i, hi, hb⟩ := mem_all.1 hb; exact ht.good i hi b hb, by unfold lenL at hfew; omega⟩
  have R0 : RS w W3.heap.size W4.heap.size w.heap.size (w.heap.size + 1 + 1) (w.heap.size + 1) xb m v (allL L n) 0 W4 := by
    obtain ⟨D, ho, hM⟩ := x2
    have rv := (RV.zero (C := W4.heap.size) (l := allL L n) ⟨D, ho, hM⟩).low hb4
    exact ⟨b3.trans (hb4.mono b3.size), blk_low x1 hb4, blk_low x3 hb4, hit, Nat.le_refl _, _, rv.map, rv.rows, rv.nil, rv.apart⟩
  have hll : (allL L n).length = lenL L n := rfl
  clear x1 x2 x3 hit hxl hxb hmm
  gi_wp2_with fail
  refine range_its (n := 3) (gf := 83) (bnd := #[]) (lb := #[.pointer (some ⟨xb, 0, none⟩)]) (enc := encB (allL L n)) rfl (enters_of Tryz.func83 (by kernel_rfl) rfl) (fun q => all_iter q (B := W3.heap.size) (xb := xb) (v := v) (l := allL L n)) (fun _ => rfl)
    (fun i V => RS w W3.heap.size W4.heap.size w.heap.size (w.heap.size + 1 + 1) (w.heap.size + 1) xb m v (allL L n) i V) (fun _ => False) 0
    (fun i V h => h.it) (fun i => RS.firm (by have := b3.size; omega)) (Firm.pure _ _) R0
    (fun i a' V => ∃ kb, a' = { tmps := #[.pointer (some ⟨sb, 0, none⟩), .int .i64 (m : Int), undef, .pointer (some ⟨w.heap.size, 0, none⟩), .int .i64 0, .pointer (some ⟨w.heap.size + 1 + 1, 0, none⟩), .pointer (some ⟨kb, 0, none⟩), .pointer (some ⟨kb + 1, 0, none⟩), undef, .int .i64 (m : Int), .bool false, .map (some (w.heap.size + 1)), .pointer (some ⟨sb, 0, none⟩), .func (.func 83) #[] #[.pointer (some ⟨xb, 0, none⟩)], .agg #[.int .i64 (at_ (allL L n) i).k.sp, .int .u64 (at_ (allL L n) i).k.va, .int .i64 (at_ (allL L n) i).k.sz], .agg #[.int .u64 (at_ (allL L n) i).v.va, .int .i64 (at_ (allL L n) i).v.sz, .int .u64 (at_ (allL L n) i).v.pa, .bool (at_ (allL L n) i).v.att.write, .bool (at_ (allL L n) i).v.att.priv, .bool (at_ (allL L n) i).v.att.exec, .bool (at_ (allL L n) i).v.att.lock, .bool (at_ (allL L n) i).v.att.global, .bool (at_ (allL L n) i).v.att.quiet, .bool (at_ (allL L n) i).v.ref, .bool (at_ (allL L n) i).v.mod], undef, undef, undef, undef, undef, undef, undef, undef, undef, undef, undef, undef, undef, undef, undef, undef, undef, undef, undef, undef, undef], defers := [] } ∧ V.heap[kb]? = some (.cells #[.int .i64 (at_ (allL L n) i).k.sp, .int .u64 (at_ (allL L n) i).k.va, .int .i64 (at_ (allL L n) i).k.sz] 89 (0, 0)) ∧ V.heap[kb + 1]? = some (.cells #[.int .u64 (at_ (allL L n) i).v.va, .int .i64 (at_ (allL L n) i).v.sz, .int .u64 (at_ (allL L n) i).v.pa, .bool (at_ (allL L n) i).v.att.write, .bool (at_ (allL L n) i).v.att.priv, .bool (at_ (allL L n) i).v.att.exec, .bool (at_ (allL L n) i).v.att.lock, .bool (at_ (allL L n) i).v.att.global, .bool (at_ (allL L n) i).v.att.quiet, .bool (at_ (allL L n) i).v.ref, .bool (at_ (allL L n) i).v.mod] 38 (0, 0)))
    (fun i a' V V' h hs => by
      obtain ⟨kb, e, hk, hp⟩ := h
      exact ⟨kb, e, (Firm.cells W4.heap.size kb _ _ _) V V' hk hs, (Firm.cells W4.heap.size (kb + 1) _ _ _) V V' hp hs⟩) ?assign ?body ?done ?stop
  case stop => intro V hf; exact hf.elim
  case assign =>
    rintro m2 l2 i V K hI hi hK
    have NL : Below V.heap.size V ((V.alloc (.cells #[.int .i64 (at_ (allL L n) i).k.sp, .int .u64 (at_ (allL L n) i).k.va, .int .i64 (at_ (allL L n) i).k.sz] 89)).alloc (.cells #[.int .u64 (at_ (allL L n) i).v.va, .int .i64 (at_ (allL L n) i).v.sz, .int .u64 (at_ (allL L n) i).v.pa, .bool (at_ (allL L n) i).v.att.write, .bool (at_ (allL L n) i).v.att.priv, .bool (at_ (allL L n) i).v.att.exec, .bool (at_ (allL L n) i).v.att.lock, .bool (at_ (allL L n) i).v.att.global, .bool (at_ (allL L n) i).v.att.quiet, .bool (at_ (allL L n) i).v.ref, .bool (at_ (allL L n) i).v.mod] 38)) := by (repeat (first | (with_reducible assumption) | (with_reducible exact Below.refl _ _) | (with_reducible refine lo_step ?_ (by assumption)) | (with_reducible refine lo_drew ?_) | (with_reducible refine lo_drewN ?_ _) | (with_reducible refine lo_alloc ?_ _))) 
    have NR := blk_low (heap_alloc_new V (.cells #[.int .i64 (at_ (allL L n) i).k.sp, .int .u64 (at_ (allL L n) i).k.va, .int .i64 (at_ (allL L n) i).k.sz] 89)) ((Below.refl _ _).alloc (Nat.le_refl _) (.cells #[.int .u64 (at_ (allL L n) i).v.va, .int .i64 (at_ (allL L n) i).v.sz, .int .u64 (at_ (allL L n) i).v.pa, .bool (at_ (allL L n) i).v.att.write, .bool (at_ (allL L n) i).v.att.priv, .bool (at_ (allL L n) i).v.att.exec, .bool (at_ (allL L n) i).v.att.lock, .bool (at_ (allL L n) i).v.att.global, .bool (at_ (allL L n) i).v.att.quiet, .bool (at_ (allL L n) i).v.ref, .bool (at_ (allL L n) i).v.mod] 38))
    have NP := heap_alloc_new (V.alloc (.cells #[.int .i64 (at_ (allL L n) i).k.sp, .int .u64 (at_ (allL L n) i).k.va, .int .i64 (at_ (allL L n) i).k.sz] 89)) (.cells #[.int .u64 (at_ (allL L n) i).v.va, .int .i64 (at_ (allL L n) i).v.sz, .int .u64 (at_ (allL L n) i).v.pa, .bool (at_ (allL L n) i).v.att.write, .bool (at_ (allL L n) i).v.att.priv, .bool (at_ (allL L n) i).v.att.exec, .bool (at_ (allL L n) i).v.att.lock, .bool (at_ (allL L n) i).v.att.global, .bool (at_ (allL L n) i).v.att.quiet, .bool (at_ (allL L n) i).v.ref, .bool (at_ (allL L n) i).v.mod] 38)
    rw [World.size_alloc] at NP
    have hI3 := hI.low NL
    have hS : Stay W4.heap.size V _ := Stay.below NL
    unfold encB
    gi_wp2
    exact hK _ _ hS hI3 ⟨_, rfl, NR, NP⟩
  case body =>
    rintro m2 l i a' V hI ⟨kb, rfl, hk, hp⟩ hi
    obtain ⟨ik, hik, hz0, hz1, hz2⟩ := info_parts infoB
    have hok : (at_ (allL L n) i).k.Ok := F.ok _ (at_mem hi)
    have K0 : RK w W3.heap.size W4.heap.size w.heap.size (w.heap.size + 1 + 1) (w.heap.size + 1) xb m v (allL L n) i kb V := ⟨hI, hk, ⟨hp⟩⟩
    have c1 : V.cell? ⟨w.heap.size, 0, none⟩ = some (.int .i64 (m : Int)) := by have := hI.cbx; simp [World.cell?, this]
    obtain ⟨k0, k1, k2⟩ := key_cells hk
    obtain ⟨p0, p1, p2, p3, p4, p5, p6, p7, p8, p9, p10⟩ := (RowP.mk hp).cells
    have CC := Lib.hid (fun w => chain_any (at_ (allL L n) i).k hok.wf m hm m1 w)
    rw [chI_ok hok, chain_cast _ hm] at CC
    obtain ⟨c, hc⟩ : ∃ c, c = chainN (at_ (allL L n) i).k m := ⟨_, rfl⟩
    rw [← hc] at CC
    have hcm : c < m := by rw [hc]; exact chain_lt _ hm
    obtain ⟨b, hb⟩ : ∃ b, at_ (allL L n) i = b := ⟨_, rfl⟩
    have HB := Lib.hid hb
    have hone := bkL_one [b]
    simp only [bkL, List.append_nil] at hone
    rw [hb] at k0 k1 k2 p0 p1 p2 p3 p4 p5 p6 p7 p8 p9 p10 CC ⊢
    have HC := Lib.hid hc
    clear hc hb hk hp hok
    gi_wp2_with fail
    refine ⟨trivial, fun h => absurd h (by decide), ?_⟩
    refine (CallsIn.inRound l (callsIn_wide.2 (CC.out _))).mono ?_
    rintro e V1 ⟨rfl, hbV⟩
    gi_wp2_with fail
    have K1 := K0.low hbV
    obtain ⟨VV, hv⟩ := K1.rs.rv
    have hlook := hv.drew.look m1 hcm
    have hlook2 := (hv.drew.low (V' := V1.drew.alloc (.cells #[.int .i64 b.k.sp, .int .u64 b.k.va, .int .i64 b.k.sz, .int .u64 b.v.va, .int .i64 b.v.sz, .int .u64 b.v.pa, .bool b.v.att.write, .bool b.v.att.priv, .bool b.v.att.exec, .bool b.v.att.lock, .bool b.v.att.global, .bool b.v.att.quiet, .bool b.v.ref, .bool b.v.mod] 133)) ((Below.refl _ _).alloc (Nat.le_refl _) _)).look m1 hcm
    have hlook3 : (Instr.lookup 108 (.map (some (w.heap.size + 1))) (.int .i64 (c : Int)) false).run Tryz.prog ((V1.alloc (.cells #[.int .i64 b.k.sp, .int .u64 b.k.va, .int .i64 b.k.sz, .int .u64 b.v.va, .int .i64 b.v.sz, .int .u64 b.v.pa, .bool b.v.att.write, .bool b.v.att.priv, .bool b.v.att.exec, .bool b.v.att.lock, .bool b.v.att.global, .bool b.v.att.quiet, .bool b.v.ref, .bool b.v.mod] 133)).drew) = .ok (VV c) ((V1.alloc (.cells #[.int .i64 b.k.sp, .int .u64 b.k.va, .int .i64 b.k.sz, .int .u64 b.v.va, .int .i64 b.v.sz, .int .u64 b.v.pa, .bool b.v.att.write, .bool b.v.att.priv, .bool b.v.att.exec, .bool b.v.att.lock, .bool b.v.att.global, .bool b.v.att.quiet, .bool b.v.ref, .bool b.v.mod] 133)).drew) := hlook2
    have hrow := (hv.drew.low (V' := V1.drew.alloc (.cells #[.int .i64 b.k.sp, .int .u64 b.k.va, .int .i64 b.k.sz, .int .u64 b.v.va, .int .i64 b.v.sz, .int .u64 b.v.pa, .bool b.v.att.write, .bool b.v.att.priv, .bool b.v.att.exec, .bool b.v.att.lock, .bool b.v.att.global, .bool b.v.att.quiet, .bool b.v.ref, .bool b.v.mod] 133)) ((Below.refl _ _).alloc (Nat.le_refl _) _)).rows c hcm
    have hnew := bk_new V1.drew b
    have hcl := (List.length_filter_le (fun x : Bk => chainN x.k m == c) ((allL L n).take i))
    rw [List.length_take] at hcl
    have hln : (resN (allL L n) m i c).length ≤ 1073741824 := by
      have hx : (resN (allL L n) m i c).length = (((allL L n).take i).filter (fun x : Bk => chainN x.k m == c)).length := rfl
      omega
    have hbase : W4.heap.size ≤ (V1.drew.alloc (.cells #[.int .i64 b.k.sp, .int .u64 b.k.va, .int .i64 b.k.sz, .int .u64 b.v.va, .int .i64 b.v.sz, .int .u64 b.v.pa, .bool b.v.att.write, .bool b.v.att.priv, .bool b.v.att.exec, .bool b.v.att.lock, .bool b.v.att.global, .bool b.v.att.quiet, .bool b.v.ref, .bool b.v.mod] 133)).heap.size := by have := K1.rs.sz; simp; omega
    have hS0 := RK.cells (K1.low (Below.refl _ V1).drew)
    have hS1 := RK.cells ((K1.low (Below.refl _ V1).drew).low (V' := V1.drew.alloc (.cells #[.int .i64 b.k.sp, .int .u64 b.k.va, .int .i64 b.k.sz, .int .u64 b.v.va, .int .i64 b.v.sz, .int .u64 b.v.pa, .bool b.v.att.write, .bool b.v.att.priv, .bool b.v.att.exec, .bool b.v.att.lock, .bool b.v.att.global, .bool b.v.att.quiet, .bool b.v.ref, .bool b.v.mod] 133)) ((Below.refl _ _).alloc (Nat.le_refl _) _))
    have HP := Lib.hid (fun g cap W2 => RK.put (W2 := W2) (g := g) (cap := cap) (c := c) F K1 hv hi HC.out)
    have HST := Lib.hid (Stay.below (B := W4.heap.size) hbV)
    rw [HB.out] at hS0 hS1 HP
    clear hcl CC K0 K1 hv hI c1 k0 k1 k2 p0 p1 p2 p3 p4 p5 p6 p7 p8 p9 p10
    refine region_round_held (S := fun w1 => w1.cell? ⟨w.heap.size + 1 + 1, 0, none⟩ = some (.map (some (w.heap.size + 1))) ∧ (w1.cell? ⟨kb, 0, none⟩ = some (.int .i64 b.k.sp) ∧ w1.cell? ⟨kb, 1, none⟩ = some (.int .u64 b.k.va) ∧ w1.cell? ⟨kb, 2, none⟩ = some (.int .i64 b.k.sz)) ∧ w1.cell? ⟨(kb + 1), 0, none⟩ = some (.int .u64 b.v.va) ∧ w1.cell? ⟨(kb + 1), 1, none⟩ = some (.int .i64 b.v.sz) ∧ w1.cell? ⟨(kb + 1), 2, none⟩ = some (.int .u64 b.v.pa) ∧ w1.cell? ⟨(kb + 1), 3, none⟩ = some (.bool b.v.att.write) ∧ w1.cell? ⟨(kb + 1), 4, none⟩ = some (.bool b.v.att.priv) ∧ w1.cell? ⟨(kb + 1), 5, none⟩ = some (.bool b.v.att.exec) ∧ w1.cell? ⟨(kb + 1), 6, none⟩ = some (.bool b.v.att.lock) ∧ w1.cell? ⟨(kb + 1), 7, none⟩ = some (.bool b.v.att.global) ∧ w1.cell? ⟨(kb + 1), 8, none⟩ = some (.bool b.v.att.quiet) ∧ w1.cell? ⟨(kb + 1), 9, none⟩ = some (.bool b.v.ref) ∧ w1.cell? ⟨(kb + 1), 10, none⟩ = some (.bool b.v.mod)) (by kernel_rfl) (by kernel_rfl) (by rintro ⟨a, w, h⟩; exact h) hS0 (fun hHeld => ?_)
    refine wpAnyH_take (i := 1) (v := ?vt1) rfl (by kernel_rfl) (by kernel_rfl) (by kernel_rfl) (fun _ _ _ h => h) (Or.inl ⟨by rfl, ?ht1⟩) (by assumption) ?rt1
    case ht1 => (intro w hSw; (try dsimp only at hSw); go_simp <;> (with_reducible rfl))
    (try simp only [Act.put, List.setIfInBounds_toArray, List.set_cons_zero, List.set_cons_succ, List.getElem_toArray, List.getElem_cons_zero, List.getElem_cons_succ])
    refine wpAnyH_take (i := 3) (v := ?vt3) rfl (by kernel_rfl) (by kernel_rfl) (by kernel_rfl) (fun _ _ _ h => h) (Or.inl ⟨by rfl, ?ht3⟩) (by assumption) ?rt3
    case ht3 => (intro w hSw; (try dsimp only at hSw); go_simp <;> (with_reducible rfl))
    (try simp only [Act.put, List.setIfInBounds_toArray, List.set_cons_zero, List.set_cons_succ, List.getElem_toArray, List.getElem_cons_zero, List.getElem_cons_succ])
    refine wpAnyH_take (i := 0) (v := ?vt0) rfl (by kernel_rfl) (by kernel_rfl) (by kernel_rfl) (fun _ _ _ h => h) (Or.inl ⟨by rfl, ?ht0⟩) (by assumption) ?rt0
    case ht0 => (intro w hSw; (try dsimp only at hSw); go_simp <;> (with_reducible rfl))
    (try simp only [Act.put, List.setIfInBounds_toArray, List.set_cons_zero, List.set_cons_succ, List.getElem_toArray, List.getElem_cons_zero])
    refine wpAnyH_take (i := 2) (v := ?vt2) rfl (by kernel_rfl) (by kernel_rfl) (by kernel_rfl) (fun _ _ _ h => h) (Or.inl ⟨by rfl, ?ht2⟩) (by assumption) ?rt2
    case ht2 => (intro w hSw; (try dsimp only at hSw); go_simp <;> (with_reducible rfl))
    (try simp only [Act.put, List.setIfInBounds_toArray, List.set_cons_zero, List.set_cons_succ, List.getElem_toArray, List.getElem_cons_zero, List.getElem_cons_succ])
    refine wpAnyH_take (i := 5) (v := ?vt5) rfl (by kernel_rfl) (by kernel_rfl) (by kernel_rfl) (fun _ _ _ h => h) (Or.inl ⟨by rfl, ?ht5⟩) (by assumption) ?rt5
    case ht5 => (intro w hSw; (try dsimp only at hSw); go_simp <;> (with_reducible rfl))
    (try simp only [Act.put, List.setIfInBounds_toArray, List.set_cons_zero, List.set_cons_succ, List.getElem_toArray, List.getElem_cons_zero, List.getElem_cons_succ])
    refine wpAnyH_take (i := 6) (v := ?vt6) rfl (by kernel_rfl) (by kernel_rfl) (by kernel_rfl) (fun _ _ _ h => h) (Or.inl ⟨by rfl, ?ht6⟩) (by assumption) ?rt6
    case ht6 => (intro w hSw; (try dsimp only at hSw); go_simp <;> (with_reducible rfl))
    (try simp only [Act.put, List.setIfInBounds_toArray, List.set_cons_zero, List.set_cons_succ, List.getElem_toArray, List.getElem_cons_zero, List.getElem_cons_succ])
    refine wpAnyH_take (i := 7) (v := ?vt7) rfl (by kernel_rfl) (by kernel_rfl) (by kernel_rfl) (fun _ _ _ h => h) (Or.inl ⟨by rfl, ?ht7⟩) (by assumption) ?rt7
    case ht7 => (intro w hSw; (try dsimp only at hSw); go_simp <;> (with_reducible rfl))
    (try simp only [Act.put, List.setIfInBounds_toArray, List.set_cons_zero, List.set_cons_succ, List.getElem_toArray, List.getElem_cons_zero, List.getElem_cons_succ])
    refine wpAnyH_ready (rs := [4, 8]) (by kernel_rfl) (by simp) ?_
    refine AllReadyH.cons rfl (fun K hK => ?_) (AllReadyH.cons rfl (fun K hK => ?_) AllReadyH.nil)
    · go_simp
      refine hK.out _ _ hS0 (fun hHeld => ?_)
      clear hK K
      (try simp only [Act.put, List.setIfInBounds_toArray, List.set_cons_zero, List.set_cons_succ, List.getElem_toArray, List.getElem_cons_zero, List.getElem_cons_succ])
      refine wpAnyH_ready (rs := [8]) (by kernel_rfl) (by simp) ?_
      refine AllReadyH.cons rfl (fun K hK => ?_) AllReadyH.nil
      go_simp
      refine hK.out _ _ hS1 (fun hHeld => ?_)
      clear hK K
      (try simp only [Act.put, List.setIfInBounds_toArray, List.set_cons_zero, List.set_cons_succ, List.getElem_toArray, List.getElem_cons_zero, List.getElem_cons_succ])
      refine wpAnyH_ready (rs := [9]) (by kernel_rfl) (by simp) ?_
      refine AllReadyH.cons rfl (fun K hK => ?_) AllReadyH.nil
      refine (step_append_lies _ rfl _ _ 125 rfl W4.heap.size 133 ik _ 14 56 Tryz.underlying125 hik hz0 hz1 hz2 rfl (by decide) (VV c) _ _ (by simp [Act.eval]) hrow ⟨V1.heap.size, 0, none⟩ 1 1 (bkC b) (by simp [Act.eval]) rfl (by exact World.news_of_block hnew) hone Nat.one_pos (by unfold maxLen; omega) (by omega) hbase _ rfl ?_)
      intro g cap W2 ho2 hg2 hat2 hlt2
      obtain ⟨hS2, W3b, hr3, hS3, hR3, hst3⟩ := HP.out g cap W2 ho2 hg2 hat2
      refine hK.out _ _ hS2 (fun hHeld => ?_)
      clear hK K
      (try simp only [Act.put, List.setIfInBounds_toArray, List.set_cons_zero, List.set_cons_succ, List.getElem_toArray, List.getElem_cons_zero, List.getElem_cons_succ])
      refine wpAnyH_ready (rs := [10]) (by kernel_rfl) (by simp) ?_
      refine AllReadyH.cons rfl (fun K hK => ?_) AllReadyH.nil
      go_simp
      refine hK.out _ _ hS3 (fun hHeld => ?_)
      clear hK K
      (try simp only [Act.put, List.setIfInBounds_toArray, List.set_cons_zero, List.set_cons_succ, List.getElem_toArray, List.getElem_cons_zero, List.getElem_cons_succ])
      refine wpAnyH_done (by kernel_rfl) ?_ _
      gi_wp2_with fail
      exact ⟨HST.out.trans hst3, hR3⟩
    · go_simp
      refine hK.out _ _ hS1 (fun hHeld => ?_)
      clear hK K
      (try simp only [Act.put, List.setIfInBounds_toArray, List.set_cons_zero, List.set_cons_succ, List.getElem_toArray, List.getElem_cons_zero, List.getElem_cons_succ])
      refine wpAnyH_ready (rs := [4]) (by kernel_rfl) (by simp) ?_
      refine AllReadyH.cons rfl (fun K hK => ?_) AllReadyH.nil
      go_simp
      refine hK.out _ _ hS1 (fun hHeld => ?_)
      clear hK K
      (try simp only [Act.put, List.setIfInBounds_toArray, List.set_cons_zero, List.set_cons_succ, List.getElem_toArray, List.getElem_cons_zero, List.getElem_cons_succ])
      refine wpAnyH_ready (rs := [9]) (by kernel_rfl) (by simp) ?_
      refine AllReadyH.cons rfl (fun K hK => ?_) AllReadyH.nil
      refine (step_append_lies _ rfl _ _ 125 rfl W4.heap.size 133 ik _ 14 56 Tryz.underlying125 hik hz0 hz1 hz2 rfl (by decide) (VV c) _ _ (by simp [Act.eval]) hrow ⟨V1.heap.size, 0, none⟩ 1 1 (bkC b) (by simp [Act.eval]) rfl (by exact World.news_of_block hnew) hone Nat.one_pos (by unfold maxLen; omega) (by omega) hbase _ rfl ?_)
      intro g cap W2 ho2 hg2 hat2 hlt2
      obtain ⟨hS2, W3b, hr3, hS3, hR3, hst3⟩ := HP.out g cap W2 ho2 hg2 hat2
      refine hK.out _ _ hS2 (fun hHeld => ?_)
      clear hK K
      (try simp only [Act.put, List.setIfInBounds_toArray, List.set_cons_zero, List.set_cons_succ, List.getElem_toArray, List.getElem_cons_zero, List.getElem_cons_succ])
      refine wpAnyH_ready (rs := [10]) (by kernel_rfl) (by simp) ?_
      refine AllReadyH.cons rfl (fun K hK => ?_) AllReadyH.nil
      go_simp
      refine hK.out _ _ hS3 (fun hHeld => ?_)
      clear hK K
      (try simp only [Act.put, List.setIfInBounds_toArray, List.set_cons_zero, List.set_cons_succ, List.getElem_toArray, List.getElem_cons_zero, List.getElem_cons_succ])
      refine wpAnyH_done (by kernel_rfl) ?_ _
      gi_wp2_with fail
      exact ⟨HST.out.trans hst3, hR3⟩
  case done =>
    rintro V hI hK
    have c1 : V.cell? ⟨w.heap.size, 0, none⟩ = some (.int .i64 (m : Int)) := by have := hI.cbx; simp [World.cell?, this]
    have c2 : V.cell? ⟨w.heap.size + 1 + 1, 0, none⟩ = some (.map (some (w.heap.size + 1))) := by have := hI.rbx; simp [World.cell?, this]
    have tV := ht.below hI.bel (Nat.le_refl _)
    obtain ⟨_, _, q2, q3, fr⟩ := tV.cells
    have f2 := fr 2
    have f3 := fr 3
    have hsl := ht.lt (.inl rfl)
    have hsbV := tV.row
    have HI := Lib.hid hI
    have HK := Lib.hid hK
    have HS := Lib.hid hsbV
    clear hI hK fr tV hsbV
    unfold lastMark
    gi_wp2_with fail
    refine wpIn_wide.2 ?_
    go_region
    have hCs : W4.heap.size ≠ sb := by have := hb4.size; have := b3.size; omega
    have e1 : (V.setCell ⟨sb, 3, none⟩ (.map (some (w.heap.size + 1)))).setCell ⟨sb, 2, none⟩ (.int .i64 (m : Int)) = (V.setRow sb #[.int .i64 bl, .int .i64 (lenL L n : Int), .int .i64 (n : Int), .map (some (w.heap.size + 1))]).setRow sb #[.int .i64 bl, .int .i64 (lenL L n : Int), .int .i64 (m : Int), .map (some (w.heap.size + 1))] := by
      rw [setCell_eq_setRow V sb 3 _ _ _ _ HS.out]
      have h1 := setRow_heap V sb _ (#[Value.int .i64 bl, .int .i64 (lenL L n : Int), .int .i64 (n : Int), .map (some bm)].setIfInBounds 3 (.map (some (w.heap.size + 1)))) _ _ HS.out
      rw [setCell_eq_setRow _ sb 2 _ _ _ _ h1]
      rfl
    have h1 := setRow_heap V sb _ #[.int .i64 bl, .int .i64 (lenL L n : Int), .int .i64 (n : Int), .map (some (w.heap.size + 1))] _ _ HS.out
    have h2 := setRow_heap _ sb _ #[.int .i64 bl, .int .i64 (lenL L n : Int), .int .i64 (m : Int), .map (some (w.heap.size + 1))] _ _ h1
    rw [e1]
    have hoth : ∀ k, k ≠ sb → ((V.setRow sb #[.int .i64 bl, .int .i64 (lenL L n : Int), .int .i64 (n : Int), .map (some (w.heap.size + 1))]).setRow sb #[.int .i64 bl, .int .i64 (lenL L n : Int), .int .i64 (m : Int), .map (some (w.heap.size + 1))]).heap[k]? = V.heap[k]? := fun k hk => (setRow_other _ _ k _ hk).trans (setRow_other _ _ k _ hk)
    have hKX := (hoth W4.heap.size hCs).trans HK.out
    have hfin : TabTo w ((((V.setRow sb #[.int .i64 bl, .int .i64 (lenL L n : Int), .int .i64 (n : Int), .map (some (w.heap.size + 1))]).setRow sb #[.int .i64 bl, .int .i64 (lenL L n : Int), .int .i64 (m : Int), .map (some (w.heap.size + 1))]).drew).putObj W4.heap.size (.deferred none)) sb O m bl (resT L n m) :=
      RS.done F ht hO HI.out HK.out rfl rfl rfl (by simp [World.setRow]) ((World.putObj_heap_other (fun e => hCs e.symm)).trans h2) (fun k h3 h4 => (World.putObj_heap_other h4).trans (hoth k h3))
    clear e1 h1 h2 c1 c2 q2 q3 f2 f3
    generalize World.setRow (World.setRow V _ _) _ _ = X at *
    gi_wp2
    refine ⟨by simp, .inl ⟨_, _, rfl, run_takeDeferred hKX, ?_⟩⟩
    exact ⟨_, results_tmp rfl _ _ _, rfl, hfin⟩
end Go.Proofs.YtffpfceclhogoaaGreat.Hp
