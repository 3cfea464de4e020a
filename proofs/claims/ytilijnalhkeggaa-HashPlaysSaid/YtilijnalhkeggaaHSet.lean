/-
  Contract of Set of package hash. Conditions: a key's numbers are those that Go's types hold; a table that is there.
-/
import Derived.Test.YtilijnalhkeggaaHTab
namespace Go.Proofs.Ytilijnalhkeggaa.Hs
open Fld
open Go.ChangeShapes Go.WideShapes Go.ChangeAt Go.RowKit Go.Maps
set_option maxHeartbeats 1000000
set_option maxRecDepth 100000
theorem bkL_set : ∀ (l : List Bk) (j : Nat) (x : Int), j < l.length → bkL (l.set j ⟨(at_ l j).k, x⟩) = (bkL l).set (j * 4 + 3) (.int .i64 x)
  | [], j, x, h => absurd h (Nat.not_lt_zero _)
  | b :: l, 0, x, _ => rfl
  | b :: l, j + 1, x, h => by
    rw [at_cons, List.set_cons_succ, show (j + 1) * 4 + 3 = (j * 4 + 3) + 1 + 1 + 1 + 1 by omega]
    have := bkL_set l j x (by simpa using h)
    simp only [bkL, bkC, List.cons_append, List.nil_append, List.set_cons_succ, this]
theorem own_thing {w : World} {B e : Nat} {v : Value} {l : List Bk} {g : Nat} (h : w.ownsRow B e 4 v l.length (bkL l)) (hg : v.ownBlock = some g) {j : Nat} (hj : j < l.length) (x : Int) :
    (w.setCell ⟨g, j * 4 + 3, none⟩ (.int .i64 x)).ownsRow B e 4 v (l.set j ⟨(at_ l j).k, x⟩).length (bkL (l.set j ⟨(at_ l j).k, x⟩)) ∧ w.grownBy (w.setCell ⟨g, j * 4 + 3, none⟩ (.int .i64 x)) (some g) := by
  rcases h.2 with ⟨rfl, _⟩ | ⟨g', cap, cur, rfl, hb, hgg, hnc, hcm, hcs, htake⟩
  · cases hg
  · obtain rfl : g' = g := by simpa [Value.ownBlock] using hg
    rw [setCell_eq_setRow w g' (j * 4 + 3) cur e (0, 0) _ hgg]
    refine ⟨⟨by rw [bkL_length], .inr ⟨g', cap, _, by rw [List.length_set], hb, setRow_heap w g' cur _ e _ hgg, by simpa using hnc, hcm, by simpa using hcs, ?_⟩⟩, ⟨rfl, rfl, rfl, by simp [World.setRow], fun k hk hne => setRow_other w g' k _ (fun e => hne (by rw [e]))⟩⟩
    rw [bkL_set l j x hj, ← htake, List.length_set, Array.toList_setIfInBounds, List.take_set]
theorem own_frozen {w : World} {B e s n g : Nat} {v : Value} {xs : List Value} (h : w.ownsRow B e s v n xs) (hg : v.ownBlock = some g) (i : Nat) : w.frozen? ⟨g, i, none⟩ = false := by
  obtain ⟨cur, hc⟩ := own_obj h hg
  simp [World.frozen?, hc]
theorem set_any {sb n : Nat} {bl : Int} {L : Nat → List Bk} {O : Nat → Prop} (k : Ky) (hk : k.wf) (v : Int) (w : World) (h : Tab w sb O n bl L) :
    Calls Try.prog 30 #[.pointer (some ⟨sb, 0, none⟩), .agg #[.int .i64 k.sp, .int .u64 k.va, .int .i64 k.sz], .int .i64 v] w fun e w' => e = .returned (.int .i64 (setE n L k)) ∧ TabTo w w' sb O n bl (setT n L k v) := by
  have hT := h
  obtain ⟨bm, V, h, hO⟩ := h
  have hn := h.n0
  have hgd := h.good
  have hcn := chN_lt k hn
  have hgb := getB_iff hn hgd k
  have F := FK.new h k
  have B1 : Below w.heap.size w (w.alloc (.cells #[.int .i64 k.sp, .int .u64 k.va, .int .i64 k.sz] 41)) := (Below.refl _ _).alloc (Nat.le_refl _) _
  have CF := Lib.hid (fun w h => find_any (sb := sb) (bm := bm) (n := n) (bl := bl) (L := L) (V := V) k hk w h)
  obtain ⟨x0, x1, x2⟩ := F.cells
  go_enter Try.func30, Try.ntmps30
  go_wp2_with fail
  refine (CF.out _ F.tab).mono ?_; rintro e w2 ⟨rfl, hb2⟩
  have F2 := F.call hb2
  have B2 := B1.trans (hb2.mono B1.size)
  clear F hb2 CF B1 x0 x1 x2
  have ho := F2.tab.rows _ hcn
  cases hh : hasB (L (chN k n)) k
  · have e1 := Lib.hid (show setE n L k = 10 by unfold setE; rw [hgb, hh]; rfl)
    have e2 := Lib.hid (show setT n L k v = L by unfold setT; rw [hgb, hh]; rfl)
    rw [place_no hh]
    clear hh hgb
    go_wp2_with fail
    go_ret
    exact ⟨ret_int e1.out.symm, by rw [e2.out]; exact TabTo.low hT B2⟩
  · have hok := here_ok hgd hcn hh
    have hlt := has_lt hh
    have hkey := pos_key hh
    have e1 := Lib.hid (show setE n L k = 0 by unfold setE; rw [hgb, hh]; rfl)
    have e2 := Lib.hid (show setT n L k v = setL L (chN k n) ((L (chN k n)).set (posN (L (chN k n)) k) ⟨k, v⟩) by unfold setT; rw [hgb, hh, chN_ok hok]; rfl)
    rw [place_yes hh]
    have hle := bk_few F2.tab hcn
    rcases own_form ho with ⟨hv, h0⟩ | ⟨g, cap, hv, hgb2, hnc, hcm⟩
    · omega
    · obtain ⟨y0, y1, y2, y3⟩ := own_rowC ho hgb2 hlt
      have hfz : w2.frozen? ⟨g, posN (L (chN k n)) k * 4 + 3, none⟩ = false := own_frozen ho hgb2 _
      obtain ⟨hown, hgr⟩ := own_thing ho hgb2 hlt v
      rw [hkey] at hown
      have T2 := F2.tab
      have hfin : TabTo w (w2.setCell ⟨g, posN (L (chN k n)) k * 4 + 3, none⟩ (.int .i64 v)) sb O n bl (setL L (chN k n) ((L (chN k n)).set (posN (L (chN k n)) k) ⟨k, v⟩)) := by
        have hsame : setV V (chN k n) (V (chN k n)) = V := by funext i; unfold setV; split <;> simp_all
        have hlen : lenL (setL L (chN k n) ((L (chN k n)).set (posN (L (chN k n)) k) ⟨k, v⟩)) n = lenL L n := by
          have := len_set L (chN k n) ((L (chN k n)).set (posN (L (chN k n)) k) ⟨k, v⟩) hcn
          simp at this; omega
        obtain ⟨n1, n2⟩ := T2.row_ne hcn hgb2
        refine TabAt.turned (v' := V (chN k n)) hO hcn w ?_ (fun g hg => .inl hg) ((Turn.low O B2).setCell _ (.inl ((hO g).2 (.inr (.inr ⟨_, hcn, hgb2⟩)))) _)
        refine T2.build hcn ?_ ?_ hown (fun e => ?_) (fun k h1 h2 h3 h4 => hgr.block k (T2.lt h1) (fun e => h4 (by rw [hgb2, e]))) (fun g hg => .inl hg) ?_ (by rw [hlen]; exact T2.few)
        · rw [hlen]; exact (hgr.block sb (T2.lt (.inl rfl)) (fun e => n1 (Option.some.inj e).symm)).trans T2.row
        · rw [hsame]; exact map_same T2.map (hgr.block bm (T2.lt (.inr (.inl rfl))) (fun e => n2 (Option.some.inj e).symm))
        · have := congrArg List.length e; simp at this; rw [this] at hlt; exact absurd hlt (Nat.not_lt_zero _)
        · intro b hb
          rcases mem_set hb with rfl | hb
          · exact hok
          · exact hgd _ hcn b hb
      rw [← e2.out] at hfin
      have HF := Lib.hid hfin
      rw [hv]
      clear e2 hfin hgd hT
      clear ho F2 T2 hown hgr hgb hh hkey
      generalize posN (L (chN k n)) k = j at *
      generalize L (chN k n) = l at *
      have hlt' : (j : Int) < (l.length : Int) := by omega
      have hj0 : ¬ (j : Int) < 0 := by omega
      go_wp2_with fail
      go_ret
      exact ⟨ret_int e1.out.symm, HF.out⟩
end Go.Proofs.Ytilijnalhkeggaa.Hs
