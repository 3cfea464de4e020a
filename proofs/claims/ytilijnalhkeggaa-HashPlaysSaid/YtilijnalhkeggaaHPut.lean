/-
  Contract of Put of package hash. Conditions: a key's numbers are those that Go's types hold; a table that is there.
-/
import Derived.Test.YtilijnalhkeggaaHCut
namespace Go.Proofs.Ytilijnalhkeggaa.Hs
open Fld
open Go.ChangeShapes Go.WideShapes Go.ChangeAt Go.RowKit Go.Maps
set_option maxHeartbeats 1000000
set_option maxRecDepth 100000
section
variable {u w : World} {sb bm n : Nat} {bl : Int} {L : Nat → List Bk} {V : Nat → Value} {hs : Nat} {k : Ky}
/-- Since u nothing but what is new. -/
structure PK (u w : World) (sb bm n : Nat) (bl : Int) (L : Nat → List Bk) (V : Nat → Value) (hs : Nat) (k : Ky) : Prop where
  fk : FK w sb bm n bl L V hs k
  lo : Below u.heap.size u w
/-- .. and a block in a box. -/
structure FB (u w : World) (sb bm n : Nat) (bl : Int) (L : Nat → List Bk) (V : Nat → Value) (hs : Nat) (k : Ky) (b : Bk) (vb : Nat) : Prop where
  pk : PK u w sb bm n bl L V hs k
  bx : w.heap[vb]? = some (.cells #[.int .i64 b.k.sp, .int .u64 b.k.va, .int .i64 b.k.sz, .int .i64 b.v] 83 (0, 0))
  ne : u.heap.size ≤ vb
/-- The row c has the block b in front. -/
structure PA (u w : World) (sb bm n : Nat) (bl : Int) (L : Nat → List Bk) (V : Nat → Value) (hs : Nat) (k : Ky) (b : Bk) (c g cap : Nat) : Prop where
  row : w.heap[sb]? = some (.cells #[.int .i64 bl, .int .i64 (lenL L n : Int), .int .i64 (n : Int), .map (some bm)] 66 (0, 0))
  box : w.heap[hs]? = some (.cells #[.int .i64 k.sp, .int .u64 k.va, .int .i64 k.sz] 41 (0, 0))
  map : ∃ D, Owns w bm (Maps.size D) D ∧ MapIs D n V ∧ Maps.size D ≤ 1073741824
  own : w.ownsRow 0 83 4 (.slice (some ⟨g, 0, none⟩) ((L c).length + 1) cap) ((L c).length + 1) (bkL (b :: L c))
  grown : u.grownBy w (V c).ownBlock
  fresh : (V c).ownBlock = some g ∨ u.heap.size ≤ g
theorem PK.call {w' : World} (h : PK u w sb bm n bl L V hs k) (hb : Below w.heap.size w w') : PK u w' sb bm n bl L V hs k := ⟨h.fk.call hb, h.lo.trans (hb.mono h.lo.size)⟩
theorem PK.five (h : PK u w sb bm n bl L V hs k) : w.cell? ⟨sb, 2, none⟩ = some (.int .i64 (n : Int)) ∧ w.cell? ⟨sb, 3, none⟩ = some (.map (some bm)) ∧ w.cell? ⟨hs, 0, none⟩ = some (.int .i64 k.sp) ∧ w.cell? ⟨hs, 1, none⟩ = some (.int .u64 k.va) ∧ w.cell? ⟨hs, 2, none⟩ = some (.int .i64 k.sz) := h.fk.four
theorem FB.new (h : PK u w sb bm n bl L V hs k) (b : Bk) : FB u (w.alloc (.cells #[.int .i64 b.k.sp, .int .u64 b.k.va, .int .i64 b.k.sz, .int .i64 b.v] 83)) sb bm n bl L V hs k b w.heap.size :=
  ⟨h.call ((Below.refl _ _).alloc (Nat.le_refl _) _), heap_alloc_new w _, h.lo.size⟩
theorem FB.call {w' : World} {b : Bk} {vb : Nat} (h : FB u w sb bm n bl L V hs k b vb) (hb : Below w.heap.size w w') : FB u w' sb bm n bl L V hs k b vb :=
  ⟨h.pk.call hb, (hb.block _ (Array.getElem?_eq_some_iff.1 h.bx).1).trans h.bx, h.ne⟩
theorem PA.call {w' : World} {b : Bk} {c g cap : Nat} (h : PA u w sb bm n bl L V hs k b c g cap) (hb : Below w.heap.size w w') : PA u w' sb bm n bl L V hs k b c g cap := by
  obtain ⟨D, ho, hm, hs'⟩ := h.map
  refine ⟨(hb.block _ (Array.getElem?_eq_some_iff.1 h.row).1).trans h.row, (hb.block _ (Array.getElem?_eq_some_iff.1 h.box).1).trans h.box, ?_, own_same h.own (fun q hq => ?_), ⟨hb.os.trans h.grown.os, hb.tape.trans h.grown.tape, hb.output.trans h.grown.output, Nat.le_trans h.grown.size hb.size, fun q hq hne => (hb.block q (Nat.lt_of_lt_of_le hq h.grown.size)).trans (h.grown.block q hq hne)⟩, h.fresh⟩
  · obtain ⟨es, clock, h1, h2⟩ := ho
    exact ⟨D, ⟨es, clock, (hb.block _ (Array.getElem?_eq_some_iff.1 h1).1).trans h1, h2⟩, hm, hs'⟩
  · obtain ⟨cur, hc⟩ := own_obj h.own hq
    exact hb.block q (Array.getElem?_eq_some_iff.1 hc).1
theorem PA.five {b : Bk} {c g cap : Nat} (h : PA u w sb bm n bl L V hs k b c g cap) : w.cell? ⟨sb, 2, none⟩ = some (.int .i64 (n : Int)) ∧ w.cell? ⟨sb, 3, none⟩ = some (.map (some bm)) ∧ w.cell? ⟨hs, 0, none⟩ = some (.int .i64 k.sp) ∧ w.cell? ⟨hs, 1, none⟩ = some (.int .u64 k.va) ∧ w.cell? ⟨hs, 2, none⟩ = some (.int .i64 k.sz) := by
  have h1 := h.row; have h2 := h.box
  exact ⟨by simp [World.cell?, h1], by simp [World.cell?, h1], by simp [World.cell?, h2], by simp [World.cell?, h2], by simp [World.cell?, h2]⟩
/-- .. and the map tells of it. -/
structure PZ (u w : World) (sb bm n : Nat) (bl : Int) (L : Nat → List Bk) (V : Nat → Value) (hs : Nat) (k : Ky) (b : Bk) (c g cap : Nat) : Prop where
  row : w.heap[sb]? = some (.cells #[.int .i64 bl, .int .i64 (lenL L n : Int), .int .i64 (n : Int), .map (some bm)] 66 (0, 0))
  box : w.heap[hs]? = some (.cells #[.int .i64 k.sp, .int .u64 k.va, .int .i64 k.sz] 41 (0, 0))
  map : ∃ D, Owns w bm (Maps.size D) D ∧ MapIs D n (setV V c (.slice (some ⟨g, 0, none⟩) ((L c).length + 1) cap))
  own : w.ownsRow 0 83 4 (.slice (some ⟨g, 0, none⟩) ((L c).length + 1) cap) ((L c).length + 1) (bkL (b :: L c))
  os : w.os = u.os
  tape : w.tape = u.tape
  output : w.output = u.output
  size : u.heap.size ≤ w.heap.size
  block : ∀ q, q < u.heap.size → q ≠ bm → some q ≠ (V c).ownBlock → w.heap[q]? = u.heap[q]?
  fresh : (V c).ownBlock = some g ∨ u.heap.size ≤ g
theorem PZ.five {b : Bk} {c g cap : Nat} (h : PZ u w sb bm n bl L V hs k b c g cap) : w.cell? ⟨sb, 2, none⟩ = some (.int .i64 (n : Int)) ∧ w.cell? ⟨sb, 3, none⟩ = some (.map (some bm)) ∧ w.cell? ⟨hs, 0, none⟩ = some (.int .i64 k.sp) ∧ w.cell? ⟨hs, 1, none⟩ = some (.int .u64 k.va) ∧ w.cell? ⟨hs, 2, none⟩ = some (.int .i64 k.sz) := by
  have h1 := h.row; have h2 := h.box
  exact ⟨by simp [World.cell?, h1], by simp [World.cell?, h1], by simp [World.cell?, h2], by simp [World.cell?, h2], by simp [World.cell?, h2]⟩
theorem PA.store {b : Bk} {c g cap : Nat} (h : PA u w sb bm n bl L V hs k b c g cap) (hc : c < n) (hn : n ≤ 9223372036854775807) (hu : TabAt u sb bm n bl L V) (hbs : bm ≠ hs) :
    ∃ W', (Instr.mapUpdate 64 (.map (some bm)) (.int .i64 (c : Int)) (.slice (some ⟨g, 0, none⟩) ((L c).length + 1) cap)).run Try.prog w = .ok () W' ∧ PZ u W' sb bm n bl L V hs k b c g cap := by
  obtain ⟨W', hr, hm, hg⟩ := map_store h.map hc hn (v := .slice (some ⟨g, 0, none⟩) ((L c).length + 1) cap) (fun e => by cases e) rfl
  have hb := hu.bm_ne
  refine ⟨W', hr, (hg.block sb (Array.getElem?_eq_some_iff.1 h.row).1 (fun e => hb (Option.some.inj e).symm)).trans h.row, (hg.block hs (Array.getElem?_eq_some_iff.1 h.box).1 (fun e => hbs (Option.some.inj e).symm)).trans h.box, hm, own_same h.own (fun q hq => ?_), hg.os.trans h.grown.os, hg.tape.trans h.grown.tape, hg.output.trans h.grown.output, Nat.le_trans h.grown.size hg.size, fun q hq h1 h2 => (hg.block q (Nat.lt_of_lt_of_le hq h.grown.size) (fun e => h1 (Option.some.inj e))).trans (h.grown.block q hq h2), h.fresh⟩
  obtain ⟨cur, hcq⟩ := own_obj h.own hq
  refine hg.block q (Array.getElem?_eq_some_iff.1 hcq).1 (fun e => ?_)
  obtain rfl := Option.some.inj e
  obtain ⟨D, ⟨es, clock, h1, _⟩, _⟩ := h.map
  rw [h1] at hcq; cases hcq
theorem FB.ins {b : Bk} {vb c : Nat} (h : FB u w sb bm n bl L V hs k b vb) (hu : TabAt u sb bm n bl L V) (hc : c < n) (hne : ∀ i g, i < n → (V i).ownBlock = some g → g ≠ hs) :
    Calls Try.prog 47 #[V c, .int .i64 0, .slice (some ⟨vb, 0, none⟩) 1 1] w fun e w' =>
      ∃ g cap, e = .returned (.slice (some ⟨g, 0, none⟩) ((L c).length + 1) cap) ∧ PA u w' sb bm n bl L V hs k b c g cap := by
  have T := h.pk.fk.tab
  refine (insert_any b vb (L c) (V c) w (T.rows c hc) (T.nil c hc) (bk_few T hc) h.bx (fun g hg => ?_)).mono ?_
  · have := hu.lt (.inr (.inr ⟨c, hc, hg⟩)); have := h.ne; omega
  · rintro e w' ⟨g, cap, rfl, ho, hg, hat⟩
    have hlo := h.pk.lo
    have n1 : ∀ q, (V c).ownBlock = some q → q ≠ sb ∧ q ≠ bm := fun q hq => T.row_ne hc hq
    refine ⟨g, cap, rfl, (hg.block sb (T.lt (.inl rfl)) (fun e => (n1 sb e.symm).1 rfl)).trans T.row, (hg.block hs h.pk.fk.lt (fun e => hne c hs hc e.symm rfl)).trans h.pk.fk.box, ?_, ho, ⟨hg.os.trans hlo.os, hg.tape.trans hlo.tape, hg.output.trans hlo.output, Nat.le_trans hlo.size hg.size, fun q hq hqne => (hg.block q (Nat.lt_of_lt_of_le hq hlo.size) hqne).trans (hlo.block q hq)⟩, hat.imp id (Nat.le_trans hlo.size)⟩
    obtain ⟨D, ⟨es, clock, h1, h2⟩, hm⟩ := T.map
    have hb := hg.block bm (T.lt (.inr (.inl rfl))) (fun e => (n1 bm e.symm).2 rfl)
    exact ⟨D, ⟨es, clock, hb.trans h1, h2⟩, hm, T.msize ⟨es, clock, h1, h2⟩ hm⟩
end
theorem put_any {sb n : Nat} {bl : Int} {L : Nat → List Bk} {O : Nat → Prop} (k : Ky) (hk : k.wf) (v : Int) (w : World) (h : Tab w sb O n bl L) :
    Calls Try.prog 20 #[.pointer (some ⟨sb, 0, none⟩), .agg #[.int .i64 k.sp, .int .u64 k.va, .int .i64 k.sz], .int .i64 v] w fun e w' => e = .returned (.int .i64 (putE bl n L k)) ∧ TabTo w w' sb O n bl (putT bl n L k v) := by
  have hT := h
  obtain ⟨bm, V, h, hO⟩ := h
  have hn := h.n0
  have hn1 := h.n1
  have hgd := h.good
  have hne : ∀ i g, i < n → (V i).ownBlock = some g → g ≠ w.heap.size := fun i g hi hg => by
    have := h.lt (.inr (.inr ⟨i, hi, hg⟩)); omega
  have hbs : bm ≠ w.heap.size := by have := h.lt (.inr (.inl rfl)); omega
  have F := FK.new h k
  have B1 : Below w.heap.size w (w.alloc (.cells #[.int .i64 k.sp, .int .u64 k.va, .int .i64 k.sz] 41)) := (Below.refl _ _).alloc (Nat.le_refl _) _
  obtain ⟨x0, x1, x2⟩ := F.cells
  cases hm : kmayB k
  · have e1 := Lib.hid (show putE bl n L k = 1 by unfold putE; rw [hm]; rfl)
    have e2 := Lib.hid (show putT bl n L k v = L by unfold putT putE; rw [hm]; rfl)
    clear h hgd
    go_enter Try.func20, Try.ntmps20
    go_wp2_with (first | (go_at_call 17; refine (kmay_any k hk _).mono ?_; rintro e w1 ⟨rfl, hb1⟩; rw [hm]))
    go_ret
    exact ⟨ret_int e1.out.symm, by rw [e2.out]; exact TabTo.low hT (B1.trans (hb1.mono (by simp)))⟩
  · have hok := hk.ok hm
    have hcn := chain_lt k hn
    have CF := Lib.hid (fun w h => find_any (sb := sb) (bm := bm) (n := n) (bl := bl) (L := L) (V := V) k hk w h)
    rw [chN_ok hok] at CF
    go_enter Try.func20, Try.ntmps20
    go_wp2_with fail
    refine (kmay_any k hk _).mono ?_; rintro e w1 ⟨rfl, hb1⟩; rw [hm]
    have F1 := F.call hb1
    have B2 := B1.trans (hb1.mono (by simp))
    obtain ⟨x0, x1, x2⟩ := F1.cells
    clear F B1 hb1
    go_wp2_with fail
    refine (CF.out _ F1.tab).mono ?_; rintro e w2 ⟨rfl, hb2⟩
    have F2 := F1.call hb2
    have B3 := B2.trans (hb2.mono B2.size)
    clear F1 hb2 CF B2 x0 x1 x2
    cases hh : hasB (L (chainN k n)) k
    · rw [place_no hh]
      have CFr := Lib.hid (free_any w2 F2.tab)
      have hfew := F2.tab.few
      have hb1 := F2.tab.b1
      by_cases hfull : bl ≤ (lenL L n : Int)
      · have e1 := Lib.hid (show putE bl n L k = 6 by unfold putE; rw [hm, hh, if_pos hfull]; rfl)
        have e2 := Lib.hid (show putT bl n L k v = L by unfold putT putE; rw [hm, hh, if_pos hfull]; rfl)
        have hz : bl - (lenL L n : Int) = 0 := by omega
        rw [hz] at CFr
        clear h hgd F2
        go_wp2_with fail
        refine CFr.out.mono ?_; rintro e w3 ⟨rfl, m, rfl⟩
        go_wp2_with fail
        go_ret
        exact ⟨ret_int e1.out.symm, by rw [e2.out]; exact TabTo.low hT (below_drewN B3 _)⟩
      · have e1 := Lib.hid (show putE bl n L k = 0 by unfold putE; rw [hm, hh, if_neg hfull]; rfl)
        have e2 := Lib.hid (show putT bl n L k v = setL L (chainN k n) (⟨k, v⟩ :: L (chainN k n)) by unfold putT putE; rw [hm, hh, if_neg hfull]; rfl)
        have hz : ¬ bl - (lenL L n : Int) = 0 := by omega
        go_wp2_with fail
        refine CFr.out.mono ?_; rintro e w3 ⟨rfl, m, rfl⟩
        go_wp2_with fail
        have CC := Lib.hid (fun w => chain_any k hk n hn hn1 w)
        rw [chI_ok hok, chain_cast k hn] at CC
        have Fm := F2.drewN m
        have B4 : Below w.heap.size w (w2.drewN m) := below_drewN B3 _
        clear F2 B3 CFr h
        generalize World.drewN w2 m = w3 at *
        have T3 := Fm.tab
        have P0 : PK w3 w3.drew sb bm n bl L V w.heap.size k := ⟨Fm.drew, (Below.refl _ w3).drew⟩
        have HC1 := Lib.hid (fun (W W' : World) (h : PK w3 W sb bm n bl L V w.heap.size k) (hb : Below W.heap.size W W') => h.call hb)
        have CCk := Lib.hid (fun (W : World) (h : PK w3 W sb bm n bl L V w.heap.size k) => (CC.out W).mono (fun e w' (q : e = _ ∧ Below _ _ w') => (⟨q.1, h.call q.2⟩ : e = _ ∧ PK w3 w' sb bm n bl L V w.heap.size k)))
        have CCb := Lib.hid (fun (W : World) (vb : Nat) (h : FB w3 W sb bm n bl L V w.heap.size k ⟨k, v⟩ vb) => (CC.out W).mono (fun e w' (q : e = _ ∧ Below _ _ w') => (⟨q.1, h.call q.2⟩ : e = _ ∧ FB w3 w' sb bm n bl L V w.heap.size k ⟨k, v⟩ vb)))
        have CCa := Lib.hid (fun (W : World) (g cap : Nat) (h : PA w3 W sb bm n bl L V w.heap.size k ⟨k, v⟩ (chainN k n) g cap) => (CC.out W).mono (fun e w' (q : e = _ ∧ Below _ _ w') => (⟨q.1, h.call q.2⟩ : e = _ ∧ PA w3 w' sb bm n bl L V w.heap.size k ⟨k, v⟩ (chainN k n) g cap)))
        have CI := Lib.hid (fun (W : World) (vb : Nat) (h : FB w3 W sb bm n bl L V w.heap.size k ⟨k, v⟩ vb) => h.ins T3 hcn hne)
        have MS := Lib.hid (fun (W : World) (g cap : Nat) (h : PA w3 W sb bm n bl L V w.heap.size k ⟨k, v⟩ (chainN k n) g cap) => h.store hcn hn1 T3 hbs)
        clear CC HC1
        have fa := P0.five
        go_region_held3 (fun w1 => w1.cell? ⟨sb, 2, none⟩ = some (.int .i64 (n : Int)) ∧ w1.cell? ⟨sb, 3, none⟩ = some (.map (some bm)) ∧ w1.cell? ⟨w.heap.size, 0, none⟩ = some (.int .i64 k.sp) ∧ w1.cell? ⟨w.heap.size, 1, none⟩ = some (.int .u64 k.va) ∧ w1.cell? ⟨w.heap.size, 2, none⟩ = some (.int .i64 k.sz))
          (first | assumption | exact PK.five P0 | exact PK.five (FB.pk (FB.new P0 ⟨k, v⟩)) | exact PK.five (FB.pk (FB.new P4 ⟨k, v⟩)))
          (first
            | (go_at_call 15; (with_reducible refine (CCk.out _ (by assumption)).mono ?_); rintro e w4 ⟨rfl, P4⟩; have Q4 := P4.five)
            | (go_at_call 15; refine (CCb.out _ _ (FB.new P0 ⟨k, v⟩)).mono ?_; rintro e w6 ⟨rfl, P6⟩; have Q6 := P6.pk.five; have P6' : FB w3 w6 sb bm n bl L V w.heap.size k ⟨k, v⟩ w3.heap.size := P6)
            | (go_at_call 15; (with_reducible refine (CCa.out _ _ _ (by assumption)).mono ?_); rintro e w7 ⟨rfl, P7⟩; have Q7 := P7.five; obtain ⟨w9, hst9, Z9⟩ := MS.out _ _ _ P7; have Q9 := Z9.five)
            | (go_at_call 47; (with_reducible refine (CI.out _ _ (by first | assumption | (refine FB.new ?_ ⟨k, v⟩; assumption))).mono ?_); rintro e w5 ⟨g, cap, rfl, P5⟩; have Q5 := P5.five; obtain ⟨w8, hst8, Z8⟩ := MS.out _ _ _ P5; have Q8 := Z8.five))
        all_goals
          have hb := T3.bm_ne
          have q1 : w8.cell? ⟨sb, 1, none⟩ = some (.int .i64 (lenL L n : Int)) := by have h1 := Z8.row; simp [World.cell?, h1]
          have q2 : w8.frozen? ⟨sb, 1, none⟩ = false := by have h1 := Z8.row; simp [World.frozen?, h1]
          have hfin : TabTo w (w8.setCell ⟨sb, 1, none⟩ (.int .i64 ((lenL L n : Int) + 1))) sb O n bl (putT bl n L k v) := by
            rw [e2.out]
            have hlen := len_set L (chainN k n) (⟨k, v⟩ :: L (chainN k n)) hcn
            have htk : (lenL (setL L (chainN k n) (⟨k, v⟩ :: L (chainN k n))) n : Int) = (lenL L n : Int) + 1 := by simp at hlen; omega
            have hfre : ∀ q, (Value.slice (some ⟨g, 0, none⟩) ((L (chainN k n)).length + 1) cap).ownBlock = some q → (V (chainN k n)).ownBlock = some q ∨ w3.heap.size ≤ q := fun q hq => by
              obtain rfl : g = q := by simpa [Value.ownBlock] using hq
              exact Z8.fresh
            have TT : Turn w w8 O := ⟨Z8.os.trans B4.os, Z8.tape.trans B4.tape, Z8.output.trans B4.output, Nat.le_trans B4.size Z8.size, fun q hq hno => (Z8.block q (Nat.lt_of_lt_of_le hq B4.size) (fun e => hno (e ▸ (hO bm).2 (.inr (.inl rfl)))) (fun e => hno ((hO q).2 (.inr (.inr ⟨_, hcn, e.symm⟩))))).trans (B4.block q hq)⟩
            refine TabAt.turned (v' := .slice (some ⟨g, 0, none⟩) ((L (chainN k n)).length + 1) cap) hO hcn w ?_ (fun q hq => (hfre q hq).imp id (Nat.le_trans B4.size)) (TT.setCell _ (.inl ((hO sb).2 (.inl rfl))) _)
            exact T3.close hcn htk (Z8.row.trans T3.row.symm) Z8.map Z8.own (fun e => by cases e) (fun q h1 h2 h3 h4 => Z8.block q (T3.lt h1) h3 (fun e => h4 e.symm)) hfre (fun b hb => by
              rcases List.mem_cons.1 hb with rfl | hb
              · exact hok
              · exact hgd _ hcn b hb) (by omega)
          have HF := Lib.hid hfin
          have E1 := e1
          clear hfin Z8 Q8 hst8 P5 Q5 T3 Fm hgd hm hh fa
          go_wp2_with fail
          go_ret
          exact ⟨ret_int E1.out.symm, HF.out⟩
    · have e1 := Lib.hid (show putE bl n L k = 9 by unfold putE; rw [hm, hh]; rfl)
      have e2 := Lib.hid (show putT bl n L k v = L by unfold putT putE; rw [hm, hh]; rfl)
      rw [place_yes hh]
      have hj0 : (0 : Int) ≤ (posN (L (chainN k n)) k : Int) := by omega
      clear h hgd F2
      go_wp2_with fail
      go_ret
      exact ⟨ret_int e1.out.symm, by rw [e2.out]; exact TabTo.low hT B3⟩
end Go.Proofs.Ytilijnalhkeggaa.Hs
