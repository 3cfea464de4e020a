/-
  Contract of Cut of package hash. Conditions: a key's numbers are those that Go's types hold; a table that is there.
-/
import Derived.Test.YtilijnalhkeggaaHSet
namespace Go.Proofs.Ytilijnalhkeggaa.Hs
open Fld
open Go.ChangeShapes Go.WideShapes Go.ChangeAt Go.RowKit Go.Maps
set_option maxHeartbeats 1000000
set_option maxRecDepth 100000
theorem wpList_delete_is {P : Program} (w : World) {ops : Array Oper} {rest : List Oper} {o : Oper} {a : Act} {Q : Exit → Act → World → Prop} (hgd : o.guard = none) (d s : Operand) (t t' : TypeId)
    (ho : o.op = .call { callee := .builtin .delete, args := #[d, s], argTypes := #[t, t'] }) (v u : Value) (hd : a.eval d = v) (hs : a.eval s = u) {v' : Value} {w' : World}
    (hr : (Builtin.delete_ #[t, t'] o.type #[v, u]).run P w = .ok v' w') (h : wpList P ops Q rest (a.put o.dst v') w') : wpList P ops Q (o :: rest) a w :=
  wpList_plain hgd fun _ hK => wp_builtin_run w Builtin.delete_ (fun _ _ _ _ => rfl) d s t t' ho v u hd hs hr (hK _ _ h)
theorem FK.four {w : World} {sb bm n : Nat} {bl : Int} {L : Nat → List Bk} {V : Nat → Value} {hs : Nat} {k : Ky} (h : FK w sb bm n bl L V hs k) : w.cell? ⟨sb, 2, none⟩ = some (.int .i64 (n : Int)) ∧ w.cell? ⟨sb, 3, none⟩ = some (.map (some bm)) ∧ w.cell? ⟨hs, 0, none⟩ = some (.int .i64 k.sp) ∧ w.cell? ⟨hs, 1, none⟩ = some (.int .u64 k.va) ∧ w.cell? ⟨hs, 2, none⟩ = some (.int .i64 k.sz) := by
  obtain ⟨_, _, a, b, _⟩ := h.tab.cells
  obtain ⟨d, e, f⟩ := h.cells
  exact ⟨a, b, d, e, f⟩
theorem delete_any (l : List Bk) (i : Nat) (hi : i < l.length) (g cap : Nat) (w : World) (h : w.ownsRow 0 83 4 (.slice (some ⟨g, 0, none⟩) l.length cap) l.length (bkL l)) :
    Calls Try.prog 51 #[.slice (some ⟨g, 0, none⟩) l.length cap, .int .i64 (i : Int), .int .i64 ((i : Int) + 1)] w fun e w' =>
      e = .returned (.slice (some ⟨g, 0, none⟩) (l.length - 1) cap) ∧ w'.ownsRow 0 83 4 (.slice (some ⟨g, 0, none⟩) (l.length - 1) cap) (l.eraseIdx i).length (bkL (l.eraseIdx i)) ∧ w.grownBy w' (some g) := by
  rcases h.2 with ⟨hv, _⟩ | ⟨g', cap', cur, hv, _, hg, hnc, hcm, hcs, htake⟩
  · cases hv
  · have hv' : g = g' ∧ cap = cap' := by injection hv with h1 h2 h3; injection h1 with h1; injection h1 with h1 _ _; exact ⟨h1, h3⟩
    obtain ⟨rfl, rfl⟩ := hv'
    obtain ⟨m, hm⟩ : ∃ m, l.length = m + 1 := ⟨l.length - 1, by omega⟩
    have e := List.length_eraseIdx_of_lt hi
    rw [e, hm, Nat.add_sub_cancel]
    rw [hm] at hi hnc htake
    exact delete_at l i m hm hi g cap cur w hg hcs hnc hcm htake
theorem cut_any {sb n : Nat} {bl : Int} {L : Nat → List Bk} {O : Nat → Prop} (k : Ky) (hk : k.wf) (w : World) (h : Tab w sb O n bl L) :
    Calls Try.prog 29 #[.pointer (some ⟨sb, 0, none⟩), .agg #[.int .i64 k.sp, .int .u64 k.va, .int .i64 k.sz]] w fun e w' => e = .returned (.int .i64 (setE n L k)) ∧ TabTo w w' sb O n bl (cutT n L k) := by
  have hT := h
  obtain ⟨bm, V, h, hO⟩ := h
  have hn := h.n0
  have hn1 := h.n1
  have hgd := h.good
  have hcn := chN_lt k hn
  have hgb := getB_iff hn hgd k
  have F := FK.new h k
  have B1 : Below w.heap.size w (w.alloc (.cells #[.int .i64 k.sp, .int .u64 k.va, .int .i64 k.sz] 41)) := (Below.refl _ _).alloc (Nat.le_refl _) _
  have CF := Lib.hid (fun w h => find_any (sb := sb) (bm := bm) (n := n) (bl := bl) (L := L) (V := V) k hk w h)
  have CC := Lib.hid (fun w => chain_any k hk n hn hn1 w)
  rw [chI_nat k hn] at CC
  obtain ⟨x0, x1, x2⟩ := F.cells
  go_enter Try.func29, Try.ntmps29
  go_wp2_with fail
  refine (CF.out _ F.tab).mono ?_; rintro e w2 ⟨rfl, hb2⟩
  have F2 := F.call hb2
  have B2 := B1.trans (hb2.mono B1.size)
  clear F hb2 CF B1 x0 x1 x2
  cases hh : hasB (L (chN k n)) k
  · have e1 := Lib.hid (show setE n L k = 10 by unfold setE; rw [hgb, hh]; rfl)
    have e2 := Lib.hid (show cutT n L k = L by unfold cutT; rw [hgb, hh]; rfl)
    rw [place_no hh]
    clear hh hgb
    go_wp2_with fail
    go_ret
    exact ⟨ret_int e1.out.symm, by rw [e2.out]; exact TabTo.low hT B2⟩
  · have hok := here_ok hgd hcn hh
    have hlt := has_lt hh
    have e1 := Lib.hid (show setE n L k = 0 by unfold setE; rw [hgb, hh]; rfl)
    have e2 := Lib.hid (show cutT n L k = setL L (chN k n) ((L (chN k n)).eraseIdx (posN (L (chN k n)) k)) by unfold cutT; rw [hgb, hh, chN_ok hok]; rfl)
    rw [place_yes hh]
    clear hh hgb hok hT
    have hj0 : ¬ (posN (L (chN k n)) k : Int) < 0 := by omega
    go_wp2_with fail
    have fa := F2.four
    go_region_held3 (fun w1 => w1.cell? ⟨sb, 2, none⟩ = some (.int .i64 (n : Int)) ∧ w1.cell? ⟨sb, 3, none⟩ = some (.map (some bm)) ∧ w1.cell? ⟨w.heap.size, 0, none⟩ = some (.int .i64 k.sp) ∧ w1.cell? ⟨w.heap.size, 1, none⟩ = some (.int .u64 k.va) ∧ w1.cell? ⟨w.heap.size, 2, none⟩ = some (.int .i64 k.sz))
      ((refine FK.four (L := L) (bl := bl) (V := V) ?_; repeat (first | assumption | (refine FK.drew ?_))))
      (first | (go_at_call 15; (with_reducible refine (CC.out _).mono ?_); rintro e w3 ⟨rfl, hb3⟩; have F3 := F2.drew.call hb3))
    have B3 : Below w.heap.size w w3 := B2.trans ((below_undrew hb3).mono B2.size)
    clear fa CC hb3 F2 B2
    have T3 := F3.tab
    have ho := T3.rows _ hcn
    have hle := bk_few T3 hcn
    have hlen := len_set L (chN k n) ((L (chN k n)).eraseIdx (posN (L (chN k n)) k)) hcn
    rw [List.length_eraseIdx_of_lt hlt] at hlen
    have hone := len_one L hcn
    have hfew := T3.few
    have hb1 := T3.b1
    obtain ⟨c0, c1, c2, c3, fr⟩ := T3.cells
    rcases own_form ho with ⟨hv, h0⟩ | ⟨g, cap, hv, hgb2, hnc, hcm⟩
    · omega
    · have htk : (lenL (setL L (chN k n) ((L (chN k n)).eraseIdx (posN (L (chN k n)) k))) n : Int) = (lenL L n : Int) - 1 := by omega
      have hbm := T3.bm_ne
      have HO := (hO bm).2 (.inr (.inl rfl))
      have HS := (hO sb).2 (.inl rfl)
      have hfr1 : ∀ i, w3.frozen? ⟨sb, i, none⟩ = false := fr
      by_cases hl1 : (L (chN k n)).length = 1
      · obtain ⟨w4, hr4, hm4, hg4⟩ := map_drop T3.map hcn hn1 0
        have hl2 : (L (chN k n)).eraseIdx (posN (L (chN k n)) k) = [] := List.eq_nil_of_length_eq_zero (by rw [List.length_eraseIdx_of_lt hlt]; omega)
        have hsb := hg4.block sb (T3.lt (.inl rfl)) (fun e => hbm (Option.some.inj e).symm)
        have q0 := (World.cell?_of_block (a := ⟨sb, 1, none⟩) hsb).trans c1
        have q1 := (World.frozen?_of_block (a := ⟨sb, 1, none⟩) hsb).trans (fr 1)
        have hfin : TabTo w (w4.setCell ⟨sb, 1, none⟩ (.int .i64 ((lenL L n : Int) - 1))) sb O n bl (cutT n L k) := by
          rw [e2.out, hl2]
          rw [hl2] at htk
          refine TabAt.turned (v' := nilS) hO hcn w ?_ (fun g hg => by cases hg) (((Turn.low O B3).grown hg4 (fun j hj => .inl (by cases hj; exact HO))).setCell _ (.inl HS) _)
          exact T3.close hcn htk hsb hm4 (World.ownsRow_nil w4 0 _ 4) (fun _ => rfl) (fun k h1 h2 h3 h4 => hg4.block k (T3.lt h1) (fun e => h3 (Option.some.inj e))) (fun g hg => by cases hg) (fun b hb => by cases hb) (by omega)
        have HF := Lib.hid hfin
        rw [hv, hl1]
        clear hfin hg4 hm4 hfr1 ho T3 e2 hlen htk hl2 hsb h hgd
        go_wp2_with fail
        go_ret
        exact ⟨ret_int e1.out.symm, HF.out⟩
      · rw [hv]
        rw [hv] at ho
        have CD := Lib.hid (delete_any (L (chN k n)) (posN (L (chN k n)) k) hlt g cap w3.drew (show w3.drew.ownsRow _ _ _ _ _ _ from ho))
        have hwj : IntKind.i64.wrap ((posN (L (chN k n)) k : Int) + 1) = (posN (L (chN k n)) k : Int) + 1 := by rw [IntKind.wrap_i64]; omega
        obtain ⟨n1, n2⟩ := T3.row_ne hcn hgb2
        have MS := Lib.hid (fun (w4 : World) (hg4 : w3.drew.grownBy w4 (some g)) => map_store (W := w4) (bm := bm) (n := n) (V := V) (by
          obtain ⟨D, ho, hm⟩ := map_same T3.map (hg4.block bm (T3.lt (.inr (.inl rfl))) (fun e => n2 (Option.some.inj e).symm))
          exact ⟨D, ho, hm, T3.msize (show Owns w3 bm (Maps.size D) D from by
            obtain ⟨es, clock, h1, h2⟩ := ho
            exact ⟨es, clock, (hg4.block bm (T3.lt (.inr (.inl rfl))) (fun e => n2 (Option.some.inj e).symm)).symm.trans h1, h2⟩) hm⟩) hcn hn1 (v := .slice (some ⟨g, 0, none⟩) ((L (chN k n)).length - 1) cap) (fun e => by cases e) rfl)
        go_wp2_with fail
        have QS := Lib.hid (fun (w4 : World) (hg4 : w3.drew.grownBy w4 (some g)) => (World.cell?_of_block (a := ⟨sb, 3, none⟩) (hg4.block sb (T3.lt (.inl rfl)) (fun e => n1 (Option.some.inj e).symm))).trans (show w3.drew.cell? ⟨sb, 3, none⟩ = _ from c3))
        go_region_held3 (fun w1 => w1.cell? ⟨sb, 3, none⟩ = some (.map (some bm))) (first | assumption | exact c3)
          (first | (go_at_call 51; (with_reducible refine CD.out.mono ?_); rintro e w4 ⟨rfl, ho4, hg4⟩; have q3 := QS.out w4 hg4; obtain ⟨w5, hst, hm5, hg5⟩ := MS.out w4 hg4; have q5 := (World.cell?_of_block (a := ⟨sb, 3, none⟩) (hg5.block sb (Nat.lt_of_lt_of_le (T3.lt (.inl rfl)) hg4.size) (fun e => hbm (Option.some.inj e).symm))).trans q3))
        have hsb := (hg5.block sb (Nat.lt_of_lt_of_le (T3.lt (.inl rfl)) hg4.size) (fun e => hbm (Option.some.inj e).symm)).trans (hg4.block sb (T3.lt (.inl rfl)) (fun e => n1 (Option.some.inj e).symm))
        have q0 := (World.cell?_of_block (a := ⟨sb, 1, none⟩) hsb).trans c1
        have q1 := (World.frozen?_of_block (a := ⟨sb, 1, none⟩) hsb).trans (fr 1)
        have hfin : TabTo w (w5.setCell ⟨sb, 1, none⟩ (.int .i64 ((lenL L n : Int) - 1))) sb O n bl (cutT n L k) := by
          rw [e2.out]
          have hfre : ∀ q, (Value.slice (some ⟨g, 0, none⟩) ((L (chN k n)).length - 1) cap).ownBlock = some q → (V (chN k n)).ownBlock = some q := fun q hq => by
            rw [hgb2]; exact hq
          have T4 : Turn w w4 O := ((Turn.low O B3).drew).grown hg4 (fun j hj => .inl (by cases hj; exact (hO g).2 (.inr (.inr ⟨_, hcn, hgb2⟩))))
          refine TabAt.turned (v' := .slice (some ⟨g, 0, none⟩) ((L (chN k n)).length - 1) cap) hO hcn w ?_ (fun q hq => .inl (hfre q hq)) ((T4.grown hg5 (fun j hj => .inl (by cases hj; exact HO))).setCell _ (.inl HS) _)
          refine T3.close hcn htk hsb hm5 (own_same ho4 (fun q hq => hg5.block q (by obtain ⟨cur, hc⟩ := own_obj ho4 hq; exact (Array.getElem?_eq_some_iff.1 hc).1) (fun e => by have := Option.some.inj e; subst this; exact n2 (Option.some.inj (hgb2.symm.trans (hfre _ hq)))))) (fun e => ?_) (fun q h1 h2 h3 h4 => (hg5.block q (Nat.lt_of_lt_of_le (T3.lt h1) hg4.size) (fun e => h3 (Option.some.inj e))).trans (hg4.block q (T3.lt h1) (fun e => h4 (by rw [hgb2, e])))) (fun q hq => .inl (hfre q hq)) (fun b hb => hgd _ hcn b (List.mem_of_mem_eraseIdx hb)) (by omega)
          have := congrArg List.length e
          rw [List.length_eraseIdx_of_lt hlt] at this
          simp at this; omega
        have HF := Lib.hid hfin
        clear hfin hg4 hm5 hg5 hst hfr1 ho T3 e2 hlen htk hsb h hgd ho4
        go_wp2_with fail
        go_ret
        exact ⟨ret_int e1.out.symm, HF.out⟩
end Go.Proofs.Ytilijnalhkeggaa.Hs
