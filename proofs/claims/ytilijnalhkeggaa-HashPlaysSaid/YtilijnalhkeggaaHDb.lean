/-
  The document's Get, All and New of layer 11. Conditions: a table that is there.
-/
import Derived.Test.YtilijnalhkeggaaHDa
import Derived.Lib.MinMax
namespace Go.Proofs.Ytilijnalhkeggaa.Hs
open Fld
open Go.ChangeShapes Go.WideShapes Go.ChangeAt Go.RowKit Go.Maps
set_option maxHeartbeats 1000000
set_option maxRecDepth 100000
/-- A table and a key in boxes. -/
structure DB (w : World) (tb : Nat) (bl : Int) (s : Value) (n : Nat) (L : Nat → List Bk) (U : Nat → Value) (kb : Nat) (k : Ky) : Prop where
  ch : ChW w s n L U
  tx : w.heap[tb]? = some (.cells #[.int .i64 bl, s] 27 (0, 0))
  kx : w.heap[kb]? = some (.cells #[.int .i64 k.sp, .int .u64 k.va, .int .i64 k.sz] 33 (0, 0))
section
variable {w w' : World} {tb kb n : Nat} {bl : Int} {s : Value} {L : Nat → List Bk} {U : Nat → Value} {k : Ky}
theorem DB.low (h : DB w tb bl s n L U kb k) (hb : Below w.heap.size w w') : DB w' tb bl s n L U kb k := ⟨h.ch.low hb, blk_low h.tx hb, blk_low h.kx hb⟩
theorem DB.drew (h : DB w tb bl s n L U kb k) : DB w.drew tb bl s n L U kb k := h.low (Below.refl _ w).drew
theorem DB.drewN (h : DB w tb bl s n L U kb k) (m : Nat) : DB (w.drewN m) tb bl s n L U kb k := h.low (below_drewN (Below.refl _ w) m)
theorem DB.alloc (h : DB w tb bl s n L U kb k) (o : Obj) : DB (w.alloc o) tb bl s n L U kb k := h.low ((Below.refl _ w).alloc (Nat.le_refl _) o)
theorem DB.new (h : ChW w s n L U) (bl : Int) (k : Ky) : DB ((w.alloc (.cells #[.int .i64 bl, s] 27)).alloc (.cells #[.int .i64 k.sp, .int .u64 k.va, .int .i64 k.sz] 33)) w.heap.size bl s n L U (w.heap.size + 1) k := by
  refine ⟨(h.alloc _).alloc _, blk_low (heap_alloc_new w _) ((Below.refl _ _).alloc (Nat.le_refl _) _), ?_⟩
  have := heap_alloc_new (w.alloc (.cells #[.int .i64 bl, s] 27)) (.cells #[.int .i64 k.sp, .int .u64 k.va, .int .i64 k.sz] 33)
  rwa [World.size_alloc] at this
theorem t_cells {t : TypeId} (h : w.heap[tb]? = some (.cells #[.int .i64 bl, s] t (0, 0))) : w.cell? ⟨tb, 0, none⟩ = some (.int .i64 bl) ∧ w.cell? ⟨tb, 1, none⟩ = some s := ⟨by simp [World.cell?, h], by simp [World.cell?, h]⟩
theorem DB.sc (h : DB w tb bl s n L U kb k) {g : Nat} (hg : s.ownBlock = some g) {c : Nat} (hc : c < n) {v : Value} (hv : U c = v) : (w.cell? ⟨tb, 0, none⟩ = some (.int .i64 bl) ∧ w.cell? ⟨tb, 1, none⟩ = some s) ∧ (w.cell? ⟨kb, 0, none⟩ = some (.int .i64 k.sp) ∧ w.cell? ⟨kb, 1, none⟩ = some (.int .u64 k.va) ∧ w.cell? ⟨kb, 2, none⟩ = some (.int .i64 k.sz)) ∧ w.cell? ⟨g, c, none⟩ = some v :=
  ⟨t_cells h.tx, key_cells h.kx, by rw [← hv]; exact h.ch.cell hg hc⟩
end
theorem got_eq {a b a' b' : Int} {c c' : Bool} (h1 : a = a') (h2 : b = b') (h3 : c = c') : Ending.returned (.tuple #[.int .i64 a', .int .i64 b', .bool c']) = .returned (.tuple #[.int .i64 a, .int .i64 b, .bool c]) := by rw [h1, h2, h3]
theorem tget_any {s : Value} {n : Nat} {L : Nat → List Bk} {U : Nat → Value} (bl : Int) (k : Ky) (hk : k.wf) (w : World) (h : ChW w s n L U) :
    Calls Try.prog 37 #[.agg #[.int .i64 bl, s], .agg #[.int .i64 k.sp, .int .u64 k.va, .int .i64 k.sz]] w fun e w' => e = .returned (.tuple #[.int .i64 (getV n L k), .int .i64 (getN n L k), .bool (getB n L k)]) ∧ Below w.heap.size w w' := by
  obtain ⟨g, cap, rfl, hg, hnc, hcm⟩ := h.form
  have hn0 := h.n0
  have hn1 := h.n1
  have b1 : Below w.heap.size w ((w.alloc (.cells #[.int .i64 bl, .slice (some ⟨g, 0, none⟩) n cap] 27)).alloc (.cells #[.int .i64 k.sp, .int .u64 k.va, .int .i64 k.sz] 33)) := by (repeat (first | (with_reducible assumption) | (with_reducible exact Below.refl _ _) | (with_reducible refine lo_step ?_ (by assumption)) | (with_reducible refine lo_drew ?_) | (with_reducible refine lo_drewN ?_ _) | (with_reducible refine lo_alloc ?_ _))) 
  have D1 := DB.new h bl k
  have CM := Lib.hid (fun w => Hs.rmay_any k hk w)
  cases hm : kmayB k
  · have e1 := Lib.hid (show getV n L k = 0 by unfold getV getB; rw [hm]; rfl)
    have e2 := Lib.hid (show getN n L k = 0 by unfold getN getB; rw [hm]; rfl)
    have e3 := Lib.hid (show getB n L k = false by unfold getB; rw [hm]; rfl)
    rw [hm] at CM
    clear h D1
    go_enter Try.func37, Try.ntmps37
    go_wp2_with fail
    refine (CM.out _).mono ?_; rintro e w2 ⟨rfl, hb2⟩
    have b2 := lo_step b1 hb2
    go_wp2_with fail
    go_ret3
    exact ⟨got_eq e1.out e2.out e3.out, b2⟩
  · rw [hm] at CM
    have hok := hk.ok hm
    have CC := Lib.hid (fun w => rchain_any k hok n hn0 (by omega) w)
    rw [chain_cast k hn0] at CC
    have hcn := chain_lt k hn0
    obtain ⟨c, hc⟩ : ∃ c, c = chainN k n := ⟨_, rfl⟩
    rw [← hc] at CC hcn
    have hrow := h.rows c hcn
    have hll := len_one L hcn
    have hfew := h.few
    have hgB : getB n L k = hasB (L c) k := by unfold getB; rw [hm, ← hc]; rfl
    have HV : Hid (getV n L k = if hasB (L c) k then (at_ (L c) (posN (L c) k)).v else 0) := Lib.hid (by unfold getV; rw [hgB, ← hc])
    have HN : Hid (getN n L k = if hasB (L c) k then (posN (L c) k : Int) + 1 else ((L c).length : Int)) := Lib.hid (by unfold getN; rw [hgB, ← hc, hm]; rfl)
    have HB := Lib.hid hgB
    obtain ⟨v, hv⟩ : ∃ v, U c = v := ⟨_, rfl⟩
    have CA := Lib.hid (fun (W : World) (h : ChW W (.slice (some ⟨g, 0, none⟩) n cap) n L U) => rat_any v (L c) k W (by rw [← hv]; exact h.rows c hcn) (by omega))
    have HR := Lib.hid (fun (W : World) (h : ChW W (.slice (some ⟨g, 0, none⟩) n cap) n L U) => (by rw [← hv]; exact h.rows c hcn : POwn W v (L c)))
    have SC := Lib.hid (fun (W : World) (tb kb : Nat) (h : DB W tb bl (.slice (some ⟨g, 0, none⟩) n cap) n L U kb k) => h.sc hg hcn hv)
    have hcn' : (c : Int) < (n : Int) := by omega
    have hvs := own_form hrow
    rw [hv] at hvs
    have hHV := Lib.hid hv
    clear hv hgB hrow hc h
    go_enter Try.func37, Try.ntmps37
    go_wp2_with fail
    refine (CM.out _).mono ?_; rintro e w2 ⟨rfl, hb2⟩
    have D2 := D1.low hb2
    have b2 := lo_step b1 hb2
    have sc2 := SC.out _ _ _ D2
    have HB2 := Lib.hid (And.intro b2 D2)
    clear D1 hb2 b1 CM
    go_wp2_with fail
    go_region_held3 (fun w1 => (w1.cell? ⟨w.heap.size, 0, none⟩ = some (.int .i64 bl) ∧ w1.cell? ⟨w.heap.size, 1, none⟩ = some (.slice (some ⟨g, 0, none⟩) n cap)) ∧ (w1.cell? ⟨w.heap.size + 1, 0, none⟩ = some (.int .i64 k.sp) ∧ w1.cell? ⟨w.heap.size + 1, 1, none⟩ = some (.int .u64 k.va) ∧ w1.cell? ⟨w.heap.size + 1, 2, none⟩ = some (.int .i64 k.sz)) ∧ w1.cell? ⟨g, c, none⟩ = some v)
      ((refine SC.out _ _ _ ?_; (repeat (first | (with_reducible assumption) | (with_reducible refine DB.drew ?_) | (with_reducible refine DB.drewN ?_ _) | (with_reducible refine DB.alloc ?_ _) | (with_reducible refine DB.low ?_ (by assumption)))) ))
      (first | (go_at_call 19; (with_reducible refine (CC.out _).mono ?_); rintro r w3 ⟨rfl, hb3⟩))
    have D3 := D2.drew.low hb3
    have b3 := lo_step (lo_drew HB2.out.1) hb3
    obtain ⟨_, ⟨k0, k1, k2⟩, _⟩ := SC.out _ _ _ D3
    have hlc : ((L c).length : Int) ≤ 1073741824 := by omega
    clear sc2 D2 b2 hb3 SC CC
    go_wp2_with fail
    refine (CA.out _ D3.ch).mono ?_; rintro e w4 ⟨rfl, hb4⟩
    have b4 := lo_step b3 hb4
    have p4 := HR.out _ (D3.ch.low hb4)
    clear D3 hb4 b3 CA k0 k1 k2
    cases hh : hasB (L c) k
    · rw [hh] at HV HN HB
      have e1 := HV; have e2 := HN; have e3 := HB
      rw [place_no hh]
      obtain ⟨ao, cap2, rfl⟩ := pown_shape p4
      clear hvs p4 hHV HV HN HB hh
      go_wp2_with fail
      go_ret3
      exact ⟨got_eq e1.out e2.out e3.out, b4⟩
    · rw [hh] at HV HN HB
      have e1 := HV; have e2 := HN; have e3 := HB
      have hlt := has_lt hh
      rw [place_yes hh]
      rcases hvs with ⟨_, h0⟩ | ⟨g2, cap2, rfl, hg2, hnc2, hcm2⟩
      · omega
      obtain ⟨y0, y1, y2, y3⟩ := pown_cells p4 hg2 hlt
      unfold maxLen at hcm2
      clear p4 hHV HV HN HB hh
      generalize posN (L c) k = j at *
      generalize L c = l at *
      have hlt' : (j : Int) < (l.length : Int) := by omega
      have hj0 : ¬ (j : Int) < 0 := by omega
      go_wp2_with fail
      go_ret3
      exact ⟨got_eq e1.out e2.out e3.out, b4⟩

/-! ### Lists that are appended -/
theorem infoP : (Try.prog.info? 73).map (fun i => (i.zero, i.size, i.bytes)) = some (some (.agg #[.int .i64 0, .int .u64 0, .int .i64 0, .int .i64 0]), 4, 32) := by kernel_rfl
theorem p_append0 (ty : TypeId) (base xo : Option Addr) (n cap xc : Nat) (h : n ≤ cap) (w : World) : (Builtin.append_ #[58, 58] ty #[.slice base n cap, .slice xo 0 xc]).run Try.prog w = .ok (.slice base n cap) w := by
  obtain ⟨i0, hi, hz0, hz1, hz2⟩ := info_parts infoP
  cases base <;> cases xo <;> simp [Builtin.append_, run_underlying Try.underlying58, sizeOf, typeInfo, hi, Builtin.lenOf, h, Builtin.firstCells, storeCells, loadCells, loadCellsFrom]
theorem grown_refl (w : World) (r : Option Nat) : w.grownBy w r := ⟨rfl, rfl, rfl, Nat.le_refl _, fun _ _ _ => rfl⟩
/-- A chain appended to a list of one's own. -/
theorem p_append (ty : TypeId) (W : World) (B : Nat) (v x : Value) (l m : List Bk) (ho : W.ownsRow B 73 4 v l.length (bkL l)) (hx : POwn W x m) (hB : B ≤ W.heap.size) (hle : l.length + m.length ≤ 1073741824) :
    ∃ v' W', (Builtin.append_ #[58, 58] ty #[v, x]).run Try.prog W = .ok v' W' ∧ W'.ownsRow B 73 4 v' (l ++ m).length (bkL (l ++ m)) ∧ W.grownBy W' v.ownBlock ∧ (∀ k, v'.ownBlock = some k → v.ownBlock = some k ∨ k = W.heap.size) := by
  obtain ⟨i0, hi, hz0, hz1, hz2⟩ := info_parts infoP
  by_cases hm : m = []
  · subst hm
    obtain ⟨ao, c1, rfl⟩ := own_shape3 ho
    obtain ⟨xo, c2, rfl⟩ := own_shape3 hx
    have hc : l.length ≤ c1 := by
      rcases own_form ho with ⟨hv, h0⟩ | ⟨g, cap, hv, _, h1, _⟩
      · omega
      · cases hv; exact h1
    exact ⟨_, W, p_append0 ty ao xo _ c1 c2 hc W, by simpa using ho, grown_refl _ _, fun k hk => .inl hk⟩
  · have hpos : 0 < m.length := List.length_pos_iff.2 hm
    rcases own_form hx with ⟨_, h0⟩ | ⟨g, cap, rfl, hg, hnc, hcm⟩
    · omega
    have hnews := hx.cells hg
    obtain ⟨g2, cap2, W', hr, h2, h3, h4, _⟩ := run_append_lies (P := Try.prog) W 58 ty B 73 i0 _ 4 32 Try.underlying58 hi hz0 hz1 hz2 rfl (by decide) v l.length (bkL l) ho ⟨g, 0, none⟩ m.length cap (bkL m) (bkL_length m) hnews (bkL_one m) hpos (by unfold maxLen; omega) (by omega) hB _ rfl
    refine ⟨_, W', hr, by rw [List.length_append, bkL_append]; exact h2, h3, fun k hk => ?_⟩
    obtain rfl : g2 = k := by simpa [Value.ownBlock] using hk
    exact h4
theorem tall_any {s : Value} {n : Nat} {L : Nat → List Bk} {U : Nat → Value} (bl : Int) (w : World) (h : ChW w s n L U) :
    Calls Try.prog 28 #[.agg #[.int .i64 bl, s]] w fun e w' => ∃ v, e = .returned v ∧ w'.ownsRow w.heap.size 73 4 v (allL L n).length (bkL (allL L n)) ∧ Below w.heap.size w w' := by
  obtain ⟨g, cap, rfl, hg, hnc, hcm⟩ := h.form
  have hn1 := h.n1
  have hfew := h.few
  have b1 : Below w.heap.size w (w.alloc (.cells #[.int .i64 bl, .slice (some ⟨g, 0, none⟩) n cap] 27)) := (Below.refl _ _).alloc (Nat.le_refl _) _
  have H1 := h.alloc (.cells #[.int .i64 bl, .slice (some ⟨g, 0, none⟩) n cap] 27)
  have x1 := heap_alloc_new w (.cells #[.int .i64 bl, .slice (some ⟨g, 0, none⟩) n cap] 27)
  have s1 : (w.alloc (.cells #[.int .i64 bl, .slice (some ⟨g, 0, none⟩) n cap] 27)).heap.size = w.heap.size + 1 := by simp
  clear h
  go_enter Try.func28, Try.ntmps28
  go_wp2_with fail
  generalize World.alloc w _ = W1 at *
  go_loopw [3, 4] (fun a i wr => ∃ (j : Nat), i = .int .i64 (j : Int) ∧ j ≤ n ∧ wr.ownsRow (w.heap.size + 1) 73 4 a (allL L j).length (bkL (allL L j)) ∧ Below W1.heap.size W1 wr) (fun _ i _ => n - (RowKit.intOf i).toNat)
  case atStart => exact ⟨0, rfl, Nat.zero_le _, World.ownsRow_nil _ _ _ 4, Below.refl _ _⟩
  case round =>
    obtain ⟨j, rfl, hj, ho, hb⟩ := hrel
    obtain ⟨ao, capo, rfl⟩ := own_shape3 ho
    have hs1 := hb.size
    have y1 : wr.cell? ⟨w.heap.size, 1, none⟩ = some (.slice (some ⟨g, 0, none⟩) n cap) := by have := blk_low x1 hb; simp [World.cell?, this]
    by_cases hlt : j < n
    · have H2 := H1.low hb
      have hc := H2.cell hg hlt
      have hle := len_le L (show j + 1 ≤ n by omega)
      rw [len_succ] at hle
      have hll : (allL L j).length = lenL L j := rfl
      obtain ⟨v', W', hrun, ho', hg', hfre⟩ := p_append 58 wr (w.heap.size + 1) _ (U j) _ (L j) ho (H2.rows j hlt) (by omega) (by omega)
      have hlt' : (j : Int) < (n : Int) := by omega
      have hb' : Below W1.heap.size W1 W' := hb.grown hg' hb.size (fun q hq => by have := (ho.lt q hq).1; omega)
      have HA := Lib.hid (show allL L (j + 1) = allL L j ++ L j from rfl)
      obtain ⟨ao2, cap2, rfl⟩ := own_shape3 ho'
      generalize U j = u at *
      have HO := Lib.hid ho'
      have HB := Lib.hid hb'
      clear H2 ho hle hll ho' hg' hfre hb' hb
      go_wp2_with (at_builtin; refine Lib.wpList_append_run _ rfl _ _ 58 58 rfl _ _ rfl rfl _ _ hrun ?_)
      go_roundw
      case rel => exact ⟨j + 1, by go_num, by omega, by rw [HA.out]; simpa only [List.length_append] using HO.out, HB.out⟩
      case measure => simp [RowKit.intOf]; omega
    · obtain rfl : n = j := by omega
      have HO := Lib.hid ho
      have HB := Lib.hid hb
      clear ho hb
      go_wp2_with fail
      go_ret
      refine ⟨_, rfl, ⟨HO.out.1, ?_⟩, b1.trans (HB.out.mono (by omega))⟩
      rcases HO.out.2 with hn | ⟨q, cq, cur, a, b, c⟩
      · exact .inl hn
      · exact .inr ⟨q, cq, cur, a, by omega, c⟩
end Go.Proofs.Ytilijnalhkeggaa.Hs
