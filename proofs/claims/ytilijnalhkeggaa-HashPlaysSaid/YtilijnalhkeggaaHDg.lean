/-
  The document's Cut of layer 11. Conditions: a table that is there; a key's numbers are those that Go's types hold.
-/
import Derived.Test.YtilijnalhkeggaaHDf
namespace Go.Proofs.Ytilijnalhkeggaa.Hs
open Fld
open Go.ChangeShapes Go.WideShapes Go.ChangeAt Go.RowKit Go.Maps
set_option maxHeartbeats 2000000
set_option maxRecDepth 100000
/-- A part of a chain appended to a list of one's own. -/
theorem p_append_at (ty : TypeId) (W : World) (B : Nat) (v : Value) (xo : Option Addr) (xc : Nat) (l m : List Bk) (ho : W.ownsRow B 73 4 v l.length (bkL l)) (hx : m = [] ∨ ∃ ad, xo = some ad ∧ ∀ j u, (bkL m)[j]? = some u → W.cell? (ad.add j) = some u) (hB : B ≤ W.heap.size) (hle : l.length + m.length ≤ 1073741824) :
    ∃ v' W', (Builtin.append_ #[58, 58] ty #[v, .slice xo m.length xc]).run Try.prog W = .ok v' W' ∧ W'.ownsRow B 73 4 v' (l ++ m).length (bkL (l ++ m)) ∧ W.grownBy W' v.ownBlock ∧ (∀ k, v'.ownBlock = some k → v.ownBlock = some k ∨ k = W.heap.size) := by
  obtain ⟨i0, hi, hz0, hz1, hz2⟩ := info_parts infoP
  by_cases hm : m = []
  · subst hm
    obtain ⟨ao, c1, rfl⟩ := own_shape3 ho
    have hc : l.length ≤ c1 := by
      rcases own_form ho with ⟨hv, h0⟩ | ⟨g, cap, hv, _, h1, _⟩
      · omega
      · cases hv; exact h1
    exact ⟨_, W, p_append0 ty ao xo _ c1 xc hc W, by simpa using ho, grown_refl _ _, fun k hk => .inl hk⟩
  · have hpos : 0 < m.length := List.length_pos_iff.2 hm
    rcases hx with h0 | ⟨ad, rfl, hnews⟩
    · exact absurd h0 hm
    obtain ⟨g2, cap2, W', hr, h2, h3, h4, _⟩ := run_append_lies (P := Try.prog) W 58 ty B 73 i0 _ 4 32 Try.underlying58 hi hz0 hz1 hz2 rfl (by decide) v l.length (bkL l) ho ad m.length xc (bkL m) (bkL_length m) hnews (bkL_one m) hpos (by unfold maxLen; omega) (by omega) hB _ rfl
    refine ⟨_, W', hr, by rw [List.length_append, bkL_append]; exact h2, h3, fun k hk => ?_⟩
    obtain rfl : g2 = k := by simpa [Value.ownBlock] using hk
    exact h4
theorem cells_take {w : World} {g n cap : Nat} {l : List Bk} (h : POwn w (.slice (some ⟨g, 0, none⟩) n cap) l) (p : Nat) : ∀ j u, (bkL (l.take p))[j]? = some u → w.cell? ((⟨g, 0, none⟩ : Addr).add j) = some u := fun j u hj => by
  refine h.cells rfl j u ?_
  rw [← bkL_take, List.getElem?_take] at hj
  split at hj
  · exact hj
  · cases hj
theorem cells_drop {w : World} {g n cap : Nat} {l : List Bk} (h : POwn w (.slice (some ⟨g, 0, none⟩) n cap) l) (p : Nat) : ∀ j u, (bkL (l.drop p))[j]? = some u → w.cell? ((⟨g, p * 4, none⟩ : Addr).add j) = some u := fun j u hj => by
  rw [← bkL_drop, List.getElem?_drop] at hj
  have := h.cells rfl (p * 4 + j) u hj
  rw [addr_lit] at this ⊢
  rwa [Nat.zero_add] at this
theorem tcut_any {s : Value} {n : Nat} {L : Nat → List Bk} {U : Nat → Value} (bl : Int) (k : Ky) (hk : k.wf) (w : World) (h : ChW w s n L U) :
    Calls Try.prog 35 #[.agg #[.int .i64 bl, s], .agg #[.int .i64 k.sp, .int .u64 k.va, .int .i64 k.sz]] w fun e w' => ∃ s', e = .returned (.tuple #[.agg #[.int .i64 bl, s'], .int .i64 (setE n L k)]) ∧ DocTo w w' s n U s' n (cutT n L k) := by
  obtain ⟨g, cap, rfl, hg, hnc, hcm⟩ := h.form
  have hn0 := h.n0
  have hn1 := h.n1
  have b1 : Below w.heap.size w (((w.alloc (.cells #[.int .i64 bl, .slice (some ⟨g, 0, none⟩) n cap] 27)).alloc (.cells #[.int .i64 k.sp, .int .u64 k.va, .int .i64 k.sz] 33)).alloc (.cells #[.int .i64 0, .slice none 0 0] 27)) := by (repeat (first | (with_reducible assumption) | (with_reducible exact Below.refl _ _) | (with_reducible refine lo_step ?_ (by assumption)) | (with_reducible refine lo_drew ?_) | (with_reducible refine lo_drewN ?_ _) | (with_reducible refine lo_alloc ?_ _))) 
  have D1 := DQ.new h bl k
  have CGt := Lib.hid (tget_any bl k hk _ D1.ch)
  have HH := Lib.hid h
  have HD1 := Lib.hid (And.intro b1 D1)
  cases hB : getB n L k
  · have e1 := Lib.hid (show setE n L k = 10 by unfold setE; rw [hB]; rfl)
    have e2 := Lib.hid (show cutT n L k = L by unfold cutT; rw [hB]; rfl)
    rw [hB] at CGt
    generalize getV n L k = gv at *
    generalize getN n L k = gn at *
    clear h D1 b1
    go_enter Try.func35, Try.ntmps35
    go_wp2_with fail
    refine CGt.out.mono ?_; rintro e w2 ⟨rfl, hb2⟩
    have D2 := HD1.out.2.low hb2
    obtain ⟨t0, t1⟩ := D2.tc
    obtain ⟨⟨r0, r1⟩, r2, r3⟩ := D2.rc
    have HF := Lib.hid (D2.fin (DocTo.id HH.out (lo_step HD1.out.1 hb2)) (by omega) bl)
    clear D2 hb2 HD1 CGt
    go_wp2_with fail
    exact bodyPost_ret (res_T rfl _ _ _ _ _ rfl HF.out.1) rfl ⟨_, ret_T e1.out.symm, by rw [e2.out]; exact HF.out.2⟩
  · obtain ⟨hh, hm, hN⟩ := get_place hB
    have hok := hk.ok hm
    have e1 := Lib.hid (show setE n L k = 0 by unfold setE; rw [hB]; rfl)
    have e2 := Lib.hid (show cutT n L k = setL L (chainN k n) ((L (chainN k n)).eraseIdx (posN (L (chainN k n)) k)) by unfold cutT; rw [hB]; rfl)
    have CC := Lib.hid (fun w => rchain_any k hok n hn0 (by omega) w)
    rw [chain_cast k hn0] at CC
    have hcn := chain_lt k hn0
    have hkey := pos_key hh
    have hlt := has_lt hh
    rw [hB, hN] at CGt
    generalize getV n L k = gv at *
    generalize chainN k n = c at *
    have hll := len_one L hcn
    have hfew := h.few
    have hset := len_set L c ((L c).eraseIdx (posN (L c) k)) hcn
    have hel := List.length_eraseIdx_le (L c) (posN (L c) k)
    have hfew2 : lenL (setL L c ((L c).eraseIdx (posN (L c) k))) n ≤ 1073741824 := by omega
    obtain ⟨v, hv⟩ : ∃ v, U c = v := ⟨_, rfl⟩
    have hcn' : (c : Int) < (n : Int) := by omega
    generalize posN (L c) k = p at *
    have HX := Lib.hid (And.intro hfew2 hv)
    have hlc : ((L c).length : Int) ≤ 1073741824 := by omega
    have hlt' : (p : Int) < ((L c).length : Int) := by omega
    clear hset hel hfew2 hv hkey hN hB h D1 b1 hh hm
    obtain ⟨l, hl⟩ : ∃ l, L c = l := ⟨_, rfl⟩
    have HL := Lib.hid hl
    rw [hl] at e2 HX hlt hll hlc hlt'
    clear hl
    go_enter Try.func35, Try.ntmps35
    go_wp2_with fail
    refine CGt.out.mono ?_; rintro e w2 ⟨rfl, hb2⟩
    have D2 := HD1.out.2.low hb2
    have b2 := lo_step HD1.out.1 hb2
    obtain ⟨t0, t1⟩ := D2.tc
    obtain ⟨k0, k1, k2⟩ := key_cells D2.kx
    have HD2 := Lib.hid (And.intro b2 D2)
    clear CGt HD1 hb2 D2 b2
    go_wp2_with fail
    refine (CC.out _).mono ?_; rintro e w3 ⟨rfl, hb3⟩
    have D3 := HD2.out.2.low hb3
    have b3 := lo_step HD2.out.1 hb3
    clear HD2 hb3 CC k0 k1 k2 t0 t1
    obtain ⟨t0, t1⟩ := D3.tc
    have hgc := D3.ch.cell hg hcn
    have hrc := D3.ch.rows c hcn
    rw [HX.out.2] at hgc hrc
    rw [HL.out] at hrc
    rcases own_form hrc with ⟨_, h0⟩ | ⟨g2, cap2, rfl, hg2b, hnc2, hcm2⟩
    · omega
    unfold maxLen at hcm2
    have htl : (l.take p).length = p := by rw [List.length_take]; omega
    obtain ⟨v4, W4, hrun, ho4, hg4, hf4⟩ := p_append_at 58 w3 w.heap.size (.slice none 0 0) (some ⟨g2, 0, none⟩) cap2 [] (l.take p) (World.ownsRow_nil _ _ _ 4) (.inr ⟨_, rfl, cells_take hrc p⟩) b3.size (by simp; omega)
    rw [htl] at hrun
    rw [List.nil_append] at ho4
    have b34 : Below w3.heap.size w3 W4 := ⟨hg4.os, hg4.tape, hg4.output, hg4.size, fun q hq => hg4.block q hq (by simp [Value.ownBlock])⟩
    have D4 := D3.low b34
    have b4 := lo_step b3 b34
    have hrc4 := own_same hrc (w' := W4.drew) (fun q hq => b34.block q (hrc.lt q hq).2)
    have hf4' : ∀ q, v4.ownBlock = some q → w3.heap.size ≤ q := fun q hq => by
      rcases hf4 q hq with e | e
      · simp [Value.ownBlock] at e
      · omega
    have hdl : (l.drop (p + 1)).length = l.length - (p + 1) := List.length_drop
    obtain ⟨ad, had⟩ : ∃ ad : Addr, ad = if cap2 = p + 1 then (⟨g2, 0, none⟩ : Addr) else ⟨g2, (p + 1) * 4, none⟩ := ⟨_, rfl⟩
    obtain ⟨v5, W5, hrun5, ho5, hg5, hf5⟩ := p_append_at 58 W4.drew w.heap.size v4 (some ad) (cap2 - (p + 1)) (l.take p) (l.drop (p + 1)) (own_same ho4 (fun _ _ => rfl)) (by
      by_cases hci : cap2 = p + 1
      · exact .inl (List.eq_nil_of_length_eq_zero (by omega))
      · exact .inr ⟨ad, rfl, by rw [had, if_neg hci]; exact cells_drop hrc4 (p + 1)⟩) b4.size (by rw [htl, hdl]; omega)
    rw [hdl] at hrun5
    rw [← List.eraseIdx_eq_take_drop_succ] at ho5
    have D5 : DQ W5 w.heap.size bl (.slice (some ⟨g, 0, none⟩) n cap) n L U (w.heap.size + 1) k (w.heap.size + 1 + 1) := by
      have keep : ∀ {q : Nat} {o : Obj}, w3.heap[q]? = some o → W5.heap[q]? = w3.heap[q]? := fun {q o} hq => by
        have h1 := (Array.getElem?_eq_some_iff.1 hq).1
        have h2 := b34.size
        exact (hg5.block q (by show q < W4.heap.size; omega) (fun e => by have := hf4' q e.symm; omega)).trans (b34.block q h1)
      exact ⟨D3.ch.same (fun q hq => by obtain ⟨cur, ty, h1, _⟩ := D3.ch.typ hq; exact keep h1), (keep D3.tx).trans D3.tx, (keep D3.kx).trans D3.kx, (keep D3.rx).trans D3.rx⟩
    have b5 : Below w.heap.size w W5 := (lo_drew b4).grown hg5 (lo_drew b4).size (fun q hq => by have := hf4' q hq; have := b3.size; omega)
    have hf5' : ∀ q, v5.ownBlock = some q → w.heap.size ≤ q := fun q hq => by
      have h1 := b3.size
      rcases hf5 q hq with e | e
      · have := hf4' q e; omega
      · have h2 := b4.size; rw [e]; exact h2
    have CW := Lib.hid (rwith_any bl c v5 (l.eraseIdx p) W5 D5.ch hcn (own_base ho5) HX.out.1)
    obtain ⟨ao4, cap4, rfl⟩ := own_shape3 ho4
    obtain ⟨ao5, cap5, rfl⟩ := own_shape3 ho5
    have SC := Lib.hid (fun (W : World) (h : DQ W w.heap.size bl (.slice (some ⟨g, 0, none⟩) n cap) n L U (w.heap.size + 1) k (w.heap.size + 1 + 1)) => And.intro h.tc (by rw [← HX.out.2]; exact h.ch.cell hg hcn : W.cell? ⟨g, c, none⟩ = some (.slice (some ⟨g2, 0, none⟩) l.length cap2)))
    have hS4 := SC.out _ D4.drew
    have hS5 := SC.out _ D5
    obtain ⟨u0, u1⟩ := D4.tc
    have HD5 := Lib.hid (And.intro b5 (And.intro D5 hf5'))
    have HA := Lib.hid had
    rw [htl] at hrun5 hrun
    have hgl := Lib.hid (D3.ch.lt (.inl hg))
    have q0 : (0 : Int) ≤ (p : Int) := by omega
    have q1 : (p : Int) ≤ (l.length : Int) := by omega
    have q2 : (p : Int) ≤ (cap2 : Int) := by omega
    have q3 : (p : Int) + 1 ≤ (l.length : Int) := by omega
    have q4 : (0 : Int) ≤ (p : Int) + 1 := by omega
    have q5 : ((p : Int) + 1).toNat = p + 1 := by omega
    have q6 : (l.length : Int) ≤ (cap2 : Int) := by omega
    have HTL := Lib.hid htl
    clear b34 b5 ho4 hg4 hf4 D3 b3 hrc hrc4 D4 b4 hf4' hf5 hf5' hg5 ho5 D5 hdl hg2b htl
    go_wp2_with (at_builtin; refine Lib.wpList_append_run _ rfl _ _ 58 58 rfl _ _ rfl rfl _ _ hrun ?_)
    clear hrun t0 t1 hgc
    by_cases hci : cap2 = p + 1
    · have hle : l.length = p + 1 := by omega
      have ha : ad = ⟨g2, 0, none⟩ := by rw [HA.out, if_pos hci]
      rw [ha, hle, hci, Nat.sub_self] at hrun5
      subst hci
      have HLE := Lib.hid hle
      have q7 : (p : Int) + 1 ≤ (p : Int) + 1 := Int.le_refl _
      rw [hle] at hS4 hS5 SC ⊢
      clear ha hle
      refine wp_region_held_drew (S := fun w1 => (w1.cell? ⟨w.heap.size, 0, none⟩ = some (.int .i64 bl) ∧ w1.cell? ⟨w.heap.size, 1, none⟩ = some (.slice (some ⟨g, 0, none⟩) n cap)) ∧ w1.cell? ⟨g, c, none⟩ = some (.slice (some ⟨g2, 0, none⟩) (p + 1) (p + 1))) (by kernel_rfl) hS4 (fun hHeld => ?_)
      refine wpAnyH_take (i := 0) (v := ?va0) rfl (by kernel_rfl) (by kernel_rfl) (by kernel_rfl) (fun _ _ _ h => h) (Or.inl ⟨by rfl, ?ha0⟩) (by assumption) ?ra0
      case ha0 => (intro w hSw; (try dsimp only at hSw); go_simp <;> (with_reducible rfl))
      (try simp only [Act.put, List.setIfInBounds_toArray, List.set_cons_zero, List.set_cons_succ, List.getElem_toArray, List.getElem_cons_zero])
      refine wpAnyH_take (i := 1) (v := ?va1) rfl (by kernel_rfl) (by kernel_rfl) (by kernel_rfl) (fun _ _ _ h => h) (Or.inl ⟨by rfl, ?ha1⟩) (by assumption) ?ra1
      case ha1 => (intro w hSw; (try dsimp only at hSw); go_simp <;> (with_reducible rfl))
      (try simp only [Act.put, List.setIfInBounds_toArray, List.set_cons_zero, List.set_cons_succ, List.getElem_toArray, List.getElem_cons_zero, List.getElem_cons_succ])
      refine wpAnyH_take (i := 2) (v := ?va2) rfl (by kernel_rfl) (by kernel_rfl) (by kernel_rfl) (fun _ _ _ h => h) (Or.inl ⟨by rfl, ?ha2⟩) (by assumption) ?ra2
      case ha2 => (intro w hSw; (try dsimp only at hSw); go_simp <;> (with_reducible rfl))
      (try simp only [Act.put, List.setIfInBounds_toArray, List.set_cons_zero, List.set_cons_succ, List.getElem_toArray, List.getElem_cons_zero, List.getElem_cons_succ])
      refine wpAnyH_take (i := 3) (v := ?va3) rfl (by kernel_rfl) (by kernel_rfl) (by kernel_rfl) (fun _ _ _ h => h) (Or.inl ⟨by rfl, ?ha3⟩) (by assumption) ?ra3
      case ha3 => (intro w hSw; (try dsimp only at hSw); go_simp <;> (with_reducible rfl))
      (try simp only [Act.put, List.setIfInBounds_toArray, List.set_cons_zero, List.set_cons_succ, List.getElem_toArray, List.getElem_cons_zero, List.getElem_cons_succ])
      refine wpAnyH_take (i := 4) (v := ?va4) rfl (by kernel_rfl) (by kernel_rfl) (by kernel_rfl) (fun _ _ _ h => h) (Or.inl ⟨by rfl, ?ha4⟩) (by assumption) ?ra4
      case ha4 => (intro w hSw; (try dsimp only at hSw); go_simp <;> (with_reducible rfl))
      (try simp only [Act.put, List.setIfInBounds_toArray, List.set_cons_zero, List.set_cons_succ, List.getElem_toArray, List.getElem_cons_zero, List.getElem_cons_succ])
      refine wpAnyH_take (i := 5) (v := ?va5) rfl (by kernel_rfl) (by kernel_rfl) (by kernel_rfl) (fun _ _ _ h => h) (Or.inl ⟨by rfl, ?ha5⟩) (by assumption) ?ra5
      case ha5 => (intro w hSw; (try dsimp only at hSw); go_simp <;> (with_reducible rfl))
      (try simp only [Act.put, List.setIfInBounds_toArray, List.set_cons_zero, List.set_cons_succ, List.getElem_toArray, List.getElem_cons_zero, List.getElem_cons_succ])
      refine wpAnyH_take (i := 6) (v := ?va6) rfl (by kernel_rfl) (by kernel_rfl) (by kernel_rfl) (fun _ _ _ h => h) (Or.inl ⟨by rfl, ?ha6⟩) (by assumption) ?ra6
      case ha6 => (intro w hSw; (try dsimp only at hSw); go_simp <;> (with_reducible rfl))
      (try simp only [Act.put, List.setIfInBounds_toArray, List.set_cons_zero, List.set_cons_succ, List.getElem_toArray, List.getElem_cons_zero, List.getElem_cons_succ])
      refine wpAnyH_take (i := 7) (v := ?va7) rfl (by kernel_rfl) (by kernel_rfl) (by kernel_rfl) (fun _ _ _ h => h) (Or.inl ⟨by rfl, ?ha7⟩) (by assumption) ?ra7
      case ha7 => (intro w hSw; (try dsimp only at hSw); go_simp <;> (with_reducible rfl))
      (try simp only [Act.put, List.setIfInBounds_toArray, List.set_cons_zero, List.set_cons_succ, List.getElem_toArray, List.getElem_cons_zero, List.getElem_cons_succ])
      refine wpAnyH_take (i := 8) (v := ?va8) rfl (by kernel_rfl) (by kernel_rfl) (by kernel_rfl) (fun _ _ _ h => h) (Or.inl ⟨by rfl, ?ha8⟩) (by assumption) ?ra8
      case ha8 => (intro w hSw; (try dsimp only at hSw); go_simp <;> (with_reducible rfl))
      (try simp only [Act.put, List.setIfInBounds_toArray, List.set_cons_zero, List.set_cons_succ, List.getElem_toArray, List.getElem_cons_zero, List.getElem_cons_succ])
      refine wpAnyH_take (i := 9) (v := ?va9) rfl (by kernel_rfl) (by kernel_rfl) (by kernel_rfl) (fun _ _ _ h => h) (Or.inl ⟨by rfl, ?ha9⟩) (by assumption) ?ra9
      case ha9 => (intro w hSw; (try dsimp only at hSw); go_simp <;> (with_reducible rfl))
      (try simp only [Act.put, List.setIfInBounds_toArray, List.set_cons_zero, List.set_cons_succ, List.getElem_toArray, List.getElem_cons_zero, List.getElem_cons_succ])
      refine wpAnyH_ready (rs := [10]) (by kernel_rfl) (by simp) ?_
      refine AllReadyH.cons rfl (fun K hK => ?_) AllReadyH.nil
      refine step_builtin_is Builtin.append_ (fun _ _ _ _ => rfl) rfl _ _ 58 58 rfl _ _ (by simp [Act.eval]) (by simp [Act.eval]) hrun5 ?_
      refine hK.out _ _ hS5 (fun hHeld => ?_)
      clear hK K
      (try simp only [Act.put, List.setIfInBounds_toArray, List.set_cons_zero, List.set_cons_succ, List.getElem_toArray, List.getElem_cons_zero, List.getElem_cons_succ])
      refine wpAnyH_ready (rs := [11]) (by kernel_rfl) (by simp) ?_
      refine AllReadyH.cons rfl (fun K hK => ?_) AllReadyH.nil
      go_simp
      refine (CW.out).mono ?_
      rintro r w6 ⟨s6, rfl, hw6⟩
      have D6 := HD5.out.2.1.low hw6.low
      have hd := hw6.doc (w := w) (s := .slice (some ⟨g, 0, none⟩) n cap) HD5.out.2.2 HD5.out.1
      obtain ⟨g6, c6, rfl⟩ := hd.form
      obtain ⟨⟨r0, r1⟩, r2, r3⟩ := D6.rc
      have hS6 := SC.out _ D6
      have h6 := set_two D6.rx (.int .i64 bl) (.slice (some ⟨g6, 0, none⟩) n c6)
      have HF := Lib.hid (D6.fin hd (by omega) bl)
      (try go_simp)
      refine hK.out _ _ hS6 (fun hHeld => ?_)
      clear hK K
      (try simp only [Act.put, List.setIfInBounds_toArray, List.set_cons_zero, List.set_cons_succ, List.getElem_toArray, List.getElem_cons_zero, List.getElem_cons_succ])
      have hS7 : (((w6.setCell ⟨w.heap.size + 1 + 1, 0, none⟩ (.int .i64 bl)).setCell ⟨w.heap.size + 1 + 1, 1, none⟩ (.slice (some ⟨g6, 0, none⟩) n c6)).cell? ⟨w.heap.size, 0, none⟩ = some (.int .i64 bl) ∧ ((w6.setCell ⟨w.heap.size + 1 + 1, 0, none⟩ (.int .i64 bl)).setCell ⟨w.heap.size + 1 + 1, 1, none⟩ (.slice (some ⟨g6, 0, none⟩) n c6)).cell? ⟨w.heap.size, 1, none⟩ = some (.slice (some ⟨g, 0, none⟩) n cap)) ∧ ((w6.setCell ⟨w.heap.size + 1 + 1, 0, none⟩ (.int .i64 bl)).setCell ⟨w.heap.size + 1 + 1, 1, none⟩ (.slice (some ⟨g6, 0, none⟩) n c6)).cell? ⟨g, c, none⟩ = some (.slice (some ⟨g2, 0, none⟩) (p + 1) (p + 1)) := by
        have hgl2 := HH.out.lt (.inl hg)
        have t1 := t_cells ((h6.2.2 w.heap.size (by omega)).trans D6.tx)
        refine ⟨t1, ?_⟩
        have := hS6.2
        unfold World.cell? at this ⊢
        dsimp only at this ⊢
        rw [h6.2.2 g (by omega)]
        exact this
      refine wpAnyH_ready (rs := [12]) (by kernel_rfl) (by simp) ?_
      refine AllReadyH.cons rfl (fun K hK => ?_) AllReadyH.nil
      go_simp
      refine hK.out _ _ hS7 (fun hHeld => ?_)
      clear hK K
      (try simp only [Act.put, List.setIfInBounds_toArray, List.set_cons_zero, List.set_cons_succ, List.getElem_toArray, List.getElem_cons_zero, List.getElem_cons_succ])
      refine wpAnyH_take (i := 13) (v := ?va13) rfl (by kernel_rfl) (by kernel_rfl) (by kernel_rfl) (fun _ _ _ h => h) (Or.inl ⟨by rfl, ?ha13⟩) (by assumption) ?ra13
      case ha13 => (intro w hSw; (try dsimp only at hSw); go_simp <;> (with_reducible rfl))
      (try simp only [Act.put, List.setIfInBounds_toArray, List.set_cons_zero, List.set_cons_succ, List.getElem_toArray, List.getElem_cons_zero, List.getElem_cons_succ])
      refine wpAnyH_done (by kernel_rfl) ?_ _
      clear h6 hS7 hS6 D6 hd hw6 r0 r1 r2 r3
      go_wp2_with fail
      exact bodyPost_ret (res_T rfl _ _ _ _ _ rfl HF.out.1) rfl ⟨_, ret_T e1.out.symm, by rw [e2.out]; exact HF.out.2⟩
    · have ha : ad = ⟨g2, (p + 1) * 4, none⟩ := by rw [HA.out, if_neg hci]
      rw [ha] at hrun5
      have q8 : (p : Int) + 1 ≤ (cap2 : Int) := by omega
      clear ha
      refine wp_region_held_drew (S := fun w1 => (w1.cell? ⟨w.heap.size, 0, none⟩ = some (.int .i64 bl) ∧ w1.cell? ⟨w.heap.size, 1, none⟩ = some (.slice (some ⟨g, 0, none⟩) n cap)) ∧ w1.cell? ⟨g, c, none⟩ = some (.slice (some ⟨g2, 0, none⟩) l.length cap2)) (by kernel_rfl) hS4 (fun hHeld => ?_)
      refine wpAnyH_take (i := 0) (v := ?vb0) rfl (by kernel_rfl) (by kernel_rfl) (by kernel_rfl) (fun _ _ _ h => h) (Or.inl ⟨by rfl, ?hb0⟩) (by assumption) ?rb0
      case hb0 => (intro w hSw; (try dsimp only at hSw); go_simp <;> (with_reducible rfl))
      (try simp only [Act.put, List.setIfInBounds_toArray, List.set_cons_zero, List.set_cons_succ, List.getElem_toArray, List.getElem_cons_zero])
      refine wpAnyH_take (i := 1) (v := ?vb1) rfl (by kernel_rfl) (by kernel_rfl) (by kernel_rfl) (fun _ _ _ h => h) (Or.inl ⟨by rfl, ?hb1⟩) (by assumption) ?rb1
      case hb1 => (intro w hSw; (try dsimp only at hSw); go_simp <;> (with_reducible rfl))
      (try simp only [Act.put, List.setIfInBounds_toArray, List.set_cons_zero, List.set_cons_succ, List.getElem_toArray, List.getElem_cons_zero, List.getElem_cons_succ])
      refine wpAnyH_take (i := 2) (v := ?vb2) rfl (by kernel_rfl) (by kernel_rfl) (by kernel_rfl) (fun _ _ _ h => h) (Or.inl ⟨by rfl, ?hb2⟩) (by assumption) ?rb2
      case hb2 => (intro w hSw; (try dsimp only at hSw); go_simp <;> (with_reducible rfl))
      (try simp only [Act.put, List.setIfInBounds_toArray, List.set_cons_zero, List.set_cons_succ, List.getElem_toArray, List.getElem_cons_zero, List.getElem_cons_succ])
      refine wpAnyH_take (i := 3) (v := ?vb3) rfl (by kernel_rfl) (by kernel_rfl) (by kernel_rfl) (fun _ _ _ h => h) (Or.inl ⟨by rfl, ?hb3⟩) (by assumption) ?rb3
      case hb3 => (intro w hSw; (try dsimp only at hSw); go_simp <;> (with_reducible rfl))
      (try simp only [Act.put, List.setIfInBounds_toArray, List.set_cons_zero, List.set_cons_succ, List.getElem_toArray, List.getElem_cons_zero, List.getElem_cons_succ])
      refine wpAnyH_take (i := 4) (v := ?vb4) rfl (by kernel_rfl) (by kernel_rfl) (by kernel_rfl) (fun _ _ _ h => h) (Or.inl ⟨by rfl, ?hb4⟩) (by assumption) ?rb4
      case hb4 => (intro w hSw; (try dsimp only at hSw); go_simp <;> (with_reducible rfl))
      (try simp only [Act.put, List.setIfInBounds_toArray, List.set_cons_zero, List.set_cons_succ, List.getElem_toArray, List.getElem_cons_zero, List.getElem_cons_succ])
      refine wpAnyH_take (i := 5) (v := ?vb5) rfl (by kernel_rfl) (by kernel_rfl) (by kernel_rfl) (fun _ _ _ h => h) (Or.inl ⟨by rfl, ?hb5⟩) (by assumption) ?rb5
      case hb5 => (intro w hSw; (try dsimp only at hSw); go_simp <;> (with_reducible rfl))
      (try simp only [Act.put, List.setIfInBounds_toArray, List.set_cons_zero, List.set_cons_succ, List.getElem_toArray, List.getElem_cons_zero, List.getElem_cons_succ])
      refine wpAnyH_take (i := 6) (v := ?vb6) rfl (by kernel_rfl) (by kernel_rfl) (by kernel_rfl) (fun _ _ _ h => h) (Or.inl ⟨by rfl, ?hb6⟩) (by assumption) ?rb6
      case hb6 => (intro w hSw; (try dsimp only at hSw); go_simp <;> (with_reducible rfl))
      (try simp only [Act.put, List.setIfInBounds_toArray, List.set_cons_zero, List.set_cons_succ, List.getElem_toArray, List.getElem_cons_zero, List.getElem_cons_succ])
      refine wpAnyH_take (i := 7) (v := ?vb7) rfl (by kernel_rfl) (by kernel_rfl) (by kernel_rfl) (fun _ _ _ h => h) (Or.inl ⟨by rfl, ?hb7⟩) (by assumption) ?rb7
      case hb7 => (intro w hSw; (try dsimp only at hSw); go_simp <;> (with_reducible rfl))
      (try simp only [Act.put, List.setIfInBounds_toArray, List.set_cons_zero, List.set_cons_succ, List.getElem_toArray, List.getElem_cons_zero, List.getElem_cons_succ])
      refine wpAnyH_take (i := 8) (v := ?vb8) rfl (by kernel_rfl) (by kernel_rfl) (by kernel_rfl) (fun _ _ _ h => h) (Or.inl ⟨by rfl, ?hb8⟩) (by assumption) ?rb8
      case hb8 => (intro w hSw; (try dsimp only at hSw); go_simp <;> (with_reducible rfl))
      (try simp only [Act.put, List.setIfInBounds_toArray, List.set_cons_zero, List.set_cons_succ, List.getElem_toArray, List.getElem_cons_zero, List.getElem_cons_succ])
      refine wpAnyH_take (i := 9) (v := ?vb9) rfl (by kernel_rfl) (by kernel_rfl) (by kernel_rfl) (fun _ _ _ h => h) (Or.inl ⟨by rfl, ?hb9⟩) (by assumption) ?rb9
      case hb9 => (intro w hSw; (try dsimp only at hSw); go_simp <;> (with_reducible rfl))
      (try simp only [Act.put, List.setIfInBounds_toArray, List.set_cons_zero, List.set_cons_succ, List.getElem_toArray, List.getElem_cons_zero, List.getElem_cons_succ])
      refine wpAnyH_ready (rs := [10]) (by kernel_rfl) (by simp) ?_
      refine AllReadyH.cons rfl (fun K hK => ?_) AllReadyH.nil
      refine step_builtin_is Builtin.append_ (fun _ _ _ _ => rfl) rfl _ _ 58 58 rfl _ _ (by simp [Act.eval]) (by simp [Act.eval]) hrun5 ?_
      refine hK.out _ _ hS5 (fun hHeld => ?_)
      clear hK K
      (try simp only [Act.put, List.setIfInBounds_toArray, List.set_cons_zero, List.set_cons_succ, List.getElem_toArray, List.getElem_cons_zero, List.getElem_cons_succ])
      refine wpAnyH_ready (rs := [11]) (by kernel_rfl) (by simp) ?_
      refine AllReadyH.cons rfl (fun K hK => ?_) AllReadyH.nil
      go_simp
      refine (CW.out).mono ?_
      rintro r w6 ⟨s6, rfl, hw6⟩
      have D6 := HD5.out.2.1.low hw6.low
      have hd := hw6.doc (w := w) (s := .slice (some ⟨g, 0, none⟩) n cap) HD5.out.2.2 HD5.out.1
      obtain ⟨g6, c6, rfl⟩ := hd.form
      obtain ⟨⟨r0, r1⟩, r2, r3⟩ := D6.rc
      have hS6 := SC.out _ D6
      have h6 := set_two D6.rx (.int .i64 bl) (.slice (some ⟨g6, 0, none⟩) n c6)
      have HF := Lib.hid (D6.fin hd (by omega) bl)
      (try go_simp)
      refine hK.out _ _ hS6 (fun hHeld => ?_)
      clear hK K
      (try simp only [Act.put, List.setIfInBounds_toArray, List.set_cons_zero, List.set_cons_succ, List.getElem_toArray, List.getElem_cons_zero, List.getElem_cons_succ])
      have hS7 : (((w6.setCell ⟨w.heap.size + 1 + 1, 0, none⟩ (.int .i64 bl)).setCell ⟨w.heap.size + 1 + 1, 1, none⟩ (.slice (some ⟨g6, 0, none⟩) n c6)).cell? ⟨w.heap.size, 0, none⟩ = some (.int .i64 bl) ∧ ((w6.setCell ⟨w.heap.size + 1 + 1, 0, none⟩ (.int .i64 bl)).setCell ⟨w.heap.size + 1 + 1, 1, none⟩ (.slice (some ⟨g6, 0, none⟩) n c6)).cell? ⟨w.heap.size, 1, none⟩ = some (.slice (some ⟨g, 0, none⟩) n cap)) ∧ ((w6.setCell ⟨w.heap.size + 1 + 1, 0, none⟩ (.int .i64 bl)).setCell ⟨w.heap.size + 1 + 1, 1, none⟩ (.slice (some ⟨g6, 0, none⟩) n c6)).cell? ⟨g, c, none⟩ = some (.slice (some ⟨g2, 0, none⟩) l.length cap2) := by
        have hgl2 := HH.out.lt (.inl hg)
        have t1 := t_cells ((h6.2.2 w.heap.size (by omega)).trans D6.tx)
        refine ⟨t1, ?_⟩
        have := hS6.2
        unfold World.cell? at this ⊢
        dsimp only at this ⊢
        rw [h6.2.2 g (by omega)]
        exact this
      refine wpAnyH_ready (rs := [12]) (by kernel_rfl) (by simp) ?_
      refine AllReadyH.cons rfl (fun K hK => ?_) AllReadyH.nil
      go_simp
      refine hK.out _ _ hS7 (fun hHeld => ?_)
      clear hK K
      (try simp only [Act.put, List.setIfInBounds_toArray, List.set_cons_zero, List.set_cons_succ, List.getElem_toArray, List.getElem_cons_zero, List.getElem_cons_succ])
      refine wpAnyH_take (i := 13) (v := ?vb13) rfl (by kernel_rfl) (by kernel_rfl) (by kernel_rfl) (fun _ _ _ h => h) (Or.inl ⟨by rfl, ?hb13⟩) (by assumption) ?rb13
      case hb13 => (intro w hSw; (try dsimp only at hSw); go_simp <;> (with_reducible rfl))
      (try simp only [Act.put, List.setIfInBounds_toArray, List.set_cons_zero, List.set_cons_succ, List.getElem_toArray, List.getElem_cons_zero, List.getElem_cons_succ])
      refine wpAnyH_done (by kernel_rfl) ?_ _
      clear h6 hS7 hS6 D6 hd hw6 r0 r1 r2 r3
      go_wp2_with fail
      exact bodyPost_ret (res_T rfl _ _ _ _ _ rfl HF.out.1) rfl ⟨_, ret_T e1.out.symm, by rw [e2.out]; exact HF.out.2⟩
end Go.Proofs.Ytilijnalhkeggaa.Hs
