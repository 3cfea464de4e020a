/-
  YtffpfceclhogoaaGreatGJ: the contracts and plain facts of several texts, laid together. Conditions: those that each theorem names.
-/
import Derived.Test.YtffpfceclhogoaaGreatGI
import Derived.Deep.CutBlock
import Derived.Deep.DeepCutAuto
namespace Go.Proofs.YtffpfceclhogoaaGreat.Hs
open Fld
open Go.ChangeShapes Go.WideShapes Go.ChangeAt Go.RowKit Go.Maps
set_option maxHeartbeats 2000000
set_option maxRecDepth 100000
/-- A part of a chain appended to a list of one's own. -/
theorem p_append_at (ty : TypeId) (W : World) (B : Nat) (v : Value) (xo : Option Addr) (xc : Nat) (l m : List Bk) (ho : W.ownsRow B 151 4 v l.length (bkL l)) (hx : m = [] ∨ ∃ ad, xo = some ad ∧ ∀ j u, (bkL m)[j]? = some u → W.cell? (ad.add j) = some u) (hB : B ≤ W.heap.size) (hle : l.length + m.length ≤ 1073741824) :
    ∃ v' W', (Builtin.append_ #[124, 124] ty #[v, .slice xo m.length xc]).run Tryz.prog W = .ok v' W' ∧ W'.ownsRow B 151 4 v' (l ++ m).length (bkL (l ++ m)) ∧ W.grownBy W' v.ownBlock ∧ (∀ k, v'.ownBlock = some k → v.ownBlock = some k ∨ k = W.heap.size) := by
  obtain ⟨i0, hi, hz0, hz1, hz2⟩ := info_parts infoP
  by_cases hm : m = []
  · subst hm
    obtain ⟨ao, c1, rfl⟩ := own_shape3 ho
    have hc : l.length ≤ c1 := by
      rcases own_form ho with ⟨hv, h0⟩ | ⟨g, cap, hv, _, h1, _⟩
      · omega
      · cases hv; exact h1
    exact ⟨_, W, p_append0 ty ao xo _ c1 xc hc W, by simpa using ho, grown_refl _ _, fun k hk => .inl hk⟩
  · have hpos : 0 < m.length := List.length_pos_iff.2 hm
    rcases hx with h0 | ⟨ad, rfl, hnews⟩
    · exact absurd h0 hm
    obtain ⟨g2, cap2, W', hr, h2, h3, h4, _⟩ := run_append_lies (P := Tryz.prog) W 124 ty B 151 i0 _ 4 32 Tryz.underlying124 hi hz0 hz1 hz2 rfl (by decide) v l.length (bkL l) ho ad m.length xc (bkL m) (bkL_length m) hnews (bkL_one m) hpos (by unfold maxLen; omega) (by omega) hB _ rfl
    refine ⟨_, W', hr, by rw [List.length_append, bkL_append]; exact h2, h3, fun k hk => ?_⟩
    obtain rfl : g2 = k := by simpa [Value.ownBlock] using hk
    exact h4
theorem cells_take {w : World} {g n cap : Nat} {l : List Bk} (h : POwn w (.slice (some ⟨g, 0, none⟩) n cap) l) (p : Nat) : ∀ j u, (bkL (l.take p))[j]? = some u → w.cell? ((⟨g, 0, none⟩ : Addr).add j) = some u := fun j u hj => by
  refine h.cells rfl j u ?_
  rw [← bkL_take, List.getElem?_take] at hj
  split at hj
  · exact hj
  · cases hj
theorem cells_drop {w : World} {g n cap : Nat} {l : List Bk} (h : POwn w (.slice (some ⟨g, 0, none⟩) n cap) l) (p : Nat) : ∀ j u, (bkL (l.drop p))[j]? = some u → w.cell? ((⟨g, p * 4, none⟩ : Addr).add j) = some u := fun j u hj => by
  rw [← bkL_drop, List.getElem?_drop] at hj
  have := h.cells rfl (p * 4 + j) u hj
  rw [addr_lit] at this ⊢
  rwa [Nat.zero_add] at this
theorem tcut_any {s : Value} {n : Nat} {L : Nat → List Bk} {U : Nat → Value} (bl : Int) (k : Ky) (hk : k.wf) (w : World) (h : ChW w s n L U) :
    Calls Tryz.prog 71 #[.agg #[.int .i64 bl, s], .agg #[.int .i64 k.sp, .int .u64 k.va, .int .i64 k.sz]] w fun e w' => ∃ s', e = .returned (.tuple #[.agg #[.int .i64 bl, s'], .int .i64 (setE n L k)]) ∧ DocTo w w' s n U s' n (cutT n L k) := by
  obtain ⟨g, cap, rfl, hg, hnc, hcm⟩ := h.form
  have hn0 := h.n0
  have hn1 := h.n1
  have b1 : Below w.heap.size w (((w.alloc (.cells #[.int .i64 bl, .slice (some ⟨g, 0, none⟩) n cap] 28)).alloc (.cells #[.int .i64 k.sp, .int .u64 k.va, .int .i64 k.sz] 114)).alloc (.cells #[.int .i64 0, .slice none 0 0] 28)) := by (repeat (first | (with_reducible assumption) | (with_reducible exact Below.refl _ _) | (with_reducible refine lo_step ?_ (by assumption)) | (with_reducible refine lo_drew ?_) | (with_reducible refine lo_drewN ?_ _) | (with_reducible refine lo_alloc ?_ _))) 
  have D1 := DQ.new h bl k
  have CGt := Lib.hid (tget_any bl k hk _ D1.ch)
  have HH := Lib.hid h
  have HD1 := Lib.hid (And.intro b1 D1)
  cases hB : getB n L k
  · have e1 := Lib.hid (show setE n L k = 10 by unfold setE; rw [hB]; rfl)
    have e2 := Lib.hid (show cutT n L k = L by unfold cutT; rw [hB]; rfl)
    rw [hB] at CGt
    generalize getV n L k = gv at *
    generalize getN n L k = gn at *
    clear h D1 b1
    go_enter Tryz.func71, Tryz.ntmps71
    go_wp2_with fail
    refine CGt.out.mono ?_; rintro e w2 ⟨rfl, hb2⟩
    have D2 := HD1.out.2.low hb2
    obtain ⟨t0, t1⟩ := D2.tc
    obtain ⟨⟨r0, r1⟩, r2, r3⟩ := D2.rc
    have HF := Lib.hid (D2.fin (DocTo.id HH.out (lo_step HD1.out.1 hb2)) (by omega) bl)
    clear D2 hb2 HD1 CGt
    go_wp2_with fail
    exact bodyPost_ret (res_T rfl _ _ _ _ _ rfl HF.out.1) rfl ⟨_, ret_T e1.out.symm, by rw [e2.out]; exact HF.out.2⟩
  · obtain ⟨hh, hm, hN⟩ := get_place hB
    have hok := hk.ok hm
    have e1 := Lib.hid (show setE n L k = 0 by unfold setE; rw [hB]; rfl)
    have e2 := Lib.hid (show cutT n L k = setL L (chainN k n) ((L (chainN k n)).eraseIdx (posN (L (chainN k n)) k)) by unfold cutT; rw [hB]; rfl)
    have CC := Lib.hid (fun w => rchain_any k hok n hn0 (by omega) w)
    rw [chain_cast k hn0] at CC
    have hcn := chain_lt k hn0
    have hkey := pos_key hh
    have hlt := has_lt hh
    rw [hB, hN] at CGt
    generalize getV n L k = gv at *
    generalize chainN k n = c at *
    have hll := len_one L hcn
    have hfew := h.few
    have hset := len_set L c ((L c).eraseIdx (posN (L c) k)) hcn
    have hel := List.length_eraseIdx_le (L c) (posN (L c) k)
    have hfew2 : lenL (setL L c ((L c).eraseIdx (posN (L c) k))) n ≤ 1073741824 := by omega
    obtain ⟨v, hv⟩ : ∃ v, U c = v := ⟨_, rfl⟩
    have hcn' : (c : Int) < (n : Int) := by omega
    generalize posN (L c) k = p at *
    have HX := Lib.hid (And.intro hfew2 hv)
    have hlc : ((L c).length : Int) ≤ 1073741824 := by omega
    have hlt' : (p : Int) < ((L c).length : Int) := by omega
    clear hset hel hfew2 hv hkey hN hB h D1 b1 hh hm
    obtain ⟨l, hl⟩ : ∃ l, L c = l := ⟨_, rfl⟩
    have HL := Lib.hid hl
    rw [hl] at e2 HX hlt hll hlc hlt'
    clear hl
    go_enter Tryz.func71, Tryz.ntmps71
    go_wp2_with fail
    refine CGt.out.mono ?_; rintro e w2 ⟨rfl, hb2⟩
    have D2 := HD1.out.2.low hb2
    have b2 := lo_step HD1.out.1 hb2
    obtain ⟨t0, t1⟩ := D2.tc
    obtain ⟨k0, k1, k2⟩ := key_cells D2.kx
    have HD2 := Lib.hid (And.intro b2 D2)
    clear CGt HD1 hb2 D2 b2
    go_wp2_with fail
    refine (CC.out _).mono ?_; rintro e w3 ⟨rfl, hb3⟩
    have D3 := HD2.out.2.low hb3
    have b3 := lo_step HD2.out.1 hb3
    clear HD2 hb3 CC k0 k1 k2 t0 t1
    obtain ⟨t0, t1⟩ := D3.tc
    have hgc := D3.ch.cell hg hcn
    have hrc := D3.ch.rows c hcn
    rw [HX.out.2] at hgc hrc
    rw [HL.out] at hrc
    rcases own_form hrc with ⟨_, h0⟩ | ⟨g2, cap2, rfl, hg2b, hnc2, hcm2⟩
    · omega
    unfold maxLen at hcm2
    have htl : (l.take p).length = p := by rw [List.length_take]; omega
    obtain ⟨v4, W4, hrun, ho4, hg4, hf4⟩ := p_append_at 124 w3 w.heap.size (.slice none 0 0) (some ⟨g2, 0, none⟩) cap2 [] (l.take p) (World.ownsRow_nil _ _ _ 4) (.inr ⟨_, rfl, cells_take hrc p⟩) b3.size (by simp; omega)
    rw [htl] at hrun
    rw [List.nil_append] at ho4
    have b34 : Below w3.heap.size w3 W4 := ⟨hg4.os, hg4.tape, hg4.output, hg4.size, fun q hq => hg4.block q hq (by simp [Value.ownBlock])⟩
    have D4 := D3.low b34
    have b4 := lo_step b3 b34
    have hrc4 := own_same hrc (w' := W4.drew) (fun q hq => b34.block q (hrc.lt q hq).2)
    have hf4' : ∀ q, v4.ownBlock = some q → w3.heap.size ≤ q := fun q hq => by
      rcases hf4 q hq with e | e
      · simp [Value.ownBlock] at e
      · omega
    have hdl : (l.drop (p + 1)).length = l.length - (p + 1) := List.length_drop
    obtain ⟨ad, had⟩ : ∃ ad : Addr, ad = if cap2 = p + 1 then (⟨g2, 0, none⟩ : Addr) else ⟨g2, (p + 1) * 4, none⟩ := ⟨_, rfl⟩
    obtain ⟨v5, W5, hrun5, ho5, hg5, hf5⟩ := p_append_at 124 W4.drew w.heap.size v4 (some ad) (cap2 - (p + 1)) (l.take p) (l.drop (p + 1)) (own_same ho4 (fun _ _ => rfl)) (by
      by_cases hci : cap2 = p + 1
      · exact .inl (List.eq_nil_of_length_eq_zero (by omega))
      · exact .inr ⟨ad, rfl, by rw [had, if_neg hci]; exact cells_drop hrc4 (p + 1)⟩) b4.size (by rw [htl, hdl]; omega)
    rw [hdl] at hrun5
    rw [← List.eraseIdx_eq_take_drop_succ] at ho5
    have D5 : DQ W5 w.heap.size bl (.slice (some ⟨g, 0, none⟩) n cap) n L U (w.heap.size + 1) k (w.heap.size + 1 + 1) := by
      have keep : ∀ {q : Nat} {o : Obj}, w3.heap[q]? = some o → W5.heap[q]? = w3.heap[q]? := fun {q o} hq => by
        have h1 := (Array.getElem?_eq_some_iff.1 hq).1
        have h2 := b34.size
        exact (hg5.block q (by show q < W4.heap.size; omega) (fun e => by have := hf4' q e.symm; omega)).trans (b34.block q h1)
      exact ⟨D3.ch.same (fun q hq => by obtain ⟨cur, ty, h1, _⟩ := D3.ch.typ hq; exact keep h1), (keep D3.tx).trans D3.tx, (keep D3.kx).trans D3.kx, (keep D3.rx).trans D3.rx⟩
    have b5 : Below w.heap.size w W5 := (lo_drew b4).grown hg5 (lo_drew b4).size (fun q hq => by have := hf4' q hq; have := b3.size; omega)
    have hf5' : ∀ q, v5.ownBlock = some q → w.heap.size ≤ q := fun q hq => by
      have h1 := b3.size
      rcases hf5 q hq with e | e
      · have := hf4' q e; omega
      · have h2 := b4.size; rw [e]; exact h2
    have CW := Lib.hid (rwith_any bl c v5 (l.eraseIdx p) W5 D5.ch hcn (own_base ho5) HX.out.1)
    obtain ⟨ao4, cap4, rfl⟩ := own_shape3 ho4
    obtain ⟨ao5, cap5, rfl⟩ := own_shape3 ho5
    have SC := Lib.hid (fun (W : World) (h : DQ W w.heap.size bl (.slice (some ⟨g, 0, none⟩) n cap) n L U (w.heap.size + 1) k (w.heap.size + 1 + 1)) => And.intro h.tc (by rw [← HX.out.2]; exact h.ch.cell hg hcn : W.cell? ⟨g, c, none⟩ = some (.slice (some ⟨g2, 0, none⟩) l.length cap2)))
    have hS4 := SC.out _ D4.drew
    have hS5 := SC.out _ D5
    obtain ⟨u0, u1⟩ := D4.tc
    have HD5 := Lib.hid (And.intro b5 (And.intro D5 hf5'))
    have HA := Lib.hid had
    rw [htl] at hrun5 hrun
    have hgl := Lib.hid (D3.ch.lt (.inl hg))
    have q0 : (0 : Int) ≤ (p : Int) := by omega
    have q1 : (p : Int) ≤ (l.length : Int) := by omega
    have q2 : (p : Int) ≤ (cap2 : Int) := by omega
    have q3 : (p : Int) + 1 ≤ (l.length : Int) := by omega
    have q4 : (0 : Int) ≤ (p : Int) + 1 := by omega
    have q5 : ((p : Int) + 1).toNat = p + 1 := by omega
    have q6 : (l.length : Int) ≤ (cap2 : Int) := by omega
    have HTL := Lib.hid htl
    clear b34 b5 ho4 hg4 hf4 D3 b3 hrc hrc4 D4 b4 hf4' hf5 hf5' hg5 ho5 D5 hdl hg2b htl
    go_wp2_with (at_builtin; refine Lib.wpList_append_run _ rfl _ _ 124 124 rfl _ _ rfl rfl _ _ hrun ?_)
    clear hrun t0 t1 hgc
    by_cases hci : cap2 = p + 1
    · have hle : l.length = p + 1 := by omega
      have ha : ad = ⟨g2, 0, none⟩ := by rw [HA.out, if_pos hci]
      rw [ha, hle, hci, Nat.sub_self] at hrun5
      subst hci
      have HLE := Lib.hid hle
      have q7 : (p : Int) + 1 ≤ (p : Int) + 1 := Int.le_refl _
      rw [hle] at hS4 hS5 SC ⊢
      clear ha hle
      refine wp_region_held_drew (S := fun w1 => (w1.cell? ⟨w.heap.size, 0, none⟩ = some (.int .i64 bl) ∧ w1.cell? ⟨w.heap.size, 1, none⟩ = some (.slice (some ⟨g, 0, none⟩) n cap)) ∧ w1.cell? ⟨g, c, none⟩ = some (.slice (some ⟨g2, 0, none⟩) (p + 1) (p + 1))) (by kernel_rfl) hS4 (fun hHeld => ?_)
      refine wpAnyH_take (i := 0) (v := ?va0) rfl (by kernel_rfl) (by kernel_rfl) (by kernel_rfl) (fun _ _ _ h => h) (Or.inl ⟨by rfl, ?ha0⟩) (by assumption) ?ra0
      case ha0 => (intro w hSw; (try dsimp only at hSw); go_simp <;> (with_reducible rfl))
      (try simp only [Act.put, List.setIfInBounds_toArray, List.set_cons_zero, List.set_cons_succ, List.getElem_toArray, List.getElem_cons_zero])
      refine wpAnyH_take (i := 1) (v := ?va1) rfl (by kernel_rfl) (by kernel_rfl) (by kernel_rfl) (fun _ _ _ h => h) (Or.inl ⟨by rfl, ?ha1⟩) (by assumption) ?ra1
      case ha1 => (intro w hSw; (try dsimp only at hSw); go_simp <;> (with_reducible rfl))
      (try simp only [Act.put, List.setIfInBounds_toArray, List.set_cons_zero, List.set_cons_succ, List.getElem_toArray, List.getElem_cons_zero, List.getElem_cons_succ])
      refine wpAnyH_take (i := 2) (v := ?va2) rfl (by kernel_rfl) (by kernel_rfl) (by kernel_rfl) (fun _ _ _ h => h) (Or.inl ⟨by rfl, ?ha2⟩) (by assumption) ?ra2
      case ha2 => (intro w hSw; (try dsimp only at hSw); go_simp <;> (with_reducible rfl))
      (try simp only [Act.put, List.setIfInBounds_toArray, List.set_cons_zero, List.set_cons_succ, List.getElem_toArray, List.getElem_cons_zero, List.getElem_cons_succ])
      refine wpAnyH_take (i := 3) (v := ?va3) rfl (by kernel_rfl) (by kernel_rfl) (by kernel_rfl) (fun _ _ _ h => h) (Or.inl ⟨by rfl, ?ha3⟩) (by assumption) ?ra3
      case ha3 => (intro w hSw; (try dsimp only at hSw); go_simp <;> (with_reducible rfl))
      (try simp only [Act.put, List.setIfInBounds_toArray, List.set_cons_zero, List.set_cons_succ, List.getElem_toArray, List.getElem_cons_zero, List.getElem_cons_succ])
      refine wpAnyH_take (i := 4) (v := ?va4) rfl (by kernel_rfl) (by kernel_rfl) (by kernel_rfl) (fun _ _ _ h => h) (Or.inl ⟨by rfl, ?ha4⟩) (by assumption) ?ra4
      case ha4 => (intro w hSw; (try dsimp only at hSw); go_simp <;> (with_reducible rfl))
      (try simp only [Act.put, List.setIfInBounds_toArray, List.set_cons_zero, List.set_cons_succ, List.getElem_toArray, List.getElem_cons_zero, List.getElem_cons_succ])
      refine wpAnyH_take (i := 5) (v := ?va5) rfl (by kernel_rfl) (by kernel_rfl) (by kernel_rfl) (fun _ _ _ h => h) (Or.inl ⟨by rfl, ?ha5⟩) (by assumption) ?ra5
      case ha5 => (intro w hSw; (try dsimp only at hSw); go_simp <;> (with_reducible rfl))
      (try simp only [Act.put, List.setIfInBounds_toArray, List.set_cons_zero, List.set_cons_succ, List.getElem_toArray, List.getElem_cons_zero, List.getElem_cons_succ])
      refine wpAnyH_take (i := 6) (v := ?va6) rfl (by kernel_rfl) (by kernel_rfl) (by kernel_rfl) (fun _ _ _ h => h) (Or.inl ⟨by rfl, ?ha6⟩) (by assumption) ?ra6
      case ha6 => (intro w hSw; (try dsimp only at hSw); go_simp <;> (with_reducible rfl))
      (try simp only [Act.put, List.setIfInBounds_toArray, List.set_cons_zero, List.set_cons_succ, List.getElem_toArray, List.getElem_cons_zero, List.getElem_cons_succ])
      refine wpAnyH_take (i := 7) (v := ?va7) rfl (by kernel_rfl) (by kernel_rfl) (by kernel_rfl) (fun _ _ _ h => h) (Or.inl ⟨by rfl, ?ha7⟩) (by assumption) ?ra7
      case ha7 => (intro w hSw; (try dsimp only at hSw); go_simp <;> (with_reducible rfl))
      (try simp only [Act.put, List.setIfInBounds_toArray, List.set_cons_zero, List.set_cons_succ, List.getElem_toArray, List.getElem_cons_zero, List.getElem_cons_succ])
      refine wpAnyH_take (i := 8) (v := ?va8) rfl (by kernel_rfl) (by kernel_rfl) (by kernel_rfl) (fun _ _ _ h => h) (Or.inl ⟨by rfl, ?ha8⟩) (by assumption) ?ra8
      case ha8 => (intro w hSw; (try dsimp only at hSw); go_simp <;> (with_reducible rfl))
      (try simp only [Act.put, List.setIfInBounds_toArray, List.set_cons_zero, List.set_cons_succ, List.getElem_toArray, List.getElem_cons_zero, List.getElem_cons_succ])
      refine wpAnyH_take (i := 9) (v := ?va9) rfl (by kernel_rfl) (by kernel_rfl) (by kernel_rfl) (fun _ _ _ h => h) (Or.inl ⟨by rfl, ?ha9⟩) (by assumption) ?ra9
      case ha9 => (intro w hSw; (try dsimp only at hSw); go_simp <;> (with_reducible rfl))
      (try simp only [Act.put, List.setIfInBounds_toArray, List.set_cons_zero, List.set_cons_succ, List.getElem_toArray, List.getElem_cons_zero, List.getElem_cons_succ])
      refine wpAnyH_ready (rs := [10]) (by kernel_rfl) (by simp) ?_
      refine AllReadyH.cons rfl (fun K hK => ?_) AllReadyH.nil
      refine step_builtin_is Builtin.append_ (fun _ _ _ _ => rfl) rfl _ _ 124 124 rfl _ _ (by simp [Act.eval]) (by simp [Act.eval]) hrun5 ?_
      refine hK.out _ _ hS5 (fun hHeld => ?_)
      clear hK K
      (try simp only [Act.put, List.setIfInBounds_toArray, List.set_cons_zero, List.set_cons_succ, List.getElem_toArray, List.getElem_cons_zero, List.getElem_cons_succ])
      refine wpAnyH_ready (rs := [11]) (by kernel_rfl) (by simp) ?_
      refine AllReadyH.cons rfl (fun K hK => ?_) AllReadyH.nil
      go_simp
      refine (CW.out).mono ?_
      rintro r w6 ⟨s6, rfl, hw6⟩
      have D6 := HD5.out.2.1.low hw6.low
      have hd := hw6.doc (w := w) (s := .slice (some ⟨g, 0, none⟩) n cap) HD5.out.2.2 HD5.out.1
      obtain ⟨g6, c6, rfl⟩ := hd.form
      obtain ⟨⟨r0, r1⟩, r2, r3⟩ := D6.rc
      have hS6 := SC.out _ D6
      have h6 := set_two D6.rx (.int .i64 bl) (.slice (some ⟨g6, 0, none⟩) n c6)
      have HF := Lib.hid (D6.fin hd (by omega) bl)
      (try go_simp)
      refine hK.out _ _ hS6 (fun hHeld => ?_)
      clear hK K
      (try simp only [Act.put, List.setIfInBounds_toArray, List.set_cons_zero, List.set_cons_succ, List.getElem_toArray, List.getElem_cons_zero, List.getElem_cons_succ])
      have hS7 : (((w6.setCell ⟨w.heap.size + 1 + 1, 0, none⟩ (.int .i64 bl)).setCell ⟨w.heap.size + 1 + 1, 1, none⟩ (.slice (some ⟨g6, 0, none⟩) n c6)).cell? ⟨w.heap.size, 0, none⟩ = some (.int .i64 bl) ∧ ((w6.setCell ⟨w.heap.size + 1 + 1, 0, none⟩ (.int .i64 bl)).setCell ⟨w.heap.size + 1 + 1, 1, none⟩ (.slice (some ⟨g6, 0, none⟩) n c6)).cell? ⟨w.heap.size, 1, none⟩ = some (.slice (some ⟨g, 0, none⟩) n cap)) ∧ ((w6.setCell ⟨w.heap.size + 1 + 1, 0, none⟩ (.int .i64 bl)).setCell ⟨w.heap.size + 1 + 1, 1, none⟩ (.slice (some ⟨g6, 0, none⟩) n c6)).cell? ⟨g, c, none⟩ = some (.slice (some ⟨g2, 0, none⟩) (p + 1) (p + 1)) := by
        have hgl2 := HH.out.lt (.inl hg)
        have t1 := t_cells ((h6.2.2 w.heap.size (by omega)).trans D6.tx)
        refine ⟨t1, ?_⟩
        have := hS6.2
        unfold World.cell? at this ⊢
        dsimp only at this ⊢
        rw [h6.2.2 g (by omega)]
        exact this
      refine wpAnyH_ready (rs := [12]) (by kernel_rfl) (by simp) ?_
      refine AllReadyH.cons rfl (fun K hK => ?_) AllReadyH.nil
      go_simp
      refine hK.out _ _ hS7 (fun hHeld => ?_)
      clear hK K
      (try simp only [Act.put, List.setIfInBounds_toArray, List.set_cons_zero, List.set_cons_succ, List.getElem_toArray, List.getElem_cons_zero, List.getElem_cons_succ])
      refine wpAnyH_take (i := 13) (v := ?va13) rfl (by kernel_rfl) (by kernel_rfl) (by kernel_rfl) (fun _ _ _ h => h) (Or.inl ⟨by rfl, ?ha13⟩) (by assumption) ?ra13
      case ha13 => (intro w hSw; (try dsimp only at hSw); go_simp <;> (with_reducible rfl))
      (try simp only [Act.put, List.setIfInBounds_toArray, List.set_cons_zero, List.set_cons_succ, List.getElem_toArray, List.getElem_cons_zero, List.getElem_cons_succ])
      refine wpAnyH_done (by kernel_rfl) ?_ _
      clear h6 hS7 hS6 D6 hd hw6 r0 r1 r2 r3
      go_wp2_with fail
      exact bodyPost_ret (res_T rfl _ _ _ _ _ rfl HF.out.1) rfl ⟨_, ret_T e1.out.symm, by rw [e2.out]; exact HF.out.2⟩
    · have ha : ad = ⟨g2, (p + 1) * 4, none⟩ := by rw [HA.out, if_neg hci]
      rw [ha] at hrun5
      have q8 : (p : Int) + 1 ≤ (cap2 : Int) := by omega
      clear ha
      refine wp_region_held_drew (S := fun w1 => (w1.cell? ⟨w.heap.size, 0, none⟩ = some (.int .i64 bl) ∧ w1.cell? ⟨w.heap.size, 1, none⟩ = some (.slice (some ⟨g, 0, none⟩) n cap)) ∧ w1.cell? ⟨g, c, none⟩ = some (.slice (some ⟨g2, 0, none⟩) l.length cap2)) (by kernel_rfl) hS4 (fun hHeld => ?_)
      refine wpAnyH_take (i := 0) (v := ?vb0) rfl (by kernel_rfl) (by kernel_rfl) (by kernel_rfl) (fun _ _ _ h => h) (Or.inl ⟨by rfl, ?hb0⟩) (by assumption) ?rb0
      case hb0 => (intro w hSw; (try dsimp only at hSw); go_simp <;> (with_reducible rfl))
      (try simp only [Act.put, List.setIfInBounds_toArray, List.set_cons_zero, List.set_cons_succ, List.getElem_toArray, List.getElem_cons_zero])
      refine wpAnyH_take (i := 1) (v := ?vb1) rfl (by kernel_rfl) (by kernel_rfl) (by kernel_rfl) (fun _ _ _ h => h) (Or.inl ⟨by rfl, ?hb1⟩) (by assumption) ?rb1
      case hb1 => (intro w hSw; (try dsimp only at hSw); go_simp <;> (with_reducible rfl))
      (try simp only [Act.put, List.setIfInBounds_toArray, List.set_cons_zero, List.set_cons_succ, List.getElem_toArray, List.getElem_cons_zero, List.getElem_cons_succ])
      refine wpAnyH_take (i := 2) (v := ?vb2) rfl (by kernel_rfl) (by kernel_rfl) (by kernel_rfl) (fun _ _ _ h => h) (Or.inl ⟨by rfl, ?hb2⟩) (by assumption) ?rb2
      case hb2 => (intro w hSw; (try dsimp only at hSw); go_simp <;> (with_reducible rfl))
      (try simp only [Act.put, List.setIfInBounds_toArray, List.set_cons_zero, List.set_cons_succ, List.getElem_toArray, List.getElem_cons_zero, List.getElem_cons_succ])
      refine wpAnyH_take (i := 3) (v := ?vb3) rfl (by kernel_rfl) (by kernel_rfl) (by kernel_rfl) (fun _ _ _ h => h) (Or.inl ⟨by rfl, ?hb3⟩) (by assumption) ?rb3
      case hb3 => (intro w hSw; (try dsimp only at hSw); go_simp <;> (with_reducible rfl))
      (try simp only [Act.put, List.setIfInBounds_toArray, List.set_cons_zero, List.set_cons_succ, List.getElem_toArray, List.getElem_cons_zero, List.getElem_cons_succ])
      refine wpAnyH_take (i := 4) (v := ?vb4) rfl (by kernel_rfl) (by kernel_rfl) (by kernel_rfl) (fun _ _ _ h => h) (Or.inl ⟨by rfl, ?hb4⟩) (by assumption) ?rb4
      case hb4 => (intro w hSw; (try dsimp only at hSw); go_simp <;> (with_reducible rfl))
      (try simp only [Act.put, List.setIfInBounds_toArray, List.set_cons_zero, List.set_cons_succ, List.getElem_toArray, List.getElem_cons_zero, List.getElem_cons_succ])
      refine wpAnyH_take (i := 5) (v := ?vb5) rfl (by kernel_rfl) (by kernel_rfl) (by kernel_rfl) (fun _ _ _ h => h) (Or.inl ⟨by rfl, ?hb5⟩) (by assumption) ?rb5
      case hb5 => (intro w hSw; (try dsimp only at hSw); go_simp <;> (with_reducible rfl))
      (try simp only [Act.put, List.setIfInBounds_toArray, List.set_cons_zero, List.set_cons_succ, List.getElem_toArray, List.getElem_cons_zero, List.getElem_cons_succ])
      refine wpAnyH_take (i := 6) (v := ?vb6) rfl (by kernel_rfl) (by kernel_rfl) (by kernel_rfl) (fun _ _ _ h => h) (Or.inl ⟨by rfl, ?hb6⟩) (by assumption) ?rb6
      case hb6 => (intro w hSw; (try dsimp only at hSw); go_simp <;> (with_reducible rfl))
      (try simp only [Act.put, List.setIfInBounds_toArray, List.set_cons_zero, List.set_cons_succ, List.getElem_toArray, List.getElem_cons_zero, List.getElem_cons_succ])
      refine wpAnyH_take (i := 7) (v := ?vb7) rfl (by kernel_rfl) (by kernel_rfl) (by kernel_rfl) (fun _ _ _ h => h) (Or.inl ⟨by rfl, ?hb7⟩) (by assumption) ?rb7
      case hb7 => (intro w hSw; (try dsimp only at hSw); go_simp <;> (with_reducible rfl))
      (try simp only [Act.put, List.setIfInBounds_toArray, List.set_cons_zero, List.set_cons_succ, List.getElem_toArray, List.getElem_cons_zero, List.getElem_cons_succ])
      refine wpAnyH_take (i := 8) (v := ?vb8) rfl (by kernel_rfl) (by kernel_rfl) (by kernel_rfl) (fun _ _ _ h => h) (Or.inl ⟨by rfl, ?hb8⟩) (by assumption) ?rb8
      case hb8 => (intro w hSw; (try dsimp only at hSw); go_simp <;> (with_reducible rfl))
      (try simp only [Act.put, List.setIfInBounds_toArray, List.set_cons_zero, List.set_cons_succ, List.getElem_toArray, List.getElem_cons_zero, List.getElem_cons_succ])
      refine wpAnyH_take (i := 9) (v := ?vb9) rfl (by kernel_rfl) (by kernel_rfl) (by kernel_rfl) (fun _ _ _ h => h) (Or.inl ⟨by rfl, ?hb9⟩) (by assumption) ?rb9
      case hb9 => (intro w hSw; (try dsimp only at hSw); go_simp <;> (with_reducible rfl))
      (try simp only [Act.put, List.setIfInBounds_toArray, List.set_cons_zero, List.set_cons_succ, List.getElem_toArray, List.getElem_cons_zero, List.getElem_cons_succ])
      refine wpAnyH_ready (rs := [10]) (by kernel_rfl) (by simp) ?_
      refine AllReadyH.cons rfl (fun K hK => ?_) AllReadyH.nil
      refine step_builtin_is Builtin.append_ (fun _ _ _ _ => rfl) rfl _ _ 124 124 rfl _ _ (by simp [Act.eval]) (by simp [Act.eval]) hrun5 ?_
      refine hK.out _ _ hS5 (fun hHeld => ?_)
      clear hK K
      (try simp only [Act.put, List.setIfInBounds_toArray, List.set_cons_zero, List.set_cons_succ, List.getElem_toArray, List.getElem_cons_zero, List.getElem_cons_succ])
      refine wpAnyH_ready (rs := [11]) (by kernel_rfl) (by simp) ?_
      refine AllReadyH.cons rfl (fun K hK => ?_) AllReadyH.nil
      go_simp
      refine (CW.out).mono ?_
      rintro r w6 ⟨s6, rfl, hw6⟩
      have D6 := HD5.out.2.1.low hw6.low
      have hd := hw6.doc (w := w) (s := .slice (some ⟨g, 0, none⟩) n cap) HD5.out.2.2 HD5.out.1
      obtain ⟨g6, c6, rfl⟩ := hd.form
      obtain ⟨⟨r0, r1⟩, r2, r3⟩ := D6.rc
      have hS6 := SC.out _ D6
      have h6 := set_two D6.rx (.int .i64 bl) (.slice (some ⟨g6, 0, none⟩) n c6)
      have HF := Lib.hid (D6.fin hd (by omega) bl)
      (try go_simp)
      refine hK.out _ _ hS6 (fun hHeld => ?_)
      clear hK K
      (try simp only [Act.put, List.setIfInBounds_toArray, List.set_cons_zero, List.set_cons_succ, List.getElem_toArray, List.getElem_cons_zero, List.getElem_cons_succ])
      have hS7 : (((w6.setCell ⟨w.heap.size + 1 + 1, 0, none⟩ (.int .i64 bl)).setCell ⟨w.heap.size + 1 + 1, 1, none⟩ (.slice (some ⟨g6, 0, none⟩) n c6)).cell? ⟨w.heap.size, 0, none⟩ = some (.int .i64 bl) ∧ ((w6.setCell ⟨w.heap.size + 1 + 1, 0, none⟩ (.int .i64 bl)).setCell ⟨w.heap.size + 1 + 1, 1, none⟩ (.slice (some ⟨g6, 0, none⟩) n c6)).cell? ⟨w.heap.size, 1, none⟩ = some (.slice (some ⟨g, 0, none⟩) n cap)) ∧ ((w6.setCell ⟨w.heap.size + 1 + 1, 0, none⟩ (.int .i64 bl)).setCell ⟨w.heap.size + 1 + 1, 1, none⟩ (.slice (some ⟨g6, 0, none⟩) n c6)).cell? ⟨g, c, none⟩ = some (.slice (some ⟨g2, 0, none⟩) l.length cap2) := by
        have hgl2 := HH.out.lt (.inl hg)
        have t1 := t_cells ((h6.2.2 w.heap.size (by omega)).trans D6.tx)
        refine ⟨t1, ?_⟩
        have := hS6.2
        unfold World.cell? at this ⊢
        dsimp only at this ⊢
        rw [h6.2.2 g (by omega)]
        exact this
      refine wpAnyH_ready (rs := [12]) (by kernel_rfl) (by simp) ?_
      refine AllReadyH.cons rfl (fun K hK => ?_) AllReadyH.nil
      go_simp
      refine hK.out _ _ hS7 (fun hHeld => ?_)
      clear hK K
      (try simp only [Act.put, List.setIfInBounds_toArray, List.set_cons_zero, List.set_cons_succ, List.getElem_toArray, List.getElem_cons_zero, List.getElem_cons_succ])
      refine wpAnyH_take (i := 13) (v := ?vb13) rfl (by kernel_rfl) (by kernel_rfl) (by kernel_rfl) (fun _ _ _ h => h) (Or.inl ⟨by rfl, ?hb13⟩) (by assumption) ?rb13
      case hb13 => (intro w hSw; (try dsimp only at hSw); go_simp <;> (with_reducible rfl))
      (try simp only [Act.put, List.setIfInBounds_toArray, List.set_cons_zero, List.set_cons_succ, List.getElem_toArray, List.getElem_cons_zero, List.getElem_cons_succ])
      refine wpAnyH_done (by kernel_rfl) ?_ _
      clear h6 hS7 hS6 D6 hd hw6 r0 r1 r2 r3
      go_wp2_with fail
      exact bodyPost_ret (res_T rfl _ _ _ _ _ rfl HF.out.1) rfl ⟨_, ret_T e1.out.symm, by rw [e2.out]; exact HF.out.2⟩
end Go.Proofs.YtffpfceclhogoaaGreat.Hs
namespace Go.Proofs.YtffpfceclhogoaaGreat.Hs
open Fld
open Go.ChangeShapes Go.WideShapes Go.ChangeAt Go.RowKit Go.Maps
set_option maxHeartbeats 2000000
set_option maxRecDepth 100000
/-- The chains of the keys from the place j on. -/
def pushL (l : List Bk) (m j : Nat) : Nat → List Bk := fun i => (l.drop j).filter (fun b => chainN b.k m == i)
theorem pushL_end (l : List Bk) (m : Nat) : pushL l m l.length = fun _ => [] := by funext i; simp [pushL]
theorem pushL_zero (L : Nat → List Bk) (n m : Nat) : pushL (allL L n) m 0 = resT L n m := by funext i; simp [pushL, resT]
theorem pushL_step {l : List Bk} {m j : Nat} (h : j < l.length) : pushL l m j = setL (pushL l m (j + 1)) (chainN (at_ l j).k m) (at_ l j :: pushL l m (j + 1) (chainN (at_ l j).k m)) := by
  have h2 : l[j] = at_ l j := by simp [at_, h]
  funext i
  unfold pushL setL
  rw [List.drop_eq_getElem_cons h, h2]
  by_cases e : i = chainN (at_ l j).k m
  · subst e; simp
  · rw [if_neg e]
    have : (chainN (at_ l j).k m == i) = false := by simpa using fun x => e x.symm
    simp [this]
theorem pushL_len {l : List Bk} {m j : Nat} (hm : 1 ≤ m) : lenL (pushL l m j) m = l.length - j := by
  rw [len_res (l.drop j) (fun b => chainN b.k m) (pushL l m j) (fun _ => rfl) m, List.filter_eq_self.2 (fun b _ => by simpa using chain_lt b.k hm), List.length_drop]
/-- Between two rounds. -/
structure DR (w0 w : World) (bl : Int) (m : Nat) (l : List Bk) (vl : Value) (B ob rb j : Nat) : Prop where
  low : Below w0.heap.size w0 w
  box : ∃ s' U', w.heap[ob]? = some (.cells #[.int .i64 bl, s'] 28 (0, 0)) ∧ ChW w s' m (pushL l m j) U' ∧ ∀ k, DocB s' m U' k → w0.heap.size ≤ k
  own : w.ownsRow B 151 4 vl l.length (bkL l)
  rx : w.heap[rb]? = some (.cells #[.int .i64 0, .slice none 0 0] 28 (0, 0))
  ob0 : w0.heap.size ≤ ob
  rb0 : w0.heap.size ≤ rb
  ne : ob ≠ rb
theorem DR.start {w0 w2 W : World} {bl : Int} {m : Nat} {l : List Bk} {vl : Value} {B ob rb q : Nat} {cur : Array Value} (hm : 1 ≤ m) (m1 : m ≤ 1000000) (b2 : Below w0.heap.size w0 w2) (hb : Below w2.heap.size w2 W) (hown : w2.ownsRow B 151 4 vl l.length (bkL l)) (y1 : w2.heap[rb]? = some (.cells #[.int .i64 0, .slice none 0 0] 28 (0, 0))) (r0 : w0.heap.size ≤ rb)
    (ho : W.heap[ob]? = some (.cells #[.int .i64 bl, .slice (some ⟨q, 0, none⟩) m m] 28 (0, 0))) (hq : W.heap[q]? = some (.cells cur 124 (0, 0))) (hcl : cur.toList = (List.range m).map (fun _ => nilS)) (q0 : w2.heap.size ≤ q) (o0 : w2.heap.size ≤ ob) : DR w0 W bl m l vl B ob rb l.length := by
  have hs := b2.size
  have hrl := (Array.getElem?_eq_some_iff.1 y1).1
  refine ⟨lo_step b2 hb, ⟨_, fun _ => nilS, ho, ⟨?_, fun i _ => by rw [pushL_end]; exact World.ownsRow_nil _ _ _ 4, hm, m1, by rw [pushL_end, tlen_nil]; exact Nat.zero_le _⟩, fun k hk => ?_⟩, own_same hown (fun k hk => hb.block k (hown.lt k hk).2), blk_low y1 hb, by omega, r0, by omega⟩
  · have hsz : cur.size = m := by have := congrArg List.length hcl; simpa using this
    refine ⟨by simp, .inr ⟨q, m, cur, rfl, Nat.zero_le _, hq, Nat.le_refl _, by unfold maxLen; omega, by omega, ?_⟩⟩
    rw [hcl]; exact List.take_of_length_le (by simp)
  · rcases hk with hk | ⟨i, _, hk⟩
    · obtain rfl : q = k := by simpa [Value.ownBlock] using hk
      omega
    · cases hk
theorem DR.stay {w0 w w' : World} {bl : Int} {m : Nat} {l : List Bk} {vl : Value} {B ob rb j : Nat} (h : DR w0 w bl m l vl B ob rb j) (hb : Below w.heap.size w w') : DR w0 w' bl m l vl B ob rb j := by
  obtain ⟨s', U', x, c, u⟩ := h.box
  exact ⟨lo_step h.low hb, ⟨s', U', blk_low x hb, c.low hb, u⟩, own_same h.own (fun k hk => hb.block k (h.own.lt k hk).2), blk_low h.rx hb, h.ob0, h.rb0, h.ne⟩
theorem DR.drew {w0 w : World} {bl : Int} {m : Nat} {l : List Bk} {vl : Value} {B ob rb j : Nat} (h : DR w0 w bl m l vl B ob rb j) : DR w0 w.drew bl m l vl B ob rb j := h.stay (Below.refl _ w).drew
theorem DocTo.bel {w w' : World} {s s' : Value} {n n' : Nat} {L' : Nat → List Bk} {U : Nat → Value} (h : DocTo w w' s n U s' n' L') : Below w.heap.size w w' := by obtain ⟨_, _, _, c⟩ := h; exact c
theorem DR.put {w0 w w6 : World} {bl : Int} {m : Nat} {l : List Bk} {vl s s6 : Value} {U : Nat → Value} {L6 : Nat → List Bk} {B ob rb j : Nat} (h : DR w0 w bl m l vl B ob rb (j + 1)) (hd : DocTo w.drew w6 s m U s6 m L6) (hu : ∀ k, DocB s m U k → w0.heap.size ≤ k) (hL : L6 = pushL l m j) (h6 : DR w0 w6 bl m l vl B ob rb (j + 1)) :
    DR w0 ((w6.setCell ⟨ob, 0, none⟩ (.int .i64 bl)).setCell ⟨ob, 1, none⟩ s6) bl m l vl B ob rb j := by
  obtain ⟨s', U', x, _, _⟩ := h6.box
  have h7 := set_two x (.int .i64 bl) s6
  have hst := (doc_from hd (lo_drew h.low)).store x h7.2.2 (h7.2.1 _ h.ob0)
  obtain ⟨U6, c6, k6, b6⟩ := hst
  subst hL
  refine ⟨?_, ⟨s6, U6, h7.1, c6, fun k hk => ?_⟩, own_same h6.own (fun k hk => h7.2.2 k fun e => ?_), ?_, h.ob0, h.rb0, h.ne⟩
  · exact h6.low.trans (h7.2.1 _ h.ob0)
  · rcases k6 k hk with hk | hk
    · exact hu k hk
    · exact hk
  · obtain ⟨cur, ho⟩ := own_obj h6.own hk
    rw [e, x] at ho
    injection ho with ho
    injection ho with _ ho _
    exact absurd ho (by decide)
  · rw [h7.2.2 rb h.ne.symm]; exact h6.rx
theorem DR.cells {w0 w : World} {bl : Int} {m : Nat} {l : List Bk} {vl : Value} {B ob rb j : Nat} (h : DR w0 w bl m l vl B ob rb j) : ∃ s' : Value, (w.cell? ⟨ob, 0, none⟩ = some (.int .i64 bl) ∧ w.cell? ⟨ob, 1, none⟩ = some s') ∧ w.frozen? ⟨ob, 0, none⟩ = false ∧ w.frozen? ⟨ob, 1, none⟩ = false := by
  obtain ⟨s', U', x, _, _⟩ := h.box
  exact ⟨s', t_cells x, by simp [World.frozen?, x], by simp [World.frozen?, x]⟩
theorem DR.fin {w0 w : World} {bl : Int} {m : Nat} {l : List Bk} {vl s s0 : Value} {U U0 : Nat → Value} {L : Nat → List Bk} {n B ob rb : Nat} (h : DR w0 w bl m l vl B ob rb 0) (hl : l = allL L n) (_ : w.heap[ob]? = some (.cells #[.int .i64 bl, s] 28 (0, 0))) (c : ChW w s m (pushL l m 0) U) (u : ∀ k, DocB s m U k → w0.heap.size ≤ k) :
    ((w.setCell ⟨rb, 0, none⟩ (.int .i64 bl)).setCell ⟨rb, 1, none⟩ s).heap[rb]? = some (.cells #[.int .i64 bl, s] 28 (0, 0)) ∧ DocTo w0 ((w.setCell ⟨rb, 0, none⟩ (.int .i64 bl)).setCell ⟨rb, 1, none⟩ s) s0 n U0 s m (resT L n m) := by
  subst hl
  rw [pushL_zero] at c
  have h6 := set_two h.rx (.int .i64 bl) s
  exact ⟨h6.1, DocTo.store ⟨U, c, fun k hk => .inr (u k hk), h.low⟩ h.rx h6.2.2 (h6.2.1 w0.heap.size h.rb0)⟩
theorem tresize_no {s : Value} {n : Nat} {L : Nat → List Bk} {U : Nat → Value} (bl m : Int) (hm : m < 1) (w : World) (h : ChW w s n L U) :
    Calls Tryz.prog 74 #[.agg #[.int .i64 bl, s], .int .i64 m] w fun e w' => ∃ s', e = .returned (.tuple #[.agg #[.int .i64 bl, s'], .int .i64 1]) ∧ DocTo w w' s n U s' n L := by
  obtain ⟨g, cap, rfl, hg, hnc, hcm⟩ := h.form
  have b1 : Below w.heap.size w ((w.alloc (.cells #[.int .i64 bl, .slice (some ⟨g, 0, none⟩) n cap] 28)).alloc (.cells #[.int .i64 0, .slice none 0 0] 28)) := by (repeat (first | (with_reducible assumption) | (with_reducible exact Below.refl _ _) | (with_reducible refine lo_step ?_ (by assumption)) | (with_reducible refine lo_drew ?_) | (with_reducible refine lo_drewN ?_ _) | (with_reducible refine lo_alloc ?_ _))) 
  have x1 : ((w.alloc (.cells #[.int .i64 bl, .slice (some ⟨g, 0, none⟩) n cap] 28)).alloc (.cells #[.int .i64 bl, .slice (some ⟨g, 0, none⟩) n cap] 28)).heap[w.heap.size + 1]? = some (.cells #[.int .i64 bl, .slice (some ⟨g, 0, none⟩) n cap] 28 (0, 0)) := by
    have := heap_alloc_new (w.alloc (.cells #[.int .i64 bl, .slice (some ⟨g, 0, none⟩) n cap] 28)) (.cells #[.int .i64 bl, .slice (some ⟨g, 0, none⟩) n cap] 28)
    rwa [World.size_alloc] at this
  have HX := Lib.hid x1
  have HH := Lib.hid h
  clear h x1 b1
  go_enter Tryz.func74, Tryz.ntmps74
  go_wp2_with fail
  refine bodyPost_ret (res_T rfl _ _ _ _ _ rfl HX.out) rfl ⟨_, rfl, DocTo.id HH.out (by (repeat (first | (with_reducible assumption) | (with_reducible exact Below.refl _ _) | (with_reducible refine lo_step ?_ (by assumption)) | (with_reducible refine lo_drew ?_) | (with_reducible refine lo_drewN ?_ _) | (with_reducible refine lo_alloc ?_ _))) )⟩
theorem tresize_yes {s : Value} {n : Nat} {L : Nat → List Bk} {U : Nat → Value} (bl : Int) (m : Nat) (hm : 1 ≤ m) (m1 : m ≤ 1000000) (hg0 : Good n L) (w : World) (h : ChW w s n L U) :
    Calls Tryz.prog 74 #[.agg #[.int .i64 bl, s], .int .i64 (m : Int)] w fun e w' => ∃ s', e = .returned (.tuple #[.agg #[.int .i64 bl, s'], .int .i64 0]) ∧ DocTo w w' s n U s' m (resT L n m) := by
  obtain ⟨i, hi, hz0, hz1, hz2⟩ := info_parts infoS
  obtain ⟨g, cap, rfl, hg, hnc, hcm⟩ := h.form
  have b1 : Below w.heap.size w ((w.alloc (.cells #[.int .i64 bl, .slice (some ⟨g, 0, none⟩) n cap] 28)).alloc (.cells #[.int .i64 0, .slice none 0 0] 28)) := by (repeat (first | (with_reducible assumption) | (with_reducible exact Below.refl _ _) | (with_reducible refine lo_step ?_ (by assumption)) | (with_reducible refine lo_drew ?_) | (with_reducible refine lo_drewN ?_ _) | (with_reducible refine lo_alloc ?_ _))) 
  have x0 : ((w.alloc (.cells #[.int .i64 bl, .slice (some ⟨g, 0, none⟩) n cap] 28)).alloc (.cells #[.int .i64 0, .slice none 0 0] 28)).heap[w.heap.size]? = some (.cells #[.int .i64 bl, .slice (some ⟨g, 0, none⟩) n cap] 28 (0, 0)) := blk_low (heap_alloc_new w _) ((Below.refl _ _).alloc (Nat.le_refl _) _)
  have x1 : ((w.alloc (.cells #[.int .i64 bl, .slice (some ⟨g, 0, none⟩) n cap] 28)).alloc (.cells #[.int .i64 0, .slice none 0 0] 28)).heap[w.heap.size + 1]? = some (.cells #[.int .i64 0, .slice none 0 0] 28 (0, 0)) := by
    have := heap_alloc_new (w.alloc (.cells #[.int .i64 bl, .slice (some ⟨g, 0, none⟩) n cap] 28)) (.cells #[.int .i64 0, .slice none 0 0] 28)
    rwa [World.size_alloc] at this
  have CAl := Lib.hid (tall_any bl _ (h.low b1))
  have s1 : ((w.alloc (.cells #[.int .i64 bl, .slice (some ⟨g, 0, none⟩) n cap] 28)).alloc (.cells #[.int .i64 0, .slice none 0 0] 28)).heap.size = w.heap.size + 1 + 1 := by simp
  have hfew := h.few
  have HX := Lib.hid (And.intro b1 (And.intro x0 (And.intro x1 s1)))
  have HH := Lib.hid h
  have hm0 : ¬ (m : Int) < 1 := by omega
  clear h x0 x1 b1 s1
  go_enter Tryz.func74, Tryz.ntmps74
  go_wp2_with fail
  refine CAl.out.mono ?_; rintro e w2 ⟨vl, rfl, hown, hb2⟩
  have b2 := lo_step HX.out.1 hb2
  have y0 := blk_low HX.out.2.1 hb2
  have y1 := blk_low HX.out.2.2.1 hb2
  rw [HX.out.2.2.2] at hown
  obtain ⟨t0, t1⟩ := t_cells y0
  have hll : (allL L n).length = lenL L n := rfl
  have hgl : ∀ b ∈ allL L n, b.k.Ok := fun b hb => by obtain ⟨i, hi, hb⟩ := mem_all.1 hb; exact hg0 i hi b hb
  generalize hgn : allL L n = l at *
  have HGN := Lib.hid hgn
  clear hgn
  replace hll := Lib.hid hll
  obtain ⟨aol, capl, rfl⟩ := own_shape3 hown
  have hmk : ∀ W : World, (Instr.makeSlice 26 (.int .i64 (m : Int)) (.int .i64 (m : Int))).run Tryz.prog W = .ok (.slice (some ⟨W.heap.size, 0, none⟩) m m) (W.alloc (.cells (madeCells (Value.slice none 0 0).cells (m * 1)) 124)) := fun W => by
    have hr := run_make (P := Tryz.prog) W 26 124 i _ Tryz.underlying26 hi hz0 .i64 .i64 (m : Int) (m : Int) (by omega) (Int.le_refl _) (by rw [hz2]; omega) (by omega)
    simpa only [Int.toNat_natCast, hz1] using hr
  obtain ⟨cur, hcur⟩ : ∃ cur, cur = madeCells (Value.slice none 0 0).cells (m * 1) := ⟨_, rfl⟩
  have hcl : cur.toList = (List.range m).map (fun _ => nilS) := by rw [hcur]; exact made_slices m
  rw [← hcur] at hmk
  have HC := Lib.hid hcl
  have HY := Lib.hid (And.intro b2 (And.intro y1 hown))
  have ta := (t_cells (blk_low y0 (show Below w2.heap.size w2 (w2.alloc (.cells #[.int .i64 0, .slice none 0 0] 28)) by (repeat (first | (with_reducible assumption) | (with_reducible exact Below.refl _ _) | (with_reducible refine lo_step ?_ (by assumption)) | (with_reducible refine lo_drew ?_) | (with_reducible refine lo_drewN ?_ _) | (with_reducible refine lo_alloc ?_ _))) ))).1
  have tb := (t_cells (blk_low y0 (show Below w2.heap.size w2 (w2.alloc (.cells cur 124)) by (repeat (first | (with_reducible assumption) | (with_reducible exact Below.refl _ _) | (with_reducible refine lo_step ?_ (by assumption)) | (with_reducible refine lo_drew ?_) | (with_reducible refine lo_drewN ?_ _) | (with_reducible refine lo_alloc ?_ _))) ))).1
  have tc := (t_cells (blk_low y0 (show Below w2.heap.size w2 ((w2.alloc (.cells #[.int .i64 0, .slice none 0 0] 28)).alloc (.cells cur 124)) by (repeat (first | (with_reducible assumption) | (with_reducible exact Below.refl _ _) | (with_reducible refine lo_step ?_ (by assumption)) | (with_reducible refine lo_drew ?_) | (with_reducible refine lo_drewN ?_ _) | (with_reducible refine lo_alloc ?_ _))) ))).1
  have td := (t_cells (blk_low y0 (show Below w2.heap.size w2 ((w2.alloc (.cells cur 124)).alloc (.cells #[.int .i64 0, .slice none 0 0] 28)) by (repeat (first | (with_reducible assumption) | (with_reducible exact Below.refl _ _) | (with_reducible refine lo_step ?_ (by assumption)) | (with_reducible refine lo_drew ?_) | (with_reducible refine lo_drewN ?_ _) | (with_reducible refine lo_alloc ?_ _))) ))).1
  clear hcur hcl HX CAl hb2 b2 y0 y1 hown hi hz0 hz1 hz2
  go_wp2_with fail
  go_cut [7] (fun o wx => ∃ ob, o = .pointer (some ⟨ob, 0, none⟩) ∧ DR w wx bl m l (.slice aol l.length capl) (w.heap.size + 1 + 1) ob (w.heap.size + 1) l.length)
  case first =>
    go_region
    · go_wp2_with fail
      go_meet
      refine ⟨_, rfl, DR.drew (DR.start (w2 := w2) (q := w2.heap.size) (cur := cur) (bl := bl) hm m1 HY.out.1 ?_ HY.out.2.2 HY.out.2.1 (Nat.le_succ _) ?_ ?_ HC.out (Nat.le_refl _) (Nat.le_succ _))⟩
      · (repeat (first | (with_reducible assumption) | (with_reducible exact Below.refl _ _) | (with_reducible refine lo_step ?_ (by assumption)) | (with_reducible refine lo_drew ?_) | (with_reducible refine lo_drewN ?_ _) | (with_reducible refine lo_alloc ?_ _))) 
      · have := heap_alloc_new (w2.alloc (.cells cur 124)) (.cells #[.int .i64 bl, .slice (some ⟨w2.heap.size, 0, none⟩) m m] 28)
        rwa [World.size_alloc] at this
      · exact blk_low (heap_alloc_new w2 _) ((Below.refl _ _).alloc (Nat.le_refl _) _)
    · go_wp2_with fail
      go_meet
      refine ⟨_, rfl, DR.drew (DR.start (w2 := w2) (q := w2.heap.size + 1) (cur := cur) (bl := bl) hm m1 HY.out.1 ?_ HY.out.2.2 HY.out.2.1 (Nat.le_succ _) ?_ ?_ HC.out (Nat.le_succ _) (Nat.le_refl _))⟩
      · (repeat (first | (with_reducible assumption) | (with_reducible exact Below.refl _ _) | (with_reducible refine lo_step ?_ (by assumption)) | (with_reducible refine lo_drew ?_) | (with_reducible refine lo_drewN ?_ _) | (with_reducible refine lo_alloc ?_ _))) 
      · exact blk_low (heap_alloc_new w2 _) ((Below.refl _ _).alloc (Nat.le_refl _) _)
      · have := heap_alloc_new (w2.alloc (.cells #[.int .i64 bl, .slice (some ⟨w2.heap.size + 1, 0, none⟩) m m] 28)) (.cells cur 124)
        rwa [World.size_alloc] at this
  case rest =>
    obtain ⟨ob, rfl, R0⟩ := hcut
    clear ta tb tc td t0 t1 HY HC hmk hm0
    have hlb : l.length ≤ 1073741824 := by have := hll.out; omega
    -- the loop
    go_wp2_with fail
    go_loopw [8] (fun i wr => ∃ (wx : World) (j : Nat), wx = wr ∧ i = .int .i64 ((j : Int) - 1) ∧ j ≤ l.length ∧ DR w wx bl m l (.slice aol l.length capl) (w.heap.size + 1 + 1) ob (w.heap.size + 1) j) (fun i _ => (RowKit.intOf i + 1).toNat)
    case atStart => exact ⟨_, l.length, rfl, rfl, Nat.le_refl _, R0⟩
    case round =>
      clear R0
      obtain ⟨wx, j, rfl, rfl, hj, R⟩ := hrel
      cases j with
      | zero =>
        have e1 : ((0 : Nat) : Int) - 1 = -1 := rfl
        rw [e1]
        obtain ⟨s', U', x, c', u⟩ := R.box
        obtain ⟨g5, c5, rfl, _, _, _⟩ := c'.form
        obtain ⟨t0, t1⟩ := t_cells x
        obtain ⟨f0, f1⟩ := t_cells R.rx
        have z0 : wx.frozen? ⟨w.heap.size + 1, 0, none⟩ = false := by simp [World.frozen?, R.rx]
        have z1 : wx.frozen? ⟨w.heap.size + 1, 1, none⟩ = false := by simp [World.frozen?, R.rx]
        have FI := Lib.hid (R.fin (s0 := .slice (some ⟨g, 0, none⟩) n cap) (U0 := U) HGN.out.symm x c' u)
        clear e1 x c' u R
        go_wp2_with fail
        exact bodyPost_ret (res_T rfl _ _ _ _ _ rfl FI.out.1) rfl ⟨_, rfl, FI.out.2⟩
      | succ j =>
        have e1 : ((j + 1 : Nat) : Int) - 1 = (j : Int) := by omega
        rw [e1]
        clear e1
        have hlt : j < l.length := by omega
        have hok : (at_ l j).k.Ok := by
          have := hgl (at_ l j) (by have h2 : l[j] = at_ l j := by simp [at_, hlt]
                                    rw [← h2]; exact List.getElem_mem _)
          exact this
        rcases own_form R.own with ⟨_, h0⟩ | ⟨g2, cap2, e2, _, hnc2, hcm2⟩
        · omega
        injection e2 with e3 e4 e5
        subst e3 e5
        unfold maxLen at hcm2
        obtain ⟨s', U', x, c', u⟩ := R.box
        have CP := Lib.hid (rpush_any bl (at_ l j) hok wx.drew (c'.low (Below.refl _ wx).drew) (by rw [pushL_len hm]; omega))
        obtain ⟨g5, c5, rfl, _, _, _⟩ := c'.form
        have SC := Lib.hid (fun (W : World) (j' : Nat) (h : DR w W bl m l (.slice (some ⟨g2, 0, none⟩) l.length capl) (w.heap.size + 1 + 1) ob (w.heap.size + 1) j') => (show (fun w1 => w1.cell? ⟨g2, j * 4, none⟩ = some (.int .i64 (at_ l j).k.sp) ∧ w1.cell? ⟨g2, j * 4 + 1, none⟩ = some (.int .u64 (at_ l j).k.va) ∧ w1.cell? ⟨g2, j * 4 + 2, none⟩ = some (.int .i64 (at_ l j).k.sz) ∧ w1.cell? ⟨g2, j * 4 + 3, none⟩ = some (.int .i64 (at_ l j).v)) W by
          obtain ⟨y0, y1, y2, y3⟩ := pown_cells (own_base h.own) rfl hlt
          exact ⟨y0, y1, y2, y3⟩))
        obtain ⟨t0, t1⟩ := t_cells (show wx.drew.heap[ob]? = _ from x)
        have hS := SC.out _ _ R.drew
        have HR := Lib.hid R
        have HP := Lib.hid (pushL_step (m := m) hlt)
        have hj0 : (0 : Int) ≤ (j : Int) := by omega
        have hlt' : (j : Int) < (l.length : Int) := by omega
        have HU := Lib.hid u
        have HX := Lib.hid x
        clear R u x c' hgl hok hm
        go_upto_region 8 with (fail)
        refine wp_region_held_drew (S := fun w1 => w1.cell? ⟨g2, j * 4, none⟩ = some (.int .i64 (at_ l j).k.sp) ∧ w1.cell? ⟨g2, j * 4 + 1, none⟩ = some (.int .u64 (at_ l j).k.va) ∧ w1.cell? ⟨g2, j * 4 + 2, none⟩ = some (.int .i64 (at_ l j).k.sz) ∧ w1.cell? ⟨g2, j * 4 + 3, none⟩ = some (.int .i64 (at_ l j).v)) (by kernel_rfl) hS (fun hHeld => ?_)
        refine wpAnyH_take (i := 1) (v := ?vt1) rfl (by kernel_rfl) (by kernel_rfl) (by kernel_rfl) (fun _ _ _ h => h) (Or.inl ⟨by rfl, ?ht1⟩) (by assumption) ?rt1
        case ht1 => (intro w hSw; (try dsimp only at hSw); go_simp <;> (with_reducible rfl))
        (try simp only [Act.put, List.setIfInBounds_toArray, List.set_cons_zero, List.set_cons_succ, List.getElem_toArray, List.getElem_cons_zero, List.getElem_cons_succ])
        refine wpAnyH_take (i := 2) (v := ?vt2) rfl (by kernel_rfl) (by kernel_rfl) (by kernel_rfl) (fun _ _ _ h => h) (Or.inl ⟨by rfl, ?ht2⟩) (by assumption) ?rt2
        case ht2 => (intro w hSw; (try dsimp only at hSw); go_simp <;> (with_reducible rfl))
        (try simp only [Act.put, List.setIfInBounds_toArray, List.set_cons_zero, List.set_cons_succ, List.getElem_toArray, List.getElem_cons_zero, List.getElem_cons_succ])
        refine wpAnyH_take (i := 3) (v := ?vt3) rfl (by kernel_rfl) (by kernel_rfl) (by kernel_rfl) (fun _ _ _ h => h) (Or.inl ⟨by rfl, ?ht3⟩) (by assumption) ?rt3
        case ht3 => (intro w hSw; (try dsimp only at hSw); go_simp <;> (with_reducible rfl))
        (try simp only [Act.put, List.setIfInBounds_toArray, List.set_cons_zero, List.set_cons_succ, List.getElem_toArray, List.getElem_cons_zero, List.getElem_cons_succ])
        refine wpAnyH_take (i := 4) (v := ?vt4) rfl (by kernel_rfl) (by kernel_rfl) (by kernel_rfl) (fun _ _ _ h => h) (Or.inl ⟨by rfl, ?ht4⟩) (by assumption) ?rt4
        case ht4 => (intro w hSw; (try dsimp only at hSw); go_simp <;> (with_reducible rfl))
        (try simp only [Act.put, List.setIfInBounds_toArray, List.set_cons_zero, List.set_cons_succ, List.getElem_toArray, List.getElem_cons_zero, List.getElem_cons_succ])
        refine wpAnyH_ready (rs := [0]) (by kernel_rfl) (by simp) ?_
        refine AllReadyH.cons rfl (fun K hK => ?_) AllReadyH.nil
        go_simp
        refine hK.out _ _ hS (fun hHeld => ?_)
        clear hK K
        (try simp only [Act.put, List.setIfInBounds_toArray, List.set_cons_zero, List.set_cons_succ, List.getElem_toArray, List.getElem_cons_zero, List.getElem_cons_succ])
        refine wpAnyH_ready (rs := [5]) (by kernel_rfl) (by simp) ?_
        refine AllReadyH.cons rfl (fun K hK => ?_) AllReadyH.nil
        go_simp
        refine (CP.out).mono ?_
        rintro r w6 ⟨s6, rfl, hd⟩
        have R6 := HR.out.drew.stay hd.bel
        obtain ⟨g6, c6, rfl⟩ := hd.form
        have hS6 := SC.out _ _ R6
        have R7 := HR.out.put hd HU.out HP.out.symm R6
        obtain ⟨sx, ⟨f0, f1⟩, f2, f3⟩ := R6.cells
        have HR7 := Lib.hid R7
        have hS7 := SC.out _ _ R7
        (try go_simp)
        refine hK.out _ _ hS6 (fun hHeld => ?_)
        clear hK K
        (try simp only [Act.put, List.setIfInBounds_toArray, List.set_cons_zero, List.set_cons_succ, List.getElem_toArray, List.getElem_cons_zero, List.getElem_cons_succ])
        clear hS hS6 R6 hd t0 t1
        refine wpAnyH_ready (rs := [6]) (by kernel_rfl) (by simp) ?_
        refine AllReadyH.cons rfl (fun K hK => ?_) AllReadyH.nil
        go_simp
        refine hK.out _ _ hS7 (fun hHeld => ?_)
        clear hK K
        (try simp only [Act.put, List.setIfInBounds_toArray, List.set_cons_zero, List.set_cons_succ, List.getElem_toArray, List.getElem_cons_zero, List.getElem_cons_succ])
        refine wpAnyH_done (by kernel_rfl) ?_ _
        clear f0 f1 f2 f3 hS7 R7 SC HP HU HX HR CP
        go_wp2_with fail
        go_roundw
        case rel => exact ⟨_, j, rfl, by go_num, by omega, HR7.out⟩
        case measure => simp [RowKit.intOf]
end Go.Proofs.YtffpfceclhogoaaGreat.Hs
