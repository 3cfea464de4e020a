/-
  The document's Set of layer 11. Conditions: a table that is there; a key's numbers are those that Go's types hold.
-/
import Derived.Test.YtilijnalhkeggaaHDe
namespace Go.Proofs.Ytilijnalhkeggaa.Hs
open Fld
open Go.ChangeShapes Go.WideShapes Go.ChangeAt Go.RowKit Go.Maps
set_option maxHeartbeats 2000000
set_option maxRecDepth 100000
theorem get_place {n : Nat} {L : Nat → List Bk} {k : Ky} (h : getB n L k = true) : hasB (L (chainN k n)) k = true ∧ kmayB k = true ∧ getN n L k = (posN (L (chainN k n)) k : Int) + 1 := by
  have h2 := h
  unfold getB at h2
  simp at h2
  exact ⟨h2.2, h2.1, by unfold getN; rw [if_pos h]⟩
theorem doc_from {w w1 w' : World} {s s' : Value} {n n' : Nat} {L' : Nat → List Bk} {U : Nat → Value} (h : DocTo w1 w' s n U s' n' L') (hb : Below w.heap.size w w1) : DocTo w w' s n U s' n' L' := by
  obtain ⟨U', a, b, c⟩ := h
  exact ⟨U', a, fun k hk => (b k hk).imp id (Nat.le_trans hb.size), lo_step hb c⟩
theorem DocTo.form {w w' : World} {s s' : Value} {n n' : Nat} {L' : Nat → List Bk} {U : Nat → Value} (h : DocTo w w' s n U s' n' L') : ∃ g c, s' = .slice (some ⟨g, 0, none⟩) n' c := by
  obtain ⟨U', a, _⟩ := h
  obtain ⟨g, c, h, _⟩ := a.form
  exact ⟨g, c, h⟩
theorem tset_any {s : Value} {n : Nat} {L : Nat → List Bk} {U : Nat → Value} (bl : Int) (k : Ky) (hk : k.wf) (x : Int) (w : World) (h : ChW w s n L U) :
    Calls Try.prog 34 #[.agg #[.int .i64 bl, s], .agg #[.int .i64 k.sp, .int .u64 k.va, .int .i64 k.sz], .int .i64 x] w fun e w' => ∃ s', e = .returned (.tuple #[.agg #[.int .i64 bl, s'], .int .i64 (setE n L k)]) ∧ DocTo w w' s n U s' n (setT n L k x) := by
  obtain ⟨g, cap, rfl, hg, hnc, hcm⟩ := h.form
  have hn0 := h.n0
  have hn1 := h.n1
  have b1 : Below w.heap.size w (((w.alloc (.cells #[.int .i64 bl, .slice (some ⟨g, 0, none⟩) n cap] 27)).alloc (.cells #[.int .i64 k.sp, .int .u64 k.va, .int .i64 k.sz] 33)).alloc (.cells #[.int .i64 0, .slice none 0 0] 27)) := by (repeat (first | (with_reducible assumption) | (with_reducible exact Below.refl _ _) | (with_reducible refine lo_step ?_ (by assumption)) | (with_reducible refine lo_drew ?_) | (with_reducible refine lo_drewN ?_ _) | (with_reducible refine lo_alloc ?_ _))) 
  have D1 := DQ.new h bl k
  have CGt := Lib.hid (tget_any bl k hk _ D1.ch)
  have HH := Lib.hid h
  have HD1 := Lib.hid (And.intro b1 D1)
  cases hB : getB n L k
  · have e1 := Lib.hid (show setE n L k = 10 by unfold setE; rw [hB]; rfl)
    have e2 := Lib.hid (show setT n L k x = L by unfold setT; rw [hB]; rfl)
    rw [hB] at CGt
    generalize getV n L k = gv at *
    generalize getN n L k = gn at *
    clear h D1 b1
    go_enter Try.func34, Try.ntmps34
    go_wp2_with fail
    refine CGt.out.mono ?_; rintro e w2 ⟨rfl, hb2⟩
    have D2 := HD1.out.2.low hb2
    obtain ⟨t0, t1⟩ := D2.tc
    obtain ⟨⟨r0, r1⟩, r2, r3⟩ := D2.rc
    have HF := Lib.hid (D2.fin (DocTo.id HH.out (lo_step HD1.out.1 hb2)) (by omega) bl)
    clear D2 hb2 HD1 CGt
    go_wp2_with fail
    exact bodyPost_ret (res_T rfl _ _ _ _ _ rfl HF.out.1) rfl ⟨_, ret_T e1.out.symm, by rw [e2.out]; exact HF.out.2⟩
  · obtain ⟨hh, hm, hN⟩ := get_place hB
    have hok := hk.ok hm
    have e1 := Lib.hid (show setE n L k = 0 by unfold setE; rw [hB]; rfl)
    have e2 := Lib.hid (show setT n L k x = setL L (chainN k n) ((L (chainN k n)).set (posN (L (chainN k n)) k) ⟨k, x⟩) by unfold setT; rw [hB]; rfl)
    have CC := Lib.hid (fun w => rchain_any k hok n hn0 (by omega) w)
    rw [chain_cast k hn0] at CC
    have hcn := chain_lt k hn0
    have hkey := pos_key hh
    have hlt := has_lt hh
    rw [hB, hN] at CGt
    generalize getV n L k = gv at *
    generalize chainN k n = c at *
    have hll := len_one L hcn
    have hfew := h.few
    have hset := len_set L c ((L c).set (posN (L c) k) ⟨k, x⟩) hcn
    have hfew2 : lenL (setL L c ((L c).set (posN (L c) k) ⟨k, x⟩)) n ≤ 1073741824 := by simp at hset; omega
    obtain ⟨v, hv⟩ : ∃ v, U c = v := ⟨_, rfl⟩
    have hcn' : (c : Int) < (n : Int) := by omega
    generalize posN (L c) k = p at *
    have HX := Lib.hid (And.intro hkey (And.intro hfew2 hv))
    clear hset hfew2 hv hkey hN hB h D1 b1 hh hm
    go_enter Try.func34, Try.ntmps34
    go_wp2_with fail
    refine CGt.out.mono ?_; rintro e w2 ⟨rfl, hb2⟩
    have D2 := HD1.out.2.low hb2
    have b2 := lo_step HD1.out.1 hb2
    obtain ⟨t0, t1⟩ := D2.tc
    obtain ⟨k0, k1, k2⟩ := key_cells D2.kx
    have HD2 := Lib.hid (And.intro b2 D2)
    clear CGt HD1 hb2 D2 b2
    go_wp2_with fail
    refine (CC.out _).mono ?_; rintro e w3 ⟨rfl, hb3⟩
    have D3 := HD2.out.2.low hb3
    have b3 := lo_step HD2.out.1 hb3
    clear HD2 hb3 CC k0 k1 k2 t0 t1
    obtain ⟨t0, t1⟩ := D3.tc
    have hgc := D3.ch.cell hg hcn
    have hrc := D3.ch.rows c hcn
    rw [HX.out.2.2] at hgc hrc
    obtain ⟨v', W4, hrun, ho4, hg4, hf4⟩ := p_append 58 w3 w.heap.size (.slice none 0 0) v [] (L c) (World.ownsRow_nil _ _ _ 4) hrc b3.size (by simp; omega)
    have b34 : Below w3.heap.size w3 W4 := ⟨hg4.os, hg4.tape, hg4.output, hg4.size, fun q hq => hg4.block q hq (by simp [Value.ownBlock])⟩
    rw [List.nil_append] at ho4
    rcases own_form ho4 with ⟨_, h0⟩ | ⟨g4, cap4, rfl, hg4b, hnc4, hcm4⟩
    · omega
    have hq4 : g4 = w3.heap.size := (hf4 g4 rfl).elim (fun e => by simp [Value.ownBlock] at e) id
    obtain ⟨y0, y1, y2, y3⟩ := pown_cells (own_base ho4) hg4b hlt
    have hfz : W4.frozen? ⟨g4, p * 4 + 3, none⟩ = false := own_frozen ho4 hg4b _
    obtain ⟨ho5, hg5⟩ := own_thing ho4 hg4b hlt x
    rw [HX.out.1] at ho5
    unfold maxLen at hcm4
    have b35 : Below w3.heap.size w3 (W4.setCell ⟨g4, p * 4 + 3, none⟩ (.int .i64 x)) := b34.setCell (by show w3.heap.size ≤ g4; omega) _
    have D5 := D3.low b35
    have b5 := lo_step b3 b35
    have CW := Lib.hid (rwith_any bl c (.slice (some ⟨g4, 0, none⟩) (L c).length cap4) ((L c).set p ⟨k, x⟩) _ D5.ch hcn (own_base (by rw [List.length_set] at ho5; simpa using ho5)) HX.out.2.1)
    have hvl : v = v := rfl
    obtain ⟨aov, capv, hvs⟩ := pown_shape hrc
    subst hvs
    obtain ⟨t5, t6⟩ := D5.tc
    have HD5 := Lib.hid (And.intro b5 D5)
    have hlt' : (p : Int) < ((L c).length : Int) := by omega
    have HG := Lib.hid hq4
    have hlc : ((L c).length : Int) ≤ 1073741824 := by omega
    have HSB := Lib.hid b3.size
    clear b34 b35 D5 b5 ho4 ho5 hg4 hg5 hf4 D3 b3 hrc hq4 hg4b hvl
    go_wp2_with (at_builtin; refine Lib.wpList_append_run _ rfl _ _ 58 58 rfl _ _ rfl rfl _ _ hrun ?_)
    refine CW.out.mono ?_; rintro e w6 ⟨s6, rfl, hw6⟩
    have D6 := HD5.out.2.low hw6.low
    have hd := hw6.doc (w := w) (s := .slice (some ⟨g, 0, none⟩) n cap) (fun q hq => by
      obtain rfl : g4 = q := by simpa [Value.ownBlock] using hq
      have h1 := HG.out; have h2 := HSB.out; omega) HD5.out.1
    obtain ⟨g6, c6, rfl⟩ := hd.form
    obtain ⟨⟨r0, r1⟩, r2, r3⟩ := D6.rc
    have HF := Lib.hid (D6.fin hd (by omega) bl)
    clear D6 hd hw6 CW HD5 y0 y1 y2 y3 hfz t0 t1 t5 t6 hgc hrun HH
    go_wp2_with fail
    exact bodyPost_ret (res_T rfl _ _ _ _ _ rfl HF.out.1) rfl ⟨_, ret_T e1.out.symm, by rw [e2.out]; exact HF.out.2⟩
end Go.Proofs.Ytilijnalhkeggaa.Hs
