/-
  The document's Put of layer 11. Conditions: a table that is there; a key's numbers are those that Go's types hold.
-/
import Derived.Test.YtilijnalhkeggaaHDd
namespace Go.Proofs.Ytilijnalhkeggaa.Hs
open Fld
open Go.ChangeShapes Go.WideShapes Go.ChangeAt Go.RowKit Go.Maps
set_option maxHeartbeats 2000000
set_option maxRecDepth 100000
theorem res_T {fn : Func} {p u : Tmp} (h : fn.results = #[.cell p 27, .tmp u]) (tmps : Array Value) (w : World) (g : Nat) (x y : Value) (hp : tmps.getD p undef = .pointer (some ⟨g, 0, none⟩)) (hR : w.heap[g]? = some (.cells #[x, y] 27 (0, 0))) :
    (results fn tmps).run Try.prog w = .ok (.tuple #[.agg #[x, y], tmps.getD u undef]) w := by
  have hl := run_loadVar_row (P := Try.prog) w g 27 27 _ (0, 0) _ hR Try.underlying27 (by kernel_rfl) (by kernel_rfl)
  rw [results_cell_tmp h, hp]
  simp only [asAddr, Sem.run_pure, Result.andThen_ok, hl]
theorem ret_T {x : Value} {s : Value} {a b : Int} (h : a = b) : Ending.returned (.tuple #[.agg #[x, s], .int .i64 a]) = .returned (.tuple #[.agg #[x, s], .int .i64 b]) := by rw [h]
/-- A table, a key, a result's place, in boxes. -/
structure DQ (w : World) (tb : Nat) (bl : Int) (s : Value) (n : Nat) (L : Nat → List Bk) (U : Nat → Value) (kb : Nat) (k : Ky) (rb : Nat) : Prop where
  ch : ChW w s n L U
  tx : w.heap[tb]? = some (.cells #[.int .i64 bl, s] 27 (0, 0))
  kx : w.heap[kb]? = some (.cells #[.int .i64 k.sp, .int .u64 k.va, .int .i64 k.sz] 33 (0, 0))
  rx : w.heap[rb]? = some (.cells #[.int .i64 0, .slice none 0 0] 27 (0, 0))
section
variable {w w' : World} {tb kb rb n : Nat} {bl : Int} {s : Value} {L : Nat → List Bk} {U : Nat → Value} {k : Ky}
theorem DQ.low (h : DQ w tb bl s n L U kb k rb) (hb : Below w.heap.size w w') : DQ w' tb bl s n L U kb k rb := ⟨h.ch.low hb, blk_low h.tx hb, blk_low h.kx hb, blk_low h.rx hb⟩
theorem DQ.drew (h : DQ w tb bl s n L U kb k rb) : DQ w.drew tb bl s n L U kb k rb := h.low (Below.refl _ w).drew
theorem DQ.drewN (h : DQ w tb bl s n L U kb k rb) (m : Nat) : DQ (w.drewN m) tb bl s n L U kb k rb := h.low (below_drewN (Below.refl _ w) m)
theorem DQ.alloc (h : DQ w tb bl s n L U kb k rb) (o : Obj) : DQ (w.alloc o) tb bl s n L U kb k rb := h.low ((Below.refl _ w).alloc (Nat.le_refl _) o)
theorem DQ.sc (h : DQ w tb bl s n L U kb k rb) {g : Nat} (hg : s.ownBlock = some g) {c : Nat} (hc : c < n) {v : Value} (hv : U c = v) : (w.cell? ⟨tb, 0, none⟩ = some (.int .i64 bl) ∧ w.cell? ⟨tb, 1, none⟩ = some s) ∧ (w.cell? ⟨kb, 0, none⟩ = some (.int .i64 k.sp) ∧ w.cell? ⟨kb, 1, none⟩ = some (.int .u64 k.va) ∧ w.cell? ⟨kb, 2, none⟩ = some (.int .i64 k.sz)) ∧ w.cell? ⟨g, c, none⟩ = some v :=
  ⟨t_cells h.tx, key_cells h.kx, by rw [← hv]; exact h.ch.cell hg hc⟩
theorem DQ.tc (h : DQ w tb bl s n L U kb k rb) : w.cell? ⟨tb, 0, none⟩ = some (.int .i64 bl) ∧ w.cell? ⟨tb, 1, none⟩ = some s := t_cells h.tx
theorem DQ.rc (h : DQ w tb bl s n L U kb k rb) : (w.cell? ⟨rb, 0, none⟩ = some (.int .i64 0) ∧ w.cell? ⟨rb, 1, none⟩ = some (.slice none 0 0)) ∧ w.frozen? ⟨rb, 0, none⟩ = false ∧ w.frozen? ⟨rb, 1, none⟩ = false := by
  have := h.rx
  exact ⟨t_cells h.rx, by simp [World.frozen?, this], by simp [World.frozen?, this]⟩
theorem DQ.new (h : ChW w s n L U) (bl : Int) (k : Ky) : DQ (((w.alloc (.cells #[.int .i64 bl, s] 27)).alloc (.cells #[.int .i64 k.sp, .int .u64 k.va, .int .i64 k.sz] 33)).alloc (.cells #[.int .i64 0, .slice none 0 0] 27)) w.heap.size bl s n L U (w.heap.size + 1) k (w.heap.size + 1 + 1) := by
  have d := (DB.new h bl k).alloc (.cells #[.int .i64 0, .slice none 0 0] 27)
  refine ⟨d.ch, d.tx, d.kx, ?_⟩
  have := heap_alloc_new ((w.alloc (.cells #[.int .i64 bl, s] 27)).alloc (.cells #[.int .i64 k.sp, .int .u64 k.va, .int .i64 k.sz] 33)) (.cells #[.int .i64 0, .slice none 0 0] 27)
  rwa [World.size_alloc, World.size_alloc] at this
/-- A table is put into the result's place. -/
theorem DQ.fin {w0 : World} {s0 s' : Value} {n0 n' : Nat} {L' : Nat → List Bk} {U0 : Nat → Value} (h : DQ w tb bl s n L U kb k rb) (hd : DocTo w0 w s0 n0 U0 s' n' L') (hr : w0.heap.size ≤ rb) (b' : Int) :
    ((w.setCell ⟨rb, 0, none⟩ (.int .i64 b')).setCell ⟨rb, 1, none⟩ s').heap[rb]? = some (.cells #[.int .i64 b', s'] 27 (0, 0)) ∧ DocTo w0 ((w.setCell ⟨rb, 0, none⟩ (.int .i64 b')).setCell ⟨rb, 1, none⟩ s') s0 n0 U0 s' n' L' := by
  have h6 := set_two h.rx (.int .i64 b') s'
  exact ⟨h6.1, hd.store h.rx h6.2.2 (h6.2.1 _ hr)⟩
end
theorem tput_any {s : Value} {n : Nat} {L : Nat → List Bk} {U : Nat → Value} (bl : Int) (hb0 : bl ≤ 1073741824) (k : Ky) (hk : k.wf) (x : Int) (w : World) (h : ChW w s n L U) :
    Calls Try.prog 26 #[.agg #[.int .i64 bl, s], .agg #[.int .i64 k.sp, .int .u64 k.va, .int .i64 k.sz], .int .i64 x] w fun e w' => ∃ s', e = .returned (.tuple #[.agg #[.int .i64 bl, s'], .int .i64 (putE bl n L k)]) ∧ DocTo w w' s n U s' n (putT bl n L k x) := by
  obtain ⟨g, cap, rfl, hg, hnc, hcm⟩ := h.form
  have hn0 := h.n0
  have hn1 := h.n1
  have b1 : Below w.heap.size w (((w.alloc (.cells #[.int .i64 bl, .slice (some ⟨g, 0, none⟩) n cap] 27)).alloc (.cells #[.int .i64 k.sp, .int .u64 k.va, .int .i64 k.sz] 33)).alloc (.cells #[.int .i64 0, .slice none 0 0] 27)) := by (repeat (first | (with_reducible assumption) | (with_reducible exact Below.refl _ _) | (with_reducible refine lo_step ?_ (by assumption)) | (with_reducible refine lo_drew ?_) | (with_reducible refine lo_drewN ?_ _) | (with_reducible refine lo_alloc ?_ _))) 
  have D1 := DQ.new h bl k
  have CM := Lib.hid (fun w => Hs.rmay_any k hk w)
  have HH := Lib.hid h
  cases hm : kmayB k
  · have e1 := Lib.hid (show putE bl n L k = 1 by unfold putE; rw [hm]; rfl)
    have e2 := Lib.hid (show putT bl n L k x = L by unfold putT putE; rw [hm]; rfl)
    rw [hm] at CM
    have HD1 := Lib.hid (And.intro b1 D1)
    clear h D1 b1
    go_enter Try.func26, Try.ntmps26
    go_wp2_with fail
    refine (CM.out _).mono ?_; rintro e w2 ⟨rfl, hb2⟩
    have D2 := HD1.out.2.low hb2
    obtain ⟨t0, t1⟩ := D2.tc
    obtain ⟨⟨r0, r1⟩, r2, r3⟩ := D2.rc
    have DF := D2.fin (DocTo.id HH.out (lo_step HD1.out.1 hb2)) (by omega) bl
    have HF := Lib.hid DF
    clear D2 DF HD1 hb2
    go_wp2_with fail
    exact bodyPost_ret (res_T rfl _ _ _ _ _ rfl HF.out.1) rfl ⟨_, ret_T e1.out.symm, by rw [e2.out]; exact HF.out.2⟩
  · rw [hm] at CM
    have hok := hk.ok hm
    have CC := Lib.hid (fun w => rchain_any k hok n hn0 (by omega) w)
    rw [chain_cast k hn0] at CC
    have hcn := chain_lt k hn0
    have hE : putE bl n L k = if hasB (L (chainN k n)) k then 9 else if bl ≤ (lenL L n : Int) then 6 else 0 := by unfold putE; rw [hm]; rfl
    have hTT : putT bl n L k x = if putE bl n L k = 0 then setL L (chainN k n) (⟨k, x⟩ :: L (chainN k n)) else L := rfl
    have CPu := Lib.hid (fun (W : World) (h : ChW W (.slice (some ⟨g, 0, none⟩) n cap) n L U) (hr : lenL L n + 1 ≤ 1073741824) => rpush_any bl ⟨k, x⟩ hok W h hr)
    obtain ⟨c, hc⟩ : ∃ c, c = chainN k n := ⟨_, rfl⟩
    dsimp only at CPu
    rw [← hc] at CC hcn hE hTT CPu
    have hll := len_one L hcn
    have hfew := h.few
    obtain ⟨v, hv⟩ : ∃ v, U c = v := ⟨_, rfl⟩
    have CA := Lib.hid (fun (W : World) (h : DQ W w.heap.size bl (.slice (some ⟨g, 0, none⟩) n cap) n L U (w.heap.size + 1) k (w.heap.size + 1 + 1)) => rat_any v (L c) k W (by rw [← hv]; exact h.ch.rows c hcn) (by omega))
    have SC := Lib.hid (fun (W : World) (tb kb rb : Nat) (h : DQ W tb bl (.slice (some ⟨g, 0, none⟩) n cap) n L U kb k rb) => h.sc hg hcn hv)
    have hcn' : (c : Int) < (n : Int) := by omega
    have HE := Lib.hid hE
    have HT := Lib.hid hTT
    have HD1 := Lib.hid (And.intro b1 D1)
    clear hv hE hTT hc h D1 b1
    go_enter Try.func26, Try.ntmps26
    go_wp2_with fail
    refine (CM.out _).mono ?_; rintro e w2 ⟨rfl, hb2⟩
    have D2 := HD1.out.2.low hb2
    have b2 := lo_step HD1.out.1 hb2
    have sc2 := SC.out _ _ _ _ D2
    have HB2 := Lib.hid b2
    clear HD1 hb2 CM b2
    go_wp2_with fail
    go_region_held3 (fun w1 => (w1.cell? ⟨w.heap.size, 0, none⟩ = some (.int .i64 bl) ∧ w1.cell? ⟨w.heap.size, 1, none⟩ = some (.slice (some ⟨g, 0, none⟩) n cap)) ∧ (w1.cell? ⟨w.heap.size + 1, 0, none⟩ = some (.int .i64 k.sp) ∧ w1.cell? ⟨w.heap.size + 1, 1, none⟩ = some (.int .u64 k.va) ∧ w1.cell? ⟨w.heap.size + 1, 2, none⟩ = some (.int .i64 k.sz)) ∧ w1.cell? ⟨g, c, none⟩ = some v)
      ((refine SC.out _ _ _ (w.heap.size + 1 + 1) ?_; (repeat (first | (with_reducible assumption) | (with_reducible refine DQ.drew ?_) | (with_reducible refine DQ.drewN ?_ _) | (with_reducible refine DQ.alloc ?_ _) | (with_reducible refine DQ.low ?_ (by assumption)))) ))
      (first | (go_at_call 19; (with_reducible refine (CC.out _).mono ?_); rintro r w3 ⟨rfl, hb3⟩) | (go_at_call 49; refine (CA.out _ (by (repeat (first | (with_reducible assumption) | (with_reducible refine DQ.drew ?_) | (with_reducible refine DQ.drewN ?_ _) | (with_reducible refine DQ.alloc ?_ _) | (with_reducible refine DQ.low ?_ (by assumption)))) )).mono ?_; rintro r w4 ⟨rfl, hb4⟩))
    have D4 := (D2.drew.low hb3).low hb4
    have b4 := lo_step (lo_step (lo_drew HB2.out) hb3) hb4
    obtain ⟨t0, t1⟩ := D4.tc
    clear sc2 SC CC CA hb3 hb4 D2 HB2
    cases hh : hasB (L c) k
    · rw [hh] at HE
      rw [place_no hh]
      have CLn := Lib.hid (fun (W : World) (h : DQ W w.heap.size bl (.slice (some ⟨g, 0, none⟩) n cap) n L U (w.heap.size + 1) k (w.heap.size + 1 + 1)) => tlen_any bl W h.ch)
      have TC := Lib.hid (fun (W : World) (h : DQ W w.heap.size bl (.slice (some ⟨g, 0, none⟩) n cap) n L U (w.heap.size + 1) k (w.heap.size + 1 + 1)) => h.tc)
      have HB4 := Lib.hid b4
      clear b4
      go_wp2_with fail
      have tc4 := TC.out _ D4.drew
      go_region_held3 (fun w1 => w1.cell? ⟨w.heap.size, 0, none⟩ = some (.int .i64 bl) ∧ w1.cell? ⟨w.heap.size, 1, none⟩ = some (.slice (some ⟨g, 0, none⟩) n cap))
        ((refine TC.out _ ?_; (repeat (first | (with_reducible assumption) | (with_reducible refine DQ.drew ?_) | (with_reducible refine DQ.drewN ?_ _) | (with_reducible refine DQ.alloc ?_ _) | (with_reducible refine DQ.low ?_ (by assumption)))) ))
        (first | (go_at_call 38; refine (CLn.out _ (by (repeat (first | (with_reducible assumption) | (with_reducible refine DQ.drew ?_) | (with_reducible refine DQ.drewN ?_ _) | (with_reducible refine DQ.alloc ?_ _) | (with_reducible refine DQ.low ?_ (by assumption)))) )).mono ?_; rintro r w5 ⟨rfl, hb5⟩))
      have D5 := D4.drew.low hb5
      have b5 := lo_step (lo_drew HB4.out) hb5
      obtain ⟨t0, t1⟩ := D5.tc
      obtain ⟨⟨r0, r1⟩, r2, r3⟩ := D5.rc
      clear tc4 hb5 D4 CLn TC HB4
      by_cases hfull : bl ≤ (lenL L n : Int)
      · have e1 := Lib.hid (show putE bl n L k = 6 by rw [HE.out]; simp [hfull])
        have e2 := Lib.hid (show putT bl n L k x = L by rw [HT.out, e1.out]; rfl)
        have HF := Lib.hid (D5.fin (DocTo.id HH.out b5) (by omega) bl)
        clear D5 b5
        go_wp2_with fail
        exact bodyPost_ret (res_T rfl _ _ _ _ _ rfl HF.out.1) rfl ⟨_, ret_T e1.out.symm, by rw [e2.out]; exact HF.out.2⟩
      · have e1 := Lib.hid (show putE bl n L k = 0 by rw [HE.out]; simp [hfull])
        have e2 := Lib.hid (show putT bl n L k x = setL L c (⟨k, x⟩ :: L c) by rw [HT.out, e1.out]; rfl)
        have CP := Lib.hid (CPu.out _ D5.ch (by omega))
        obtain ⟨k0, k1, k2⟩ := key_cells D5.kx
        have HD5 := Lib.hid (And.intro b5 D5)
        clear CPu b5 D5 r0 r1 r2 r3
        go_wp2_with fail
        refine CP.out.mono ?_; rintro e w6 ⟨s6, rfl, hd6⟩
        have hb6 : Below w5.heap.size w5 w6 := by obtain ⟨_, _, _, h⟩ := hd6; exact h
        have D6 := HD5.out.2.low hb6
        obtain ⟨⟨r0, r1⟩, r2, r3⟩ := D6.rc
        have hd : DocTo w w6 (.slice (some ⟨g, 0, none⟩) n cap) n U s6 n (setL L c (⟨k, x⟩ :: L c)) := by
          obtain ⟨U', a, b, d⟩ := hd6
          exact ⟨U', a, fun q hq => (b q hq).imp _root_.id (Nat.le_trans HD5.out.1.size), lo_step HD5.out.1 d⟩
        have hsh : ∃ g6 c6, s6 = .slice (some ⟨g6, 0, none⟩) n c6 := by obtain ⟨U', a, _⟩ := hd6; obtain ⟨g6, c6, h, _⟩ := a.form; exact ⟨g6, c6, h⟩
        obtain ⟨g6, c6, rfl⟩ := hsh
        have HF := Lib.hid (D6.fin hd (by omega) bl)
        clear D6 hd6 hb6 hd CP HD5 k0 k1 k2 t0 t1
        go_wp2_with fail
        exact bodyPost_ret (res_T rfl _ _ _ _ _ rfl HF.out.1) rfl ⟨_, ret_T e1.out.symm, by rw [e2.out]; exact HF.out.2⟩
    · rw [hh] at HE
      have e1 := Lib.hid (show putE bl n L k = 9 by rw [HE.out]; rfl)
      have e2 := Lib.hid (show putT bl n L k x = L by rw [HT.out, e1.out]; rfl)
      rw [place_yes hh]
      have hj0 : (0 : Int) ≤ (posN (L c) k : Int) := by omega
      obtain ⟨⟨r0, r1⟩, r2, r3⟩ := D4.rc
      have HF := Lib.hid (D4.fin (DocTo.id HH.out b4) (by omega) bl)
      clear D4 b4 hh
      go_wp2_with fail
      exact bodyPost_ret (res_T rfl _ _ _ _ _ rfl HF.out.1) rfl ⟨_, ret_T e1.out.symm, by rw [e2.out]; exact HF.out.2⟩
end Go.Proofs.Ytilijnalhkeggaa.Hs
