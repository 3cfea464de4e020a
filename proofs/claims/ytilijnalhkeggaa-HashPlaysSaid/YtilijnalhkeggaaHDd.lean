/-
  The document's push of layer 11. Conditions: a table that is there.
-/
import Derived.Test.YtilijnalhkeggaaHDc
import Derived.Deep.RegionHeld3
namespace Go.Proofs.Ytilijnalhkeggaa.Hs
open Fld
open Go.ChangeShapes Go.WideShapes Go.ChangeAt Go.RowKit Go.Maps
set_option maxHeartbeats 2000000
set_option maxRecDepth 100000
theorem rpush_any {s : Value} {n : Nat} {L : Nat → List Bk} {U : Nat → Value} (bl : Int) (b : Bk) (hok : b.k.Ok) (w : World) (h : ChW w s n L U) (hroom : lenL L n + 1 ≤ 1073741824) :
    Calls Try.prog 50 #[.agg #[.int .i64 bl, s], .agg #[.int .i64 b.k.sp, .int .u64 b.k.va, .int .i64 b.k.sz, .int .i64 b.v]] w fun e w' => ∃ s', e = .returned (.agg #[.int .i64 bl, s']) ∧ DocTo w w' s n U s' n (setL L (chainN b.k n) (b :: L (chainN b.k n))) := by
  obtain ⟨g, cap, rfl, hg, hnc, hcm⟩ := h.form
  have hn0 := h.n0
  have hn1 := h.n1
  have CC := Lib.hid (fun w => rchain_any b.k hok n hn0 (by omega) w)
  rw [chain_cast b.k hn0] at CC
  have hcn := chain_lt b.k hn0
  generalize chainN b.k n = c at *
  have b1 : Below w.heap.size w (((w.alloc (.cells #[.int .i64 bl, .slice (some ⟨g, 0, none⟩) n cap] 27)).alloc (.cells #[.int .i64 b.k.sp, .int .u64 b.k.va, .int .i64 b.k.sz, .int .i64 b.v] 73)).alloc (.cells #[.int .i64 0, .slice none 0 0] 27)) := by (repeat (first | (with_reducible assumption) | (with_reducible exact Below.refl _ _) | (with_reducible refine lo_step ?_ (by assumption)) | (with_reducible refine lo_drew ?_) | (with_reducible refine lo_drewN ?_ _) | (with_reducible refine lo_alloc ?_ _))) 
  have s1 : (((w.alloc (.cells #[.int .i64 bl, .slice (some ⟨g, 0, none⟩) n cap] 27)).alloc (.cells #[.int .i64 b.k.sp, .int .u64 b.k.va, .int .i64 b.k.sz, .int .i64 b.v] 73)).alloc (.cells #[.int .i64 0, .slice none 0 0] 27)).heap.size = w.heap.size + 1 + 1 + 1 := by simp
  have x1 : (((w.alloc (.cells #[.int .i64 bl, .slice (some ⟨g, 0, none⟩) n cap] 27)).alloc (.cells #[.int .i64 b.k.sp, .int .u64 b.k.va, .int .i64 b.k.sz, .int .i64 b.v] 73)).alloc (.cells #[.int .i64 0, .slice none 0 0] 27)).heap[w.heap.size]? = some (.cells #[.int .i64 bl, .slice (some ⟨g, 0, none⟩) n cap] 27 (0, 0)) := blk_low (blk_low (heap_alloc_new w _) ((Below.refl _ _).alloc (Nat.le_refl _) _)) ((Below.refl _ _).alloc (Nat.le_refl _) _)
  have x2 : (((w.alloc (.cells #[.int .i64 bl, .slice (some ⟨g, 0, none⟩) n cap] 27)).alloc (.cells #[.int .i64 b.k.sp, .int .u64 b.k.va, .int .i64 b.k.sz, .int .i64 b.v] 73)).alloc (.cells #[.int .i64 0, .slice none 0 0] 27)).heap[w.heap.size + 1]? = some (.cells #[.int .i64 b.k.sp, .int .u64 b.k.va, .int .i64 b.k.sz, .int .i64 b.v] 73 (0, 0)) := by
    refine blk_low ?_ ((Below.refl _ _).alloc (Nat.le_refl _) _)
    have := heap_alloc_new (w.alloc (.cells #[.int .i64 bl, .slice (some ⟨g, 0, none⟩) n cap] 27)) (.cells #[.int .i64 b.k.sp, .int .u64 b.k.va, .int .i64 b.k.sz, .int .i64 b.v] 73)
    rwa [World.size_alloc] at this
  have x3 : (((w.alloc (.cells #[.int .i64 bl, .slice (some ⟨g, 0, none⟩) n cap] 27)).alloc (.cells #[.int .i64 b.k.sp, .int .u64 b.k.va, .int .i64 b.k.sz, .int .i64 b.v] 73)).alloc (.cells #[.int .i64 0, .slice none 0 0] 27)).heap[w.heap.size + 1 + 1]? = some (.cells #[.int .i64 0, .slice none 0 0] 27 (0, 0)) := by
    have := heap_alloc_new ((w.alloc (.cells #[.int .i64 bl, .slice (some ⟨g, 0, none⟩) n cap] 27)).alloc (.cells #[.int .i64 b.k.sp, .int .u64 b.k.va, .int .i64 b.k.sz, .int .i64 b.v] 73)) (.cells #[.int .i64 0, .slice none 0 0] 27)
    rwa [World.size_alloc, World.size_alloc] at this
  have D1 : DP (((w.alloc (.cells #[.int .i64 bl, .slice (some ⟨g, 0, none⟩) n cap] 27)).alloc (.cells #[.int .i64 b.k.sp, .int .u64 b.k.va, .int .i64 b.k.sz, .int .i64 b.v] 73)).alloc (.cells #[.int .i64 0, .slice none 0 0] 27)) w.heap.size bl (.slice (some ⟨g, 0, none⟩) n cap) n L U (w.heap.size + 1 + 1) := ⟨h.low b1, x1, x3⟩
  have hcn' : (c : Int) < (n : Int) := by omega
  obtain ⟨v, hv⟩ : ∃ v, U c = v := ⟨_, rfl⟩
  have hpc := h.rows c hcn
  have hll := len_one L hcn
  have hset := len_set L c (b :: L c) hcn
  have hfew2 : lenL (setL L c (b :: L c)) n ≤ 1073741824 := by simp at hset; omega
  have HH := Lib.hid (And.intro h (And.intro hpc (And.intro hfew2 hv)))
  have HB1 := Lib.hid b1
  have HS1 := Lib.hid s1
  have HD1 := Lib.hid D1
  have HX2 := Lib.hid x2
  clear x1 x2 x3 D1 b1 s1 hpc hset hfew2 h hv
  go_enter Try.func50, Try.ntmps50
  go_wp2_with fail
  refine (CC.out _).mono ?_; rintro e w2 ⟨rfl, hb2⟩
  have b2 := lo_step HB1.out hb2
  have D2 := HD1.out.low hb2
  have hx2 := blk_low HX2.out hb2
  have hs2 := hb2.size
  rw [HS1.out] at hs2
  obtain ⟨p0, p1, p2, p3⟩ : w2.cell? ⟨w.heap.size + 1, 0, none⟩ = some (.int .i64 b.k.sp) ∧ w2.cell? ⟨w.heap.size + 1, 1, none⟩ = some (.int .u64 b.k.va) ∧ w2.cell? ⟨w.heap.size + 1, 2, none⟩ = some (.int .i64 b.k.sz) ∧ w2.cell? ⟨w.heap.size + 1, 3, none⟩ = some (.int .i64 b.v) := ⟨by simp [World.cell?, hx2], by simp [World.cell?, hx2], by simp [World.cell?, hx2], by simp [World.cell?, hx2]⟩
  have HD2 := Lib.hid D2
  have HB2 := Lib.hid b2
  clear CC HD1 HB1 HX2 hb2 hx2 D2 b2
  go_wp2_with fail
  clear p0 p1 p2 p3
  have D3 := HD2.out.alloc (.cells #[.int .i64 b.k.sp, .int .u64 b.k.va, .int .i64 b.k.sz, .int .i64 b.v] 73)
  have b3 := lo_alloc HB2.out (.cells #[.int .i64 b.k.sp, .int .u64 b.k.va, .int .i64 b.k.sz, .int .i64 b.v] 73)
  have hx3 := heap_alloc_new w2 (.cells #[.int .i64 b.k.sp, .int .u64 b.k.va, .int .i64 b.k.sz, .int .i64 b.v] 73)
  have hs3 : (w2.alloc (.cells #[.int .i64 b.k.sp, .int .u64 b.k.va, .int .i64 b.k.sz, .int .i64 b.v] 73)).heap.size = w2.heap.size + 1 := by simp
  generalize World.alloc w2 _ = w3 at *
  have own3 : w3.drew.ownsRow w2.heap.size 73 4 (.slice (some ⟨w2.heap.size, 0, none⟩) 1 1) [b].length (bkL [b]) := ⟨rfl, .inr ⟨w2.heap.size, 1, _, rfl, Nat.le_refl _, hx3, Nat.le_refl _, by unfold maxLen; omega, rfl, rfl⟩⟩
  have pc3 : POwn w3.drew v (L c) := by rw [← HH.out.2.2.2]; exact D3.drew.ch.rows c hcn
  obtain ⟨v', W4, hrun, ho4, hg4, hf4⟩ := p_append 58 w3.drew w2.heap.size _ v [b] (L c) own3 pc3 (by show w2.heap.size ≤ w3.heap.size; omega) (by simp; omega)
  have D4 : DP W4 w.heap.size bl (.slice (some ⟨g, 0, none⟩) n cap) n L U (w.heap.size + 1 + 1) := D3.drew.grown hg4 (fun e => by simp [Value.ownBlock] at e; omega) (fun e => by simp [Value.ownBlock] at e; omega) (fun k hk e => by
    obtain rfl : w2.heap.size = k := by simpa [Value.ownBlock] using e
    have := HD2.out.ch.lt hk; omega)
  have b4 : Below w.heap.size w W4 := (lo_drew b3).grown hg4 (lo_drew b3).size (fun q hq => by
    obtain rfl : w2.heap.size = q := by simpa [Value.ownBlock] using hq
    omega)
  have hv4 : ∀ k, v'.ownBlock = some k → w.heap.size ≤ k := fun k hk => by
    rcases hf4 k hk with e | e
    · obtain rfl : w2.heap.size = k := by simpa [Value.ownBlock] using e
      omega
    · rw [e]; show w.heap.size ≤ w3.heap.size; omega
  have CW := Lib.hid (rwith_any bl c v' (b :: L c) W4 D4.ch hcn (own_base ho4) HH.out.2.2.1)
  obtain ⟨ao4, cap4, rfl⟩ := own_shape3 ho4
  have SC := Lib.hid (fun (W : World) (h : DP W w.heap.size bl (.slice (some ⟨g, 0, none⟩) n cap) n L U (w.heap.size + 1 + 1)) => h.sc hg hcn HH.out.2.2.2)
  have hS3 := SC.out _ D3.drew
  have hS4 := SC.out _ D4
  have HV4 := Lib.hid hv4
  have HB4 := Lib.hid b4
  have HD4 := Lib.hid D4
  clear D3 b3 hx3 hs3 own3 pc3 ho4 hg4 hf4 D4 b4 hv4 hs2 HS1 HD2 HB2
  refine wp_region_held_drew (S := fun w1 => (w1.cell? ⟨w.heap.size, 0, none⟩ = some (.int .i64 bl) ∧ w1.cell? ⟨w.heap.size, 1, none⟩ = some (.slice (some ⟨g, 0, none⟩) n cap)) ∧ w1.cell? ⟨g, c, none⟩ = some v) (by kernel_rfl) hS3 (fun hHeld => ?_)
  refine wpAnyH_take (i := 0) (v := ?vt0) rfl (by kernel_rfl) (by kernel_rfl) (by kernel_rfl) (fun _ _ _ h => h) (Or.inl ⟨by rfl, ?ht0⟩) (by assumption) ?rt0
  case ht0 => (intro w hSw; (try dsimp only at hSw); go_simp <;> (with_reducible rfl))
  (try simp only [Act.put, List.setIfInBounds_toArray, List.set_cons_zero, List.set_cons_succ, List.getElem_toArray, List.getElem_cons_zero])
  refine wpAnyH_take (i := 1) (v := ?vt1) rfl (by kernel_rfl) (by kernel_rfl) (by kernel_rfl) (fun _ _ _ h => h) (Or.inl ⟨by rfl, ?ht1⟩) (by assumption) ?rt1
  case ht1 => (intro w hSw; (try dsimp only at hSw); go_simp <;> (with_reducible rfl))
  (try simp only [Act.put, List.setIfInBounds_toArray, List.set_cons_zero, List.set_cons_succ, List.getElem_toArray, List.getElem_cons_zero, List.getElem_cons_succ])
  refine wpAnyH_take (i := 2) (v := ?vt2) rfl (by kernel_rfl) (by kernel_rfl) (by kernel_rfl) (fun _ _ _ h => h) (Or.inl ⟨by rfl, ?ht2⟩) (by assumption) ?rt2
  case ht2 => (intro w hSw; (try dsimp only at hSw); go_simp <;> (with_reducible rfl))
  (try simp only [Act.put, List.setIfInBounds_toArray, List.set_cons_zero, List.set_cons_succ, List.getElem_toArray, List.getElem_cons_zero, List.getElem_cons_succ])
  refine wpAnyH_take (i := 3) (v := ?vt3) rfl (by kernel_rfl) (by kernel_rfl) (by kernel_rfl) (fun _ _ _ h => h) (Or.inl ⟨by rfl, ?ht3⟩) (by assumption) ?rt3
  case ht3 => (intro w hSw; (try dsimp only at hSw); go_simp <;> (with_reducible rfl))
  (try simp only [Act.put, List.setIfInBounds_toArray, List.set_cons_zero, List.set_cons_succ, List.getElem_toArray, List.getElem_cons_zero, List.getElem_cons_succ])
  refine wpAnyH_take (i := 4) (v := ?vt4) rfl (by kernel_rfl) (by kernel_rfl) (by kernel_rfl) (fun _ _ _ h => h) (Or.inl ⟨by rfl, ?ht4⟩) (by assumption) ?rt4
  case ht4 => (intro w hSw; (try dsimp only at hSw); go_simp <;> (with_reducible rfl))
  (try simp only [Act.put, List.setIfInBounds_toArray, List.set_cons_zero, List.set_cons_succ, List.getElem_toArray, List.getElem_cons_zero, List.getElem_cons_succ])
  refine wpAnyH_take (i := 5) (v := ?vt5) rfl (by kernel_rfl) (by kernel_rfl) (by kernel_rfl) (fun _ _ _ h => h) (Or.inl ⟨by rfl, ?ht5⟩) (by assumption) ?rt5
  case ht5 => (intro w hSw; (try dsimp only at hSw); go_simp <;> (with_reducible rfl))
  (try simp only [Act.put, List.setIfInBounds_toArray, List.set_cons_zero, List.set_cons_succ, List.getElem_toArray, List.getElem_cons_zero, List.getElem_cons_succ])
  refine wpAnyH_take (i := 6) (v := ?vt6) rfl (by kernel_rfl) (by kernel_rfl) (by kernel_rfl) (fun _ _ _ h => h) (Or.inl ⟨by rfl, ?ht6⟩) (by assumption) ?rt6
  case ht6 => (intro w hSw; (try dsimp only at hSw); go_simp <;> (with_reducible rfl))
  (try simp only [Act.put, List.setIfInBounds_toArray, List.set_cons_zero, List.set_cons_succ, List.getElem_toArray, List.getElem_cons_zero, List.getElem_cons_succ])
  refine wpAnyH_take (i := 7) (v := ?vt7) rfl (by kernel_rfl) (by kernel_rfl) (by kernel_rfl) (fun _ _ _ h => h) (Or.inl ⟨by rfl, ?ht7⟩) (by assumption) ?rt7
  case ht7 => (intro w hSw; (try dsimp only at hSw); go_simp <;> (with_reducible rfl))
  (try simp only [Act.put, List.setIfInBounds_toArray, List.set_cons_zero, List.set_cons_succ, List.getElem_toArray, List.getElem_cons_zero, List.getElem_cons_succ])
  refine wpAnyH_ready (rs := [8]) (by kernel_rfl) (by simp) ?_
  refine AllReadyH.cons rfl (fun K hK => ?_) AllReadyH.nil
  refine step_builtin_is Builtin.append_ (fun _ _ _ _ => rfl) rfl _ _ 58 58 rfl _ _ (by simp [Act.eval]) (by simp [Act.eval]) hrun ?_
  refine hK.out _ _ hS4 (fun hHeld => ?_)
  clear hK K
  (try simp only [Act.put, List.setIfInBounds_toArray, List.set_cons_zero, List.set_cons_succ, List.getElem_toArray, List.getElem_cons_zero, List.getElem_cons_succ])
  refine wpAnyH_ready (rs := [9]) (by kernel_rfl) (by simp) ?_
  refine AllReadyH.cons rfl (fun K hK => ?_) AllReadyH.nil
  go_simp
  refine (CW.out).mono ?_
  rintro r w5 ⟨s5, rfl, hw5⟩
  obtain ⟨g5, cap5, rfl, _, _, _⟩ := hw5.ch.form
  have D5 := HD4.out.low hw5.low
  have DT := Lib.hid (hw5.doc (w := w) (s := .slice (some ⟨g, 0, none⟩) n cap) HV4.out HB4.out)
  obtain ⟨⟨r0, r1⟩, r2, r3⟩ := D5.rc
  have hS5 := SC.out _ D5
  (try go_simp)
  refine hK.out _ _ hS5 (fun hHeld => ?_)
  clear hK K
  (try simp only [Act.put, List.setIfInBounds_toArray, List.set_cons_zero, List.set_cons_succ, List.getElem_toArray, List.getElem_cons_zero, List.getElem_cons_succ])
  have h6 := set_two D5.rx (.int .i64 bl) (.slice (some ⟨g5, 0, none⟩) n cap5)
  have hS6 : ((((w5.setCell ⟨w.heap.size + 1 + 1, 0, none⟩ (.int .i64 bl)).setCell ⟨w.heap.size + 1 + 1, 1, none⟩ (.slice (some ⟨g5, 0, none⟩) n cap5)).cell? ⟨w.heap.size, 0, none⟩ = some (.int .i64 bl) ∧ ((w5.setCell ⟨w.heap.size + 1 + 1, 0, none⟩ (.int .i64 bl)).setCell ⟨w.heap.size + 1 + 1, 1, none⟩ (.slice (some ⟨g5, 0, none⟩) n cap5)).cell? ⟨w.heap.size, 1, none⟩ = some (.slice (some ⟨g, 0, none⟩) n cap))) ∧ ((w5.setCell ⟨w.heap.size + 1 + 1, 0, none⟩ (.int .i64 bl)).setCell ⟨w.heap.size + 1 + 1, 1, none⟩ (.slice (some ⟨g5, 0, none⟩) n cap5)).cell? ⟨g, c, none⟩ = some v := by
    have hgl := HH.out.1.lt (.inl hg)
    have t1 := t_cells ((h6.2.2 w.heap.size (by omega)).trans D5.tx)
    refine ⟨t1, ?_⟩
    have := hS5.2
    unfold World.cell? at this ⊢
    dsimp only at this ⊢
    rw [h6.2.2 g (by omega)]
    exact this
  refine wpAnyH_ready (rs := [10]) (by kernel_rfl) (by simp) ?_
  refine AllReadyH.cons rfl (fun K hK => ?_) AllReadyH.nil
  go_simp
  refine hK.out _ _ hS6 (fun hHeld => ?_)
  clear hK K
  (try simp only [Act.put, List.setIfInBounds_toArray, List.set_cons_zero, List.set_cons_succ, List.getElem_toArray, List.getElem_cons_zero, List.getElem_cons_succ])
  refine wpAnyH_done (by kernel_rfl) ?_ _
  have DF := Lib.hid (DT.out.store D5.rx h6.2.2 (h6.2.1 w.heap.size (by omega)))
  have HX6 := Lib.hid h6.1
  clear h6 hS6 hS5 D5 DT r0 r1 r2 r3 hw5
  go_wp2_with fail
  exact bodyPost_ret (results_cell_row rfl _ _ _ _ _ (0, 0) _ rfl HX6.out Try.underlying27 (by kernel_rfl) (by kernel_rfl)) rfl ⟨_, rfl, DF.out⟩
end Go.Proofs.Ytilijnalhkeggaa.Hs
