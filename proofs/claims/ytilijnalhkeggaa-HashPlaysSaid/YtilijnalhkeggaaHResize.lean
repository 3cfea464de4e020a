/-
  Contract of Resize of package hash. Conditions: a table that is there.
-/
import Derived.Test.YtilijnalhkeggaaHRes
namespace Go.Proofs.Ytilijnalhkeggaa.Hs
open Fld
open Ts (Stay Soft Firm Lp Sp lastMark)
open Go.ChangeShapes Go.WideShapes Go.ChangeAt Go.RowKit Go.Maps Go.Shelf
attribute [local go_sem] Oper.semAt_some
set_option maxHeartbeats 2000000
set_option maxRecDepth 100000
theorem resize_no {sb : Nat} (m : Int) (hm : m < 1) (w : World) :
    Calls Try.prog 21 #[.pointer (some ⟨sb, 0, none⟩), .int .i64 m] w fun e w' => e = .returned (.int .i64 1) ∧ Below w.heap.size w w' := by
  go_enter Try.func21, Try.ntmps21
  go_wp2
  go_ret
  exact ⟨rfl, (Below.refl _ _).alloc (Nat.le_refl _) _⟩
theorem resize_yes {sb n : Nat} {bl : Int} {L : Nat → List Bk} {O : Nat → Prop} (m : Nat) (hm : 1 ≤ m) (m1 : m ≤ 9223372036854775807) (w : World) (h : Tab w sb O n bl L) :
    Calls Try.prog 21 #[.pointer (some ⟨sb, 0, none⟩), .int .i64 (m : Int)] w fun e w' => e = .returned (.int .i64 0) ∧ TabTo w w' sb O m bl (resT L n m) := by
  have hT := h
  have hm0 : ¬ (m : Int) < 1 := by omega
  have hmm := @run_makeMap Try.prog
  refine (callsIn_wide (n := 3)).1 ?_
  refine callsIn_of_wp_marks Try.func21 rfl trivial ?_ rfl; simp only [Try.ntmps21, List.size_toArray, List.length_cons, List.length_nil, Nat.reduceAdd, Nat.reduceSub, Array.replicate_succ, Array.replicate_zero, List.push_toArray, List.append_toArray, List.nil_append, List.cons_append]
  gi_wp2_with fail
  have s3 : (((w.alloc (.cells #[.int .i64 (m : Int)] 3)).alloc (.map #[] 0)).alloc (.cells #[.map (some (w.heap.size + 1))] 64)).heap.size = w.heap.size + 1 + 1 + 1 := by simp
  have b3 : Below w.heap.size w (((w.alloc (.cells #[.int .i64 (m : Int)] 3)).alloc (.map #[] 0)).alloc (.cells #[.map (some (w.heap.size + 1))] 64)) := by (repeat (first | (with_reducible assumption) | (with_reducible exact Below.refl _ _) | (with_reducible refine lo_step ?_ (by assumption)) | (with_reducible refine lo_drew ?_) | (with_reducible refine lo_drewN ?_ _) | (with_reducible refine lo_alloc ?_ _))) 
  have x1 : (((w.alloc (.cells #[.int .i64 (m : Int)] 3)).alloc (.map #[] 0)).alloc (.cells #[.map (some (w.heap.size + 1))] 64)).heap[w.heap.size]? = some (.cells #[.int .i64 (m : Int)] 3 (0, 0)) :=
    blk_low (blk_low (heap_alloc_new w _) ((Below.refl _ _).alloc (Nat.le_refl _) _)) ((Below.refl _ _).alloc (Nat.le_refl _) _)
  have x2 : ∃ D, Owns (((w.alloc (.cells #[.int .i64 (m : Int)] 3)).alloc (.map #[] 0)).alloc (.cells #[.map (some (w.heap.size + 1))] 64)) (w.heap.size + 1) (Maps.size D) D ∧ MapIs D m (fun _ => nilS) := by
    have h1 := (World.ownsMap_made (w.alloc (.cells #[.int .i64 (m : Int)] 3)) Try.prog 3 hdR).alloc (.cells #[.map (some (w.heap.size + 1))] 64)
    rw [World.size_alloc] at h1
    exact ⟨_, owns_size h1, MapIs.empty m⟩
  have x3 : (((w.alloc (.cells #[.int .i64 (m : Int)] 3)).alloc (.map #[] 0)).alloc (.cells #[.map (some (w.heap.size + 1))] 64)).heap[w.heap.size + 1 + 1]? = some (.cells #[.map (some (w.heap.size + 1))] 64 (0, 0)) := by
    have := heap_alloc_new ((w.alloc (.cells #[.int .i64 (m : Int)] 3)).alloc (.map #[] 0)) (.cells #[.map (some (w.heap.size + 1))] 64)
    rwa [World.size_alloc, World.size_alloc] at this
  generalize World.alloc (World.alloc (World.alloc w _) _) _ = W3 at *
  refine ⟨trivial, (callsIn_wide.2 (all_any W3 (h.below b3 (Nat.le_refl _)))).mono ?_⟩
  rintro e W4 ⟨xb, v, rfl, hxb, hit, hb4⟩
  have s4 := hb4.size
  obtain ⟨bm, V0, ht, hO⟩ := h
  have hfew := ht.few
  have hb1 := ht.b1
  have hxl := (Array.getElem?_eq_some_iff.1 hit.box).1
  have F : RF w W4.heap.size w.heap.size (w.heap.size + 1 + 1) (w.heap.size + 1) xb m v (allL L n) := ⟨Nat.le_refl _, by omega, by omega, by omega, by omega, by omega, by omega, by omega, hxl, fun g hg => (hit.own.lt g hg).2, hm, m1, fun b hb => by
    obtain ⟨i, hi, hb⟩ := mem_all.1 hb; exact ht.good i hi b hb, by unfold lenL at hfew; omega⟩
  have R0 : RS w W3.heap.size W4.heap.size w.heap.size (w.heap.size + 1 + 1) (w.heap.size + 1) xb m v (allL L n) 0 W4 := by
    obtain ⟨D, ho, hM⟩ := x2
    have rv := (RV.zero (C := W4.heap.size) (l := allL L n) ⟨D, ho, hM⟩).low hb4
    exact ⟨b3.trans (hb4.mono b3.size), blk_low x1 hb4, blk_low x3 hb4, hit, Nat.le_refl _, _, rv.map, rv.rows, rv.nil, rv.apart⟩
  have hll : (allL L n).length = lenL L n := rfl
  clear x1 x2 x3 hit hxl hxb hmm
  gi_wp2_with fail
  refine range_its (n := 3) (gf := 61) (bnd := #[]) (lb := #[.pointer (some ⟨xb, 0, none⟩)]) (enc := encB (allL L n)) rfl (enters_of Try.func61 (by kernel_rfl) rfl) (fun q => all_iter q (B := W3.heap.size) (xb := xb) (v := v) (l := allL L n)) (fun _ => rfl)
    (fun i V => RS w W3.heap.size W4.heap.size w.heap.size (w.heap.size + 1 + 1) (w.heap.size + 1) xb m v (allL L n) i V) (fun _ => False) 0
    (fun i V h => h.it) (fun i => RS.firm (by have := b3.size; omega)) (Firm.pure _ _) R0
    (fun i a' V => ∃ kb, a' = { tmps := #[.pointer (some ⟨sb, 0, none⟩), .int .i64 (m : Int), undef, .pointer (some ⟨w.heap.size, 0, none⟩), .int .i64 0, .pointer (some ⟨w.heap.size + 1 + 1, 0, none⟩), .pointer (some ⟨kb, 0, none⟩), .int .i64 (at_ (allL L n) i).v, undef, .int .i64 (m : Int), .bool false, .map (some (w.heap.size + 1)), .pointer (some ⟨sb, 0, none⟩), .func (.func 61) #[] #[.pointer (some ⟨xb, 0, none⟩)], .agg #[.int .i64 (at_ (allL L n) i).k.sp, .int .u64 (at_ (allL L n) i).k.va, .int .i64 (at_ (allL L n) i).k.sz], .int .i64 (at_ (allL L n) i).v, undef, undef, undef, undef, undef, undef, undef, undef, undef, undef, undef, undef, undef, undef, undef, undef, undef, undef, undef, undef, undef], defers := [] } ∧ V.heap[kb]? = some (.cells #[.int .i64 (at_ (allL L n) i).k.sp, .int .u64 (at_ (allL L n) i).k.va, .int .i64 (at_ (allL L n) i).k.sz] 41 (0, 0)))
    (fun i a' V V' h hs => by
      obtain ⟨kb, e, hk⟩ := h
      exact ⟨kb, e, (Firm.cells W4.heap.size kb _ _ _) V V' hk hs⟩) ?assign ?body ?done ?stop
  case stop => intro V hf; exact hf.elim
  case assign =>
    rintro m2 l2 i V K hI hi hK
    have NL : Below V.heap.size V (V.alloc (.cells #[.int .i64 (at_ (allL L n) i).k.sp, .int .u64 (at_ (allL L n) i).k.va, .int .i64 (at_ (allL L n) i).k.sz] 41)) := (Below.refl _ _).alloc (Nat.le_refl _) _
    have NR := heap_alloc_new V (.cells #[.int .i64 (at_ (allL L n) i).k.sp, .int .u64 (at_ (allL L n) i).k.va, .int .i64 (at_ (allL L n) i).k.sz] 41)
    have hI3 := hI.low NL
    have hS : Stay W4.heap.size V _ := Stay.below NL
    unfold encB
    gi_wp2
    exact hK _ _ hS hI3 ⟨_, rfl, NR⟩
  case body =>
    rintro m2 l i a' V hI ⟨kb, rfl, hk⟩ hi
    obtain ⟨ik, hik, hz0, hz1, hz2⟩ := info_parts infoB
    have hok : (at_ (allL L n) i).k.Ok := F.ok _ (at_mem hi)
    have K0 : RK w W3.heap.size W4.heap.size w.heap.size (w.heap.size + 1 + 1) (w.heap.size + 1) xb m v (allL L n) i kb V := ⟨hI, hk⟩
    have c1 : V.cell? ⟨w.heap.size, 0, none⟩ = some (.int .i64 (m : Int)) := by have := hI.cbx; simp [World.cell?, this]
    obtain ⟨k0, k1, k2⟩ := key_cells hk
    have CC := Lib.hid (fun w => chain_any (at_ (allL L n) i).k hok.wf m hm m1 w)
    rw [chI_ok hok, chain_cast _ hm] at CC
    obtain ⟨c, hc⟩ : ∃ c, c = chainN (at_ (allL L n) i).k m := ⟨_, rfl⟩
    rw [← hc] at CC
    have hcm : c < m := by rw [hc]; exact chain_lt _ hm
    obtain ⟨b, hb⟩ : ∃ b, at_ (allL L n) i = b := ⟨_, rfl⟩
    have HB := Lib.hid hb
    have hone := bkL_one [b]
    simp only [bkL, List.append_nil] at hone
    rw [hb] at k0 k1 k2 CC ⊢
    have HC := Lib.hid hc
    clear hc hb hk hok
    gi_wp2_with fail
    refine ⟨trivial, fun h => absurd h (by decide), ?_⟩
    refine (CallsIn.inRound l (callsIn_wide.2 (CC.out _))).mono ?_
    rintro e V1 ⟨rfl, hbV⟩
    gi_wp2_with fail
    have K1 := K0.low hbV
    obtain ⟨VV, hv⟩ := K1.rs.rv
    have hlook := hv.drew.look m1 hcm
    have hlook2 := (hv.drew.low (V' := V1.drew.alloc (.cells #[.int .i64 b.k.sp, .int .u64 b.k.va, .int .i64 b.k.sz, .int .i64 b.v] 83)) ((Below.refl _ _).alloc (Nat.le_refl _) _)).look m1 hcm
    have hlook3 : (Instr.lookup 64 (.map (some (w.heap.size + 1))) (.int .i64 (c : Int)) false).run Try.prog ((V1.alloc (.cells #[.int .i64 b.k.sp, .int .u64 b.k.va, .int .i64 b.k.sz, .int .i64 b.v] 83)).drew) = .ok (VV c) ((V1.alloc (.cells #[.int .i64 b.k.sp, .int .u64 b.k.va, .int .i64 b.k.sz, .int .i64 b.v] 83)).drew) := hlook2
    have hrow := (hv.drew.low (V' := V1.drew.alloc (.cells #[.int .i64 b.k.sp, .int .u64 b.k.va, .int .i64 b.k.sz, .int .i64 b.v] 83)) ((Below.refl _ _).alloc (Nat.le_refl _) _)).rows c hcm
    have hnew := bk_new V1.drew b
    have hcl := (List.length_filter_le (fun x : Bk => chainN x.k m == c) ((allL L n).take i))
    rw [List.length_take] at hcl
    have hln : (resN (allL L n) m i c).length ≤ 1073741824 := by
      have hx : (resN (allL L n) m i c).length = (((allL L n).take i).filter (fun x : Bk => chainN x.k m == c)).length := rfl
      omega
    have hbase : W4.heap.size ≤ (V1.drew.alloc (.cells #[.int .i64 b.k.sp, .int .u64 b.k.va, .int .i64 b.k.sz, .int .i64 b.v] 83)).heap.size := by have := K1.rs.sz; simp; omega
    have hS0 := RK.cells (K1.low (Below.refl _ V1).drew)
    have hS1 := RK.cells ((K1.low (Below.refl _ V1).drew).low (V' := V1.drew.alloc (.cells #[.int .i64 b.k.sp, .int .u64 b.k.va, .int .i64 b.k.sz, .int .i64 b.v] 83)) ((Below.refl _ _).alloc (Nat.le_refl _) _))
    have HP := Lib.hid (fun g cap W2 => RK.put (W2 := W2) (g := g) (cap := cap) (c := c) F K1 hv hi HC.out)
    have HST := Lib.hid (Stay.below (B := W4.heap.size) hbV)
    rw [HB.out] at hS0 hS1 HP
    clear hcl CC K0 K1 hv hI c1 k0 k1 k2
    refine region_round_held (S := fun w1 => w1.cell? ⟨w.heap.size + 1 + 1, 0, none⟩ = some (.map (some (w.heap.size + 1))) ∧ w1.cell? ⟨kb, 0, none⟩ = some (.int .i64 b.k.sp) ∧ w1.cell? ⟨kb, 1, none⟩ = some (.int .u64 b.k.va) ∧ w1.cell? ⟨kb, 2, none⟩ = some (.int .i64 b.k.sz)) (by kernel_rfl) (by kernel_rfl) (by rintro ⟨a, w, h⟩; exact h) hS0 (fun hHeld => ?_)
    refine wpAnyH_take (i := 1) (v := ?vt1) rfl (by kernel_rfl) (by kernel_rfl) (by kernel_rfl) (fun _ _ _ h => h) (Or.inl ⟨by rfl, ?ht1⟩) (by assumption) ?rt1
    case ht1 => (intro w hSw; (try dsimp only at hSw); go_simp <;> (with_reducible rfl))
    (try simp only [Act.put, List.setIfInBounds_toArray, List.set_cons_zero, List.set_cons_succ, List.getElem_toArray, List.getElem_cons_zero, List.getElem_cons_succ])
    refine wpAnyH_take (i := 3) (v := ?vt3) rfl (by kernel_rfl) (by kernel_rfl) (by kernel_rfl) (fun _ _ _ h => h) (Or.inl ⟨by rfl, ?ht3⟩) (by assumption) ?rt3
    case ht3 => (intro w hSw; (try dsimp only at hSw); go_simp <;> (with_reducible rfl))
    (try simp only [Act.put, List.setIfInBounds_toArray, List.set_cons_zero, List.set_cons_succ, List.getElem_toArray, List.getElem_cons_zero, List.getElem_cons_succ])
    refine wpAnyH_take (i := 0) (v := ?vt0) rfl (by kernel_rfl) (by kernel_rfl) (by kernel_rfl) (fun _ _ _ h => h) (Or.inl ⟨by rfl, ?ht0⟩) (by assumption) ?rt0
    case ht0 => (intro w hSw; (try dsimp only at hSw); go_simp <;> (with_reducible rfl))
    (try simp only [Act.put, List.setIfInBounds_toArray, List.set_cons_zero, List.set_cons_succ, List.getElem_toArray, List.getElem_cons_zero])
    refine wpAnyH_take (i := 2) (v := ?vt2) rfl (by kernel_rfl) (by kernel_rfl) (by kernel_rfl) (fun _ _ _ h => h) (Or.inl ⟨by rfl, ?ht2⟩) (by assumption) ?rt2
    case ht2 => (intro w hSw; (try dsimp only at hSw); go_simp <;> (with_reducible rfl))
    (try simp only [Act.put, List.setIfInBounds_toArray, List.set_cons_zero, List.set_cons_succ, List.getElem_toArray, List.getElem_cons_zero, List.getElem_cons_succ])
    refine wpAnyH_take (i := 5) (v := ?vt5) rfl (by kernel_rfl) (by kernel_rfl) (by kernel_rfl) (fun _ _ _ h => h) (Or.inl ⟨by rfl, ?ht5⟩) (by assumption) ?rt5
    case ht5 => (intro w hSw; (try dsimp only at hSw); go_simp <;> (with_reducible rfl))
    (try simp only [Act.put, List.setIfInBounds_toArray, List.set_cons_zero, List.set_cons_succ, List.getElem_toArray, List.getElem_cons_zero, List.getElem_cons_succ])
    refine wpAnyH_take (i := 6) (v := ?vt6) rfl (by kernel_rfl) (by kernel_rfl) (by kernel_rfl) (fun _ _ _ h => h) (Or.inl ⟨by rfl, ?ht6⟩) (by assumption) ?rt6
    case ht6 => (intro w hSw; (try dsimp only at hSw); go_simp <;> (with_reducible rfl))
    (try simp only [Act.put, List.setIfInBounds_toArray, List.set_cons_zero, List.set_cons_succ, List.getElem_toArray, List.getElem_cons_zero, List.getElem_cons_succ])
    refine wpAnyH_take (i := 7) (v := ?vt7) rfl (by kernel_rfl) (by kernel_rfl) (by kernel_rfl) (fun _ _ _ h => h) (Or.inl ⟨by rfl, ?ht7⟩) (by assumption) ?rt7
    case ht7 => (intro w hSw; (try dsimp only at hSw); go_simp <;> (with_reducible rfl))
    (try simp only [Act.put, List.setIfInBounds_toArray, List.set_cons_zero, List.set_cons_succ, List.getElem_toArray, List.getElem_cons_zero, List.getElem_cons_succ])
    refine wpAnyH_ready (rs := [4, 8]) (by kernel_rfl) (by simp) ?_
    refine AllReadyH.cons rfl (fun K hK => ?_) (AllReadyH.cons rfl (fun K hK => ?_) AllReadyH.nil)
    · go_simp
      refine hK.out _ _ hS0 (fun hHeld => ?_)
      clear hK K
      (try simp only [Act.put, List.setIfInBounds_toArray, List.set_cons_zero, List.set_cons_succ, List.getElem_toArray, List.getElem_cons_zero, List.getElem_cons_succ])
      refine wpAnyH_ready (rs := [8]) (by kernel_rfl) (by simp) ?_
      refine AllReadyH.cons rfl (fun K hK => ?_) AllReadyH.nil
      go_simp
      refine hK.out _ _ hS1 (fun hHeld => ?_)
      clear hK K
      (try simp only [Act.put, List.setIfInBounds_toArray, List.set_cons_zero, List.set_cons_succ, List.getElem_toArray, List.getElem_cons_zero, List.getElem_cons_succ])
      refine wpAnyH_ready (rs := [9]) (by kernel_rfl) (by simp) ?_
      refine AllReadyH.cons rfl (fun K hK => ?_) AllReadyH.nil
      refine (step_append_lies _ rfl _ _ 78 rfl W4.heap.size 83 ik _ 4 32 Try.underlying78 hik hz0 hz1 hz2 rfl (by decide) (VV c) _ _ (by simp [Act.eval]) hrow ⟨V1.heap.size, 0, none⟩ 1 1 (bkC b) (by simp [Act.eval]) rfl (by exact World.news_of_block hnew) hone Nat.one_pos (by unfold maxLen; omega) (by omega) hbase _ rfl ?_)
      intro g cap W2 ho2 hg2 hat2 hlt2
      obtain ⟨hS2, W3b, hr3, hS3, hR3, hst3⟩ := HP.out g cap W2 ho2 hg2 hat2
      refine hK.out _ _ hS2 (fun hHeld => ?_)
      clear hK K
      (try simp only [Act.put, List.setIfInBounds_toArray, List.set_cons_zero, List.set_cons_succ, List.getElem_toArray, List.getElem_cons_zero, List.getElem_cons_succ])
      refine wpAnyH_ready (rs := [10]) (by kernel_rfl) (by simp) ?_
      refine AllReadyH.cons rfl (fun K hK => ?_) AllReadyH.nil
      go_simp
      refine hK.out _ _ hS3 (fun hHeld => ?_)
      clear hK K
      (try simp only [Act.put, List.setIfInBounds_toArray, List.set_cons_zero, List.set_cons_succ, List.getElem_toArray, List.getElem_cons_zero, List.getElem_cons_succ])
      refine wpAnyH_done (by kernel_rfl) ?_ _
      gi_wp2_with fail
      exact ⟨HST.out.trans hst3, hR3⟩
    · go_simp
      refine hK.out _ _ hS1 (fun hHeld => ?_)
      clear hK K
      (try simp only [Act.put, List.setIfInBounds_toArray, List.set_cons_zero, List.set_cons_succ, List.getElem_toArray, List.getElem_cons_zero, List.getElem_cons_succ])
      refine wpAnyH_ready (rs := [4]) (by kernel_rfl) (by simp) ?_
      refine AllReadyH.cons rfl (fun K hK => ?_) AllReadyH.nil
      go_simp
      refine hK.out _ _ hS1 (fun hHeld => ?_)
      clear hK K
      (try simp only [Act.put, List.setIfInBounds_toArray, List.set_cons_zero, List.set_cons_succ, List.getElem_toArray, List.getElem_cons_zero, List.getElem_cons_succ])
      refine wpAnyH_ready (rs := [9]) (by kernel_rfl) (by simp) ?_
      refine AllReadyH.cons rfl (fun K hK => ?_) AllReadyH.nil
      refine (step_append_lies _ rfl _ _ 78 rfl W4.heap.size 83 ik _ 4 32 Try.underlying78 hik hz0 hz1 hz2 rfl (by decide) (VV c) _ _ (by simp [Act.eval]) hrow ⟨V1.heap.size, 0, none⟩ 1 1 (bkC b) (by simp [Act.eval]) rfl (by exact World.news_of_block hnew) hone Nat.one_pos (by unfold maxLen; omega) (by omega) hbase _ rfl ?_)
      intro g cap W2 ho2 hg2 hat2 hlt2
      obtain ⟨hS2, W3b, hr3, hS3, hR3, hst3⟩ := HP.out g cap W2 ho2 hg2 hat2
      refine hK.out _ _ hS2 (fun hHeld => ?_)
      clear hK K
      (try simp only [Act.put, List.setIfInBounds_toArray, List.set_cons_zero, List.set_cons_succ, List.getElem_toArray, List.getElem_cons_zero, List.getElem_cons_succ])
      refine wpAnyH_ready (rs := [10]) (by kernel_rfl) (by simp) ?_
      refine AllReadyH.cons rfl (fun K hK => ?_) AllReadyH.nil
      go_simp
      refine hK.out _ _ hS3 (fun hHeld => ?_)
      clear hK K
      (try simp only [Act.put, List.setIfInBounds_toArray, List.set_cons_zero, List.set_cons_succ, List.getElem_toArray, List.getElem_cons_zero, List.getElem_cons_succ])
      refine wpAnyH_done (by kernel_rfl) ?_ _
      gi_wp2_with fail
      exact ⟨HST.out.trans hst3, hR3⟩
  case done =>
    rintro V hI hK
    have c1 : V.cell? ⟨w.heap.size, 0, none⟩ = some (.int .i64 (m : Int)) := by have := hI.cbx; simp [World.cell?, this]
    have c2 : V.cell? ⟨w.heap.size + 1 + 1, 0, none⟩ = some (.map (some (w.heap.size + 1))) := by have := hI.rbx; simp [World.cell?, this]
    have tV := ht.below hI.bel (Nat.le_refl _)
    obtain ⟨_, _, q2, q3, fr⟩ := tV.cells
    have f2 := fr 2
    have f3 := fr 3
    have hsl := ht.lt (.inl rfl)
    have hsbV := tV.row
    have HI := Lib.hid hI
    have HK := Lib.hid hK
    have HS := Lib.hid hsbV
    clear hI hK fr tV hsbV
    unfold lastMark
    gi_wp2_with fail
    refine wpIn_wide.2 ?_
    go_region
    have hCs : W4.heap.size ≠ sb := by have := hb4.size; have := b3.size; omega
    have e1 : (V.setCell ⟨sb, 3, none⟩ (.map (some (w.heap.size + 1)))).setCell ⟨sb, 2, none⟩ (.int .i64 (m : Int)) = (V.setRow sb #[.int .i64 bl, .int .i64 (lenL L n : Int), .int .i64 (n : Int), .map (some (w.heap.size + 1))]).setRow sb #[.int .i64 bl, .int .i64 (lenL L n : Int), .int .i64 (m : Int), .map (some (w.heap.size + 1))] := by
      rw [setCell_eq_setRow V sb 3 _ _ _ _ HS.out]
      have h1 := setRow_heap V sb _ (#[Value.int .i64 bl, .int .i64 (lenL L n : Int), .int .i64 (n : Int), .map (some bm)].setIfInBounds 3 (.map (some (w.heap.size + 1)))) _ _ HS.out
      rw [setCell_eq_setRow _ sb 2 _ _ _ _ h1]
      rfl
    have h1 := setRow_heap V sb _ #[.int .i64 bl, .int .i64 (lenL L n : Int), .int .i64 (n : Int), .map (some (w.heap.size + 1))] _ _ HS.out
    have h2 := setRow_heap _ sb _ #[.int .i64 bl, .int .i64 (lenL L n : Int), .int .i64 (m : Int), .map (some (w.heap.size + 1))] _ _ h1
    rw [e1]
    have hoth : ∀ k, k ≠ sb → ((V.setRow sb #[.int .i64 bl, .int .i64 (lenL L n : Int), .int .i64 (n : Int), .map (some (w.heap.size + 1))]).setRow sb #[.int .i64 bl, .int .i64 (lenL L n : Int), .int .i64 (m : Int), .map (some (w.heap.size + 1))]).heap[k]? = V.heap[k]? := fun k hk => (setRow_other _ _ k _ hk).trans (setRow_other _ _ k _ hk)
    have hKX := (hoth W4.heap.size hCs).trans HK.out
    have hfin : TabTo w ((((V.setRow sb #[.int .i64 bl, .int .i64 (lenL L n : Int), .int .i64 (n : Int), .map (some (w.heap.size + 1))]).setRow sb #[.int .i64 bl, .int .i64 (lenL L n : Int), .int .i64 (m : Int), .map (some (w.heap.size + 1))]).drew).putObj W4.heap.size (.deferred none)) sb O m bl (resT L n m) :=
      RS.done F ht hO HI.out HK.out rfl rfl rfl (by simp [World.setRow]) ((World.putObj_heap_other (fun e => hCs e.symm)).trans h2) (fun k h3 h4 => (World.putObj_heap_other h4).trans (hoth k h3))
    clear e1 h1 h2 c1 c2 q2 q3 f2 f3
    generalize World.setRow (World.setRow V _ _) _ _ = X at *
    gi_wp2
    refine ⟨by simp, .inl ⟨_, _, rfl, run_takeDeferred hKX, ?_⟩⟩
    exact ⟨_, results_tmp rfl _ _ _, rfl, hfin⟩
end Go.Proofs.Ytilijnalhkeggaa.Hs
