/-
  The document's with and New of layer 11. Conditions: a table that is there.
-/
import Derived.Test.YtilijnalhkeggaaHDb
namespace Go.Proofs.Ytilijnalhkeggaa.Hs
open Fld
open Go.ChangeShapes Go.WideShapes Go.ChangeAt Go.RowKit Go.Maps
set_option maxHeartbeats 1000000
set_option maxRecDepth 100000
theorem infoS : (Try.prog.info? 58).map (fun i => (i.zero, i.size, i.bytes)) = some (some (.slice none 0 0), 1, 24) := by kernel_rfl
theorem set_two {W : World} {g : Nat} {a b : Value} {t : TypeId} (h : W.heap[g]? = some (.cells #[a, b] t (0, 0))) (x y : Value) :
    ((W.setCell ⟨g, 0, none⟩ x).setCell ⟨g, 1, none⟩ y).heap[g]? = some (.cells #[x, y] t (0, 0)) ∧ (∀ B, B ≤ g → Below B W ((W.setCell ⟨g, 0, none⟩ x).setCell ⟨g, 1, none⟩ y)) ∧ (∀ k, k ≠ g → ((W.setCell ⟨g, 0, none⟩ x).setCell ⟨g, 1, none⟩ y).heap[k]? = W.heap[k]?) := by
  refine ⟨?_, fun B hB => (((Below.refl B W).setCell hB x).setCell hB y), fun k hk => (Below.heap_setCell _ _ _ _ hk).trans (Below.heap_setCell _ _ _ _ hk)⟩
  rw [setCell_eq_setRow W g 0 _ _ _ _ h]
  have h1 := setRow_heap W g _ (#[a, b].setIfInBounds 0 x) _ _ h
  rw [setCell_eq_setRow _ g 1 _ _ _ _ h1]
  have h2 := setRow_heap _ g _ ((#[a, b].setIfInBounds 0 x).setIfInBounds 1 y) _ _ h1
  simpa using h2
theorem slice_one {v : Value} {ao : Option Addr} {n cap : Nat} (h : v = .slice ao n cap) : v.oneCell' = true := by rw [h]; rfl
theorem rows_one {w : World} {s : Value} {n : Nat} {L : Nat → List Bk} {U : Nat → Value} (h : ChW w s n L U) : ∀ u ∈ (List.range n).map U, u.oneCell' = true := fun u hu => by
  obtain ⟨i, hi, rfl⟩ := List.mem_map.1 hu
  obtain ⟨ao, cap, e⟩ := pown_shape (h.rows i (List.mem_range.1 hi))
  exact slice_one e
theorem range_set (U : Nat → Value) (v : Value) {c n : Nat} : ((List.range n).map U).set c v = (List.range n).map (setV U c v) := by
  apply List.ext_getElem
  · simp
  · intro i h1 h2
    simp only [List.getElem_set, List.getElem_map, List.getElem_range, setV]
    by_cases e : c = i
    · subst e; simp
    · rw [if_neg e, if_neg (fun x => e x.symm)]
theorem out_set {w : World} {B e q cap n : Nat} {xs : List Value} (h : w.ownsRow B e 1 (.slice (some ⟨q, 0, none⟩) n cap) n xs) {c : Nat} (v : Value) :
    (w.setCell ⟨q, c, none⟩ v).ownsRow B e 1 (.slice (some ⟨q, 0, none⟩) n cap) n (xs.set c v) := by
  rcases h.2 with ⟨hv, _⟩ | ⟨g', cap', cur, hv, hb, hgg, hnc, hcm, hcs, htake⟩
  · cases hv
  · cases hv
    rw [setCell_eq_setRow w q c cur e (0, 0) _ hgg]
    refine ⟨by rw [List.length_set]; exact h.1, .inr ⟨q, cap, _, rfl, hb, setRow_heap w q cur _ e _ hgg, by simpa using hnc, hcm, by simpa using hcs, ?_⟩⟩
    rw [← htake, Array.toList_setIfInBounds, List.take_set]
/-- What with hands back. -/
structure WithTo (w w' : World) (s' : Value) (n : Nat) (L' : Nat → List Bk) (U' : Nat → Value) : Prop where
  ch : ChW w' s' n L' U'
  new : ∀ k, s'.ownBlock = some k → w.heap.size ≤ k
  low : Below w.heap.size w w'
theorem rwith_any {s : Value} {n : Nat} {L : Nat → List Bk} {U : Nat → Value} (bl : Int) (c : Nat) (v : Value) (l : List Bk) (w : World) (h : ChW w s n L U) (hc : c < n) (hp : POwn w v l) (hfew : lenL (setL L c l) n ≤ 1073741824) :
    Calls Try.prog 52 #[.agg #[.int .i64 bl, s], .int .i64 (c : Int), v] w fun e w' => ∃ s', e = .returned (.agg #[.int .i64 bl, s']) ∧ WithTo w w' s' n (setL L c l) (setV U c v) := by
  obtain ⟨ik, hik, hz0, hz1, hz2⟩ := info_parts infoS
  obtain ⟨g, cap, rfl, hg, hnc, hcm⟩ := h.form
  have hn0 := h.n0
  have hn1 := h.n1
  obtain ⟨ao, capv, rfl⟩ := pown_shape hp
  have b1 : Below w.heap.size w ((w.alloc (.cells #[.int .i64 bl, .slice (some ⟨g, 0, none⟩) n cap] 27)).alloc (.cells #[.int .i64 0, .slice none 0 0] 27)) := by (repeat (first | (with_reducible assumption) | (with_reducible exact Below.refl _ _) | (with_reducible refine lo_step ?_ (by assumption)) | (with_reducible refine lo_drew ?_) | (with_reducible refine lo_drewN ?_ _) | (with_reducible refine lo_alloc ?_ _))) 
  have s1 : ((w.alloc (.cells #[.int .i64 bl, .slice (some ⟨g, 0, none⟩) n cap] 27)).alloc (.cells #[.int .i64 0, .slice none 0 0] 27)).heap.size = w.heap.size + 1 + 1 := by simp
  have x1 : ((w.alloc (.cells #[.int .i64 bl, .slice (some ⟨g, 0, none⟩) n cap] 27)).alloc (.cells #[.int .i64 0, .slice none 0 0] 27)).heap[w.heap.size]? = some (.cells #[.int .i64 bl, .slice (some ⟨g, 0, none⟩) n cap] 27 (0, 0)) := blk_low (heap_alloc_new w _) ((Below.refl _ _).alloc (Nat.le_refl _) _)
  have x2 : ((w.alloc (.cells #[.int .i64 bl, .slice (some ⟨g, 0, none⟩) n cap] 27)).alloc (.cells #[.int .i64 0, .slice none 0 0] 27)).heap[w.heap.size + 1]? = some (.cells #[.int .i64 0, .slice none 0 0] 27 (0, 0)) := by
    have := heap_alloc_new (w.alloc (.cells #[.int .i64 bl, .slice (some ⟨g, 0, none⟩) n cap] 27)) (.cells #[.int .i64 0, .slice none 0 0] 27)
    rwa [World.size_alloc] at this
  have H1 := h.low b1
  have P1 := own_same hp (fun q hq => b1.block q (hp.lt q hq).2)
  obtain ⟨q, cap2, W2, hrun, ho, hgr, hat, hql⟩ := run_append_lies (P := Try.prog) ((w.alloc (.cells #[.int .i64 bl, .slice (some ⟨g, 0, none⟩) n cap] 27)).alloc (.cells #[.int .i64 0, .slice none 0 0] 27)) 25 25 w.heap.size 58 ik _ 1 24 Try.underlying25 hik hz0 hz1 hz2 rfl (by decide) (.slice none 0 0) 0 [] (World.ownsRow_nil _ _ _ 1) ⟨g, 0, none⟩ n cap ((List.range n).map U) (by simp) (H1.outer.cells hg) (rows_one H1) (by omega) (by unfold maxLen; omega) (by omega) (by omega) _ rfl
  have hq : q = ((w.alloc (.cells #[.int .i64 bl, .slice (some ⟨g, 0, none⟩) n cap] 27)).alloc (.cells #[.int .i64 0, .slice none 0 0] 27)).heap.size := hat.elim (fun e => by simp [Value.ownBlock] at e) id
  simp only [Nat.zero_add, List.nil_append] at hrun ho
  have b2 : Below ((w.alloc (.cells #[.int .i64 bl, .slice (some ⟨g, 0, none⟩) n cap] 27)).alloc (.cells #[.int .i64 0, .slice none 0 0] 27)).heap.size ((w.alloc (.cells #[.int .i64 bl, .slice (some ⟨g, 0, none⟩) n cap] 27)).alloc (.cells #[.int .i64 0, .slice none 0 0] 27)) W2 := ⟨hgr.os, hgr.tape, hgr.output, hgr.size, fun k hk => hgr.block k hk (by simp [Value.ownBlock])⟩
  have o3 := out_set ho (c := c) (.slice ao l.length capv)
  rw [range_set] at o3
  have b3 : Below ((w.alloc (.cells #[.int .i64 bl, .slice (some ⟨g, 0, none⟩) n cap] 27)).alloc (.cells #[.int .i64 0, .slice none 0 0] 27)).heap.size ((w.alloc (.cells #[.int .i64 bl, .slice (some ⟨g, 0, none⟩) n cap] 27)).alloc (.cells #[.int .i64 0, .slice none 0 0] 27)) (W2.setCell ⟨q, c, none⟩ (.slice ao l.length capv)) := b2.setCell (by show ((w.alloc (.cells #[.int .i64 bl, .slice (some ⟨g, 0, none⟩) n cap] 27)).alloc (.cells #[.int .i64 0, .slice none 0 0] 27)).heap.size ≤ q; omega) _
  have x1c := blk_low x1 b2
  have x2c := blk_low x2 b3
  have x1d := blk_low x1 b3
  have y1 : ((w.alloc (.cells #[.int .i64 bl, .slice (some ⟨g, 0, none⟩) n cap] 27)).alloc (.cells #[.int .i64 0, .slice none 0 0] 27)).cell? ⟨w.heap.size, 1, none⟩ = some (.slice (some ⟨g, 0, none⟩) n cap) := by simp [World.cell?, x1]
  have hqc : W2.cell? ⟨q, c, none⟩ = some (U c) := by
    have := ho.cells rfl c (U c) (by simp [hc])
    rwa [addr_lit, Nat.zero_add] at this
  have hqf : W2.frozen? ⟨q, c, none⟩ = false := own_frozen ho rfl c
  have hc' : (c : Int) < (n : Int) := by omega
  obtain ⟨t0, t1⟩ := t_cells x1c
  have x2b := blk_low x2 b2
  obtain ⟨r0, r1⟩ := t_cells x2b
  have tf0 : W2.frozen? ⟨w.heap.size, 0, none⟩ = false := by simp [World.frozen?, x1c]
  have tf : W2.frozen? ⟨w.heap.size, 1, none⟩ = false := by simp [World.frozen?, x1c]
  have rf0 : W2.frozen? ⟨w.heap.size + 1, 0, none⟩ = false := by simp [World.frozen?, x2b]
  have rf1 : W2.frozen? ⟨w.heap.size + 1, 1, none⟩ = false := by simp [World.frozen?, x2b]
  have q1 : ¬ q = w.heap.size := by omega
  have q2 : ¬ w.heap.size = q := by omega
  have q3 : ¬ q = w.heap.size + 1 := by omega
  have q4 : ¬ w.heap.size + 1 = q := by omega
  have hn2 : n ≤ cap2 := by
    rcases own_form ho with ⟨hv, _⟩ | ⟨g', c', hv, _, a, _⟩
    · cases hv
    · cases hv; exact a
  have HB3 := Lib.hid b3
  have HO3 := Lib.hid o3
  have HX2 := Lib.hid x2c
  have HX1 := Lib.hid x1d
  have HQ := Lib.hid hq
  have HH := Lib.hid H1
  have HP := Lib.hid P1
  have HS := Lib.hid s1
  have HW := Lib.hid h
  clear H1 P1 x2c x1c x2b b2 b3 o3 ho hgr hat hik hz0 hz1 hz2 hql hq s1
  go_enter Try.func52, Try.ntmps52
  go_wp2_with (at_builtin; refine Lib.wpList_append_run _ rfl _ _ 25 25 rfl _ _ rfl rfl _ _ hrun ?_)
  have e3 := HB3.out
  have e4 := HX2.out
  have e5 := HO3.out
  generalize World.setCell W2 ⟨q, c, none⟩ _ = X3 at *
  have x4 : (X3.setCell ⟨w.heap.size, 1, none⟩ (.slice (some ⟨q, 0, none⟩) n cap2)).heap[w.heap.size + 1]? = some (.cells #[.int .i64 0, .slice none 0 0] 27 (0, 0)) := (Below.heap_setCell _ _ _ _ (by show w.heap.size + 1 ≠ w.heap.size; omega)).trans e4
  have h5 := set_two x4 (.int .i64 bl) (.slice (some ⟨q, 0, none⟩) n cap2)
  have hlow : Below w.heap.size w X3 := b1.trans (e3.mono (by simp; omega))
  have hlow2 := (hlow.setCell (p := ⟨w.heap.size, 1, none⟩) (Nat.le_refl _) (.slice (some ⟨q, 0, none⟩) n cap2)).trans (h5.2.1 w.heap.size (by omega))
  refine bodyPost_ret (results_cell_row rfl _ _ _ _ _ (0, 0) _ rfl h5.1 Try.underlying27 (by kernel_rfl) (by kernel_rfl)) rfl ⟨_, rfl, ⟨?_, ?_, hn0, hn1, hfew⟩, ?_, hlow2⟩
  · refine own_base (own_same e5 (fun k hk => ?_))
    obtain rfl : q = k := by simpa [Value.ownBlock] using hk
    exact (h5.2.2 q q3).trans (Below.heap_setCell _ _ _ _ q1)
  · intro i hi
    by_cases e : i = c
    · subst e; rw [setL_same, setV_same]; exact own_same hp (fun k hk => hlow2.block k (hp.lt k hk).2)
    · rw [setL_other _ _ e, setV_other _ _ e]; exact own_same (HW.out.rows i hi) (fun k hk => hlow2.block k ((HW.out.rows i hi).lt k hk).2)
  · intro k hk
    obtain rfl : q = k := by simpa [Value.ownBlock] using hk
    have h6 := HQ.out
    rw [HS.out] at h6
    omega

theorem made_slices (n : Nat) : (madeCells (Value.slice none 0 0).cells (n * 1)).toList = (List.range n).map (fun _ => nilS) := by
  rw [Nat.mul_one]
  show (madeCells #[.slice none 0 0] n).toList = _
  rw [toList_madeCells_one, List.map_const', List.length_range]; rfl
theorem rnew_any (bl ch : Int) (hc1 : ch ≤ 1000000) (w : World) :
    Calls Try.prog 10 #[.int .i64 bl, .int .i64 ch] w fun e w' => ∃ s', e = .returned (.agg #[.int .i64 (max bl 0), s']) ∧ WithTo w w' s' (max ch 1).toNat (fun _ => []) (fun _ => nilS) := by
  obtain ⟨i, hi, hz0, hz1, hz2⟩ := info_parts infoS
  obtain ⟨N, hN⟩ : ∃ N : Nat, (max ch 1).toNat = N := ⟨_, rfl⟩
  have hNI : max ch 1 = (N : Int) := by omega
  have hN0 : 1 ≤ N := by omega
  have hN1 : N ≤ 1000000 := by omega
  have hb : (i.bytes : Int) * (N : Int) ≤ 281474976710656 := by rw [hz2]; omega
  have hr := run_make (P := Try.prog) (w.alloc (.cells #[.int .i64 0, .slice none 0 0] 27)) 25 58 i _ Try.underlying25 hi hz0 .i64 .i64 (N : Int) (N : Int) (by omega) (Int.le_refl _) hb (by omega)
  simp only [Int.toNat_natCast, hz1] at hr
  obtain ⟨cur, hcur⟩ : ∃ cur, cur = madeCells (Value.slice none 0 0).cells (N * 1) := ⟨_, rfl⟩
  have hcl : cur.toList = (List.range N).map (fun _ => nilS) := by rw [hcur]; exact made_slices N
  rw [← hcur] at hr
  have x1 := heap_alloc_new (w.alloc (.cells #[.int .i64 0, .slice none 0 0] 27)) (.cells cur 58)
  have x0 : ((w.alloc (.cells #[.int .i64 0, .slice none 0 0] 27)).alloc (.cells cur 58)).heap[w.heap.size]? = some (.cells #[.int .i64 0, .slice none 0 0] 27 (0, 0)) := blk_low (heap_alloc_new w _) ((Below.refl _ _).alloc (Nat.le_refl _) _)
  rw [World.size_alloc] at x1 hr
  have b1 : Below w.heap.size w ((w.alloc (.cells #[.int .i64 0, .slice none 0 0] 27)).alloc (.cells cur 58)) := by (repeat (first | (with_reducible assumption) | (with_reducible exact Below.refl _ _) | (with_reducible refine lo_step ?_ (by assumption)) | (with_reducible refine lo_drew ?_) | (with_reducible refine lo_drewN ?_ _) | (with_reducible refine lo_alloc ?_ _))) 
  obtain ⟨t0, t1⟩ := t_cells x0
  have f0 : ((w.alloc (.cells #[.int .i64 0, .slice none 0 0] 27)).alloc (.cells cur 58)).frozen? ⟨w.heap.size, 0, none⟩ = false := by simp [World.frozen?, x0]
  have f1 : ((w.alloc (.cells #[.int .i64 0, .slice none 0 0] 27)).alloc (.cells cur 58)).frozen? ⟨w.heap.size, 1, none⟩ = false := by simp [World.frozen?, x0]
  have z1 := heap_alloc_new (w.alloc (.cells #[.int .i64 (max bl 0), .slice (some ⟨w.heap.size + 1, 0, none⟩) N N] 27)) (.cells cur 58)
  have z0 : ((w.alloc (.cells #[.int .i64 (max bl 0), .slice (some ⟨w.heap.size + 1, 0, none⟩) N N] 27)).alloc (.cells cur 58)).heap[w.heap.size]? = some (.cells #[.int .i64 (max bl 0), .slice (some ⟨w.heap.size + 1, 0, none⟩) N N] 27 (0, 0)) := blk_low (heap_alloc_new w _) ((Below.refl _ _).alloc (Nat.le_refl _) _)
  rw [World.size_alloc] at z1
  have b2 : Below w.heap.size w ((w.alloc (.cells #[.int .i64 (max bl 0), .slice (some ⟨w.heap.size + 1, 0, none⟩) N N] 27)).alloc (.cells cur 58)) := by (repeat (first | (with_reducible assumption) | (with_reducible exact Below.refl _ _) | (with_reducible refine lo_step ?_ (by assumption)) | (with_reducible refine lo_drew ?_) | (with_reducible refine lo_drewN ?_ _) | (with_reducible refine lo_alloc ?_ _))) 
  have own1 : ((w.alloc (.cells #[.int .i64 (max bl 0), .slice (some ⟨w.heap.size + 1, 0, none⟩) N N] 27)).alloc (.cells cur 58)).ownsRow 0 58 1 (.slice (some ⟨w.heap.size + 1, 0, none⟩) N N) N ((List.range N).map (fun _ => nilS)) := by
    have hsz : cur.size = N := by have := congrArg List.length hcl; simpa using this
    refine ⟨by simp, .inr ⟨w.heap.size + 1, N, cur, rfl, Nat.zero_le _, z1, Nat.le_refl _, by unfold maxLen; omega, by omega, ?_⟩⟩
    rw [hcl]; exact List.take_of_length_le (by simp)
  have HO := Lib.hid own1
  have HN := Lib.hid (And.intro hN hNI)
  have HB := Lib.hid b2
  have HX := Lib.hid z0
  clear hcur hcl own1 hi hz0 hz1 hz2 hb hN b1 b2 x0 x1 z0 z1
  go_enter Try.func10, Try.ntmps10
  go_wp2_with fail
  refine bodyPost_ret (results_cell_row rfl _ _ _ _ _ (0, 0) _ rfl HX.out Try.underlying27 (by kernel_rfl) (by kernel_rfl)) rfl ⟨_, rfl, ?_⟩
  rw [HN.out.1]
  refine ⟨⟨HO.out, fun i _ => World.ownsRow_nil _ _ _ 4, hN0, hN1, by rw [tlen_nil]; exact Nat.zero_le _⟩, fun k hk => ?_, HB.out⟩
  obtain rfl : w.heap.size + 1 = k := by simpa [Value.ownBlock] using hk
  omega

/-- A table that a function of the document's made of another one. -/
def DocTo (w w' : World) (s : Value) (n : Nat) (U : Nat → Value) (s' : Value) (n' : Nat) (L' : Nat → List Bk) : Prop :=
  ∃ U', ChW w' s' n' L' U' ∧ (∀ k, DocB s' n' U' k → DocB s n U k ∨ w.heap.size ≤ k) ∧ Below w.heap.size w w'
theorem DocTo.id {w w' : World} {s : Value} {n : Nat} {L : Nat → List Bk} {U : Nat → Value} (h : ChW w s n L U) (hb : Below w.heap.size w w') : DocTo w w' s n U s n L := ⟨U, h.low hb, fun _ hk => .inl hk, hb⟩
theorem DocTo.low {w w' w2 : World} {s s' : Value} {n n' : Nat} {L' : Nat → List Bk} {U : Nat → Value} (h : DocTo w w' s n U s' n' L') (hb : Below w'.heap.size w' w2) : DocTo w w2 s n U s' n' L' := by
  obtain ⟨U', a, b, c⟩ := h; exact ⟨U', a.low hb, b, lo_step c hb⟩
theorem WithTo.doc {w w1 w' : World} {s s' : Value} {n c : Nat} {L' : Nat → List Bk} {U : Nat → Value} {v : Value} (h : WithTo w1 w' s' n L' (setV U c v)) (hv : ∀ k, v.ownBlock = some k → w.heap.size ≤ k) (hb : Below w.heap.size w w1) : DocTo w w' s n U s' n L' := by
  refine ⟨_, h.ch, fun k hk => ?_, lo_step hb h.low⟩
  rcases hk with hk | ⟨i, hi, hk⟩
  · exact .inr (Nat.le_trans hb.size (h.new k hk))
  · by_cases e : i = c
    · subst e; rw [setV_same] at hk; exact .inr (hv k hk)
    · rw [setV_other _ _ e] at hk; exact .inl (.inr ⟨i, hi, hk⟩)
/-- A table in a box, and a result's box. -/
structure DP (w : World) (tb : Nat) (bl : Int) (s : Value) (n : Nat) (L : Nat → List Bk) (U : Nat → Value) (rb : Nat) : Prop where
  ch : ChW w s n L U
  tx : w.heap[tb]? = some (.cells #[.int .i64 bl, s] 27 (0, 0))
  rx : w.heap[rb]? = some (.cells #[.int .i64 0, .slice none 0 0] 27 (0, 0))
section
variable {w w' : World} {tb rb n : Nat} {bl : Int} {s : Value} {L : Nat → List Bk} {U : Nat → Value}
theorem DP.low (h : DP w tb bl s n L U rb) (hb : Below w.heap.size w w') : DP w' tb bl s n L U rb := ⟨h.ch.low hb, blk_low h.tx hb, blk_low h.rx hb⟩
theorem DP.drew (h : DP w tb bl s n L U rb) : DP w.drew tb bl s n L U rb := h.low (Below.refl _ w).drew
theorem DP.drewN (h : DP w tb bl s n L U rb) (m : Nat) : DP (w.drewN m) tb bl s n L U rb := h.low (below_drewN (Below.refl _ w) m)
theorem DP.alloc (h : DP w tb bl s n L U rb) (o : Obj) : DP (w.alloc o) tb bl s n L U rb := h.low ((Below.refl _ w).alloc (Nat.le_refl _) o)
theorem DP.sc (h : DP w tb bl s n L U rb) {g : Nat} (hg : s.ownBlock = some g) {c : Nat} (hc : c < n) {v : Value} (hv : U c = v) : (w.cell? ⟨tb, 0, none⟩ = some (.int .i64 bl) ∧ w.cell? ⟨tb, 1, none⟩ = some s) ∧ w.cell? ⟨g, c, none⟩ = some v :=
  ⟨t_cells h.tx, by rw [← hv]; exact h.ch.cell hg hc⟩
theorem DP.rc (h : DP w tb bl s n L U rb) : (w.cell? ⟨rb, 0, none⟩ = some (.int .i64 0) ∧ w.cell? ⟨rb, 1, none⟩ = some (.slice none 0 0)) ∧ w.frozen? ⟨rb, 0, none⟩ = false ∧ w.frozen? ⟨rb, 1, none⟩ = false := by
  have := h.rx
  exact ⟨t_cells h.rx, by simp [World.frozen?, this], by simp [World.frozen?, this]⟩
theorem DP.grown {r : Option Nat} (h : DP w tb bl s n L U rb) (hg : w.grownBy w' r) (h1 : r ≠ some tb) (h2 : r ≠ some rb) (h3 : ∀ k, DocB s n U k → r ≠ some k) : DP w' tb bl s n L U rb :=
  ⟨h.ch.same (fun k hk => hg.block k (h.ch.lt hk) (fun e => h3 k hk e.symm)), (hg.block tb (Array.getElem?_eq_some_iff.1 h.tx).1 (fun e => h1 e.symm)).trans h.tx, (hg.block rb (Array.getElem?_eq_some_iff.1 h.rx).1 (fun e => h2 e.symm)).trans h.rx⟩
end
theorem ChW.typ {w : World} {s : Value} {n : Nat} {L : Nat → List Bk} {U : Nat → Value} (h : ChW w s n L U) {k : Nat} (hk : DocB s n U k) : ∃ cur t, w.heap[k]? = some (.cells cur t (0, 0)) ∧ t ≠ 27 ∧ t ≠ 33 ∧ t ≠ 41 ∧ t ≠ 3 ∧ t ≠ 4 := by
  rcases hk with hk | ⟨i, hi, hk⟩
  · obtain ⟨cur, hc⟩ := own_obj h.outer hk
    exact ⟨cur, _, hc, by decide, by decide, by decide, by decide, by decide⟩
  · obtain ⟨cur, hc⟩ := own_obj (h.rows i hi) hk
    exact ⟨cur, _, hc, by decide, by decide, by decide, by decide, by decide⟩
/-- A box of a table's is filled. -/
theorem DocTo.store {w w1 w2 : World} {s s' : Value} {n n' rb : Nat} {L' : Nat → List Bk} {U : Nat → Value} {cs : Array Value} (h : DocTo w w1 s n U s' n' L') (hx : w1.heap[rb]? = some (.cells cs 27 (0, 0))) (hk : ∀ k, k ≠ rb → w2.heap[k]? = w1.heap[k]?) (hb : Below w.heap.size w1 w2) : DocTo w w2 s n U s' n' L' := by
  obtain ⟨U', a, b, c⟩ := h
  refine ⟨U', a.same (fun k hkk => hk k (fun e => ?_)), b, c.trans hb⟩
  obtain ⟨cur, t, h1, h2, _⟩ := a.typ hkk
  rw [e, hx] at h1
  injection h1 with h1
  injection h1 with _ h1 _
  exact h2 h1.symm
end Go.Proofs.Ytilijnalhkeggaa.Hs
