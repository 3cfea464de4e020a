/-
  The law's does of layer 11: Resize, Get. Conditions: both tables have the same.
-/
import Derived.Test.YtilijnalhkeggaaHDl
import Derived.Deep.RegionHeld3
namespace Go.Proofs.Ytilijnalhkeggaa.Hs
open Fld
open Go.ChangeShapes Go.WideShapes Go.ChangeAt Go.RowKit Go.Maps
set_option maxHeartbeats 2000000
set_option maxRecDepth 100000
theorem does_sizeY {w0 w : World} {sb n : Nat} {bl nn : Int} {k : Ky} {raw : Bool} {L : Nat → List Bk} {s : Value} {U : Nat → Value} {X : Nat → Prop} (hwf : (DeedV.mk 3 nn k raw).wf) {m : Nat} (hm : nn.tmod 40 = (m : Int) ∧ 1 ≤ m ∧ m ≤ 39) (h : KD w0 w sb bl n L s U n L X) :
    Calls Try.prog 11 #[.pointer (some ⟨sb, 0, none⟩), .agg #[.int .i64 bl, s], .agg #[.int .i64 3, .int .i64 nn, .int .i64 k.sp, .int .u64 k.va, .int .i64 k.sz, .bool raw]] w fun e w' => DoneD w0 w w' sb bl X e := by
  obtain ⟨g, cap, rfl, _, _, _⟩ := h.doc.form
  have hbl := h.ct.facts.2.2.2.2
  have CO := Lib.hid (fun w => of_any (DeedV.mk 3 nn k raw) hwf w)
  have hwk := ofK_wf hwf
  generalize ofK (DeedV.mk 3 nn k raw) = gk at *
  have b1 : Below w.heap.size w (((w.alloc (.cells #[.int .i64 bl, .slice (some ⟨g, 0, none⟩) n cap] 27)).alloc (.cells #[.int .i64 3, .int .i64 nn, .int .i64 k.sp, .int .u64 k.va, .int .i64 k.sz, .bool raw] 35)).alloc (.cells #[.int .i64 0, .slice none 0 0] 27)) := by (repeat (first | (with_reducible assumption) | (with_reducible exact Below.refl _ _) | (with_reducible refine lo_step ?_ (by assumption)) | (with_reducible refine lo_drew ?_) | (with_reducible refine lo_drewN ?_ _) | (with_reducible refine lo_alloc ?_ _))) 
  have s1 : (((w.alloc (.cells #[.int .i64 bl, .slice (some ⟨g, 0, none⟩) n cap] 27)).alloc (.cells #[.int .i64 3, .int .i64 nn, .int .i64 k.sp, .int .u64 k.va, .int .i64 k.sz, .bool raw] 35)).alloc (.cells #[.int .i64 0, .slice none 0 0] 27)).heap.size = w.heap.size + 1 + 1 + 1 := by simp
  have x0 : (((w.alloc (.cells #[.int .i64 bl, .slice (some ⟨g, 0, none⟩) n cap] 27)).alloc (.cells #[.int .i64 3, .int .i64 nn, .int .i64 k.sp, .int .u64 k.va, .int .i64 k.sz, .bool raw] 35)).alloc (.cells #[.int .i64 0, .slice none 0 0] 27)).heap[w.heap.size]? = some (.cells #[.int .i64 bl, .slice (some ⟨g, 0, none⟩) n cap] 27 (0, 0)) := blk_low (blk_low (heap_alloc_new w _) ((Below.refl _ _).alloc (Nat.le_refl _) _)) ((Below.refl _ _).alloc (Nat.le_refl _) _)
  have x1 : (((w.alloc (.cells #[.int .i64 bl, .slice (some ⟨g, 0, none⟩) n cap] 27)).alloc (.cells #[.int .i64 3, .int .i64 nn, .int .i64 k.sp, .int .u64 k.va, .int .i64 k.sz, .bool raw] 35)).alloc (.cells #[.int .i64 0, .slice none 0 0] 27)).heap[w.heap.size + 1]? = some (.cells #[.int .i64 3, .int .i64 nn, .int .i64 k.sp, .int .u64 k.va, .int .i64 k.sz, .bool raw] 35 (0, 0)) := by
    refine blk_low ?_ ((Below.refl _ _).alloc (Nat.le_refl _) _)
    have := heap_alloc_new (w.alloc (.cells #[.int .i64 bl, .slice (some ⟨g, 0, none⟩) n cap] 27)) (.cells #[.int .i64 3, .int .i64 nn, .int .i64 k.sp, .int .u64 k.va, .int .i64 k.sz, .bool raw] 35)
    rwa [World.size_alloc] at this
  have x2 : (((w.alloc (.cells #[.int .i64 bl, .slice (some ⟨g, 0, none⟩) n cap] 27)).alloc (.cells #[.int .i64 3, .int .i64 nn, .int .i64 k.sp, .int .u64 k.va, .int .i64 k.sz, .bool raw] 35)).alloc (.cells #[.int .i64 0, .slice none 0 0] 27)).heap[w.heap.size + 1 + 1]? = some (.cells #[.int .i64 0, .slice none 0 0] 27 (0, 0)) := by
    have := heap_alloc_new ((w.alloc (.cells #[.int .i64 bl, .slice (some ⟨g, 0, none⟩) n cap] 27)).alloc (.cells #[.int .i64 3, .int .i64 nn, .int .i64 k.sp, .int .u64 k.va, .int .i64 k.sz, .bool raw] 35)) (.cells #[.int .i64 0, .slice none 0 0] 27)
    rwa [World.size_alloc, World.size_alloc] at this
  have K1 := h.turnX b1 (Y := fun q => X q ∨ q = w.heap.size + 1 ∨ q = w.heap.size + 1 + 1) (fun q hq => by rcases hq with e | e | e; exact .inl e; exact .inr (by omega); exact .inr (by omega))
  have hgood := h.ct.facts.1
  have hr := Lib.hid hm
  have hm0 : 1 ≤ m := hm.2.1
  have hm1 : m ≤ 39 := hm.2.2
  have hmm := hm.1
  have H0 := Lib.hid h
  have H1 := Lib.hid (And.intro b1 (And.intro x0 (And.intro x1 (And.intro x2 (And.intro K1 s1)))))
  have HKW := Lib.hid hwk
  clear hm h b1 s1 x0 x1 x2 K1 hwk
  go_enter Try.func11, Try.ntmps11
  go_wp2_with fail
  refine (CO.out _).mono ?_; rintro e w2 ⟨rfl, hb2⟩
  have b2 := lo_step H1.out.1 hb2
  have y0 := blk_low H1.out.2.1 hb2
  have y1 := blk_low H1.out.2.2.1 hb2
  have y2 := blk_low H1.out.2.2.2.1 hb2
  have K2 := H1.out.2.2.2.2.1.low hb2
  have s2 := hb2.size
  rw [H1.out.2.2.2.2.2] at s2
  have NL : Below w2.heap.size w2 (w2.alloc (.cells #[.int .i64 gk.sp, .int .u64 gk.va, .int .i64 gk.sz] 33)) := (Below.refl _ _).alloc (Nat.le_refl _) _
  have K3 := K2.turnX NL (Y := fun q => X q ∨ q = w.heap.size + 1 ∨ q = w.heap.size + 1 + 1 ∨ q = w2.heap.size) (fun q hq => by rcases hq with e | e | e | e; exact .inl (.inl e); exact .inl (.inr (.inl e)); exact .inl (.inr (.inr e)); exact .inr (by simp; omega))
  have b3 := lo_step b2 NL
  have z0 := blk_low y0 NL
  have z1 := blk_low y1 NL
  have z2 := blk_low y2 NL
  have z3 := heap_alloc_new w2 (.cells #[.int .i64 gk.sp, .int .u64 gk.va, .int .i64 gk.sz] 33)
  obtain ⟨t0, t1⟩ := t_cells z0
  obtain ⟨d0, d1, d2⟩ := key_cells z3
  have c0 : (w2.alloc (.cells #[.int .i64 gk.sp, .int .u64 gk.va, .int .i64 gk.sz] 33)).cell? ⟨w.heap.size + 1, 0, none⟩ = some (.int .i64 3) := by simp [World.cell?, z1]
  have c1 : (w2.alloc (.cells #[.int .i64 gk.sp, .int .u64 gk.va, .int .i64 gk.sz] 33)).cell? ⟨w.heap.size + 1, 1, none⟩ = some (.int .i64 nn) := by simp [World.cell?, z1]
  have CD := Lib.hid (tresize_yes bl m hm0 (by omega) hgood _ K3.doc)
  have HS2 := Lib.hid s2
  have H3 := Lib.hid (And.intro b3 (And.intro K3 (And.intro z1 (And.intro z2 z3))))
  clear CO H1 hb2 b2 y0 y1 y2 K2 s2 NL K3 b3 z0 z1 z2 z3 hbl d0 d1 d2 hgood
  go_wp2_with fail
  refine CD.out.mono ?_; rintro e w4 ⟨s4, rfl, hd⟩
  obtain ⟨g4, cap4, rfl⟩ := hd.form
  obtain ⟨U4, K4⟩ := H3.out.2.1.turnDoc hd
  have NL : Below w4.heap.size w4 (w4.alloc (.cells #[.int .i64 bl, .slice (some ⟨g4, 0, none⟩) m cap4] 27)) := (Below.refl _ _).alloc (Nat.le_refl _) _
  have b5 := lo_step (lo_step H3.out.1 hd.bel) NL
  have K5 := K4.turnX NL (Y := EX X w.heap.size w2.heap.size w4.heap.size) (fun q hq => by rcases hq with e | e | e | e | e; exact .inl (.inl e); exact .inl (.inr (.inl e)); exact .inl (.inr (.inr (.inl e))); exact .inl (.inr (.inr (.inr e))); exact .inr (by simp; omega))
  have E5 : EB (w4.alloc (.cells #[.int .i64 bl, .slice (some ⟨g4, 0, none⟩) m cap4] 27)) w.heap.size w2.heap.size w4.heap.size 3 nn k raw gk bl (.slice (some ⟨g4, 0, none⟩) m cap4) :=
    ⟨blk_low (blk_low H3.out.2.2.1 hd.bel) NL, blk_low (blk_low H3.out.2.2.2.1 hd.bel) NL, blk_low (blk_low H3.out.2.2.2.2 hd.bel) NL, heap_alloc_new w4 _⟩
  have s4 := hd.bel.size
  rw [World.size_alloc] at s4
  have hkb : w2.heap.size ≠ w.heap.size + 1 + 1 := by have := HS2.out; omega
  have hob : w4.heap.size ≠ w.heap.size + 1 + 1 := by have := HS2.out; omega
  have HN := Lib.hid (And.intro hkb hob)
  have SC := Lib.hid (fun (W : World) (E : EB W w.heap.size w2.heap.size w4.heap.size 3 nn k raw gk bl (.slice (some ⟨g4, 0, none⟩) m cap4)) => E.cells)
  have hS5 := SC.out _ (E5.low (Below.refl _ _).drew)
  have H5 := Lib.hid (And.intro b5 (And.intro K5 E5))
  have CP := Lib.hid (K5.drew.ct.resize m hm0 (by omega))
  clear K4 NL b5 K5 E5 hd H3 CD t0 t1 c0 c1 s4 hkb hob
  go_wp2_with fail
  refine wp_region_held_drew (S := fun w1 => (w1.cell? ⟨w4.heap.size, 0, none⟩ = some (.int .i64 bl) ∧ w1.cell? ⟨w4.heap.size, 1, none⟩ = some (.slice (some ⟨g4, 0, none⟩) m cap4)) ∧ (w1.cell? ⟨w2.heap.size, 0, none⟩ = some (.int .i64 gk.sp) ∧ w1.cell? ⟨w2.heap.size, 1, none⟩ = some (.int .u64 gk.va) ∧ w1.cell? ⟨w2.heap.size, 2, none⟩ = some (.int .i64 gk.sz)) ∧ w1.cell? ⟨w.heap.size + 1, 1, none⟩ = some (.int .i64 nn)) (by kernel_rfl) hS5 (fun hHeld => ?_)
  refine wpAnyH_take (i := 0) (v := ?vt0) rfl (by kernel_rfl) (by kernel_rfl) (by kernel_rfl) (fun _ _ _ h => h) (Or.inl ⟨by rfl, ?ht0⟩) (by assumption) ?rt0
  case ht0 => (intro w hSw; (try dsimp only at hSw); go_simp <;> (with_reducible rfl))
  (try simp only [Act.put, List.setIfInBounds_toArray, List.set_cons_zero, List.set_cons_succ, List.getElem_toArray, List.getElem_cons_zero])
  refine wpAnyH_take (i := 1) (v := ?vt1) rfl (by kernel_rfl) (by kernel_rfl) (by kernel_rfl) (fun _ _ _ h => h) (Or.inl ⟨by rfl, ?ht1⟩) (by assumption) ?rt1
  case ht1 => (intro w hSw; (try dsimp only at hSw); go_simp <;> (with_reducible rfl))
  (try simp only [Act.put, List.setIfInBounds_toArray, List.set_cons_zero, List.set_cons_succ, List.getElem_toArray, List.getElem_cons_zero, List.getElem_cons_succ])
  refine wpAnyH_take (i := 2) (v := ?vt2) rfl (by kernel_rfl) (by kernel_rfl) (by kernel_rfl) (fun _ _ _ h => h) (Or.inl ⟨by rfl, ?ht2⟩) (by assumption) ?rt2
  case ht2 => (intro w hSw; (try dsimp only at hSw); go_simp <;> (with_reducible rfl))
  (try simp only [Act.put, List.setIfInBounds_toArray, List.set_cons_zero, List.set_cons_succ, List.getElem_toArray, List.getElem_cons_zero, List.getElem_cons_succ])
  refine wpAnyH_take (i := 4) (v := ?vt4) rfl (by kernel_rfl) (by kernel_rfl) (by kernel_rfl) (fun _ _ _ h => h) (Or.inl ⟨by rfl, ?ht4⟩) (by assumption) ?rt4
  case ht4 => (intro w hSw; (try dsimp only at hSw); go_simp <;> (with_reducible rfl))
  (try simp only [Act.put, List.setIfInBounds_toArray, List.set_cons_zero, List.set_cons_succ, List.getElem_toArray, List.getElem_cons_zero, List.getElem_cons_succ])
  refine wpAnyH_ready (rs := [3]) (by kernel_rfl) (by simp) ?_
  refine AllReadyH.cons rfl (fun K hK => ?_) AllReadyH.nil
  go_simp
  refine (CP.out).mono ?_
  rintro r w7 ⟨rfl, c7, k7⟩
  have K7 := H5.out.2.1.drew.turn c7 k7
  have E7 := (H5.out.2.2.low (Below.refl _ _).drew).kept (X := X) k7 (fun q hq => .inl hq)
  have hS7 := SC.out _ E7
  have HD := Lib.hid (EB.done H0.out (lo_drew H5.out.1) (fun q hq => k7.1 q (.inl (.inl hq))) k7.2 K7 E7)
  have hS8 := E7.after HN.out.1 HN.out.2 (.int .i64 bl) (.slice (some ⟨g4, 0, none⟩) m cap4)
  obtain ⟨⟨f0, f1⟩, f2, f3⟩ := E7.rc
  dsimp only at hS8
  clear K7 E7 CP c7 k7
  (try go_simp)
  refine hK.out _ _ hS7 (fun hHeld => ?_)
  clear hK K
  (try simp only [Act.put, List.setIfInBounds_toArray, List.set_cons_zero, List.set_cons_succ, List.getElem_toArray, List.getElem_cons_zero, List.getElem_cons_succ])
  refine wpAnyH_take (i := 5) (v := .bool true) rfl (by kernel_rfl) (by kernel_rfl) (by kernel_rfl) (fun _ _ _ h => h) (Or.inl ⟨by rfl, ?ht5⟩) (by assumption) ?rt5
  case ht5 => (intro w hSw; (try dsimp only at hSw); go_simp)
  (try simp only [Act.put, List.setIfInBounds_toArray, List.set_cons_zero, List.set_cons_succ, List.getElem_toArray, List.getElem_cons_zero, List.getElem_cons_succ])
  refine wpAnyH_ready (rs := [6]) (by kernel_rfl) (by simp) ?_
  refine AllReadyH.cons rfl (fun K hK => ?_) AllReadyH.nil
  go_simp
  refine hK.out _ _ hS8 (fun hHeld => ?_)
  clear hK K
  (try simp only [Act.put, List.setIfInBounds_toArray, List.set_cons_zero, List.set_cons_succ, List.getElem_toArray, List.getElem_cons_zero, List.getElem_cons_succ])
  refine wpAnyH_take (i := 7) (v := ?vu7) rfl (by kernel_rfl) (by kernel_rfl) (by kernel_rfl) (fun _ _ _ h => h) (Or.inl ⟨by rfl, ?hu7⟩) (by assumption) ?ru7
  case hu7 => (intro w hSw; (try dsimp only at hSw); go_simp <;> (with_reducible rfl))
  (try simp only [Act.put, List.setIfInBounds_toArray, List.set_cons_zero, List.set_cons_succ, List.getElem_toArray, List.getElem_cons_zero, List.getElem_cons_succ])
  refine wpAnyH_done (by kernel_rfl) ?_ _
  clear f0 f1 f2 f3 hS8 hS7 hS5
  go_wp2_with fail
  exact bodyPost_ret (res_T rfl _ _ _ _ _ rfl HD.out.1) rfl ⟨_, _, _, _, rfl, HD.out.2⟩
theorem does_sizeN {w0 w : World} {sb n : Nat} {bl nn : Int} {k : Ky} {raw : Bool} {L : Nat → List Bk} {s : Value} {U : Nat → Value} {X : Nat → Prop} (hwf : (DeedV.mk 3 nn k raw).wf) {q : Int} (hm : nn.tmod 40 = q ∧ q < 1) (h : KD w0 w sb bl n L s U n L X) :
    Calls Try.prog 11 #[.pointer (some ⟨sb, 0, none⟩), .agg #[.int .i64 bl, s], .agg #[.int .i64 3, .int .i64 nn, .int .i64 k.sp, .int .u64 k.va, .int .i64 k.sz, .bool raw]] w fun e w' => DoneD w0 w w' sb bl X e := by
  obtain ⟨g, cap, rfl, _, _, _⟩ := h.doc.form
  have hbl := h.ct.facts.2.2.2.2
  have CO := Lib.hid (fun w => of_any (DeedV.mk 3 nn k raw) hwf w)
  have hwk := ofK_wf hwf
  generalize ofK (DeedV.mk 3 nn k raw) = gk at *
  have b1 : Below w.heap.size w (((w.alloc (.cells #[.int .i64 bl, .slice (some ⟨g, 0, none⟩) n cap] 27)).alloc (.cells #[.int .i64 3, .int .i64 nn, .int .i64 k.sp, .int .u64 k.va, .int .i64 k.sz, .bool raw] 35)).alloc (.cells #[.int .i64 0, .slice none 0 0] 27)) := by (repeat (first | (with_reducible assumption) | (with_reducible exact Below.refl _ _) | (with_reducible refine lo_step ?_ (by assumption)) | (with_reducible refine lo_drew ?_) | (with_reducible refine lo_drewN ?_ _) | (with_reducible refine lo_alloc ?_ _))) 
  have s1 : (((w.alloc (.cells #[.int .i64 bl, .slice (some ⟨g, 0, none⟩) n cap] 27)).alloc (.cells #[.int .i64 3, .int .i64 nn, .int .i64 k.sp, .int .u64 k.va, .int .i64 k.sz, .bool raw] 35)).alloc (.cells #[.int .i64 0, .slice none 0 0] 27)).heap.size = w.heap.size + 1 + 1 + 1 := by simp
  have x0 : (((w.alloc (.cells #[.int .i64 bl, .slice (some ⟨g, 0, none⟩) n cap] 27)).alloc (.cells #[.int .i64 3, .int .i64 nn, .int .i64 k.sp, .int .u64 k.va, .int .i64 k.sz, .bool raw] 35)).alloc (.cells #[.int .i64 0, .slice none 0 0] 27)).heap[w.heap.size]? = some (.cells #[.int .i64 bl, .slice (some ⟨g, 0, none⟩) n cap] 27 (0, 0)) := blk_low (blk_low (heap_alloc_new w _) ((Below.refl _ _).alloc (Nat.le_refl _) _)) ((Below.refl _ _).alloc (Nat.le_refl _) _)
  have x1 : (((w.alloc (.cells #[.int .i64 bl, .slice (some ⟨g, 0, none⟩) n cap] 27)).alloc (.cells #[.int .i64 3, .int .i64 nn, .int .i64 k.sp, .int .u64 k.va, .int .i64 k.sz, .bool raw] 35)).alloc (.cells #[.int .i64 0, .slice none 0 0] 27)).heap[w.heap.size + 1]? = some (.cells #[.int .i64 3, .int .i64 nn, .int .i64 k.sp, .int .u64 k.va, .int .i64 k.sz, .bool raw] 35 (0, 0)) := by
    refine blk_low ?_ ((Below.refl _ _).alloc (Nat.le_refl _) _)
    have := heap_alloc_new (w.alloc (.cells #[.int .i64 bl, .slice (some ⟨g, 0, none⟩) n cap] 27)) (.cells #[.int .i64 3, .int .i64 nn, .int .i64 k.sp, .int .u64 k.va, .int .i64 k.sz, .bool raw] 35)
    rwa [World.size_alloc] at this
  have x2 : (((w.alloc (.cells #[.int .i64 bl, .slice (some ⟨g, 0, none⟩) n cap] 27)).alloc (.cells #[.int .i64 3, .int .i64 nn, .int .i64 k.sp, .int .u64 k.va, .int .i64 k.sz, .bool raw] 35)).alloc (.cells #[.int .i64 0, .slice none 0 0] 27)).heap[w.heap.size + 1 + 1]? = some (.cells #[.int .i64 0, .slice none 0 0] 27 (0, 0)) := by
    have := heap_alloc_new ((w.alloc (.cells #[.int .i64 bl, .slice (some ⟨g, 0, none⟩) n cap] 27)).alloc (.cells #[.int .i64 3, .int .i64 nn, .int .i64 k.sp, .int .u64 k.va, .int .i64 k.sz, .bool raw] 35)) (.cells #[.int .i64 0, .slice none 0 0] 27)
    rwa [World.size_alloc, World.size_alloc] at this
  have K1 := h.turnX b1 (Y := fun q => X q ∨ q = w.heap.size + 1 ∨ q = w.heap.size + 1 + 1) (fun q hq => by rcases hq with e | e | e; exact .inl e; exact .inr (by omega); exact .inr (by omega))
  have hmm := hm.1
  have hlt := hm.2
  have H0 := Lib.hid h
  have H1 := Lib.hid (And.intro b1 (And.intro x0 (And.intro x1 (And.intro x2 (And.intro K1 s1)))))
  have HKW := Lib.hid hwk
  clear hm h b1 s1 x0 x1 x2 K1 hwk
  go_enter Try.func11, Try.ntmps11
  go_wp2_with fail
  refine (CO.out _).mono ?_; rintro e w2 ⟨rfl, hb2⟩
  have b2 := lo_step H1.out.1 hb2
  have y0 := blk_low H1.out.2.1 hb2
  have y1 := blk_low H1.out.2.2.1 hb2
  have y2 := blk_low H1.out.2.2.2.1 hb2
  have K2 := H1.out.2.2.2.2.1.low hb2
  have s2 := hb2.size
  rw [H1.out.2.2.2.2.2] at s2
  have NL : Below w2.heap.size w2 (w2.alloc (.cells #[.int .i64 gk.sp, .int .u64 gk.va, .int .i64 gk.sz] 33)) := (Below.refl _ _).alloc (Nat.le_refl _) _
  have K3 := K2.turnX NL (Y := fun q => X q ∨ q = w.heap.size + 1 ∨ q = w.heap.size + 1 + 1 ∨ q = w2.heap.size) (fun q hq => by rcases hq with e | e | e | e; exact .inl (.inl e); exact .inl (.inr (.inl e)); exact .inl (.inr (.inr e)); exact .inr (by simp; omega))
  have b3 := lo_step b2 NL
  have z0 := blk_low y0 NL
  have z1 := blk_low y1 NL
  have z2 := blk_low y2 NL
  have z3 := heap_alloc_new w2 (.cells #[.int .i64 gk.sp, .int .u64 gk.va, .int .i64 gk.sz] 33)
  obtain ⟨t0, t1⟩ := t_cells z0
  obtain ⟨d0, d1, d2⟩ := key_cells z3
  have c0 : (w2.alloc (.cells #[.int .i64 gk.sp, .int .u64 gk.va, .int .i64 gk.sz] 33)).cell? ⟨w.heap.size + 1, 0, none⟩ = some (.int .i64 3) := by simp [World.cell?, z1]
  have c1 : (w2.alloc (.cells #[.int .i64 gk.sp, .int .u64 gk.va, .int .i64 gk.sz] 33)).cell? ⟨w.heap.size + 1, 1, none⟩ = some (.int .i64 nn) := by simp [World.cell?, z1]
  have CD := Lib.hid (tresize_no bl q hlt _ K3.doc)
  have HS2 := Lib.hid s2
  have H3 := Lib.hid (And.intro b3 (And.intro K3 (And.intro z1 (And.intro z2 z3))))
  clear CO H1 hb2 b2 y0 y1 y2 K2 s2 NL K3 b3 z0 z1 z2 z3 hbl d0 d1 d2
  go_wp2_with fail
  refine CD.out.mono ?_; rintro e w4 ⟨s4, rfl, hd⟩
  obtain ⟨g4, cap4, rfl⟩ := hd.form
  obtain ⟨U4, K4⟩ := H3.out.2.1.turnDoc hd
  have NL : Below w4.heap.size w4 (w4.alloc (.cells #[.int .i64 bl, .slice (some ⟨g4, 0, none⟩) n cap4] 27)) := (Below.refl _ _).alloc (Nat.le_refl _) _
  have b5 := lo_step (lo_step H3.out.1 hd.bel) NL
  have K5 := K4.turnX NL (Y := EX X w.heap.size w2.heap.size w4.heap.size) (fun q hq => by rcases hq with e | e | e | e | e; exact .inl (.inl e); exact .inl (.inr (.inl e)); exact .inl (.inr (.inr (.inl e))); exact .inl (.inr (.inr (.inr e))); exact .inr (by simp; omega))
  have E5 : EB (w4.alloc (.cells #[.int .i64 bl, .slice (some ⟨g4, 0, none⟩) n cap4] 27)) w.heap.size w2.heap.size w4.heap.size 3 nn k raw gk bl (.slice (some ⟨g4, 0, none⟩) n cap4) :=
    ⟨blk_low (blk_low H3.out.2.2.1 hd.bel) NL, blk_low (blk_low H3.out.2.2.2.1 hd.bel) NL, blk_low (blk_low H3.out.2.2.2.2 hd.bel) NL, heap_alloc_new w4 _⟩
  have s4 := hd.bel.size
  rw [World.size_alloc] at s4
  have hkb : w2.heap.size ≠ w.heap.size + 1 + 1 := by have := HS2.out; omega
  have hob : w4.heap.size ≠ w.heap.size + 1 + 1 := by have := HS2.out; omega
  have HN := Lib.hid (And.intro hkb hob)
  have SC := Lib.hid (fun (W : World) (E : EB W w.heap.size w2.heap.size w4.heap.size 3 nn k raw gk bl (.slice (some ⟨g4, 0, none⟩) n cap4)) => E.cells)
  have hS5 := SC.out _ (E5.low (Below.refl _ _).drew)
  have H5 := Lib.hid (And.intro b5 (And.intro K5 E5))
  have CP := Lib.hid (resize_no (sb := sb) q hlt (w4.alloc (.cells #[.int .i64 bl, .slice (some ⟨g4, 0, none⟩) n cap4] 27)).drew)
  clear K4 NL b5 K5 E5 hd H3 CD t0 t1 c0 c1 s4 hkb hob
  go_wp2_with fail
  refine wp_region_held_drew (S := fun w1 => (w1.cell? ⟨w4.heap.size, 0, none⟩ = some (.int .i64 bl) ∧ w1.cell? ⟨w4.heap.size, 1, none⟩ = some (.slice (some ⟨g4, 0, none⟩) n cap4)) ∧ (w1.cell? ⟨w2.heap.size, 0, none⟩ = some (.int .i64 gk.sp) ∧ w1.cell? ⟨w2.heap.size, 1, none⟩ = some (.int .u64 gk.va) ∧ w1.cell? ⟨w2.heap.size, 2, none⟩ = some (.int .i64 gk.sz)) ∧ w1.cell? ⟨w.heap.size + 1, 1, none⟩ = some (.int .i64 nn)) (by kernel_rfl) hS5 (fun hHeld => ?_)
  refine wpAnyH_take (i := 0) (v := ?vt0) rfl (by kernel_rfl) (by kernel_rfl) (by kernel_rfl) (fun _ _ _ h => h) (Or.inl ⟨by rfl, ?ht0⟩) (by assumption) ?rt0
  case ht0 => (intro w hSw; (try dsimp only at hSw); go_simp <;> (with_reducible rfl))
  (try simp only [Act.put, List.setIfInBounds_toArray, List.set_cons_zero, List.set_cons_succ, List.getElem_toArray, List.getElem_cons_zero])
  refine wpAnyH_take (i := 1) (v := ?vt1) rfl (by kernel_rfl) (by kernel_rfl) (by kernel_rfl) (fun _ _ _ h => h) (Or.inl ⟨by rfl, ?ht1⟩) (by assumption) ?rt1
  case ht1 => (intro w hSw; (try dsimp only at hSw); go_simp <;> (with_reducible rfl))
  (try simp only [Act.put, List.setIfInBounds_toArray, List.set_cons_zero, List.set_cons_succ, List.getElem_toArray, List.getElem_cons_zero, List.getElem_cons_succ])
  refine wpAnyH_take (i := 2) (v := ?vt2) rfl (by kernel_rfl) (by kernel_rfl) (by kernel_rfl) (fun _ _ _ h => h) (Or.inl ⟨by rfl, ?ht2⟩) (by assumption) ?rt2
  case ht2 => (intro w hSw; (try dsimp only at hSw); go_simp <;> (with_reducible rfl))
  (try simp only [Act.put, List.setIfInBounds_toArray, List.set_cons_zero, List.set_cons_succ, List.getElem_toArray, List.getElem_cons_zero, List.getElem_cons_succ])
  refine wpAnyH_take (i := 4) (v := ?vt4) rfl (by kernel_rfl) (by kernel_rfl) (by kernel_rfl) (fun _ _ _ h => h) (Or.inl ⟨by rfl, ?ht4⟩) (by assumption) ?rt4
  case ht4 => (intro w hSw; (try dsimp only at hSw); go_simp <;> (with_reducible rfl))
  (try simp only [Act.put, List.setIfInBounds_toArray, List.set_cons_zero, List.set_cons_succ, List.getElem_toArray, List.getElem_cons_zero, List.getElem_cons_succ])
  refine wpAnyH_ready (rs := [3]) (by kernel_rfl) (by simp) ?_
  refine AllReadyH.cons rfl (fun K hK => ?_) AllReadyH.nil
  go_simp
  refine (CP.out).mono ?_
  rintro r w7 ⟨rfl, hb7⟩
  have K7 := H5.out.2.1.drew.low hb7
  have E7 := H5.out.2.2.low ((Below.refl _ _).drew.trans hb7)
  have hS7 := SC.out _ E7
  have HD := Lib.hid (EB.done H0.out (lo_drew H5.out.1) (fun q hq => hb7.block q (H5.out.2.1.drew.ct.here q (.inl (.inl hq)))) hb7.size K7 E7)
  have hS8 := E7.after HN.out.1 HN.out.2 (.int .i64 bl) (.slice (some ⟨g4, 0, none⟩) n cap4)
  obtain ⟨⟨f0, f1⟩, f2, f3⟩ := E7.rc
  dsimp only at hS8
  clear K7 E7 CP hb7
  (try go_simp)
  refine hK.out _ _ hS7 (fun hHeld => ?_)
  clear hK K
  (try simp only [Act.put, List.setIfInBounds_toArray, List.set_cons_zero, List.set_cons_succ, List.getElem_toArray, List.getElem_cons_zero, List.getElem_cons_succ])
  refine wpAnyH_take (i := 5) (v := .bool true) rfl (by kernel_rfl) (by kernel_rfl) (by kernel_rfl) (fun _ _ _ h => h) (Or.inl ⟨by rfl, ?ht5⟩) (by assumption) ?rt5
  case ht5 => (intro w hSw; (try dsimp only at hSw); go_simp)
  (try simp only [Act.put, List.setIfInBounds_toArray, List.set_cons_zero, List.set_cons_succ, List.getElem_toArray, List.getElem_cons_zero, List.getElem_cons_succ])
  refine wpAnyH_ready (rs := [6]) (by kernel_rfl) (by simp) ?_
  refine AllReadyH.cons rfl (fun K hK => ?_) AllReadyH.nil
  go_simp
  refine hK.out _ _ hS8 (fun hHeld => ?_)
  clear hK K
  (try simp only [Act.put, List.setIfInBounds_toArray, List.set_cons_zero, List.set_cons_succ, List.getElem_toArray, List.getElem_cons_zero, List.getElem_cons_succ])
  refine wpAnyH_take (i := 7) (v := ?vu7) rfl (by kernel_rfl) (by kernel_rfl) (by kernel_rfl) (fun _ _ _ h => h) (Or.inl ⟨by rfl, ?hu7⟩) (by assumption) ?ru7
  case hu7 => (intro w hSw; (try dsimp only at hSw); go_simp <;> (with_reducible rfl))
  (try simp only [Act.put, List.setIfInBounds_toArray, List.set_cons_zero, List.set_cons_succ, List.getElem_toArray, List.getElem_cons_zero, List.getElem_cons_succ])
  refine wpAnyH_done (by kernel_rfl) ?_ _
  clear f0 f1 f2 f3 hS8 hS7 hS5
  go_wp2_with fail
  exact bodyPost_ret (res_T rfl _ _ _ _ _ rfl HD.out.1) rfl ⟨_, _, _, _, rfl, HD.out.2⟩
theorem get_done {w0 w W : World} {sb n kb : Nat} {bl : Int} {L : Nat → List Bk} {s : Value} {U : Nat → Value} {X : Nat → Prop} (h0 : KD w0 w sb bl n L s U n L X) (hb : Below w.heap.size w W) (K : KD w0 W sb bl n L s U n L (fun q => X q ∨ q = w.heap.size + 1 ∨ q = w.heap.size + 1 + 1 ∨ q = kb)) (hx : W.heap[w.heap.size + 1 + 1]? = some (.cells #[.int .i64 0, .slice none 0 0] 27 (0, 0))) :
    let W8 := (W.setCell ⟨w.heap.size + 1 + 1, 0, none⟩ (.int .i64 bl)).setCell ⟨w.heap.size + 1 + 1, 1, none⟩ s
    W8.heap[w.heap.size + 1 + 1]? = some (.cells #[.int .i64 bl, s] 27 (0, 0)) ∧ KD w0 W8 sb bl n L s U n L X ∧ (∀ q, X q → W8.heap[q]? = w.heap[q]?) ∧ w.heap.size ≤ W8.heap.size := by
  intro W8
  obtain ⟨K8, x8⟩ := K.store (x := .int .i64 bl) (y := s) (.inr (.inr (.inl rfl))) (show w0.heap.size ≤ w.heap.size + 1 + 1 by have := h0.ct.low.size; omega) hx
  have h3 := (set_two hx (.int .i64 bl) s)
  refine ⟨x8, K8.sub (fun q hq => .inl hq), fun q hq => ?_, Nat.le_trans hb.size (h3.2.1 0 (Nat.zero_le _)).size⟩
  have hlt := h0.ct.here q (.inl hq)
  exact (h3.2.2 q (by omega)).trans (hb.block q hlt)
theorem does_get {w0 w : World} {sb n : Nat} {bl nn kind : Int} (hk0 : (kind == 0) = false ∧ (kind == 1) = false ∧ (kind == 2) = false ∧ (kind == 3) = false) {k : Ky} {raw : Bool} {L : Nat → List Bk} {s : Value} {U : Nat → Value} {X : Nat → Prop} (hwf : (DeedV.mk kind nn k raw).wf) (h : KD w0 w sb bl n L s U n L X) :
    Calls Try.prog 11 #[.pointer (some ⟨sb, 0, none⟩), .agg #[.int .i64 bl, s], .agg #[.int .i64 kind, .int .i64 nn, .int .i64 k.sp, .int .u64 k.va, .int .i64 k.sz, .bool raw]] w fun e w' => DoneD w0 w w' sb bl X e := by
  obtain ⟨g, cap, rfl, _, _, _⟩ := h.doc.form
  have hbl := h.ct.facts.2.2.2.2
  have CO := Lib.hid (fun w => of_any (DeedV.mk kind nn k raw) hwf w)
  have hwk := ofK_wf hwf
  generalize ofK (DeedV.mk kind nn k raw) = gk at *
  have b1 : Below w.heap.size w (((w.alloc (.cells #[.int .i64 bl, .slice (some ⟨g, 0, none⟩) n cap] 27)).alloc (.cells #[.int .i64 kind, .int .i64 nn, .int .i64 k.sp, .int .u64 k.va, .int .i64 k.sz, .bool raw] 35)).alloc (.cells #[.int .i64 0, .slice none 0 0] 27)) := by (repeat (first | (with_reducible assumption) | (with_reducible exact Below.refl _ _) | (with_reducible refine lo_step ?_ (by assumption)) | (with_reducible refine lo_drew ?_) | (with_reducible refine lo_drewN ?_ _) | (with_reducible refine lo_alloc ?_ _))) 
  have s1 : (((w.alloc (.cells #[.int .i64 bl, .slice (some ⟨g, 0, none⟩) n cap] 27)).alloc (.cells #[.int .i64 kind, .int .i64 nn, .int .i64 k.sp, .int .u64 k.va, .int .i64 k.sz, .bool raw] 35)).alloc (.cells #[.int .i64 0, .slice none 0 0] 27)).heap.size = w.heap.size + 1 + 1 + 1 := by simp
  have x0 : (((w.alloc (.cells #[.int .i64 bl, .slice (some ⟨g, 0, none⟩) n cap] 27)).alloc (.cells #[.int .i64 kind, .int .i64 nn, .int .i64 k.sp, .int .u64 k.va, .int .i64 k.sz, .bool raw] 35)).alloc (.cells #[.int .i64 0, .slice none 0 0] 27)).heap[w.heap.size]? = some (.cells #[.int .i64 bl, .slice (some ⟨g, 0, none⟩) n cap] 27 (0, 0)) := blk_low (blk_low (heap_alloc_new w _) ((Below.refl _ _).alloc (Nat.le_refl _) _)) ((Below.refl _ _).alloc (Nat.le_refl _) _)
  have x1 : (((w.alloc (.cells #[.int .i64 bl, .slice (some ⟨g, 0, none⟩) n cap] 27)).alloc (.cells #[.int .i64 kind, .int .i64 nn, .int .i64 k.sp, .int .u64 k.va, .int .i64 k.sz, .bool raw] 35)).alloc (.cells #[.int .i64 0, .slice none 0 0] 27)).heap[w.heap.size + 1]? = some (.cells #[.int .i64 kind, .int .i64 nn, .int .i64 k.sp, .int .u64 k.va, .int .i64 k.sz, .bool raw] 35 (0, 0)) := by
    refine blk_low ?_ ((Below.refl _ _).alloc (Nat.le_refl _) _)
    have := heap_alloc_new (w.alloc (.cells #[.int .i64 bl, .slice (some ⟨g, 0, none⟩) n cap] 27)) (.cells #[.int .i64 kind, .int .i64 nn, .int .i64 k.sp, .int .u64 k.va, .int .i64 k.sz, .bool raw] 35)
    rwa [World.size_alloc] at this
  have x2 : (((w.alloc (.cells #[.int .i64 bl, .slice (some ⟨g, 0, none⟩) n cap] 27)).alloc (.cells #[.int .i64 kind, .int .i64 nn, .int .i64 k.sp, .int .u64 k.va, .int .i64 k.sz, .bool raw] 35)).alloc (.cells #[.int .i64 0, .slice none 0 0] 27)).heap[w.heap.size + 1 + 1]? = some (.cells #[.int .i64 0, .slice none 0 0] 27 (0, 0)) := by
    have := heap_alloc_new ((w.alloc (.cells #[.int .i64 bl, .slice (some ⟨g, 0, none⟩) n cap] 27)).alloc (.cells #[.int .i64 kind, .int .i64 nn, .int .i64 k.sp, .int .u64 k.va, .int .i64 k.sz, .bool raw] 35)) (.cells #[.int .i64 0, .slice none 0 0] 27)
    rwa [World.size_alloc, World.size_alloc] at this
  have K1 := h.turnX b1 (Y := fun q => X q ∨ q = w.heap.size + 1 ∨ q = w.heap.size + 1 + 1) (fun q hq => by rcases hq with e | e | e; exact .inl e; exact .inr (by omega); exact .inr (by omega))
  obtain ⟨hk0, hk1, hk2, hk3⟩ := hk0
  have H0 := Lib.hid h
  have H1 := Lib.hid (And.intro b1 (And.intro x0 (And.intro x1 (And.intro x2 (And.intro K1 s1)))))
  have HKW := Lib.hid hwk
  clear h b1 s1 x0 x1 x2 K1 hwk
  go_enter Try.func11, Try.ntmps11
  go_wp2_with fail
  refine (CO.out _).mono ?_; rintro e w2 ⟨rfl, hb2⟩
  have b2 := lo_step H1.out.1 hb2
  have y0 := blk_low H1.out.2.1 hb2
  have y1 := blk_low H1.out.2.2.1 hb2
  have y2 := blk_low H1.out.2.2.2.1 hb2
  have K2 := H1.out.2.2.2.2.1.low hb2
  have s2 := hb2.size
  rw [H1.out.2.2.2.2.2] at s2
  have NL : Below w2.heap.size w2 (w2.alloc (.cells #[.int .i64 gk.sp, .int .u64 gk.va, .int .i64 gk.sz] 33)) := (Below.refl _ _).alloc (Nat.le_refl _) _
  have K3 := K2.turnX NL (Y := fun q => X q ∨ q = w.heap.size + 1 ∨ q = w.heap.size + 1 + 1 ∨ q = w2.heap.size) (fun q hq => by rcases hq with e | e | e | e; exact .inl (.inl e); exact .inl (.inr (.inl e)); exact .inl (.inr (.inr e)); exact .inr (by simp; omega))
  have b3 := lo_step b2 NL
  have z0 := blk_low y0 NL
  have z1 := blk_low y1 NL
  have z2 := blk_low y2 NL
  have z3 := heap_alloc_new w2 (.cells #[.int .i64 gk.sp, .int .u64 gk.va, .int .i64 gk.sz] 33)
  obtain ⟨t0, t1⟩ := t_cells z0
  obtain ⟨d0, d1, d2⟩ := key_cells z3
  have c0 : (w2.alloc (.cells #[.int .i64 gk.sp, .int .u64 gk.va, .int .i64 gk.sz] 33)).cell? ⟨w.heap.size + 1, 0, none⟩ = some (.int .i64 kind) := by simp [World.cell?, z1]
  have c1 : (w2.alloc (.cells #[.int .i64 gk.sp, .int .u64 gk.va, .int .i64 gk.sz] 33)).cell? ⟨w.heap.size + 1, 1, none⟩ = some (.int .i64 nn) := by simp [World.cell?, z1]
  have CG1 := Lib.hid (K3.ct.get gk HKW.out)
  have CG2 := Lib.hid (fun (W : World) (h : KD w0 W sb bl n L (.slice (some ⟨g, 0, none⟩) n cap) U n L (fun q => X q ∨ q = w.heap.size + 1 ∨ q = w.heap.size + 1 + 1 ∨ q = w2.heap.size)) => tget_any bl gk HKW.out W h.doc)
  have CK := Lib.hid (fun (W : World) (h : KD w0 W sb bl n L (.slice (some ⟨g, 0, none⟩) n cap) U n L (fun q => X q ∨ q = w.heap.size + 1 ∨ q = w.heap.size + 1 + 1 ∨ q = w2.heap.size)) => h.ct.get gk HKW.out)
  have CKy := Lib.hid (fun w => key_any gk w)
  have H3 := Lib.hid (And.intro b3 (And.intro K3 (And.intro z0 (And.intro z2 z3))))
  clear CO H1 hb2 b2 y0 y1 y2 K2 s2 NL K3 b3 z0 z1 z2 z3 hbl CG1
  generalize getV n L gk = gv at *
  generalize getN n L gk = gn at *
  generalize getB n L gk = gb at *
  go_wp2_with fail
  refine (CKy.out _).mono ?_; rintro e w4 ⟨rfl, hb4⟩
  have K4 := H3.out.2.1.low hb4
  have b4 := lo_step H3.out.1 hb4
  have z0 := blk_low H3.out.2.2.1 hb4
  have z2 := blk_low H3.out.2.2.2.1 hb4
  have z3 := blk_low H3.out.2.2.2.2 hb4
  clear t0 t1 d0 d1 d2 c0 c1 H3
  go_wp2_with fail
  refine (CK.out _ K4).mono ?_; rintro e w5 ⟨rfl, hb5⟩
  have K5 := K4.low hb5
  have b5 := lo_step b4 hb5
  have y0 := blk_low z0 hb5
  have y2 := blk_low z2 hb5
  have y3 := blk_low z3 hb5
  obtain ⟨t0, t1⟩ := t_cells y0
  obtain ⟨d0, d1, d2⟩ := key_cells y3
  have H5 := Lib.hid (And.intro b5 (And.intro K5 (And.intro y0 y2)))
  clear K4 b4 z0 z2 z3 CK CKy hb4 hb5 K5 b5 y0 y2 y3
  go_wp2_with fail
  refine (CG2.out _ H5.out.2.1).mono ?_; rintro e w6 ⟨rfl, hb6⟩
  have K6 := H5.out.2.1.low hb6
  have b6 := lo_step H5.out.1 hb6
  have y0 := blk_low H5.out.2.2.1 hb6
  have y2 := blk_low H5.out.2.2.2 hb6
  obtain ⟨t0, t1⟩ := t_cells y0
  obtain ⟨f0, f1⟩ := t_cells y2
  have f2 : w6.frozen? ⟨w.heap.size + 1 + 1, 0, none⟩ = false := by simp [World.frozen?, y2]
  have f3 : w6.frozen? ⟨w.heap.size + 1 + 1, 1, none⟩ = false := by simp [World.frozen?, y2]
  have HD := Lib.hid (get_done H0.out b6 K6 y2)
  clear K6 b6 y0 y2 H5 CG2 hb6 d0 d1 d2
  cases gb
  · go_wp2_with fail
    exact bodyPost_ret (res_T rfl _ _ _ _ _ rfl HD.out.1) rfl ⟨_, _, _, _, rfl, HD.out.2⟩
  · go_wp2_with fail
    exact bodyPost_ret (res_T rfl _ _ _ _ _ rfl HD.out.1) rfl ⟨_, _, _, _, rfl, HD.out.2⟩
end Go.Proofs.Ytilijnalhkeggaa.Hs
