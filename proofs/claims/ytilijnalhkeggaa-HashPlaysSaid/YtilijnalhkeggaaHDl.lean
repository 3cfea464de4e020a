/-
  The law's does of layer 11: Put, Set, Cut. Conditions: both tables have the same.
-/
import Derived.Test.YtilijnalhkeggaaHDk
import Derived.Deep.RegionHeld3
namespace Go.Proofs.Ytilijnalhkeggaa.Hs
open Fld
open Go.ChangeShapes Go.WideShapes Go.ChangeAt Go.RowKit Go.Maps
set_option maxHeartbeats 2000000
set_option maxRecDepth 100000
theorem does_put {w0 w : World} {sb n : Nat} {bl nn : Int} {k : Ky} {raw : Bool} {L : Nat → List Bk} {s : Value} {U : Nat → Value} {X : Nat → Prop} (hwf : (DeedV.mk 0 nn k raw).wf) (h : KD w0 w sb bl n L s U n L X) :
    Calls Try.prog 11 #[.pointer (some ⟨sb, 0, none⟩), .agg #[.int .i64 bl, s], .agg #[.int .i64 0, .int .i64 nn, .int .i64 k.sp, .int .u64 k.va, .int .i64 k.sz, .bool raw]] w fun e w' => DoneD w0 w w' sb bl X e := by
  obtain ⟨g, cap, rfl, _, _, _⟩ := h.doc.form
  have hbl := h.ct.facts.2.2.2.2
  have CO := Lib.hid (fun w => of_any (DeedV.mk 0 nn k raw) hwf w)
  have hwk := ofK_wf hwf
  generalize ofK (DeedV.mk 0 nn k raw) = gk at *
  have b1 : Below w.heap.size w (((w.alloc (.cells #[.int .i64 bl, .slice (some ⟨g, 0, none⟩) n cap] 27)).alloc (.cells #[.int .i64 0, .int .i64 nn, .int .i64 k.sp, .int .u64 k.va, .int .i64 k.sz, .bool raw] 35)).alloc (.cells #[.int .i64 0, .slice none 0 0] 27)) := by (repeat (first | (with_reducible assumption) | (with_reducible exact Below.refl _ _) | (with_reducible refine lo_step ?_ (by assumption)) | (with_reducible refine lo_drew ?_) | (with_reducible refine lo_drewN ?_ _) | (with_reducible refine lo_alloc ?_ _))) 
  have s1 : (((w.alloc (.cells #[.int .i64 bl, .slice (some ⟨g, 0, none⟩) n cap] 27)).alloc (.cells #[.int .i64 0, .int .i64 nn, .int .i64 k.sp, .int .u64 k.va, .int .i64 k.sz, .bool raw] 35)).alloc (.cells #[.int .i64 0, .slice none 0 0] 27)).heap.size = w.heap.size + 1 + 1 + 1 := by simp
  have x0 : (((w.alloc (.cells #[.int .i64 bl, .slice (some ⟨g, 0, none⟩) n cap] 27)).alloc (.cells #[.int .i64 0, .int .i64 nn, .int .i64 k.sp, .int .u64 k.va, .int .i64 k.sz, .bool raw] 35)).alloc (.cells #[.int .i64 0, .slice none 0 0] 27)).heap[w.heap.size]? = some (.cells #[.int .i64 bl, .slice (some ⟨g, 0, none⟩) n cap] 27 (0, 0)) := blk_low (blk_low (heap_alloc_new w _) ((Below.refl _ _).alloc (Nat.le_refl _) _)) ((Below.refl _ _).alloc (Nat.le_refl _) _)
  have x1 : (((w.alloc (.cells #[.int .i64 bl, .slice (some ⟨g, 0, none⟩) n cap] 27)).alloc (.cells #[.int .i64 0, .int .i64 nn, .int .i64 k.sp, .int .u64 k.va, .int .i64 k.sz, .bool raw] 35)).alloc (.cells #[.int .i64 0, .slice none 0 0] 27)).heap[w.heap.size + 1]? = some (.cells #[.int .i64 0, .int .i64 nn, .int .i64 k.sp, .int .u64 k.va, .int .i64 k.sz, .bool raw] 35 (0, 0)) := by
    refine blk_low ?_ ((Below.refl _ _).alloc (Nat.le_refl _) _)
    have := heap_alloc_new (w.alloc (.cells #[.int .i64 bl, .slice (some ⟨g, 0, none⟩) n cap] 27)) (.cells #[.int .i64 0, .int .i64 nn, .int .i64 k.sp, .int .u64 k.va, .int .i64 k.sz, .bool raw] 35)
    rwa [World.size_alloc] at this
  have x2 : (((w.alloc (.cells #[.int .i64 bl, .slice (some ⟨g, 0, none⟩) n cap] 27)).alloc (.cells #[.int .i64 0, .int .i64 nn, .int .i64 k.sp, .int .u64 k.va, .int .i64 k.sz, .bool raw] 35)).alloc (.cells #[.int .i64 0, .slice none 0 0] 27)).heap[w.heap.size + 1 + 1]? = some (.cells #[.int .i64 0, .slice none 0 0] 27 (0, 0)) := by
    have := heap_alloc_new ((w.alloc (.cells #[.int .i64 bl, .slice (some ⟨g, 0, none⟩) n cap] 27)).alloc (.cells #[.int .i64 0, .int .i64 nn, .int .i64 k.sp, .int .u64 k.va, .int .i64 k.sz, .bool raw] 35)) (.cells #[.int .i64 0, .slice none 0 0] 27)
    rwa [World.size_alloc, World.size_alloc] at this
  have K1 := h.turnX b1 (Y := fun q => X q ∨ q = w.heap.size + 1 ∨ q = w.heap.size + 1 + 1) (fun q hq => by rcases hq with e | e | e; exact .inl e; exact .inr (by omega); exact .inr (by omega))
  have H0 := Lib.hid h
  have H1 := Lib.hid (And.intro b1 (And.intro x0 (And.intro x1 (And.intro x2 (And.intro K1 s1)))))
  have HKW := Lib.hid hwk
  clear h b1 s1 x0 x1 x2 K1 hwk
  go_enter Try.func11, Try.ntmps11
  go_wp2_with fail
  refine (CO.out _).mono ?_; rintro e w2 ⟨rfl, hb2⟩
  have b2 := lo_step H1.out.1 hb2
  have y0 := blk_low H1.out.2.1 hb2
  have y1 := blk_low H1.out.2.2.1 hb2
  have y2 := blk_low H1.out.2.2.2.1 hb2
  have K2 := H1.out.2.2.2.2.1.low hb2
  have s2 := hb2.size
  rw [H1.out.2.2.2.2.2] at s2
  have NL : Below w2.heap.size w2 (w2.alloc (.cells #[.int .i64 gk.sp, .int .u64 gk.va, .int .i64 gk.sz] 33)) := (Below.refl _ _).alloc (Nat.le_refl _) _
  have K3 := K2.turnX NL (Y := fun q => X q ∨ q = w.heap.size + 1 ∨ q = w.heap.size + 1 + 1 ∨ q = w2.heap.size) (fun q hq => by rcases hq with e | e | e | e; exact .inl (.inl e); exact .inl (.inr (.inl e)); exact .inl (.inr (.inr e)); exact .inr (by simp; omega))
  have b3 := lo_step b2 NL
  have z0 := blk_low y0 NL
  have z1 := blk_low y1 NL
  have z2 := blk_low y2 NL
  have z3 := heap_alloc_new w2 (.cells #[.int .i64 gk.sp, .int .u64 gk.va, .int .i64 gk.sz] 33)
  obtain ⟨t0, t1⟩ := t_cells z0
  obtain ⟨d0, d1, d2⟩ := key_cells z3
  have c0 : (w2.alloc (.cells #[.int .i64 gk.sp, .int .u64 gk.va, .int .i64 gk.sz] 33)).cell? ⟨w.heap.size + 1, 0, none⟩ = some (.int .i64 0) := by simp [World.cell?, z1]
  have c1 : (w2.alloc (.cells #[.int .i64 gk.sp, .int .u64 gk.va, .int .i64 gk.sz] 33)).cell? ⟨w.heap.size + 1, 1, none⟩ = some (.int .i64 nn) := by simp [World.cell?, z1]
  have CD := Lib.hid (tput_any bl hbl gk HKW.out nn _ K3.doc)
  have HS2 := Lib.hid s2
  have H3 := Lib.hid (And.intro b3 (And.intro K3 (And.intro z1 (And.intro z2 z3))))
  clear CO H1 hb2 b2 y0 y1 y2 K2 s2 NL K3 b3 z0 z1 z2 z3 hbl
  go_wp2_with fail
  refine CD.out.mono ?_; rintro e w4 ⟨s4, rfl, hd⟩
  obtain ⟨g4, cap4, rfl⟩ := hd.form
  obtain ⟨U4, K4⟩ := H3.out.2.1.turnDoc hd
  have NL : Below w4.heap.size w4 (w4.alloc (.cells #[.int .i64 bl, .slice (some ⟨g4, 0, none⟩) n cap4] 27)) := (Below.refl _ _).alloc (Nat.le_refl _) _
  have b5 := lo_step (lo_step H3.out.1 hd.bel) NL
  have K5 := K4.turnX NL (Y := EX X w.heap.size w2.heap.size w4.heap.size) (fun q hq => by rcases hq with e | e | e | e | e; exact .inl (.inl e); exact .inl (.inr (.inl e)); exact .inl (.inr (.inr (.inl e))); exact .inl (.inr (.inr (.inr e))); exact .inr (by simp; omega))
  have E5 : EB (w4.alloc (.cells #[.int .i64 bl, .slice (some ⟨g4, 0, none⟩) n cap4] 27)) w.heap.size w2.heap.size w4.heap.size 0 nn k raw gk bl (.slice (some ⟨g4, 0, none⟩) n cap4) :=
    ⟨blk_low (blk_low H3.out.2.2.1 hd.bel) NL, blk_low (blk_low H3.out.2.2.2.1 hd.bel) NL, blk_low (blk_low H3.out.2.2.2.2 hd.bel) NL, heap_alloc_new w4 _⟩
  have s4 := hd.bel.size
  rw [World.size_alloc] at s4
  have hkb : w2.heap.size ≠ w.heap.size + 1 + 1 := by have := HS2.out; omega
  have hob : w4.heap.size ≠ w.heap.size + 1 + 1 := by have := HS2.out; omega
  have HN := Lib.hid (And.intro hkb hob)
  have CK := Lib.hid (fun w => key_any gk w)
  have SC := Lib.hid (fun (W : World) (E : EB W w.heap.size w2.heap.size w4.heap.size 0 nn k raw gk bl (.slice (some ⟨g4, 0, none⟩) n cap4)) => E.cells)
  have hS5 := SC.out _ (E5.low (Below.refl _ _).drew)
  have H5 := Lib.hid (And.intro b5 (And.intro K5 E5))
  clear K4 NL b5 K5 E5 hd H3 CD t0 t1 d0 d1 d2 c0 c1 s4 hkb hob
  go_wp2_with fail
  refine wp_region_held_drew (S := fun w1 => (w1.cell? ⟨w4.heap.size, 0, none⟩ = some (.int .i64 bl) ∧ w1.cell? ⟨w4.heap.size, 1, none⟩ = some (.slice (some ⟨g4, 0, none⟩) n cap4)) ∧ (w1.cell? ⟨w2.heap.size, 0, none⟩ = some (.int .i64 gk.sp) ∧ w1.cell? ⟨w2.heap.size, 1, none⟩ = some (.int .u64 gk.va) ∧ w1.cell? ⟨w2.heap.size, 2, none⟩ = some (.int .i64 gk.sz)) ∧ w1.cell? ⟨w.heap.size + 1, 1, none⟩ = some (.int .i64 nn)) (by kernel_rfl) hS5 (fun hHeld => ?_)
  refine wpAnyH_take (i := 0) (v := ?vt0) rfl (by kernel_rfl) (by kernel_rfl) (by kernel_rfl) (fun _ _ _ h => h) (Or.inl ⟨by rfl, ?ht0⟩) (by assumption) ?rt0
  case ht0 => (intro w hSw; (try dsimp only at hSw); go_simp <;> (with_reducible rfl))
  (try simp only [Act.put, List.setIfInBounds_toArray, List.set_cons_zero, List.set_cons_succ, List.getElem_toArray, List.getElem_cons_zero])
  refine wpAnyH_take (i := 1) (v := ?vt1) rfl (by kernel_rfl) (by kernel_rfl) (by kernel_rfl) (fun _ _ _ h => h) (Or.inl ⟨by rfl, ?ht1⟩) (by assumption) ?rt1
  case ht1 => (intro w hSw; (try dsimp only at hSw); go_simp <;> (with_reducible rfl))
  (try simp only [Act.put, List.setIfInBounds_toArray, List.set_cons_zero, List.set_cons_succ, List.getElem_toArray, List.getElem_cons_zero, List.getElem_cons_succ])
  refine wpAnyH_take (i := 2) (v := ?vt2) rfl (by kernel_rfl) (by kernel_rfl) (by kernel_rfl) (fun _ _ _ h => h) (Or.inl ⟨by rfl, ?ht2⟩) (by assumption) ?rt2
  case ht2 => (intro w hSw; (try dsimp only at hSw); go_simp <;> (with_reducible rfl))
  (try simp only [Act.put, List.setIfInBounds_toArray, List.set_cons_zero, List.set_cons_succ, List.getElem_toArray, List.getElem_cons_zero, List.getElem_cons_succ])
  refine wpAnyH_take (i := 4) (v := ?vt4) rfl (by kernel_rfl) (by kernel_rfl) (by kernel_rfl) (fun _ _ _ h => h) (Or.inl ⟨by rfl, ?ht4⟩) (by assumption) ?rt4
  case ht4 => (intro w hSw; (try dsimp only at hSw); go_simp <;> (with_reducible rfl))
  (try simp only [Act.put, List.setIfInBounds_toArray, List.set_cons_zero, List.set_cons_succ, List.getElem_toArray, List.getElem_cons_zero, List.getElem_cons_succ])
  refine wpAnyH_take (i := 5) (v := ?vt5) rfl (by kernel_rfl) (by kernel_rfl) (by kernel_rfl) (fun _ _ _ h => h) (Or.inl ⟨by rfl, ?ht5⟩) (by assumption) ?rt5
  case ht5 => (intro w hSw; (try dsimp only at hSw); go_simp <;> (with_reducible rfl))
  (try simp only [Act.put, List.setIfInBounds_toArray, List.set_cons_zero, List.set_cons_succ, List.getElem_toArray, List.getElem_cons_zero, List.getElem_cons_succ])
  refine wpAnyH_take (i := 7) (v := ?vt7) rfl (by kernel_rfl) (by kernel_rfl) (by kernel_rfl) (fun _ _ _ h => h) (Or.inl ⟨by rfl, ?ht7⟩) (by assumption) ?rt7
  case ht7 => (intro w hSw; (try dsimp only at hSw); go_simp <;> (with_reducible rfl))
  (try simp only [Act.put, List.setIfInBounds_toArray, List.set_cons_zero, List.set_cons_succ, List.getElem_toArray, List.getElem_cons_zero, List.getElem_cons_succ])
  refine wpAnyH_ready (rs := [3]) (by kernel_rfl) (by simp) ?_
  refine AllReadyH.cons rfl (fun K hK => ?_) AllReadyH.nil
  go_simp
  refine (CK.out _).mono ?_
  rintro r w6 ⟨rfl, hb6⟩
  have K6 := H5.out.2.1.drew.low hb6
  have E6 := H5.out.2.2.low ((Below.refl _ _).drew.trans hb6)
  have hS6 := SC.out _ E6
  have CP := Lib.hid (K6.ct.put gk HKW.out nn)
  have HK6 := Lib.hid (And.intro K6 (And.intro E6 ((lo_drew H5.out.1).trans (hb6.mono (lo_drew H5.out.1).size))))
  clear K6 E6 hb6 CK
  (try go_simp)
  refine hK.out _ _ hS6 (fun hHeld => ?_)
  clear hK K
  (try simp only [Act.put, List.setIfInBounds_toArray, List.set_cons_zero, List.set_cons_succ, List.getElem_toArray, List.getElem_cons_zero, List.getElem_cons_succ])
  refine wpAnyH_ready (rs := [6]) (by kernel_rfl) (by simp) ?_
  refine AllReadyH.cons rfl (fun K hK => ?_) AllReadyH.nil
  go_simp
  refine (CP.out).mono ?_
  rintro r w7 ⟨rfl, c7, k7⟩
  have K7 := HK6.out.1.turn c7 k7
  have E7 := HK6.out.2.1.kept (X := X) k7 (fun q hq => .inl hq)
  have hS7 := SC.out _ E7
  have HD := Lib.hid (EB.done H0.out HK6.out.2.2 (fun q hq => k7.1 q (.inl (.inl hq))) k7.2 K7 E7)
  have hS8 := E7.after HN.out.1 HN.out.2 (.int .i64 bl) (.slice (some ⟨g4, 0, none⟩) n cap4)
  obtain ⟨⟨f0, f1⟩, f2, f3⟩ := E7.rc
  dsimp only at hS8
  clear K7 E7 HK6 CP c7 k7
  (try go_simp)
  refine hK.out _ _ hS7 (fun hHeld => ?_)
  clear hK K
  (try simp only [Act.put, List.setIfInBounds_toArray, List.set_cons_zero, List.set_cons_succ, List.getElem_toArray, List.getElem_cons_zero, List.getElem_cons_succ])
  refine wpAnyH_take (i := 8) (v := .bool true) rfl (by kernel_rfl) (by kernel_rfl) (by kernel_rfl) (fun _ _ _ h => h) (Or.inl ⟨by rfl, ?ht8⟩) (by assumption) ?rt8
  case ht8 => (intro w hSw; (try dsimp only at hSw); go_simp)
  (try simp only [Act.put, List.setIfInBounds_toArray, List.set_cons_zero, List.set_cons_succ, List.getElem_toArray, List.getElem_cons_zero, List.getElem_cons_succ])
  refine wpAnyH_ready (rs := [9]) (by kernel_rfl) (by simp) ?_
  refine AllReadyH.cons rfl (fun K hK => ?_) AllReadyH.nil
  go_simp
  refine hK.out _ _ hS8 (fun hHeld => ?_)
  clear hK K
  (try simp only [Act.put, List.setIfInBounds_toArray, List.set_cons_zero, List.set_cons_succ, List.getElem_toArray, List.getElem_cons_zero, List.getElem_cons_succ])
  refine wpAnyH_take (i := 10) (v := ?vu10) rfl (by kernel_rfl) (by kernel_rfl) (by kernel_rfl) (fun _ _ _ h => h) (Or.inl ⟨by rfl, ?hu10⟩) (by assumption) ?ru10
  case hu10 => (intro w hSw; (try dsimp only at hSw); go_simp <;> (with_reducible rfl))
  (try simp only [Act.put, List.setIfInBounds_toArray, List.set_cons_zero, List.set_cons_succ, List.getElem_toArray, List.getElem_cons_zero, List.getElem_cons_succ])
  refine wpAnyH_done (by kernel_rfl) ?_ _
  clear f0 f1 f2 f3 hS8 hS7 hS6 hS5
  go_wp2_with fail
  exact bodyPost_ret (res_T rfl _ _ _ _ _ rfl HD.out.1) rfl ⟨_, _, _, _, rfl, HD.out.2⟩
theorem does_set {w0 w : World} {sb n : Nat} {bl nn : Int} {k : Ky} {raw : Bool} {L : Nat → List Bk} {s : Value} {U : Nat → Value} {X : Nat → Prop} (hwf : (DeedV.mk 1 nn k raw).wf) (h : KD w0 w sb bl n L s U n L X) :
    Calls Try.prog 11 #[.pointer (some ⟨sb, 0, none⟩), .agg #[.int .i64 bl, s], .agg #[.int .i64 1, .int .i64 nn, .int .i64 k.sp, .int .u64 k.va, .int .i64 k.sz, .bool raw]] w fun e w' => DoneD w0 w w' sb bl X e := by
  obtain ⟨g, cap, rfl, _, _, _⟩ := h.doc.form
  have hbl := h.ct.facts.2.2.2.2
  have CO := Lib.hid (fun w => of_any (DeedV.mk 1 nn k raw) hwf w)
  have hwk := ofK_wf hwf
  generalize ofK (DeedV.mk 1 nn k raw) = gk at *
  have b1 : Below w.heap.size w (((w.alloc (.cells #[.int .i64 bl, .slice (some ⟨g, 0, none⟩) n cap] 27)).alloc (.cells #[.int .i64 1, .int .i64 nn, .int .i64 k.sp, .int .u64 k.va, .int .i64 k.sz, .bool raw] 35)).alloc (.cells #[.int .i64 0, .slice none 0 0] 27)) := by (repeat (first | (with_reducible assumption) | (with_reducible exact Below.refl _ _) | (with_reducible refine lo_step ?_ (by assumption)) | (with_reducible refine lo_drew ?_) | (with_reducible refine lo_drewN ?_ _) | (with_reducible refine lo_alloc ?_ _))) 
  have s1 : (((w.alloc (.cells #[.int .i64 bl, .slice (some ⟨g, 0, none⟩) n cap] 27)).alloc (.cells #[.int .i64 1, .int .i64 nn, .int .i64 k.sp, .int .u64 k.va, .int .i64 k.sz, .bool raw] 35)).alloc (.cells #[.int .i64 0, .slice none 0 0] 27)).heap.size = w.heap.size + 1 + 1 + 1 := by simp
  have x0 : (((w.alloc (.cells #[.int .i64 bl, .slice (some ⟨g, 0, none⟩) n cap] 27)).alloc (.cells #[.int .i64 1, .int .i64 nn, .int .i64 k.sp, .int .u64 k.va, .int .i64 k.sz, .bool raw] 35)).alloc (.cells #[.int .i64 0, .slice none 0 0] 27)).heap[w.heap.size]? = some (.cells #[.int .i64 bl, .slice (some ⟨g, 0, none⟩) n cap] 27 (0, 0)) := blk_low (blk_low (heap_alloc_new w _) ((Below.refl _ _).alloc (Nat.le_refl _) _)) ((Below.refl _ _).alloc (Nat.le_refl _) _)
  have x1 : (((w.alloc (.cells #[.int .i64 bl, .slice (some ⟨g, 0, none⟩) n cap] 27)).alloc (.cells #[.int .i64 1, .int .i64 nn, .int .i64 k.sp, .int .u64 k.va, .int .i64 k.sz, .bool raw] 35)).alloc (.cells #[.int .i64 0, .slice none 0 0] 27)).heap[w.heap.size + 1]? = some (.cells #[.int .i64 1, .int .i64 nn, .int .i64 k.sp, .int .u64 k.va, .int .i64 k.sz, .bool raw] 35 (0, 0)) := by
    refine blk_low ?_ ((Below.refl _ _).alloc (Nat.le_refl _) _)
    have := heap_alloc_new (w.alloc (.cells #[.int .i64 bl, .slice (some ⟨g, 0, none⟩) n cap] 27)) (.cells #[.int .i64 1, .int .i64 nn, .int .i64 k.sp, .int .u64 k.va, .int .i64 k.sz, .bool raw] 35)
    rwa [World.size_alloc] at this
  have x2 : (((w.alloc (.cells #[.int .i64 bl, .slice (some ⟨g, 0, none⟩) n cap] 27)).alloc (.cells #[.int .i64 1, .int .i64 nn, .int .i64 k.sp, .int .u64 k.va, .int .i64 k.sz, .bool raw] 35)).alloc (.cells #[.int .i64 0, .slice none 0 0] 27)).heap[w.heap.size + 1 + 1]? = some (.cells #[.int .i64 0, .slice none 0 0] 27 (0, 0)) := by
    have := heap_alloc_new ((w.alloc (.cells #[.int .i64 bl, .slice (some ⟨g, 0, none⟩) n cap] 27)).alloc (.cells #[.int .i64 1, .int .i64 nn, .int .i64 k.sp, .int .u64 k.va, .int .i64 k.sz, .bool raw] 35)) (.cells #[.int .i64 0, .slice none 0 0] 27)
    rwa [World.size_alloc, World.size_alloc] at this
  have K1 := h.turnX b1 (Y := fun q => X q ∨ q = w.heap.size + 1 ∨ q = w.heap.size + 1 + 1) (fun q hq => by rcases hq with e | e | e; exact .inl e; exact .inr (by omega); exact .inr (by omega))
  have H0 := Lib.hid h
  have H1 := Lib.hid (And.intro b1 (And.intro x0 (And.intro x1 (And.intro x2 (And.intro K1 s1)))))
  have HKW := Lib.hid hwk
  clear h b1 s1 x0 x1 x2 K1 hwk
  go_enter Try.func11, Try.ntmps11
  go_wp2_with fail
  refine (CO.out _).mono ?_; rintro e w2 ⟨rfl, hb2⟩
  have b2 := lo_step H1.out.1 hb2
  have y0 := blk_low H1.out.2.1 hb2
  have y1 := blk_low H1.out.2.2.1 hb2
  have y2 := blk_low H1.out.2.2.2.1 hb2
  have K2 := H1.out.2.2.2.2.1.low hb2
  have s2 := hb2.size
  rw [H1.out.2.2.2.2.2] at s2
  have NL : Below w2.heap.size w2 (w2.alloc (.cells #[.int .i64 gk.sp, .int .u64 gk.va, .int .i64 gk.sz] 33)) := (Below.refl _ _).alloc (Nat.le_refl _) _
  have K3 := K2.turnX NL (Y := fun q => X q ∨ q = w.heap.size + 1 ∨ q = w.heap.size + 1 + 1 ∨ q = w2.heap.size) (fun q hq => by rcases hq with e | e | e | e; exact .inl (.inl e); exact .inl (.inr (.inl e)); exact .inl (.inr (.inr e)); exact .inr (by simp; omega))
  have b3 := lo_step b2 NL
  have z0 := blk_low y0 NL
  have z1 := blk_low y1 NL
  have z2 := blk_low y2 NL
  have z3 := heap_alloc_new w2 (.cells #[.int .i64 gk.sp, .int .u64 gk.va, .int .i64 gk.sz] 33)
  obtain ⟨t0, t1⟩ := t_cells z0
  obtain ⟨d0, d1, d2⟩ := key_cells z3
  have c0 : (w2.alloc (.cells #[.int .i64 gk.sp, .int .u64 gk.va, .int .i64 gk.sz] 33)).cell? ⟨w.heap.size + 1, 0, none⟩ = some (.int .i64 1) := by simp [World.cell?, z1]
  have c1 : (w2.alloc (.cells #[.int .i64 gk.sp, .int .u64 gk.va, .int .i64 gk.sz] 33)).cell? ⟨w.heap.size + 1, 1, none⟩ = some (.int .i64 nn) := by simp [World.cell?, z1]
  have CD := Lib.hid (tset_any bl gk HKW.out nn _ K3.doc)
  have HS2 := Lib.hid s2
  have H3 := Lib.hid (And.intro b3 (And.intro K3 (And.intro z1 (And.intro z2 z3))))
  clear CO H1 hb2 b2 y0 y1 y2 K2 s2 NL K3 b3 z0 z1 z2 z3 hbl
  go_wp2_with fail
  refine CD.out.mono ?_; rintro e w4 ⟨s4, rfl, hd⟩
  obtain ⟨g4, cap4, rfl⟩ := hd.form
  obtain ⟨U4, K4⟩ := H3.out.2.1.turnDoc hd
  have NL : Below w4.heap.size w4 (w4.alloc (.cells #[.int .i64 bl, .slice (some ⟨g4, 0, none⟩) n cap4] 27)) := (Below.refl _ _).alloc (Nat.le_refl _) _
  have b5 := lo_step (lo_step H3.out.1 hd.bel) NL
  have K5 := K4.turnX NL (Y := EX X w.heap.size w2.heap.size w4.heap.size) (fun q hq => by rcases hq with e | e | e | e | e; exact .inl (.inl e); exact .inl (.inr (.inl e)); exact .inl (.inr (.inr (.inl e))); exact .inl (.inr (.inr (.inr e))); exact .inr (by simp; omega))
  have E5 : EB (w4.alloc (.cells #[.int .i64 bl, .slice (some ⟨g4, 0, none⟩) n cap4] 27)) w.heap.size w2.heap.size w4.heap.size 1 nn k raw gk bl (.slice (some ⟨g4, 0, none⟩) n cap4) :=
    ⟨blk_low (blk_low H3.out.2.2.1 hd.bel) NL, blk_low (blk_low H3.out.2.2.2.1 hd.bel) NL, blk_low (blk_low H3.out.2.2.2.2 hd.bel) NL, heap_alloc_new w4 _⟩
  have s4 := hd.bel.size
  rw [World.size_alloc] at s4
  have hkb : w2.heap.size ≠ w.heap.size + 1 + 1 := by have := HS2.out; omega
  have hob : w4.heap.size ≠ w.heap.size + 1 + 1 := by have := HS2.out; omega
  have HN := Lib.hid (And.intro hkb hob)
  have CK := Lib.hid (fun w => key_any gk w)
  have SC := Lib.hid (fun (W : World) (E : EB W w.heap.size w2.heap.size w4.heap.size 1 nn k raw gk bl (.slice (some ⟨g4, 0, none⟩) n cap4)) => E.cells)
  have hS5 := SC.out _ (E5.low (Below.refl _ _).drew)
  have H5 := Lib.hid (And.intro b5 (And.intro K5 E5))
  clear K4 NL b5 K5 E5 hd H3 CD t0 t1 d0 d1 d2 c0 c1 s4 hkb hob
  go_wp2_with fail
  refine wp_region_held_drew (S := fun w1 => (w1.cell? ⟨w4.heap.size, 0, none⟩ = some (.int .i64 bl) ∧ w1.cell? ⟨w4.heap.size, 1, none⟩ = some (.slice (some ⟨g4, 0, none⟩) n cap4)) ∧ (w1.cell? ⟨w2.heap.size, 0, none⟩ = some (.int .i64 gk.sp) ∧ w1.cell? ⟨w2.heap.size, 1, none⟩ = some (.int .u64 gk.va) ∧ w1.cell? ⟨w2.heap.size, 2, none⟩ = some (.int .i64 gk.sz)) ∧ w1.cell? ⟨w.heap.size + 1, 1, none⟩ = some (.int .i64 nn)) (by kernel_rfl) hS5 (fun hHeld => ?_)
  refine wpAnyH_take (i := 0) (v := ?vt0) rfl (by kernel_rfl) (by kernel_rfl) (by kernel_rfl) (fun _ _ _ h => h) (Or.inl ⟨by rfl, ?ht0⟩) (by assumption) ?rt0
  case ht0 => (intro w hSw; (try dsimp only at hSw); go_simp <;> (with_reducible rfl))
  (try simp only [Act.put, List.setIfInBounds_toArray, List.set_cons_zero, List.set_cons_succ, List.getElem_toArray, List.getElem_cons_zero])
  refine wpAnyH_take (i := 1) (v := ?vt1) rfl (by kernel_rfl) (by kernel_rfl) (by kernel_rfl) (fun _ _ _ h => h) (Or.inl ⟨by rfl, ?ht1⟩) (by assumption) ?rt1
  case ht1 => (intro w hSw; (try dsimp only at hSw); go_simp <;> (with_reducible rfl))
  (try simp only [Act.put, List.setIfInBounds_toArray, List.set_cons_zero, List.set_cons_succ, List.getElem_toArray, List.getElem_cons_zero, List.getElem_cons_succ])
  refine wpAnyH_take (i := 2) (v := ?vt2) rfl (by kernel_rfl) (by kernel_rfl) (by kernel_rfl) (fun _ _ _ h => h) (Or.inl ⟨by rfl, ?ht2⟩) (by assumption) ?rt2
  case ht2 => (intro w hSw; (try dsimp only at hSw); go_simp <;> (with_reducible rfl))
  (try simp only [Act.put, List.setIfInBounds_toArray, List.set_cons_zero, List.set_cons_succ, List.getElem_toArray, List.getElem_cons_zero, List.getElem_cons_succ])
  refine wpAnyH_take (i := 4) (v := ?vt4) rfl (by kernel_rfl) (by kernel_rfl) (by kernel_rfl) (fun _ _ _ h => h) (Or.inl ⟨by rfl, ?ht4⟩) (by assumption) ?rt4
  case ht4 => (intro w hSw; (try dsimp only at hSw); go_simp <;> (with_reducible rfl))
  (try simp only [Act.put, List.setIfInBounds_toArray, List.set_cons_zero, List.set_cons_succ, List.getElem_toArray, List.getElem_cons_zero, List.getElem_cons_succ])
  refine wpAnyH_take (i := 5) (v := ?vt5) rfl (by kernel_rfl) (by kernel_rfl) (by kernel_rfl) (fun _ _ _ h => h) (Or.inl ⟨by rfl, ?ht5⟩) (by assumption) ?rt5
  case ht5 => (intro w hSw; (try dsimp only at hSw); go_simp <;> (with_reducible rfl))
  (try simp only [Act.put, List.setIfInBounds_toArray, List.set_cons_zero, List.set_cons_succ, List.getElem_toArray, List.getElem_cons_zero, List.getElem_cons_succ])
  refine wpAnyH_take (i := 7) (v := ?vt7) rfl (by kernel_rfl) (by kernel_rfl) (by kernel_rfl) (fun _ _ _ h => h) (Or.inl ⟨by rfl, ?ht7⟩) (by assumption) ?rt7
  case ht7 => (intro w hSw; (try dsimp only at hSw); go_simp <;> (with_reducible rfl))
  (try simp only [Act.put, List.setIfInBounds_toArray, List.set_cons_zero, List.set_cons_succ, List.getElem_toArray, List.getElem_cons_zero, List.getElem_cons_succ])
  refine wpAnyH_ready (rs := [3]) (by kernel_rfl) (by simp) ?_
  refine AllReadyH.cons rfl (fun K hK => ?_) AllReadyH.nil
  go_simp
  refine (CK.out _).mono ?_
  rintro r w6 ⟨rfl, hb6⟩
  have K6 := H5.out.2.1.drew.low hb6
  have E6 := H5.out.2.2.low ((Below.refl _ _).drew.trans hb6)
  have hS6 := SC.out _ E6
  have CP := Lib.hid (K6.ct.set gk HKW.out nn)
  have HK6 := Lib.hid (And.intro K6 (And.intro E6 ((lo_drew H5.out.1).trans (hb6.mono (lo_drew H5.out.1).size))))
  clear K6 E6 hb6 CK
  (try go_simp)
  refine hK.out _ _ hS6 (fun hHeld => ?_)
  clear hK K
  (try simp only [Act.put, List.setIfInBounds_toArray, List.set_cons_zero, List.set_cons_succ, List.getElem_toArray, List.getElem_cons_zero, List.getElem_cons_succ])
  refine wpAnyH_ready (rs := [6]) (by kernel_rfl) (by simp) ?_
  refine AllReadyH.cons rfl (fun K hK => ?_) AllReadyH.nil
  go_simp
  refine (CP.out).mono ?_
  rintro r w7 ⟨rfl, c7, k7⟩
  have K7 := HK6.out.1.turn c7 k7
  have E7 := HK6.out.2.1.kept (X := X) k7 (fun q hq => .inl hq)
  have hS7 := SC.out _ E7
  have HD := Lib.hid (EB.done H0.out HK6.out.2.2 (fun q hq => k7.1 q (.inl (.inl hq))) k7.2 K7 E7)
  have hS8 := E7.after HN.out.1 HN.out.2 (.int .i64 bl) (.slice (some ⟨g4, 0, none⟩) n cap4)
  obtain ⟨⟨f0, f1⟩, f2, f3⟩ := E7.rc
  dsimp only at hS8
  clear K7 E7 HK6 CP c7 k7
  (try go_simp)
  refine hK.out _ _ hS7 (fun hHeld => ?_)
  clear hK K
  (try simp only [Act.put, List.setIfInBounds_toArray, List.set_cons_zero, List.set_cons_succ, List.getElem_toArray, List.getElem_cons_zero, List.getElem_cons_succ])
  refine wpAnyH_take (i := 8) (v := .bool true) rfl (by kernel_rfl) (by kernel_rfl) (by kernel_rfl) (fun _ _ _ h => h) (Or.inl ⟨by rfl, ?ht8⟩) (by assumption) ?rt8
  case ht8 => (intro w hSw; (try dsimp only at hSw); go_simp)
  (try simp only [Act.put, List.setIfInBounds_toArray, List.set_cons_zero, List.set_cons_succ, List.getElem_toArray, List.getElem_cons_zero, List.getElem_cons_succ])
  refine wpAnyH_ready (rs := [9]) (by kernel_rfl) (by simp) ?_
  refine AllReadyH.cons rfl (fun K hK => ?_) AllReadyH.nil
  go_simp
  refine hK.out _ _ hS8 (fun hHeld => ?_)
  clear hK K
  (try simp only [Act.put, List.setIfInBounds_toArray, List.set_cons_zero, List.set_cons_succ, List.getElem_toArray, List.getElem_cons_zero, List.getElem_cons_succ])
  refine wpAnyH_take (i := 10) (v := ?vu10) rfl (by kernel_rfl) (by kernel_rfl) (by kernel_rfl) (fun _ _ _ h => h) (Or.inl ⟨by rfl, ?hu10⟩) (by assumption) ?ru10
  case hu10 => (intro w hSw; (try dsimp only at hSw); go_simp <;> (with_reducible rfl))
  (try simp only [Act.put, List.setIfInBounds_toArray, List.set_cons_zero, List.set_cons_succ, List.getElem_toArray, List.getElem_cons_zero, List.getElem_cons_succ])
  refine wpAnyH_done (by kernel_rfl) ?_ _
  clear f0 f1 f2 f3 hS8 hS7 hS6 hS5
  go_wp2_with fail
  exact bodyPost_ret (res_T rfl _ _ _ _ _ rfl HD.out.1) rfl ⟨_, _, _, _, rfl, HD.out.2⟩
theorem does_cut {w0 w : World} {sb n : Nat} {bl nn : Int} {k : Ky} {raw : Bool} {L : Nat → List Bk} {s : Value} {U : Nat → Value} {X : Nat → Prop} (hwf : (DeedV.mk 2 nn k raw).wf) (h : KD w0 w sb bl n L s U n L X) :
    Calls Try.prog 11 #[.pointer (some ⟨sb, 0, none⟩), .agg #[.int .i64 bl, s], .agg #[.int .i64 2, .int .i64 nn, .int .i64 k.sp, .int .u64 k.va, .int .i64 k.sz, .bool raw]] w fun e w' => DoneD w0 w w' sb bl X e := by
  obtain ⟨g, cap, rfl, _, _, _⟩ := h.doc.form
  have hbl := h.ct.facts.2.2.2.2
  have CO := Lib.hid (fun w => of_any (DeedV.mk 2 nn k raw) hwf w)
  have hwk := ofK_wf hwf
  generalize ofK (DeedV.mk 2 nn k raw) = gk at *
  have b1 : Below w.heap.size w (((w.alloc (.cells #[.int .i64 bl, .slice (some ⟨g, 0, none⟩) n cap] 27)).alloc (.cells #[.int .i64 2, .int .i64 nn, .int .i64 k.sp, .int .u64 k.va, .int .i64 k.sz, .bool raw] 35)).alloc (.cells #[.int .i64 0, .slice none 0 0] 27)) := by (repeat (first | (with_reducible assumption) | (with_reducible exact Below.refl _ _) | (with_reducible refine lo_step ?_ (by assumption)) | (with_reducible refine lo_drew ?_) | (with_reducible refine lo_drewN ?_ _) | (with_reducible refine lo_alloc ?_ _))) 
  have s1 : (((w.alloc (.cells #[.int .i64 bl, .slice (some ⟨g, 0, none⟩) n cap] 27)).alloc (.cells #[.int .i64 2, .int .i64 nn, .int .i64 k.sp, .int .u64 k.va, .int .i64 k.sz, .bool raw] 35)).alloc (.cells #[.int .i64 0, .slice none 0 0] 27)).heap.size = w.heap.size + 1 + 1 + 1 := by simp
  have x0 : (((w.alloc (.cells #[.int .i64 bl, .slice (some ⟨g, 0, none⟩) n cap] 27)).alloc (.cells #[.int .i64 2, .int .i64 nn, .int .i64 k.sp, .int .u64 k.va, .int .i64 k.sz, .bool raw] 35)).alloc (.cells #[.int .i64 0, .slice none 0 0] 27)).heap[w.heap.size]? = some (.cells #[.int .i64 bl, .slice (some ⟨g, 0, none⟩) n cap] 27 (0, 0)) := blk_low (blk_low (heap_alloc_new w _) ((Below.refl _ _).alloc (Nat.le_refl _) _)) ((Below.refl _ _).alloc (Nat.le_refl _) _)
  have x1 : (((w.alloc (.cells #[.int .i64 bl, .slice (some ⟨g, 0, none⟩) n cap] 27)).alloc (.cells #[.int .i64 2, .int .i64 nn, .int .i64 k.sp, .int .u64 k.va, .int .i64 k.sz, .bool raw] 35)).alloc (.cells #[.int .i64 0, .slice none 0 0] 27)).heap[w.heap.size + 1]? = some (.cells #[.int .i64 2, .int .i64 nn, .int .i64 k.sp, .int .u64 k.va, .int .i64 k.sz, .bool raw] 35 (0, 0)) := by
    refine blk_low ?_ ((Below.refl _ _).alloc (Nat.le_refl _) _)
    have := heap_alloc_new (w.alloc (.cells #[.int .i64 bl, .slice (some ⟨g, 0, none⟩) n cap] 27)) (.cells #[.int .i64 2, .int .i64 nn, .int .i64 k.sp, .int .u64 k.va, .int .i64 k.sz, .bool raw] 35)
    rwa [World.size_alloc] at this
  have x2 : (((w.alloc (.cells #[.int .i64 bl, .slice (some ⟨g, 0, none⟩) n cap] 27)).alloc (.cells #[.int .i64 2, .int .i64 nn, .int .i64 k.sp, .int .u64 k.va, .int .i64 k.sz, .bool raw] 35)).alloc (.cells #[.int .i64 0, .slice none 0 0] 27)).heap[w.heap.size + 1 + 1]? = some (.cells #[.int .i64 0, .slice none 0 0] 27 (0, 0)) := by
    have := heap_alloc_new ((w.alloc (.cells #[.int .i64 bl, .slice (some ⟨g, 0, none⟩) n cap] 27)).alloc (.cells #[.int .i64 2, .int .i64 nn, .int .i64 k.sp, .int .u64 k.va, .int .i64 k.sz, .bool raw] 35)) (.cells #[.int .i64 0, .slice none 0 0] 27)
    rwa [World.size_alloc, World.size_alloc] at this
  have K1 := h.turnX b1 (Y := fun q => X q ∨ q = w.heap.size + 1 ∨ q = w.heap.size + 1 + 1) (fun q hq => by rcases hq with e | e | e; exact .inl e; exact .inr (by omega); exact .inr (by omega))
  have H0 := Lib.hid h
  have H1 := Lib.hid (And.intro b1 (And.intro x0 (And.intro x1 (And.intro x2 (And.intro K1 s1)))))
  have HKW := Lib.hid hwk
  clear h b1 s1 x0 x1 x2 K1 hwk
  go_enter Try.func11, Try.ntmps11
  go_wp2_with fail
  refine (CO.out _).mono ?_; rintro e w2 ⟨rfl, hb2⟩
  have b2 := lo_step H1.out.1 hb2
  have y0 := blk_low H1.out.2.1 hb2
  have y1 := blk_low H1.out.2.2.1 hb2
  have y2 := blk_low H1.out.2.2.2.1 hb2
  have K2 := H1.out.2.2.2.2.1.low hb2
  have s2 := hb2.size
  rw [H1.out.2.2.2.2.2] at s2
  have NL : Below w2.heap.size w2 (w2.alloc (.cells #[.int .i64 gk.sp, .int .u64 gk.va, .int .i64 gk.sz] 33)) := (Below.refl _ _).alloc (Nat.le_refl _) _
  have K3 := K2.turnX NL (Y := fun q => X q ∨ q = w.heap.size + 1 ∨ q = w.heap.size + 1 + 1 ∨ q = w2.heap.size) (fun q hq => by rcases hq with e | e | e | e; exact .inl (.inl e); exact .inl (.inr (.inl e)); exact .inl (.inr (.inr e)); exact .inr (by simp; omega))
  have b3 := lo_step b2 NL
  have z0 := blk_low y0 NL
  have z1 := blk_low y1 NL
  have z2 := blk_low y2 NL
  have z3 := heap_alloc_new w2 (.cells #[.int .i64 gk.sp, .int .u64 gk.va, .int .i64 gk.sz] 33)
  obtain ⟨t0, t1⟩ := t_cells z0
  obtain ⟨d0, d1, d2⟩ := key_cells z3
  have c0 : (w2.alloc (.cells #[.int .i64 gk.sp, .int .u64 gk.va, .int .i64 gk.sz] 33)).cell? ⟨w.heap.size + 1, 0, none⟩ = some (.int .i64 2) := by simp [World.cell?, z1]
  have c1 : (w2.alloc (.cells #[.int .i64 gk.sp, .int .u64 gk.va, .int .i64 gk.sz] 33)).cell? ⟨w.heap.size + 1, 1, none⟩ = some (.int .i64 nn) := by simp [World.cell?, z1]
  have CD := Lib.hid (tcut_any bl gk HKW.out _ K3.doc)
  have HS2 := Lib.hid s2
  have H3 := Lib.hid (And.intro b3 (And.intro K3 (And.intro z1 (And.intro z2 z3))))
  clear CO H1 hb2 b2 y0 y1 y2 K2 s2 NL K3 b3 z0 z1 z2 z3 hbl
  go_wp2_with fail
  refine CD.out.mono ?_; rintro e w4 ⟨s4, rfl, hd⟩
  obtain ⟨g4, cap4, rfl⟩ := hd.form
  obtain ⟨U4, K4⟩ := H3.out.2.1.turnDoc hd
  have NL : Below w4.heap.size w4 (w4.alloc (.cells #[.int .i64 bl, .slice (some ⟨g4, 0, none⟩) n cap4] 27)) := (Below.refl _ _).alloc (Nat.le_refl _) _
  have b5 := lo_step (lo_step H3.out.1 hd.bel) NL
  have K5 := K4.turnX NL (Y := EX X w.heap.size w2.heap.size w4.heap.size) (fun q hq => by rcases hq with e | e | e | e | e; exact .inl (.inl e); exact .inl (.inr (.inl e)); exact .inl (.inr (.inr (.inl e))); exact .inl (.inr (.inr (.inr e))); exact .inr (by simp; omega))
  have E5 : EB (w4.alloc (.cells #[.int .i64 bl, .slice (some ⟨g4, 0, none⟩) n cap4] 27)) w.heap.size w2.heap.size w4.heap.size 2 nn k raw gk bl (.slice (some ⟨g4, 0, none⟩) n cap4) :=
    ⟨blk_low (blk_low H3.out.2.2.1 hd.bel) NL, blk_low (blk_low H3.out.2.2.2.1 hd.bel) NL, blk_low (blk_low H3.out.2.2.2.2 hd.bel) NL, heap_alloc_new w4 _⟩
  have s4 := hd.bel.size
  rw [World.size_alloc] at s4
  have hkb : w2.heap.size ≠ w.heap.size + 1 + 1 := by have := HS2.out; omega
  have hob : w4.heap.size ≠ w.heap.size + 1 + 1 := by have := HS2.out; omega
  have HN := Lib.hid (And.intro hkb hob)
  have CK := Lib.hid (fun w => key_any gk w)
  have SC := Lib.hid (fun (W : World) (E : EB W w.heap.size w2.heap.size w4.heap.size 2 nn k raw gk bl (.slice (some ⟨g4, 0, none⟩) n cap4)) => E.cells)
  have hS5 := SC.out _ (E5.low (Below.refl _ _).drew)
  have H5 := Lib.hid (And.intro b5 (And.intro K5 E5))
  clear K4 NL b5 K5 E5 hd H3 CD t0 t1 d0 d1 d2 c0 c1 s4 hkb hob
  go_wp2_with fail
  refine wp_region_held_drew (S := fun w1 => (w1.cell? ⟨w4.heap.size, 0, none⟩ = some (.int .i64 bl) ∧ w1.cell? ⟨w4.heap.size, 1, none⟩ = some (.slice (some ⟨g4, 0, none⟩) n cap4)) ∧ (w1.cell? ⟨w2.heap.size, 0, none⟩ = some (.int .i64 gk.sp) ∧ w1.cell? ⟨w2.heap.size, 1, none⟩ = some (.int .u64 gk.va) ∧ w1.cell? ⟨w2.heap.size, 2, none⟩ = some (.int .i64 gk.sz)) ∧ w1.cell? ⟨w.heap.size + 1, 1, none⟩ = some (.int .i64 nn)) (by kernel_rfl) hS5 (fun hHeld => ?_)
  refine wpAnyH_take (i := 0) (v := ?vt0) rfl (by kernel_rfl) (by kernel_rfl) (by kernel_rfl) (fun _ _ _ h => h) (Or.inl ⟨by rfl, ?ht0⟩) (by assumption) ?rt0
  case ht0 => (intro w hSw; (try dsimp only at hSw); go_simp <;> (with_reducible rfl))
  (try simp only [Act.put, List.setIfInBounds_toArray, List.set_cons_zero, List.set_cons_succ, List.getElem_toArray, List.getElem_cons_zero])
  refine wpAnyH_take (i := 1) (v := ?vt1) rfl (by kernel_rfl) (by kernel_rfl) (by kernel_rfl) (fun _ _ _ h => h) (Or.inl ⟨by rfl, ?ht1⟩) (by assumption) ?rt1
  case ht1 => (intro w hSw; (try dsimp only at hSw); go_simp <;> (with_reducible rfl))
  (try simp only [Act.put, List.setIfInBounds_toArray, List.set_cons_zero, List.set_cons_succ, List.getElem_toArray, List.getElem_cons_zero, List.getElem_cons_succ])
  refine wpAnyH_take (i := 2) (v := ?vt2) rfl (by kernel_rfl) (by kernel_rfl) (by kernel_rfl) (fun _ _ _ h => h) (Or.inl ⟨by rfl, ?ht2⟩) (by assumption) ?rt2
  case ht2 => (intro w hSw; (try dsimp only at hSw); go_simp <;> (with_reducible rfl))
  (try simp only [Act.put, List.setIfInBounds_toArray, List.set_cons_zero, List.set_cons_succ, List.getElem_toArray, List.getElem_cons_zero, List.getElem_cons_succ])
  refine wpAnyH_take (i := 5) (v := ?vt5) rfl (by kernel_rfl) (by kernel_rfl) (by kernel_rfl) (fun _ _ _ h => h) (Or.inl ⟨by rfl, ?ht5⟩) (by assumption) ?rt5
  case ht5 => (intro w hSw; (try dsimp only at hSw); go_simp <;> (with_reducible rfl))
  (try simp only [Act.put, List.setIfInBounds_toArray, List.set_cons_zero, List.set_cons_succ, List.getElem_toArray, List.getElem_cons_zero, List.getElem_cons_succ])
  refine wpAnyH_ready (rs := [3]) (by kernel_rfl) (by simp) ?_
  refine AllReadyH.cons rfl (fun K hK => ?_) AllReadyH.nil
  go_simp
  refine (CK.out _).mono ?_
  rintro r w6 ⟨rfl, hb6⟩
  have K6 := H5.out.2.1.drew.low hb6
  have E6 := H5.out.2.2.low ((Below.refl _ _).drew.trans hb6)
  have hS6 := SC.out _ E6
  have CP := Lib.hid (K6.ct.cut gk HKW.out)
  have HK6 := Lib.hid (And.intro K6 (And.intro E6 ((lo_drew H5.out.1).trans (hb6.mono (lo_drew H5.out.1).size))))
  clear K6 E6 hb6 CK
  (try go_simp)
  refine hK.out _ _ hS6 (fun hHeld => ?_)
  clear hK K
  (try simp only [Act.put, List.setIfInBounds_toArray, List.set_cons_zero, List.set_cons_succ, List.getElem_toArray, List.getElem_cons_zero, List.getElem_cons_succ])
  refine wpAnyH_ready (rs := [4]) (by kernel_rfl) (by simp) ?_
  refine AllReadyH.cons rfl (fun K hK => ?_) AllReadyH.nil
  go_simp
  refine (CP.out).mono ?_
  rintro r w7 ⟨rfl, c7, k7⟩
  have K7 := HK6.out.1.turn c7 k7
  have E7 := HK6.out.2.1.kept (X := X) k7 (fun q hq => .inl hq)
  have hS7 := SC.out _ E7
  have HD := Lib.hid (EB.done H0.out HK6.out.2.2 (fun q hq => k7.1 q (.inl (.inl hq))) k7.2 K7 E7)
  have hS8 := E7.after HN.out.1 HN.out.2 (.int .i64 bl) (.slice (some ⟨g4, 0, none⟩) n cap4)
  obtain ⟨⟨f0, f1⟩, f2, f3⟩ := E7.rc
  dsimp only at hS8
  clear K7 E7 HK6 CP c7 k7
  (try go_simp)
  refine hK.out _ _ hS7 (fun hHeld => ?_)
  clear hK K
  (try simp only [Act.put, List.setIfInBounds_toArray, List.set_cons_zero, List.set_cons_succ, List.getElem_toArray, List.getElem_cons_zero, List.getElem_cons_succ])
  refine wpAnyH_take (i := 6) (v := .bool true) rfl (by kernel_rfl) (by kernel_rfl) (by kernel_rfl) (fun _ _ _ h => h) (Or.inl ⟨by rfl, ?ht6⟩) (by assumption) ?rt6
  case ht6 => (intro w hSw; (try dsimp only at hSw); go_simp)
  (try simp only [Act.put, List.setIfInBounds_toArray, List.set_cons_zero, List.set_cons_succ, List.getElem_toArray, List.getElem_cons_zero, List.getElem_cons_succ])
  refine wpAnyH_ready (rs := [7]) (by kernel_rfl) (by simp) ?_
  refine AllReadyH.cons rfl (fun K hK => ?_) AllReadyH.nil
  go_simp
  refine hK.out _ _ hS8 (fun hHeld => ?_)
  clear hK K
  (try simp only [Act.put, List.setIfInBounds_toArray, List.set_cons_zero, List.set_cons_succ, List.getElem_toArray, List.getElem_cons_zero, List.getElem_cons_succ])
  refine wpAnyH_take (i := 8) (v := ?vu8) rfl (by kernel_rfl) (by kernel_rfl) (by kernel_rfl) (fun _ _ _ h => h) (Or.inl ⟨by rfl, ?hu8⟩) (by assumption) ?ru8
  case hu8 => (intro w hSw; (try dsimp only at hSw); go_simp <;> (with_reducible rfl))
  (try simp only [Act.put, List.setIfInBounds_toArray, List.set_cons_zero, List.set_cons_succ, List.getElem_toArray, List.getElem_cons_zero, List.getElem_cons_succ])
  refine wpAnyH_done (by kernel_rfl) ?_ _
  clear f0 f1 f2 f3 hS8 hS7 hS6 hS5
  go_wp2_with fail
  exact bodyPost_ret (res_T rfl _ _ _ _ _ rfl HD.out.1) rfl ⟨_, _, _, _, rfl, HD.out.2⟩
end Go.Proofs.Ytilijnalhkeggaa.Hs
