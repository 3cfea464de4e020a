/-
  The law's does of layer 11, of any kind, and like. Conditions: both tables have the same.
-/
import Derived.Test.YtilijnalhkeggaaHDm
import Derived.Deep.CutBlock
import Derived.Deep.DeepCutAuto
namespace Go.Proofs.Ytilijnalhkeggaa.Hs
open Fld
open Go.ChangeShapes Go.WideShapes Go.ChangeAt Go.RowKit Go.Maps
set_option maxHeartbeats 2000000
set_option maxRecDepth 100000
theorem does_any {w0 w : World} {sb n : Nat} {bl : Int} {L : Nat → List Bk} {s : Value} {U : Nat → Value} {X : Nat → Prop} (d : DeedV) (hwf : d.wf) (h : KD w0 w sb bl n L s U n L X) :
    Calls Try.prog 11 #[.pointer (some ⟨sb, 0, none⟩), .agg #[.int .i64 bl, s], .agg #[.int .i64 d.kind, .int .i64 d.n, .int .i64 d.k.sp, .int .u64 d.k.va, .int .i64 d.k.sz, .bool d.raw]] w fun e w' => DoneD w0 w w' sb bl X e := by
  obtain ⟨kind, nn, k, raw⟩ := d
  by_cases h0 : kind = 0
  · subst h0; exact does_put hwf h
  by_cases h1 : kind = 1
  · subst h1; exact does_set hwf h
  by_cases h2 : kind = 2
  · subst h2; exact does_cut hwf h
  by_cases h3 : kind = 3
  · subst h3
    have r1 := Int.tmod_lt_of_pos nn (show (0 : Int) < 40 by decide)
    by_cases hq : nn.tmod 40 < 1
    · exact does_sizeN hwf ⟨rfl, hq⟩ h
    · obtain ⟨m, hm⟩ : ∃ m : Nat, nn.tmod 40 = (m : Int) := ⟨(nn.tmod 40).toNat, by omega⟩
      have m1 : 1 ≤ m := by omega
      have m2 : m ≤ 39 := by omega
      exact does_sizeY hwf ⟨hm, m1, m2⟩ h
  exact does_get ⟨by simp [h0], by simp [h1], by simp [h2], by simp [h3]⟩ hwf h
/-- What like reads: both tables, the document's in a box too. -/
structure LK (w0 W : World) (sb : Nat) (bl : Int) (n : Nat) (L : Nat → List Bk) (s : Value) (U : Nat → Value) (b : Nat) : Prop where
  ct : CT w0 W sb n bl L (fun _ => False)
  doc : ChW W s n L U
  bx : W.heap[b]? = some (.cells #[.int .i64 bl, s] 27 (0, 0))
section
variable {w0 w w' : World} {sb n b : Nat} {bl : Int} {L : Nat → List Bk} {s : Value} {U : Nat → Value}
theorem LK.low (h : LK w0 w sb bl n L s U b) (hb : Below w.heap.size w w') : LK w0 w' sb bl n L s U b := ⟨h.ct.below hb, h.doc.low hb, blk_low h.bx hb⟩
theorem LK.drew (h : LK w0 w sb bl n L s U b) : LK w0 w.drew sb bl n L s U b := h.low (Below.refl _ w).drew
theorem LK.drewN (h : LK w0 w sb bl n L s U b) (m : Nat) : LK w0 (w.drewN m) sb bl n L s U b := h.low (below_drewN (Below.refl _ w) m)
end
theorem like_any {w0 w : World} {sb n : Nat} {bl : Int} {L : Nat → List Bk} {s : Value} {U : Nat → Value} {X : Nat → Prop} (h : KD w0 w sb bl n L s U n L X) :
    Calls Try.prog 12 #[.pointer (some ⟨sb, 0, none⟩), .agg #[.int .i64 bl, s]] w fun e w' => e = .returned (.bool true) ∧ Below w.heap.size w w' := by
  obtain ⟨g, cap, rfl, hgb, hnc, hcm⟩ := h.doc.form
  obtain ⟨_, hn1, _, hfew, hbl⟩ := h.ct.facts
  have hn2 := h.doc.n1
  have b1 : Below w.heap.size w (w.alloc (.cells #[.int .i64 bl, .slice (some ⟨g, 0, none⟩) n cap] 27)) := (Below.refl _ _).alloc (Nat.le_refl _) _
  have K1 : LK w0 (w.alloc (.cells #[.int .i64 bl, .slice (some ⟨g, 0, none⟩) n cap] 27)) sb bl n L (.slice (some ⟨g, 0, none⟩) n cap) U w.heap.size := ⟨(h.ct.sub (fun _ hk => hk.elim)).below b1, h.doc.low b1, heap_alloc_new w _⟩
  obtain ⟨t0, t1⟩ := t_cells K1.bx
  have CL := Lib.hid (tlen_any bl _ K1.doc)
  have H1 := Lib.hid (And.intro b1 K1)
  have hll : (lenL L n : Int) ≤ 1073741824 := by omega
  clear h b1 K1
  go_enter Try.func12, Try.ntmps12
  go_wp2_with fail
  refine CL.out.mono ?_; rintro e w2 ⟨rfl, hb2⟩
  have b2 := lo_step H1.out.1 hb2
  have K2 := H1.out.2.low hb2
  have C1 := Lib.hid K2.drew.ct.len
  have C2 := Lib.hid K2.drew.ct.free
  have SC := Lib.hid (fun (W : World) (K : LK w0 W sb bl n L (.slice (some ⟨g, 0, none⟩) n cap) U w.heap.size) => t_cells K.bx)
  have hS2 := SC.out _ K2.drew
  have H2 := Lib.hid (And.intro b2 K2)
  have q1 : (-9223372036854775808 : Int) ≤ bl - (lenL L n : Int) := by omega
  have q2 : bl - (lenL L n : Int) ≤ 9223372036854775807 := by omega
  have hwr : IntKind.i64.wrap (bl - (lenL L n : Int)) = bl - (lenL L n : Int) := by rw [IntKind.wrap_i64]; omega
  clear H1 CL t0 t1 hb2 b2 K2
  go_wp2_with fail
  refine wp_region_held_drew (S := fun w1 => w1.cell? ⟨w.heap.size, 0, none⟩ = some (.int .i64 bl) ∧ w1.cell? ⟨w.heap.size, 1, none⟩ = some (.slice (some ⟨g, 0, none⟩) n cap)) (by kernel_rfl) hS2 (fun hHeld => ?_)
  refine wpAnyH_take (i := 0) (v := ?vt0) rfl (by kernel_rfl) (by kernel_rfl) (by kernel_rfl) (fun _ _ _ h => h) (Or.inl ⟨by rfl, ?ht0⟩) (by assumption) ?rt0
  case ht0 => (intro w hSw; (try dsimp only at hSw); go_simp <;> (with_reducible rfl))
  (try simp only [Act.put, List.setIfInBounds_toArray, List.set_cons_zero, List.set_cons_succ, List.getElem_toArray, List.getElem_cons_zero])
  refine wpAnyH_take (i := 2) (v := ?vt2) rfl (by kernel_rfl) (by kernel_rfl) (by kernel_rfl) (fun _ _ _ h => h) (Or.inl ⟨by rfl, ?ht2⟩) (by assumption) ?rt2
  case ht2 => (intro w hSw; (try dsimp only at hSw); go_simp <;> (with_reducible rfl))
  (try simp only [Act.put, List.setIfInBounds_toArray, List.set_cons_zero, List.set_cons_succ, List.getElem_toArray, List.getElem_cons_zero, List.getElem_cons_succ])
  refine wpAnyH_ready (rs := [1]) (by kernel_rfl) (by simp) ?_
  refine AllReadyH.cons rfl (fun K hK => ?_) AllReadyH.nil
  go_simp
  refine (C1.out).mono ?_
  rintro r w3 ⟨rfl, rfl⟩
  (try go_simp)
  refine hK.out _ _ hS2 (fun hHeld => ?_)
  clear hK K
  (try simp only [Act.put, List.setIfInBounds_toArray, List.set_cons_zero, List.set_cons_succ, List.getElem_toArray, List.getElem_cons_zero, List.getElem_cons_succ])
  refine wpAnyH_take (i := 3) (v := .bool false) rfl (by kernel_rfl) (by kernel_rfl) (by kernel_rfl) (fun _ _ _ h => h) (Or.inl ⟨by rfl, ?ht3⟩) (by assumption) ?rt3
  case ht3 => (intro w hSw; (try dsimp only at hSw); go_simp)
  (try simp only [Act.put, List.setIfInBounds_toArray, List.set_cons_zero, List.set_cons_succ, List.getElem_toArray, List.getElem_cons_zero, List.getElem_cons_succ])
  refine wpAnyH_take (i := 4) (v := ?vt4) rfl (by kernel_rfl) (by kernel_rfl) (by kernel_rfl) (fun _ _ _ h => h) (Or.inl ⟨by rfl, ?ht4⟩) (by assumption) ?rt4
  case ht4 => (intro w hSw; (try dsimp only at hSw); go_simp <;> (with_reducible rfl))
  (try simp only [Act.put, List.setIfInBounds_toArray, List.set_cons_zero, List.set_cons_succ, List.getElem_toArray, List.getElem_cons_zero, List.getElem_cons_succ])
  refine wpAnyH_take (i := 5) (v := ?vt5) rfl (by kernel_rfl) (by kernel_rfl) (by kernel_rfl) (fun _ _ _ h => h) (Or.inl ⟨by rfl, ?ht5⟩) (by assumption) ?rt5
  case ht5 => (intro w hSw; (try dsimp only at hSw); go_simp <;> (with_reducible rfl))
  (try simp only [Act.put, List.setIfInBounds_toArray, List.set_cons_zero, List.set_cons_succ, List.getElem_toArray, List.getElem_cons_zero, List.getElem_cons_succ])
  refine wpAnyH_take (i := 7) (v := ?vt7) rfl (by kernel_rfl) (by kernel_rfl) (by kernel_rfl) (fun _ _ _ h => h) (Or.inl ⟨by rfl, ?ht7⟩) (by assumption) ?rt7
  case ht7 => (intro w hSw; (try dsimp only at hSw); go_simp <;> (with_reducible rfl))
  (try simp only [Act.put, List.setIfInBounds_toArray, List.set_cons_zero, List.set_cons_succ, List.getElem_toArray, List.getElem_cons_zero, List.getElem_cons_succ])
  refine wpAnyH_take (i := 8) (v := ?vt8) rfl (by kernel_rfl) (by kernel_rfl) (by kernel_rfl) (fun _ _ _ h => h) (Or.inl ⟨by rfl, ?ht8⟩) (by assumption) ?rt8
  case ht8 => (intro w hSw; (try dsimp only at hSw); go_simp <;> (with_reducible rfl))
  (try simp only [Act.put, List.setIfInBounds_toArray, List.set_cons_zero, List.set_cons_succ, List.getElem_toArray, List.getElem_cons_zero, List.getElem_cons_succ])
  refine wpAnyH_take (i := 9) (v := ?vt9) rfl (by kernel_rfl) (by kernel_rfl) (by kernel_rfl) (fun _ _ _ h => h) (Or.inl ⟨by rfl, ?ht9⟩) (by assumption) ?rt9
  case ht9 => (intro w hSw; (try dsimp only at hSw); go_simp <;> (with_reducible rfl))
  (try simp only [Act.put, List.setIfInBounds_toArray, List.set_cons_zero, List.set_cons_succ, List.getElem_toArray, List.getElem_cons_zero, List.getElem_cons_succ])
  refine wpAnyH_take (i := 10) (v := .int .i64 (bl - (lenL L n : Int))) rfl (by kernel_rfl) (by kernel_rfl) (by kernel_rfl) (fun _ _ _ h => h) (Or.inl ⟨by rfl, ?ht10⟩) (by assumption) ?rt10
  case ht10 => (intro w hSw; (try dsimp only at hSw); go_simp)
  (try simp only [Act.put, List.setIfInBounds_toArray, List.set_cons_zero, List.set_cons_succ, List.getElem_toArray, List.getElem_cons_zero, List.getElem_cons_succ])
  refine wpAnyH_ready (rs := [6]) (by kernel_rfl) (by simp) ?_
  refine AllReadyH.cons rfl (fun K hK => ?_) AllReadyH.nil
  go_simp
  refine (C2.out).mono ?_
  rintro r w3 ⟨rfl, mm, rfl⟩
  have b3 := below_drewN (lo_drew H2.out.1) mm
  have K3 := H2.out.2.drew.drewN mm
  generalize World.drewN w2.drew mm = w3 at *
  have hS3 := SC.out _ K3
  have C3 := Lib.hid K3.ct.chains
  have C4 := Lib.hid K3.ct.longest
  (try go_simp)
  refine hK.out _ _ hS3 (fun hHeld => ?_)
  clear hK K
  (try simp only [Act.put, List.setIfInBounds_toArray, List.set_cons_zero, List.set_cons_succ, List.getElem_toArray, List.getElem_cons_zero, List.getElem_cons_succ])
  refine wpAnyH_take (i := 11) (v := .bool false) rfl (by kernel_rfl) (by kernel_rfl) (by kernel_rfl) (fun _ _ _ h => h) (Or.inl ⟨by rfl, ?ht11⟩) (by assumption) ?rt11
  case ht11 => (intro w hSw; (try dsimp only at hSw); go_simp)
  (try simp only [Act.put, List.setIfInBounds_toArray, List.set_cons_zero, List.set_cons_succ, List.getElem_toArray, List.getElem_cons_zero, List.getElem_cons_succ])
  refine wpAnyH_take (i := 12) (v := .bool false) rfl (by kernel_rfl) (by kernel_rfl) (by kernel_rfl) (fun _ _ _ h => h) (Or.inl ⟨by rfl, ?ht12⟩) (by assumption) ?rt12
  case ht12 => (intro w hSw; (try dsimp only at hSw); go_simp)
  (try simp only [Act.put, List.setIfInBounds_toArray, List.set_cons_zero, List.set_cons_succ, List.getElem_toArray, List.getElem_cons_zero, List.getElem_cons_succ])
  refine wpAnyH_take (i := 13) (v := ?vt13) rfl (by kernel_rfl) (by kernel_rfl) (by kernel_rfl) (fun _ _ _ h => h) (Or.inl ⟨by rfl, ?ht13⟩) (by assumption) ?rt13
  case ht13 => (intro w hSw; (try dsimp only at hSw); go_simp <;> (with_reducible rfl))
  (try simp only [Act.put, List.setIfInBounds_toArray, List.set_cons_zero, List.set_cons_succ, List.getElem_toArray, List.getElem_cons_zero, List.getElem_cons_succ])
  refine wpAnyH_take (i := 14) (v := ?vt14) rfl (by kernel_rfl) (by kernel_rfl) (by kernel_rfl) (fun _ _ _ h => h) (Or.inl ⟨by rfl, ?ht14⟩) (by assumption) ?rt14
  case ht14 => (intro w hSw; (try dsimp only at hSw); go_simp <;> (with_reducible rfl))
  (try simp only [Act.put, List.setIfInBounds_toArray, List.set_cons_zero, List.set_cons_succ, List.getElem_toArray, List.getElem_cons_zero, List.getElem_cons_succ])
  refine wpAnyH_take (i := 16) (v := ?vt16) rfl (by kernel_rfl) (by kernel_rfl) (by kernel_rfl) (fun _ _ _ h => h) (Or.inl ⟨by rfl, ?ht16⟩) (by assumption) ?rt16
  case ht16 => (intro w hSw; (try dsimp only at hSw); go_simp <;> (with_reducible rfl))
  (try simp only [Act.put, List.setIfInBounds_toArray, List.set_cons_zero, List.set_cons_succ, List.getElem_toArray, List.getElem_cons_zero, List.getElem_cons_succ])
  refine wpAnyH_take (i := 17) (v := ?vt17) rfl (by kernel_rfl) (by kernel_rfl) (by kernel_rfl) (fun _ _ _ h => h) (Or.inl ⟨by rfl, ?ht17⟩) (by assumption) ?rt17
  case ht17 => (intro w hSw; (try dsimp only at hSw); go_simp <;> (with_reducible rfl))
  (try simp only [Act.put, List.setIfInBounds_toArray, List.set_cons_zero, List.set_cons_succ, List.getElem_toArray, List.getElem_cons_zero, List.getElem_cons_succ])
  refine wpAnyH_take (i := 18) (v := ?vt18) rfl (by kernel_rfl) (by kernel_rfl) (by kernel_rfl) (fun _ _ _ h => h) (Or.inl ⟨by rfl, ?ht18⟩) (by assumption) ?rt18
  case ht18 => (intro w hSw; (try dsimp only at hSw); go_simp <;> (with_reducible rfl))
  (try simp only [Act.put, List.setIfInBounds_toArray, List.set_cons_zero, List.set_cons_succ, List.getElem_toArray, List.getElem_cons_zero, List.getElem_cons_succ])
  refine wpAnyH_ready (rs := [15]) (by kernel_rfl) (by simp) ?_
  refine AllReadyH.cons rfl (fun K hK => ?_) AllReadyH.nil
  go_simp
  refine (C3.out).mono ?_
  rintro r w3 ⟨rfl, rfl⟩
  (try go_simp)
  refine hK.out _ _ hS3 (fun hHeld => ?_)
  clear hK K
  (try simp only [Act.put, List.setIfInBounds_toArray, List.set_cons_zero, List.set_cons_succ, List.getElem_toArray, List.getElem_cons_zero, List.getElem_cons_succ])
  refine wpAnyH_take (i := 19) (v := .bool false) rfl (by kernel_rfl) (by kernel_rfl) (by kernel_rfl) (fun _ _ _ h => h) (Or.inl ⟨by rfl, ?ht19⟩) (by assumption) ?rt19
  case ht19 => (intro w hSw; (try dsimp only at hSw); go_simp)
  (try simp only [Act.put, List.setIfInBounds_toArray, List.set_cons_zero, List.set_cons_succ, List.getElem_toArray, List.getElem_cons_zero, List.getElem_cons_succ])
  refine wpAnyH_take (i := 20) (v := .bool false) rfl (by kernel_rfl) (by kernel_rfl) (by kernel_rfl) (fun _ _ _ h => h) (Or.inl ⟨by rfl, ?ht20⟩) (by assumption) ?rt20
  case ht20 => (intro w hSw; (try dsimp only at hSw); go_simp)
  (try simp only [Act.put, List.setIfInBounds_toArray, List.set_cons_zero, List.set_cons_succ, List.getElem_toArray, List.getElem_cons_zero, List.getElem_cons_succ])
  refine wpAnyH_take (i := 21) (v := ?vt21) rfl (by kernel_rfl) (by kernel_rfl) (by kernel_rfl) (fun _ _ _ h => h) (Or.inl ⟨by rfl, ?ht21⟩) (by assumption) ?rt21
  case ht21 => (intro w hSw; (try dsimp only at hSw); go_simp <;> (with_reducible rfl))
  (try simp only [Act.put, List.setIfInBounds_toArray, List.set_cons_zero, List.set_cons_succ, List.getElem_toArray, List.getElem_cons_zero, List.getElem_cons_succ])
  refine wpAnyH_take (i := 22) (v := ?vt22) rfl (by kernel_rfl) (by kernel_rfl) (by kernel_rfl) (fun _ _ _ h => h) (Or.inl ⟨by rfl, ?ht22⟩) (by assumption) ?rt22
  case ht22 => (intro w hSw; (try dsimp only at hSw); go_simp <;> (with_reducible rfl))
  (try simp only [Act.put, List.setIfInBounds_toArray, List.set_cons_zero, List.set_cons_succ, List.getElem_toArray, List.getElem_cons_zero, List.getElem_cons_succ])
  refine wpAnyH_take (i := 24) (v := ?vt24) rfl (by kernel_rfl) (by kernel_rfl) (by kernel_rfl) (fun _ _ _ h => h) (Or.inl ⟨by rfl, ?ht24⟩) (by assumption) ?rt24
  case ht24 => (intro w hSw; (try dsimp only at hSw); go_simp <;> (with_reducible rfl))
  (try simp only [Act.put, List.setIfInBounds_toArray, List.set_cons_zero, List.set_cons_succ, List.getElem_toArray, List.getElem_cons_zero, List.getElem_cons_succ])
  refine wpAnyH_ready (rs := [23]) (by kernel_rfl) (by simp) ?_
  refine AllReadyH.cons rfl (fun K hK => ?_) AllReadyH.nil
  go_simp
  refine (C4.out).mono ?_
  rintro r w4 ⟨rfl, hb4⟩
  have K4 := K3.low hb4
  have hS4 := SC.out _ K4
  have C5 := Lib.hid (tlong_any bl _ K4.doc)
  (try go_simp)
  refine hK.out _ _ hS4 (fun hHeld => ?_)
  clear hK K
  (try simp only [Act.put, List.setIfInBounds_toArray, List.set_cons_zero, List.set_cons_succ, List.getElem_toArray, List.getElem_cons_zero, List.getElem_cons_succ])
  refine wpAnyH_ready (rs := [25]) (by kernel_rfl) (by simp) ?_
  refine AllReadyH.cons rfl (fun K hK => ?_) AllReadyH.nil
  go_simp
  refine (C5.out).mono ?_
  rintro r w5 ⟨rfl, hb5⟩
  have K5 := K4.low hb5
  have hS5 := SC.out _ K5
  (try go_simp)
  refine hK.out _ _ hS5 (fun hHeld => ?_)
  clear hK K
  (try simp only [Act.put, List.setIfInBounds_toArray, List.set_cons_zero, List.set_cons_succ, List.getElem_toArray, List.getElem_cons_zero, List.getElem_cons_succ])
  refine wpAnyH_take (i := 26) (v := .bool false) rfl (by kernel_rfl) (by kernel_rfl) (by kernel_rfl) (fun _ _ _ h => h) (Or.inl ⟨by rfl, ?ht26⟩) (by assumption) ?rt26
  case ht26 => (intro w hSw; (try dsimp only at hSw); go_simp)
  (try simp only [Act.put, List.setIfInBounds_toArray, List.set_cons_zero, List.set_cons_succ, List.getElem_toArray, List.getElem_cons_zero, List.getElem_cons_succ])
  refine wpAnyH_take (i := 27) (v := .bool false) rfl (by kernel_rfl) (by kernel_rfl) (by kernel_rfl) (fun _ _ _ h => h) (Or.inl ⟨by rfl, ?ht27⟩) (by assumption) ?rt27
  case ht27 => (intro w hSw; (try dsimp only at hSw); go_simp)
  (try simp only [Act.put, List.setIfInBounds_toArray, List.set_cons_zero, List.set_cons_succ, List.getElem_toArray, List.getElem_cons_zero, List.getElem_cons_succ])
  refine wpAnyH_done (by kernel_rfl) ?_ _
  have b5 := lo_step (lo_step b3 hb4) hb5
  have H5 := Lib.hid (And.intro b5 K5)
  clear hS2 hS3 hS4 hS5 C1 C2 C3 C4 C5 K3 K4 K5 b3 b5 hb4 hb5 H2 q1 q2 hwr
  go_wp2_with fail
  generalize hw5 : w5 = wA at *
  go_loopw [6] (fun i wr => ∃ (wx : World) (j : Nat), wx = wr ∧ i = .int .i64 ((j : Int) - 1) ∧ j ≤ n + 2 ∧ LK w0 wx sb bl n L (.slice (some ⟨g, 0, none⟩) n cap) U w.heap.size ∧ Below w.heap.size w wx) (fun i _ => n + 2 - (RowKit.intOf i + 1).toNat)
  case atStart => exact ⟨_, 0, rfl, rfl, Nat.zero_le _, H5.out.2, H5.out.1⟩
  case round =>
    clear H5 hw5
    obtain ⟨wx, j, rfl, rfl, hj, K, hb⟩ := hrel
    obtain ⟨t0, t1⟩ := t_cells K.bx
    by_cases hj1 : j = n + 2
    · subst hj1
      have e1 : ((n + 2 : Nat) : Int) - 1 = (n : Int) + 1 := by omega
      rw [e1]
      have hgt : ¬ (n : Int) + 1 ≤ (n : Int) := by omega
      have CA := Lib.hid (tall_any bl _ K.doc)
      have HK := Lib.hid K
      have HB := Lib.hid hb
      clear K hb e1
      go_wp2_with fail
      refine CA.out.mono ?_; rintro e w6 ⟨v, rfl, hown, hb6⟩
      have K6 := HK.out.low hb6
      have b6 := lo_step HB.out hb6
      have CLa := Lib.hid (K6.ct.lall (most := -1) (own_base hown))
      obtain ⟨ao, capl, rfl⟩ := own_shape3 hown
      clear K6 HK HB CA hb6 hown t0 t1
      go_wp2_with fail
      refine CLa.out.mono ?_; rintro e w7 ⟨rfl, hb7⟩
      go_wp2_with fail
      go_ret
      exact ⟨rfl, lo_step b6 hb7⟩
    · by_cases hj0 : j = 0
      · subst hj0
        have e1 : ((0 : Nat) : Int) - 1 = -1 := rfl
        rw [e1]
        have hle : (-1 : Int) ≤ (n : Int) := by omega
        have CR := Lib.hid (K.ct.row (-1) (by omega) (by omega))
        rw [show rowL n L (-1) = [] by simp [rowL]] at CR
        have HK := Lib.hid (And.intro K hb)
        clear K hb e1
        go_wp2_with fail
        refine CR.out.mono ?_; rintro e w6 ⟨v, rfl, hv, hb6⟩
        have hv2 : w6.ownsRow wx.heap.size 41 3 v 0 [] := hv
        obtain ⟨ao, capl, rfl⟩ := own_shape3 hv2
        have K6 := HK.out.1.low hb6
        have b6 := lo_step HK.out.2 hb6
        obtain ⟨t0, t1⟩ := t_cells K6.bx
        have H6 := Lib.hid (And.intro K6 b6)
        clear CR HK hv hv2 hb6 K6 b6
        go_wp2_with fail
        go_roundw
        case rel => exact ⟨_, 0 + 1, rfl, by go_num, by omega, H6.out.1, H6.out.2⟩
        case measure => (simp [RowKit.intOf] <;> omega)
      · by_cases hj2 : j = n + 1
        · subst hj2
          have e1 : ((n + 1 : Nat) : Int) - 1 = (n : Int) := by omega
          rw [e1]
          have hle : (n : Int) ≤ (n : Int) := Int.le_refl _
          have hnn : ¬ (n : Int) < 0 := by omega
          have CR := Lib.hid (K.ct.row (n : Int) (by omega) (by omega))
          rw [show rowL n L (n : Int) = [] by simp [rowL]] at CR
          have HK := Lib.hid (And.intro K hb)
          clear K hb e1
          go_wp2_with fail
          refine CR.out.mono ?_; rintro e w6 ⟨v, rfl, hv, hb6⟩
          have hv2 : w6.ownsRow wx.heap.size 41 3 v 0 [] := hv
          obtain ⟨ao, capl, rfl⟩ := own_shape3 hv2
          have K6 := HK.out.1.low hb6
          have b6 := lo_step HK.out.2 hb6
          obtain ⟨t0, t1⟩ := t_cells K6.bx
          have H6 := Lib.hid (And.intro K6 b6)
          clear CR HK hv hv2 hb6 K6 b6
          go_wp2_with fail
          go_roundw
          case rel => exact ⟨_, n + 1 + 1, rfl, by go_num, by omega, H6.out.1, H6.out.2⟩
          case measure => (simp [RowKit.intOf] <;> omega)
        · obtain ⟨c, rfl⟩ : ∃ c, j = c + 1 := ⟨j - 1, by omega⟩
          have hc : c < n := by omega
          have e1 : ((c + 1 : Nat) : Int) - 1 = (c : Int) := by omega
          rw [e1]
          have hle : (c : Int) ≤ (n : Int) := by omega
          have hd1 : decide ((c : Int) < 0) = false := by (simp <;> omega)
          have hd2 : decide ((n : Int) ≤ (c : Int)) = false := by (simp <;> omega)
          have hd3 : decide (n ≤ c) = false := by (simp <;> omega)
          have hlt2 : (c : Int) < (n : Int) := by omega
          have hc0 : (0 : Int) ≤ (c : Int) := by omega
          have CR := Lib.hid (K.ct.rowd hc hn2)
          have HK := Lib.hid (And.intro K hb)
          clear K hb e1
          go_wp2_with fail
          refine CR.out.mono ?_; rintro e w6 ⟨v, rfl, hv, hb6⟩
          have hkl : (keysL (L c)).length = (L c).length := by simp [keysL]
          obtain ⟨ao, capl, rfl⟩ := own_shape3 hv
          have K6 := HK.out.1.low hb6
          have b6 := lo_step HK.out.2 hb6
          obtain ⟨t0, t1⟩ := t_cells K6.bx
          have uc := K6.doc.cell hgb hc
          have hrc := K6.doc.rows c hc
          generalize hUc : U c = uv at uc hrc
          obtain ⟨aou, capu, rfl⟩ := pown_shape hrc
          have H6 := Lib.hid (And.intro K6 (And.intro b6 hv))
          have HUc := Lib.hid hUc
          rw [hkl]
          rw [hkl] at H6
          clear CR HK hv hb6 K6 b6 hrc hkl hUc
          have hln := len_one L hc
          have hlb : ((L c).length : Int) ≤ 1073741824 := by omega
          clear hln
          go_wp2_with fail
          clear t0 t1 uc
          go_loopw [8] (fun q wr => ∃ (wy : World) (j : Nat), wy = wr ∧ q = .int .i64 (j : Int) ∧ j ≤ (L c).length ∧ LK w0 wy sb bl n L (.slice (some ⟨g, 0, none⟩) n cap) U w.heap.size ∧ Below w.heap.size w wy ∧ wy.ownsRow wx.heap.size 41 3 (.slice ao (L c).length capl) (L c).length (kyL (keysL (L c)))) (fun q _ => (L c).length - (RowKit.intOf q).toNat)
          case atStart => exact ⟨_, 0, rfl, rfl, Nat.zero_le _, H6.out.1, H6.out.2.1, H6.out.2.2⟩
          case round =>
            clear H6
            obtain ⟨wy, q, rfl, rfl, hq, K, hb, hv⟩ := hrel
            by_cases hql : q < (L c).length
            · rcases own_form hv with ⟨_, h0⟩ | ⟨gr, capr, e2, hgr, hncr, hcmr⟩
              · omega
              have hrc := K.doc.rows c hc
              rw [HUc.out] at hrc
              rcases own_form hrc with ⟨_, h0⟩ | ⟨gu, capu2, e3, hgu, hncu, hcmu⟩
              · omega
              injection e2 with e4 e5 e6
              injection e3 with e7 e8 e9
              subst e4 e6 e7 e9
              have hkq : (keysL (L c))[q]? = some (at_ (L c) q).k := by simp [keysL, at_, hql]
              have SC := Lib.hid (fun (W : World) (K : LK w0 W sb bl n L (.slice (some ⟨g, 0, none⟩) n cap) U w.heap.size) (hv : W.ownsRow wx.heap.size 41 3 (.slice (some ⟨gr, 0, none⟩) (L c).length capl) (L c).length (kyL (keysL (L c)))) => (show (fun w1 => (w1.cell? ⟨w.heap.size, 0, none⟩ = some (.int .i64 bl) ∧ w1.cell? ⟨w.heap.size, 1, none⟩ = some (.slice (some ⟨g, 0, none⟩) n cap)) ∧ (w1.cell? ⟨gr, q * 3, none⟩ = some (.int .i64 (at_ (L c) q).k.sp) ∧ w1.cell? ⟨gr, q * 3 + 1, none⟩ = some (.int .u64 (at_ (L c) q).k.va) ∧ w1.cell? ⟨gr, q * 3 + 2, none⟩ = some (.int .i64 (at_ (L c) q).k.sz)) ∧ w1.cell? ⟨g, c, none⟩ = some (.slice (some ⟨gu, 0, none⟩) (L c).length capu) ∧ w1.cell? ⟨gu, q * 4, none⟩ = some (.int .i64 (at_ (L c) q).k.sp) ∧ w1.cell? ⟨gu, q * 4 + 1, none⟩ = some (.int .u64 (at_ (L c) q).k.va) ∧ w1.cell? ⟨gu, q * 4 + 2, none⟩ = some (.int .i64 (at_ (L c) q).k.sz)) W by
                have hkl : (keysL (L c)).length = (L c).length := by simp [keysL]
                have hv2 := hv
                rw [← hkl] at hv2
                obtain ⟨d0, d1, d2⟩ := keys_cells hv2 rfl hkq
                have uc := K.doc.cell rfl hc
                have hrc := K.doc.rows c hc
                rw [HUc.out] at uc hrc
                obtain ⟨p0, p1, p2, p3⟩ := pown_cells hrc rfl hql
                exact ⟨t_cells K.bx, ⟨d0, d1, d2⟩, uc, p0, p1, p2⟩))
              have hS := SC.out _ K.drew (own_same hv (fun _ _ => rfl))
              have HK := Lib.hid (And.intro K (And.intro hb hv))
              have HKN := kne_is (at_ (L c) q).k (at_ (L c) q).k
              rw [keyEq_self] at HKN
              have CK := Lib.hid (fun w => key_any (at_ (L c) q).k w)
              have h1' : (q : Int) < ((L c).length : Int) := by omega
              have h2' : (0 : Int) ≤ (q : Int) := by omega
              clear hrc K hb hv hkq hgr hgu
              unfold maxLen at hcmr hcmu
              go_wp2_with fail
              refine wp_region_held_drew (S := fun w1 => (w1.cell? ⟨w.heap.size, 0, none⟩ = some (.int .i64 bl) ∧ w1.cell? ⟨w.heap.size, 1, none⟩ = some (.slice (some ⟨g, 0, none⟩) n cap)) ∧ (w1.cell? ⟨gr, q * 3, none⟩ = some (.int .i64 (at_ (L c) q).k.sp) ∧ w1.cell? ⟨gr, q * 3 + 1, none⟩ = some (.int .u64 (at_ (L c) q).k.va) ∧ w1.cell? ⟨gr, q * 3 + 2, none⟩ = some (.int .i64 (at_ (L c) q).k.sz)) ∧ w1.cell? ⟨g, c, none⟩ = some (.slice (some ⟨gu, 0, none⟩) (L c).length capu) ∧ w1.cell? ⟨gu, q * 4, none⟩ = some (.int .i64 (at_ (L c) q).k.sp) ∧ w1.cell? ⟨gu, q * 4 + 1, none⟩ = some (.int .u64 (at_ (L c) q).k.va) ∧ w1.cell? ⟨gu, q * 4 + 2, none⟩ = some (.int .i64 (at_ (L c) q).k.sz)) (by kernel_rfl) hS (fun hHeld => ?_)
              refine wpAnyH_take (i := 0) (v := ?vs0) rfl (by kernel_rfl) (by kernel_rfl) (by kernel_rfl) (fun _ _ _ h => h) (Or.inl ⟨by rfl, ?hs0⟩) (by assumption) ?rs0
              case hs0 => (intro w hSw; (try dsimp only at hSw); go_simp <;> (with_reducible rfl))
              (try simp only [Act.put, List.setIfInBounds_toArray, List.set_cons_zero, List.set_cons_succ, List.getElem_toArray, List.getElem_cons_zero])
              refine wpAnyH_take (i := 1) (v := ?vs1) rfl (by kernel_rfl) (by kernel_rfl) (by kernel_rfl) (fun _ _ _ h => h) (Or.inl ⟨by rfl, ?hs1⟩) (by assumption) ?rs1
              case hs1 => (intro w hSw; (try dsimp only at hSw); go_simp <;> (with_reducible rfl))
              (try simp only [Act.put, List.setIfInBounds_toArray, List.set_cons_zero, List.set_cons_succ, List.getElem_toArray, List.getElem_cons_zero, List.getElem_cons_succ])
              refine wpAnyH_take (i := 2) (v := ?vs2) rfl (by kernel_rfl) (by kernel_rfl) (by kernel_rfl) (fun _ _ _ h => h) (Or.inl ⟨by rfl, ?hs2⟩) (by assumption) ?rs2
              case hs2 => (intro w hSw; (try dsimp only at hSw); go_simp <;> (with_reducible rfl))
              (try simp only [Act.put, List.setIfInBounds_toArray, List.set_cons_zero, List.set_cons_succ, List.getElem_toArray, List.getElem_cons_zero, List.getElem_cons_succ])
              refine wpAnyH_take (i := 3) (v := ?vs3) rfl (by kernel_rfl) (by kernel_rfl) (by kernel_rfl) (fun _ _ _ h => h) (Or.inl ⟨by rfl, ?hs3⟩) (by assumption) ?rs3
              case hs3 => (intro w hSw; (try dsimp only at hSw); go_simp <;> (with_reducible rfl))
              (try simp only [Act.put, List.setIfInBounds_toArray, List.set_cons_zero, List.set_cons_succ, List.getElem_toArray, List.getElem_cons_zero, List.getElem_cons_succ])
              refine wpAnyH_take (i := 4) (v := ?vs4) rfl (by kernel_rfl) (by kernel_rfl) (by kernel_rfl) (fun _ _ _ h => h) (Or.inl ⟨by rfl, ?hs4⟩) (by assumption) ?rs4
              case hs4 => (intro w hSw; (try dsimp only at hSw); go_simp <;> (with_reducible rfl))
              (try simp only [Act.put, List.setIfInBounds_toArray, List.set_cons_zero, List.set_cons_succ, List.getElem_toArray, List.getElem_cons_zero, List.getElem_cons_succ])
              refine wpAnyH_take (i := 5) (v := ?vs5) rfl (by kernel_rfl) (by kernel_rfl) (by kernel_rfl) (fun _ _ _ h => h) (Or.inl ⟨by rfl, ?hs5⟩) (by assumption) ?rs5
              case hs5 => (intro w hSw; (try dsimp only at hSw); go_simp <;> (with_reducible rfl))
              (try simp only [Act.put, List.setIfInBounds_toArray, List.set_cons_zero, List.set_cons_succ, List.getElem_toArray, List.getElem_cons_zero, List.getElem_cons_succ])
              refine wpAnyH_take (i := 6) (v := ?vs6) rfl (by kernel_rfl) (by kernel_rfl) (by kernel_rfl) (fun _ _ _ h => h) (Or.inl ⟨by rfl, ?hs6⟩) (by assumption) ?rs6
              case hs6 => (intro w hSw; (try dsimp only at hSw); go_simp <;> (with_reducible rfl))
              (try simp only [Act.put, List.setIfInBounds_toArray, List.set_cons_zero, List.set_cons_succ, List.getElem_toArray, List.getElem_cons_zero, List.getElem_cons_succ])
              refine wpAnyH_take (i := 7) (v := ?vs7) rfl (by kernel_rfl) (by kernel_rfl) (by kernel_rfl) (fun _ _ _ h => h) (Or.inl ⟨by rfl, ?hs7⟩) (by assumption) ?rs7
              case hs7 => (intro w hSw; (try dsimp only at hSw); go_simp <;> (with_reducible rfl))
              (try simp only [Act.put, List.setIfInBounds_toArray, List.set_cons_zero, List.set_cons_succ, List.getElem_toArray, List.getElem_cons_zero, List.getElem_cons_succ])
              refine wpAnyH_take (i := 8) (v := ?vs8) rfl (by kernel_rfl) (by kernel_rfl) (by kernel_rfl) (fun _ _ _ h => h) (Or.inl ⟨by rfl, ?hs8⟩) (by assumption) ?rs8
              case hs8 => (intro w hSw; (try dsimp only at hSw); go_simp <;> (with_reducible rfl))
              (try simp only [Act.put, List.setIfInBounds_toArray, List.set_cons_zero, List.set_cons_succ, List.getElem_toArray, List.getElem_cons_zero, List.getElem_cons_succ])
              refine wpAnyH_take (i := 9) (v := ?vs9) rfl (by kernel_rfl) (by kernel_rfl) (by kernel_rfl) (fun _ _ _ h => h) (Or.inl ⟨by rfl, ?hs9⟩) (by assumption) ?rs9
              case hs9 => (intro w hSw; (try dsimp only at hSw); go_simp <;> (with_reducible rfl))
              (try simp only [Act.put, List.setIfInBounds_toArray, List.set_cons_zero, List.set_cons_succ, List.getElem_toArray, List.getElem_cons_zero, List.getElem_cons_succ])
              refine wpAnyH_take (i := 10) (v := ?vs10) rfl (by kernel_rfl) (by kernel_rfl) (by kernel_rfl) (fun _ _ _ h => h) (Or.inl ⟨by rfl, ?hs10⟩) (by assumption) ?rs10
              case hs10 => (intro w hSw; (try dsimp only at hSw); go_simp <;> (with_reducible rfl))
              (try simp only [Act.put, List.setIfInBounds_toArray, List.set_cons_zero, List.set_cons_succ, List.getElem_toArray, List.getElem_cons_zero, List.getElem_cons_succ])
              refine wpAnyH_take (i := 11) (v := ?vs11) rfl (by kernel_rfl) (by kernel_rfl) (by kernel_rfl) (fun _ _ _ h => h) (Or.inl ⟨by rfl, ?hs11⟩) (by assumption) ?rs11
              case hs11 => (intro w hSw; (try dsimp only at hSw); go_simp <;> (with_reducible rfl))
              (try simp only [Act.put, List.setIfInBounds_toArray, List.set_cons_zero, List.set_cons_succ, List.getElem_toArray, List.getElem_cons_zero, List.getElem_cons_succ])
              refine wpAnyH_take (i := 12) (v := ?vs12) rfl (by kernel_rfl) (by kernel_rfl) (by kernel_rfl) (fun _ _ _ h => h) (Or.inl ⟨by rfl, ?hs12⟩) (by assumption) ?rs12
              case hs12 => (intro w hSw; (try dsimp only at hSw); go_simp <;> (with_reducible rfl))
              (try simp only [Act.put, List.setIfInBounds_toArray, List.set_cons_zero, List.set_cons_succ, List.getElem_toArray, List.getElem_cons_zero, List.getElem_cons_succ])
              refine wpAnyH_ready (rs := [13]) (by kernel_rfl) (by simp) ?_
              refine AllReadyH.cons rfl (fun K hK => ?_) AllReadyH.nil
              go_simp
              refine (CK.out _).mono ?_
              rintro r w7 ⟨rfl, hb7⟩
              have b7 := (Below.refl _ wy).drew.trans hb7
              have K7 := HK.out.1.low b7
              have v7 := own_same HK.out.2.2 (w' := w7) (fun q hq => b7.block q (HK.out.2.2.lt q hq).2)
              have hS7 := SC.out _ K7 v7
              have H7 := Lib.hid (And.intro K7 (And.intro (lo_step HK.out.2.1 b7) v7))
              clear K7 v7 b7 hb7
              (try go_simp)
              refine hK.out _ _ hS7 (fun hHeld => ?_)
              clear hK K
              (try simp only [Act.put, List.setIfInBounds_toArray, List.set_cons_zero, List.set_cons_succ, List.getElem_toArray, List.getElem_cons_zero, List.getElem_cons_succ])
              refine wpAnyH_take (i := 14) (v := .bool false) rfl (by kernel_rfl) (by kernel_rfl) (by kernel_rfl) (fun _ _ _ h => h) (Or.inl ⟨by rfl, ?hs14⟩) (by assumption) ?rs14
              case hs14 => (intro w hSw; (try dsimp only at hSw); go_simp)
              (try simp only [Act.put, List.setIfInBounds_toArray, List.set_cons_zero, List.set_cons_succ, List.getElem_toArray, List.getElem_cons_zero, List.getElem_cons_succ])
              refine wpAnyH_done (by kernel_rfl) ?_ _
              clear hS hS7 HK CK SC HKN
              go_wp2_with fail
              go_roundw
              case rel => exact ⟨_, q + 1, rfl, by go_num, by omega, H7.out.1, H7.out.2.1, H7.out.2.2⟩
              case measure => (simp [RowKit.intOf] <;> omega)
            · obtain rfl : (L c).length = q := by omega
              clear hv
              go_wp2_with fail
              go_roundw
              case rel => exact ⟨_, c + 1 + 1, rfl, by go_num, by omega, K, hb⟩
              case measure => (simp [RowKit.intOf] <;> omega)
end Go.Proofs.Ytilijnalhkeggaa.Hs
