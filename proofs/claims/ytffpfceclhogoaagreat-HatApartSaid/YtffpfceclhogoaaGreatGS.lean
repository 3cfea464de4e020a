/-
  YtffpfceclhogoaaGreatGS: the contracts and plain facts of several texts, laid together. Conditions: those that each theorem names.
-/
import Derived.Test.YtffpfceclhogoaaGreatGR
namespace Go.Proofs.YtffpfceclhogoaaGreat.Hp
open Fld Hs
open Go.ChangeShapes Go.WideShapes Go.ChangeAt Go.RowKit Go.Maps
set_option maxHeartbeats 8000000
set_option maxRecDepth 100000
section
variable {w0 w : World} {hb sb n : Nat} {ns bl : Int} {L : Nat → List Bk} {F : Nat → Prop} {v t : Value} {l : List SPg} {LT : Nat → List Hs.Bk} {U : Nat → Value}
theorem does_find (d : DeedV) (hd : d.wf) (k0 : d.kind = 7) (K : KY w0 w hb sb ns bl n L F) (D : DH w v l t n LT U) (T : HT ns bl n L l LT) :
    Calls Tryz.prog 11 #[.pointer (some ⟨hb, 0, none⟩), .agg #[.int .i64 ns, v, .int .i64 bl, t], .agg #[.int .i64 d.kind, .int .i64 d.sp, .int .i64 d.n, .int .u64 d.p.va, .int .i64 d.p.sz, .int .u64 d.p.pa, .bool d.p.att.write, .bool d.p.att.priv, .bool d.p.att.exec, .bool d.p.att.lock, .bool d.p.att.global, .bool d.p.att.quiet, .bool d.p.ref, .bool d.p.mod, .int .u64 d.va, .bool d.att.write, .bool d.att.priv, .bool d.att.exec, .bool d.att.lock, .bool d.att.global, .bool d.att.quiet, .bool d.mod, .bool d.raw, .bool d.near]] w fun e w' => DoneX w0 w w' hb sb ns bl F l d.sp e := by
  obtain ⟨⟨ao, cap, rfl⟩, g2, cap2, rfl⟩ := D.shape
  have X0 := TE.of K (TX.new D ns bl d)
  have hat := atD_bd hd T.val
  have CA := Lib.hid (fun (W : World) (h : DH W (.slice ao l.length cap) l (.slice (some ⟨g2, 0, none⟩) n cap2) n LT U) => ldat_any ns bl d hd T.val W h)
  obtain ⟨va, hva⟩ : ∃ va, va = atD d l := ⟨_, rfl⟩
  rw [← hva] at CA hat
  clear hva
  have C1 := Lib.hid (fun (W : World) (h : TE w0 w W hb sb ns bl L F (.slice ao l.length cap) l (.slice (some ⟨g2, 0, none⟩) n cap2) n LT U d) => h.ky.find d.sp va hd.s0 hd.s1 hat.1 hat.2)
  rw [T.findV, T.findN, T.findB] at C1
  have C2 := Lib.hid (fun (W : World) (h : TE w0 w W hb sb ns bl L F (.slice ao l.length cap) l (.slice (some ⟨g2, 0, none⟩) n cap2) n LT U d) => dfind_any ns bl d.sp va hd.s0 hd.s1 hat.1 hat.2 (fun x hx => (T.val x hx).z) W h.x.dh)
  have HM := Lib.hid T
  have hk0 := Lib.hid k0
  clear k0
  clear K D T
  go_enter Tryz.func11, Tryz.ntmps11
  go_upto_region 1 with fail
  generalize World.alloc (World.alloc (World.alloc w _) _) _ = W0 at *
  have HX0 := Lib.hid X0
  obtain ⟨b0, b1, b2⟩ := X0.deed.cells
  rw [hk0.out] at b0
  have E0 := Lib.hid X0
  clear X0
  generalize dfV ns l d.sp va = V at *
  generalize dfN ns l n LT d.sp va = N at *
  generalize dfB ns l d.sp va = B0 at *
  go_upto_region 20 with fail
  go_cut [25, 26, 27] (fun a b c wx => ∃ pa, a = .pointer (some ⟨pa, 0, none⟩) ∧ b = .int .i64 N ∧ c = .bool B0 ∧ TE w0 w wx hb sb ns bl L F (.slice ao l.length cap) l (.slice (some ⟨g2, 0, none⟩) n cap2) n LT U d ∧ RowP wx pa V ∧ w.heap.size + 3 ≤ pa)
  case first =>
    have HE := Lib.hid (E0.out.low (Below.refl _ _).drew)
    have hS := HE.out
    have hz := HE.out.size
    clear E0
    refine wp_region_held_drew (S := fun wS => TE w0 w wS hb sb ns bl L F (.slice ao l.length cap) l (.slice (some ⟨g2, 0, none⟩) n cap2) n LT U d) (by kernel_rfl) hS (fun hHeld => ?_)
    clear hS
    generalize W0.drew = W1 at HE hHeld hz ⊢
    refine wpAnyH_take (i := 0) (v := ?vr20_1) rfl (by kernel_rfl) (by kernel_rfl) (by kernel_rfl) (fun _ _ _ h => h) (Or.inl ⟨by rfl, ?hr20_1⟩) (by assumption) ?rr20_1
    case hr20_1 => (intro wS hSw; (try dsimp only at hSw); (try clear hSw); go_simp <;> (with_reducible rfl))
    (try simp only [Act.put, List.setIfInBounds_toArray, List.set_cons_zero, List.set_cons_succ, List.getElem_toArray, List.getElem_cons_zero])
    refine wpAnyH_take (i := 1) (v := ?vr20_2) rfl (by kernel_rfl) (by kernel_rfl) (by kernel_rfl) (fun _ _ _ h => h) (Or.inl ⟨by rfl, ?hr20_2⟩) (by assumption) ?rr20_2
    case hr20_2 => (intro wS hSw; (try dsimp only at hSw); (try clear hSw); go_simp <;> (with_reducible rfl))
    (try simp only [Act.put, List.setIfInBounds_toArray, List.set_cons_zero, List.set_cons_succ, List.getElem_toArray, List.getElem_cons_zero, List.getElem_cons_succ])
    refine wpAnyH_take (i := 2) (v := ?vr20_3) rfl (by kernel_rfl) (by kernel_rfl) (by kernel_rfl) (fun _ _ _ h => h) (Or.inl ⟨by rfl, ?hr20_3⟩) (by assumption) ?rr20_3
    case hr20_3 => (intro wS hSw; (try dsimp only at hSw); obtain ⟨x0, x1, x2, x3, _⟩ := four_H hSw.x.hx; have c1 := hSw.deed.cells.2.1; (try clear hSw); go_simp <;> (with_reducible rfl))
    (try simp only [Act.put, List.setIfInBounds_toArray, List.set_cons_zero, List.set_cons_succ, List.getElem_toArray, List.getElem_cons_zero, List.getElem_cons_succ])
    refine wpAnyH_take (i := 3) (v := .agg #[.int .i64 d.kind, .int .i64 d.sp, .int .i64 d.n, .int .u64 d.p.va, .int .i64 d.p.sz, .int .u64 d.p.pa, .bool d.p.att.write, .bool d.p.att.priv, .bool d.p.att.exec, .bool d.p.att.lock, .bool d.p.att.global, .bool d.p.att.quiet, .bool d.p.ref, .bool d.p.mod, .int .u64 d.va, .bool d.att.write, .bool d.att.priv, .bool d.att.exec, .bool d.att.lock, .bool d.att.global, .bool d.att.quiet, .bool d.mod, .bool d.raw, .bool d.near]) rfl (by kernel_rfl) (by kernel_rfl) (by kernel_rfl) (fun _ _ _ h => h) (yieldsIf_load_mid (by rfl) 40 (.tmp 5) rfl (w.heap.size + 1) 0 rfl [.int .i64 d.kind, .int .i64 d.sp, .int .i64 d.n, .int .u64 d.p.va, .int .i64 d.p.sz, .int .u64 d.p.pa, .bool d.p.att.write, .bool d.p.att.priv, .bool d.p.att.exec, .bool d.p.att.lock, .bool d.p.att.global, .bool d.p.att.quiet, .bool d.p.ref, .bool d.p.mod, .int .u64 d.va, .bool d.att.write, .bool d.att.priv, .bool d.att.exec, .bool d.att.lock, .bool d.att.global, .bool d.att.quiet, .bool d.mod, .bool d.raw, .bool d.near] _ (fun w hS => hS.deed.range) Tryz.underlying40 rfl (by kernel_rfl)) (by assumption) ?_
    (try simp only [Act.put, List.setIfInBounds_toArray, List.set_cons_zero, List.set_cons_succ, List.getElem_toArray, List.getElem_cons_zero, List.getElem_cons_succ])
    refine wpAnyH_take (i := 4) (v := ?vr20_5) rfl (by kernel_rfl) (by kernel_rfl) (by kernel_rfl) (fun _ _ _ h => h) (Or.inl ⟨by rfl, ?hr20_5⟩) (by assumption) ?rr20_5
    case hr20_5 => (intro wS hSw; (try dsimp only at hSw); obtain ⟨x0, x1, x2, x3, _⟩ := four_H hSw.x.hx; have c1 := hSw.deed.cells.2.1; (try clear hSw); go_simp <;> (with_reducible rfl))
    (try simp only [Act.put, List.setIfInBounds_toArray, List.set_cons_zero, List.set_cons_succ, List.getElem_toArray, List.getElem_cons_zero, List.getElem_cons_succ])
    refine wpAnyH_ready (rs := [5, 11]) (by kernel_rfl) (by simp) ?_
    refine AllReadyH.cons rfl (fun K hK => ?_) ?_
    · go_simp
      refine (CA.out _ hHeld.x.dh).mono ?_; rintro r w1 ⟨rfl, hb1⟩
      refine hK.out _ _ (hHeld.low hb1) (fun hHeld => ?_)
      (try clear hK K)
      (try simp only [Act.put, List.setIfInBounds_toArray, List.set_cons_zero, List.set_cons_succ, List.getElem_toArray, List.getElem_cons_zero, List.getElem_cons_succ])
      refine wpAnyH_ready (rs := [6, 11]) (by kernel_rfl) (by simp) ?_
      refine AllReadyH.cons rfl (fun K hK => ?_) ?_
      · go_simp
        refine (C1.out _ hHeld).mono ?_; rintro r w2 ⟨rfl, hb2⟩
        refine hK.out _ _ (hHeld.low hb2) (fun hHeld => ?_)
        (try clear hK K)
        (try simp only [Act.put, List.setIfInBounds_toArray, List.set_cons_zero, List.set_cons_succ, List.getElem_toArray, List.getElem_cons_zero, List.getElem_cons_succ])
        refine wpAnyH_take (i := 7) (v := ?vr20_6) rfl (by kernel_rfl) (by kernel_rfl) (by kernel_rfl) (fun _ _ _ h => h) (Or.inl ⟨by rfl, ?hr20_6⟩) (by assumption) ?rr20_6
        case hr20_6 => (intro wS hSw; (try dsimp only at hSw); (try clear hSw); go_simp <;> (with_reducible rfl))
        (try simp only [Act.put, List.setIfInBounds_toArray, List.set_cons_zero, List.set_cons_succ, List.getElem_toArray, List.getElem_cons_zero, List.getElem_cons_succ])
        refine wpAnyH_take (i := 8) (v := ?vr20_7) rfl (by kernel_rfl) (by kernel_rfl) (by kernel_rfl) (fun _ _ _ h => h) (Or.inl ⟨by rfl, ?hr20_7⟩) (by assumption) ?rr20_7
        case hr20_7 => (intro wS hSw; (try dsimp only at hSw); (try clear hSw); go_simp <;> (with_reducible rfl))
        (try simp only [Act.put, List.setIfInBounds_toArray, List.set_cons_zero, List.set_cons_succ, List.getElem_toArray, List.getElem_cons_zero, List.getElem_cons_succ])
        refine wpAnyH_take (i := 9) (v := ?vr20_8) rfl (by kernel_rfl) (by kernel_rfl) (by kernel_rfl) (fun _ _ _ h => h) (Or.inl ⟨by rfl, ?hr20_8⟩) (by assumption) ?rr20_8
        case hr20_8 => (intro wS hSw; (try dsimp only at hSw); (try clear hSw); go_simp <;> (with_reducible rfl))
        (try simp only [Act.put, List.setIfInBounds_toArray, List.set_cons_zero, List.set_cons_succ, List.getElem_toArray, List.getElem_cons_zero, List.getElem_cons_succ])
        refine wpAnyH_take (i := 10) (v := ?vr20_9) rfl (by kernel_rfl) (by kernel_rfl) (by kernel_rfl) (fun _ _ _ h => h) (Or.inl ⟨by rfl, ?hr20_9⟩) (by assumption) ?rr20_9
        case hr20_9 => (intro wS hSw; (try dsimp only at hSw); (try clear hSw); go_simp <;> (with_reducible rfl))
        (try simp only [Act.put, List.setIfInBounds_toArray, List.set_cons_zero, List.set_cons_succ, List.getElem_toArray, List.getElem_cons_zero, List.getElem_cons_succ])
        refine wpAnyH_ready (rs := [11]) (by kernel_rfl) (by simp) ?_
        refine AllReadyH.cons rfl (fun K hK => ?_) AllReadyH.nil
        go_simp
        have rB := heap_alloc_new w2 (.cells #[.int .u64 0, .int .i64 0, .int .u64 0, .bool false, .bool false, .bool false, .bool false, .bool false, .bool false, .bool false, .bool false] 38)
        have bB : Below w2.heap.size w2 (w2.alloc (.cells #[.int .u64 0, .int .i64 0, .int .u64 0, .bool false, .bool false, .bool false, .bool false, .bool false, .bool false, .bool false, .bool false] 38)) := (Below.refl _ _).alloc (Nat.le_refl _) _
        generalize w2.alloc (.cells #[.int .u64 0, .int .i64 0, .int .u64 0, .bool false, .bool false, .bool false, .bool false, .bool false, .bool false, .bool false, .bool false] 38) = WB at rB bB ⊢
        refine hK.out _ _ (hHeld.low bB) (fun hHeld => ?_)
        (try clear hK K)
        (try simp only [Act.put, List.setIfInBounds_toArray, List.set_cons_zero, List.set_cons_succ, List.getElem_toArray, List.getElem_cons_zero, List.getElem_cons_succ])
        refine wpAnyH_ready (rs := [12]) (by kernel_rfl) (by simp) ?_
        refine AllReadyH.cons rfl (fun K hK => ?_) AllReadyH.nil
        have B : Below W1.heap.size W1 WB := (lo_step (lo_step (lo_step (Below.refl W1.heap.size W1) hb1) hb2) bB)
        have B2 : Below W1.heap.size W1 w2 := (lo_step (lo_step (Below.refl W1.heap.size W1) hb1) hb2)
        have h9 := B2.size
        have rp : RowP WB w2.heap.size Pg.zero := ⟨blk_low rB (Below.refl WB.heap.size WB)⟩
        obtain ⟨p0, p1, p2, p3, p4, p5, p6, p7, p8, p9, p10⟩ := rp.cells
        have pf := set_one_page rp
        have Q := Lib.hid (rp.setAll V)
        have BS := Lib.hid B
        go_simp
        refine hK.out _ _ (HE.out.low (((((((((((B.setCell (p := ⟨w2.heap.size, 0, none⟩) h9 _).setCell (p := ⟨w2.heap.size, 1, none⟩) h9 _).setCell (p := ⟨w2.heap.size, 2, none⟩) h9 _).setCell (p := ⟨w2.heap.size, 3, none⟩) h9 _).setCell (p := ⟨w2.heap.size, 4, none⟩) h9 _).setCell (p := ⟨w2.heap.size, 5, none⟩) h9 _).setCell (p := ⟨w2.heap.size, 6, none⟩) h9 _).setCell (p := ⟨w2.heap.size, 7, none⟩) h9 _).setCell (p := ⟨w2.heap.size, 8, none⟩) h9 _).setCell (p := ⟨w2.heap.size, 9, none⟩) h9 _).setCell (p := ⟨w2.heap.size, 10, none⟩) h9 _)) (fun hHeld => ?_)
        (try clear hK K)
        (try simp only [Act.put, List.setIfInBounds_toArray, List.set_cons_zero, List.set_cons_succ, List.getElem_toArray, List.getElem_cons_zero, List.getElem_cons_succ])
        refine wpAnyH_take (i := 13) (v := ?vr20_10) rfl (by kernel_rfl) (by kernel_rfl) (by kernel_rfl) (fun _ _ _ h => h) (Or.inl ⟨by rfl, ?hr20_10⟩) (by assumption) ?rr20_10
        case hr20_10 => (intro wS hSw; (try dsimp only at hSw); (try clear hSw); go_simp <;> (with_reducible rfl))
        (try simp only [Act.put, List.setIfInBounds_toArray, List.set_cons_zero, List.set_cons_succ, List.getElem_toArray, List.getElem_cons_zero, List.getElem_cons_succ])
        refine wpAnyH_take (i := 14) (v := ?vr20_11) rfl (by kernel_rfl) (by kernel_rfl) (by kernel_rfl) (fun _ _ _ h => h) (Or.inl ⟨by rfl, ?hr20_11⟩) (by assumption) ?rr20_11
        case hr20_11 => (intro wS hSw; (try dsimp only at hSw); (try clear hSw); go_simp <;> (with_reducible rfl))
        (try simp only [Act.put, List.setIfInBounds_toArray, List.set_cons_zero, List.set_cons_succ, List.getElem_toArray, List.getElem_cons_zero, List.getElem_cons_succ])
        refine wpAnyH_done (by kernel_rfl) ?_ _
        have HH := Lib.hid hHeld
        clear hHeld
        go_wp2_with fail
        go_meet
        exact ⟨_, rfl, rfl, rfl, HH.out, Q.out.1, by omega⟩
      refine AllReadyH.cons rfl (fun K hK => ?_) ?_
      · go_simp
        have rB := heap_alloc_new w1 (.cells #[.int .u64 0, .int .i64 0, .int .u64 0, .bool false, .bool false, .bool false, .bool false, .bool false, .bool false, .bool false, .bool false] 38)
        have bB : Below w1.heap.size w1 (w1.alloc (.cells #[.int .u64 0, .int .i64 0, .int .u64 0, .bool false, .bool false, .bool false, .bool false, .bool false, .bool false, .bool false, .bool false] 38)) := (Below.refl _ _).alloc (Nat.le_refl _) _
        generalize w1.alloc (.cells #[.int .u64 0, .int .i64 0, .int .u64 0, .bool false, .bool false, .bool false, .bool false, .bool false, .bool false, .bool false, .bool false] 38) = WB at rB bB ⊢
        refine hK.out _ _ (hHeld.low bB) (fun hHeld => ?_)
        (try clear hK K)
        (try simp only [Act.put, List.setIfInBounds_toArray, List.set_cons_zero, List.set_cons_succ, List.getElem_toArray, List.getElem_cons_zero, List.getElem_cons_succ])
        refine wpAnyH_ready (rs := [6]) (by kernel_rfl) (by simp) ?_
        refine AllReadyH.cons rfl (fun K hK => ?_) AllReadyH.nil
        go_simp
        refine (C1.out _ hHeld).mono ?_; rintro r w2 ⟨rfl, hb2⟩
        refine hK.out _ _ (hHeld.low hb2) (fun hHeld => ?_)
        (try clear hK K)
        (try simp only [Act.put, List.setIfInBounds_toArray, List.set_cons_zero, List.set_cons_succ, List.getElem_toArray, List.getElem_cons_zero, List.getElem_cons_succ])
        refine wpAnyH_take (i := 7) (v := ?vr20_12) rfl (by kernel_rfl) (by kernel_rfl) (by kernel_rfl) (fun _ _ _ h => h) (Or.inl ⟨by rfl, ?hr20_12⟩) (by assumption) ?rr20_12
        case hr20_12 => (intro wS hSw; (try dsimp only at hSw); (try clear hSw); go_simp <;> (with_reducible rfl))
        (try simp only [Act.put, List.setIfInBounds_toArray, List.set_cons_zero, List.set_cons_succ, List.getElem_toArray, List.getElem_cons_zero, List.getElem_cons_succ])
        refine wpAnyH_take (i := 8) (v := ?vr20_13) rfl (by kernel_rfl) (by kernel_rfl) (by kernel_rfl) (fun _ _ _ h => h) (Or.inl ⟨by rfl, ?hr20_13⟩) (by assumption) ?rr20_13
        case hr20_13 => (intro wS hSw; (try dsimp only at hSw); (try clear hSw); go_simp <;> (with_reducible rfl))
        (try simp only [Act.put, List.setIfInBounds_toArray, List.set_cons_zero, List.set_cons_succ, List.getElem_toArray, List.getElem_cons_zero, List.getElem_cons_succ])
        refine wpAnyH_take (i := 9) (v := ?vr20_14) rfl (by kernel_rfl) (by kernel_rfl) (by kernel_rfl) (fun _ _ _ h => h) (Or.inl ⟨by rfl, ?hr20_14⟩) (by assumption) ?rr20_14
        case hr20_14 => (intro wS hSw; (try dsimp only at hSw); (try clear hSw); go_simp <;> (with_reducible rfl))
        (try simp only [Act.put, List.setIfInBounds_toArray, List.set_cons_zero, List.set_cons_succ, List.getElem_toArray, List.getElem_cons_zero, List.getElem_cons_succ])
        refine wpAnyH_take (i := 10) (v := ?vr20_15) rfl (by kernel_rfl) (by kernel_rfl) (by kernel_rfl) (fun _ _ _ h => h) (Or.inl ⟨by rfl, ?hr20_15⟩) (by assumption) ?rr20_15
        case hr20_15 => (intro wS hSw; (try dsimp only at hSw); (try clear hSw); go_simp <;> (with_reducible rfl))
        (try simp only [Act.put, List.setIfInBounds_toArray, List.set_cons_zero, List.set_cons_succ, List.getElem_toArray, List.getElem_cons_zero, List.getElem_cons_succ])
        refine wpAnyH_ready (rs := [12]) (by kernel_rfl) (by simp) ?_
        refine AllReadyH.cons rfl (fun K hK => ?_) AllReadyH.nil
        have B : Below W1.heap.size W1 w2 := (lo_step (lo_step (lo_step (Below.refl W1.heap.size W1) hb1) bB) hb2)
        have B2 : Below W1.heap.size W1 w1 := (lo_step (Below.refl W1.heap.size W1) hb1)
        have h9 := B2.size
        have rp : RowP w2 w1.heap.size Pg.zero := ⟨blk_low rB (lo_step (Below.refl WB.heap.size WB) hb2)⟩
        obtain ⟨p0, p1, p2, p3, p4, p5, p6, p7, p8, p9, p10⟩ := rp.cells
        have pf := set_one_page rp
        have Q := Lib.hid (rp.setAll V)
        have BS := Lib.hid B
        go_simp
        refine hK.out _ _ (HE.out.low (((((((((((B.setCell (p := ⟨w1.heap.size, 0, none⟩) h9 _).setCell (p := ⟨w1.heap.size, 1, none⟩) h9 _).setCell (p := ⟨w1.heap.size, 2, none⟩) h9 _).setCell (p := ⟨w1.heap.size, 3, none⟩) h9 _).setCell (p := ⟨w1.heap.size, 4, none⟩) h9 _).setCell (p := ⟨w1.heap.size, 5, none⟩) h9 _).setCell (p := ⟨w1.heap.size, 6, none⟩) h9 _).setCell (p := ⟨w1.heap.size, 7, none⟩) h9 _).setCell (p := ⟨w1.heap.size, 8, none⟩) h9 _).setCell (p := ⟨w1.heap.size, 9, none⟩) h9 _).setCell (p := ⟨w1.heap.size, 10, none⟩) h9 _)) (fun hHeld => ?_)
        (try clear hK K)
        (try simp only [Act.put, List.setIfInBounds_toArray, List.set_cons_zero, List.set_cons_succ, List.getElem_toArray, List.getElem_cons_zero, List.getElem_cons_succ])
        refine wpAnyH_take (i := 13) (v := ?vr20_16) rfl (by kernel_rfl) (by kernel_rfl) (by kernel_rfl) (fun _ _ _ h => h) (Or.inl ⟨by rfl, ?hr20_16⟩) (by assumption) ?rr20_16
        case hr20_16 => (intro wS hSw; (try dsimp only at hSw); (try clear hSw); go_simp <;> (with_reducible rfl))
        (try simp only [Act.put, List.setIfInBounds_toArray, List.set_cons_zero, List.set_cons_succ, List.getElem_toArray, List.getElem_cons_zero, List.getElem_cons_succ])
        refine wpAnyH_take (i := 14) (v := ?vr20_17) rfl (by kernel_rfl) (by kernel_rfl) (by kernel_rfl) (fun _ _ _ h => h) (Or.inl ⟨by rfl, ?hr20_17⟩) (by assumption) ?rr20_17
        case hr20_17 => (intro wS hSw; (try dsimp only at hSw); (try clear hSw); go_simp <;> (with_reducible rfl))
        (try simp only [Act.put, List.setIfInBounds_toArray, List.set_cons_zero, List.set_cons_succ, List.getElem_toArray, List.getElem_cons_zero, List.getElem_cons_succ])
        refine wpAnyH_done (by kernel_rfl) ?_ _
        have HH := Lib.hid hHeld
        clear hHeld
        go_wp2_with fail
        go_meet
        exact ⟨_, rfl, rfl, rfl, HH.out, Q.out.1, by omega⟩
      exact AllReadyH.nil
    refine AllReadyH.cons rfl (fun K hK => ?_) ?_
    · go_simp
      have rB := heap_alloc_new W1 (.cells #[.int .u64 0, .int .i64 0, .int .u64 0, .bool false, .bool false, .bool false, .bool false, .bool false, .bool false, .bool false, .bool false] 38)
      have bB : Below W1.heap.size W1 (W1.alloc (.cells #[.int .u64 0, .int .i64 0, .int .u64 0, .bool false, .bool false, .bool false, .bool false, .bool false, .bool false, .bool false, .bool false] 38)) := (Below.refl _ _).alloc (Nat.le_refl _) _
      generalize W1.alloc (.cells #[.int .u64 0, .int .i64 0, .int .u64 0, .bool false, .bool false, .bool false, .bool false, .bool false, .bool false, .bool false, .bool false] 38) = WB at rB bB ⊢
      refine hK.out _ _ (hHeld.low bB) (fun hHeld => ?_)
      (try clear hK K)
      (try simp only [Act.put, List.setIfInBounds_toArray, List.set_cons_zero, List.set_cons_succ, List.getElem_toArray, List.getElem_cons_zero, List.getElem_cons_succ])
      refine wpAnyH_ready (rs := [5]) (by kernel_rfl) (by simp) ?_
      refine AllReadyH.cons rfl (fun K hK => ?_) AllReadyH.nil
      go_simp
      refine (CA.out _ hHeld.x.dh).mono ?_; rintro r w1 ⟨rfl, hb1⟩
      refine hK.out _ _ (hHeld.low hb1) (fun hHeld => ?_)
      (try clear hK K)
      (try simp only [Act.put, List.setIfInBounds_toArray, List.set_cons_zero, List.set_cons_succ, List.getElem_toArray, List.getElem_cons_zero, List.getElem_cons_succ])
      refine wpAnyH_ready (rs := [6]) (by kernel_rfl) (by simp) ?_
      refine AllReadyH.cons rfl (fun K hK => ?_) AllReadyH.nil
      go_simp
      refine (C1.out _ hHeld).mono ?_; rintro r w2 ⟨rfl, hb2⟩
      refine hK.out _ _ (hHeld.low hb2) (fun hHeld => ?_)
      (try clear hK K)
      (try simp only [Act.put, List.setIfInBounds_toArray, List.set_cons_zero, List.set_cons_succ, List.getElem_toArray, List.getElem_cons_zero, List.getElem_cons_succ])
      refine wpAnyH_take (i := 7) (v := ?vr20_18) rfl (by kernel_rfl) (by kernel_rfl) (by kernel_rfl) (fun _ _ _ h => h) (Or.inl ⟨by rfl, ?hr20_18⟩) (by assumption) ?rr20_18
      case hr20_18 => (intro wS hSw; (try dsimp only at hSw); (try clear hSw); go_simp <;> (with_reducible rfl))
      (try simp only [Act.put, List.setIfInBounds_toArray, List.set_cons_zero, List.set_cons_succ, List.getElem_toArray, List.getElem_cons_zero, List.getElem_cons_succ])
      refine wpAnyH_take (i := 8) (v := ?vr20_19) rfl (by kernel_rfl) (by kernel_rfl) (by kernel_rfl) (fun _ _ _ h => h) (Or.inl ⟨by rfl, ?hr20_19⟩) (by assumption) ?rr20_19
      case hr20_19 => (intro wS hSw; (try dsimp only at hSw); (try clear hSw); go_simp <;> (with_reducible rfl))
      (try simp only [Act.put, List.setIfInBounds_toArray, List.set_cons_zero, List.set_cons_succ, List.getElem_toArray, List.getElem_cons_zero, List.getElem_cons_succ])
      refine wpAnyH_take (i := 9) (v := ?vr20_20) rfl (by kernel_rfl) (by kernel_rfl) (by kernel_rfl) (fun _ _ _ h => h) (Or.inl ⟨by rfl, ?hr20_20⟩) (by assumption) ?rr20_20
      case hr20_20 => (intro wS hSw; (try dsimp only at hSw); (try clear hSw); go_simp <;> (with_reducible rfl))
      (try simp only [Act.put, List.setIfInBounds_toArray, List.set_cons_zero, List.set_cons_succ, List.getElem_toArray, List.getElem_cons_zero, List.getElem_cons_succ])
      refine wpAnyH_take (i := 10) (v := ?vr20_21) rfl (by kernel_rfl) (by kernel_rfl) (by kernel_rfl) (fun _ _ _ h => h) (Or.inl ⟨by rfl, ?hr20_21⟩) (by assumption) ?rr20_21
      case hr20_21 => (intro wS hSw; (try dsimp only at hSw); (try clear hSw); go_simp <;> (with_reducible rfl))
      (try simp only [Act.put, List.setIfInBounds_toArray, List.set_cons_zero, List.set_cons_succ, List.getElem_toArray, List.getElem_cons_zero, List.getElem_cons_succ])
      refine wpAnyH_ready (rs := [12]) (by kernel_rfl) (by simp) ?_
      refine AllReadyH.cons rfl (fun K hK => ?_) AllReadyH.nil
      have B : Below W1.heap.size W1 w2 := (lo_step (lo_step (lo_step (Below.refl W1.heap.size W1) bB) hb1) hb2)
      have B2 : Below W1.heap.size W1 W1 := (Below.refl W1.heap.size W1)
      have h9 := B2.size
      have rp : RowP w2 W1.heap.size Pg.zero := ⟨blk_low rB (lo_step (lo_step (Below.refl WB.heap.size WB) hb1) hb2)⟩
      obtain ⟨p0, p1, p2, p3, p4, p5, p6, p7, p8, p9, p10⟩ := rp.cells
      have pf := set_one_page rp
      have Q := Lib.hid (rp.setAll V)
      have BS := Lib.hid B
      go_simp
      refine hK.out _ _ (HE.out.low (((((((((((B.setCell (p := ⟨W1.heap.size, 0, none⟩) h9 _).setCell (p := ⟨W1.heap.size, 1, none⟩) h9 _).setCell (p := ⟨W1.heap.size, 2, none⟩) h9 _).setCell (p := ⟨W1.heap.size, 3, none⟩) h9 _).setCell (p := ⟨W1.heap.size, 4, none⟩) h9 _).setCell (p := ⟨W1.heap.size, 5, none⟩) h9 _).setCell (p := ⟨W1.heap.size, 6, none⟩) h9 _).setCell (p := ⟨W1.heap.size, 7, none⟩) h9 _).setCell (p := ⟨W1.heap.size, 8, none⟩) h9 _).setCell (p := ⟨W1.heap.size, 9, none⟩) h9 _).setCell (p := ⟨W1.heap.size, 10, none⟩) h9 _)) (fun hHeld => ?_)
      (try clear hK K)
      (try simp only [Act.put, List.setIfInBounds_toArray, List.set_cons_zero, List.set_cons_succ, List.getElem_toArray, List.getElem_cons_zero, List.getElem_cons_succ])
      refine wpAnyH_take (i := 13) (v := ?vr20_22) rfl (by kernel_rfl) (by kernel_rfl) (by kernel_rfl) (fun _ _ _ h => h) (Or.inl ⟨by rfl, ?hr20_22⟩) (by assumption) ?rr20_22
      case hr20_22 => (intro wS hSw; (try dsimp only at hSw); (try clear hSw); go_simp <;> (with_reducible rfl))
      (try simp only [Act.put, List.setIfInBounds_toArray, List.set_cons_zero, List.set_cons_succ, List.getElem_toArray, List.getElem_cons_zero, List.getElem_cons_succ])
      refine wpAnyH_take (i := 14) (v := ?vr20_23) rfl (by kernel_rfl) (by kernel_rfl) (by kernel_rfl) (fun _ _ _ h => h) (Or.inl ⟨by rfl, ?hr20_23⟩) (by assumption) ?rr20_23
      case hr20_23 => (intro wS hSw; (try dsimp only at hSw); (try clear hSw); go_simp <;> (with_reducible rfl))
      (try simp only [Act.put, List.setIfInBounds_toArray, List.set_cons_zero, List.set_cons_succ, List.getElem_toArray, List.getElem_cons_zero, List.getElem_cons_succ])
      refine wpAnyH_done (by kernel_rfl) ?_ _
      have HH := Lib.hid hHeld
      clear hHeld
      go_wp2_with fail
      go_meet
      exact ⟨_, rfl, rfl, rfl, HH.out, Q.out.1, by omega⟩
    exact AllReadyH.nil
  case rest =>
    obtain ⟨pa, rfl, rfl, rfl, E, P, hpa⟩ := hcut
    have E1 := Lib.hid E
    have P1 := Lib.hid P
    clear E P E0
    go_upto_region 21 with fail
    go_cut [28, 29, 30] (fun a b c wx => ∃ pc, a = .pointer (some ⟨pc, 0, none⟩) ∧ b = .int .i64 N ∧ c = .bool B0 ∧ TE w0 w wx hb sb ns bl L F (.slice ao l.length cap) l (.slice (some ⟨g2, 0, none⟩) n cap2) n LT U d ∧ RowP wx pa V ∧ RowP wx pc V ∧ w.heap.size + 3 ≤ pc)
    case first =>
      have HE := Lib.hid (E1.out.low (Below.refl _ _).drew)
      have HP := Lib.hid (P1.out.low (Below.refl _ _).drew)
      clear P1
      have hS := HE.out
      have hz := HE.out.size
      clear E1
      refine wp_region_held_drew (S := fun wS => TE w0 w wS hb sb ns bl L F (.slice ao l.length cap) l (.slice (some ⟨g2, 0, none⟩) n cap2) n LT U d) (by kernel_rfl) hS (fun hHeld => ?_)
      clear hS
      generalize wc.drew = W1 at HE hHeld hz HP ⊢
      refine wpAnyH_take (i := 0) (v := ?vr21_1) rfl (by kernel_rfl) (by kernel_rfl) (by kernel_rfl) (fun _ _ _ h => h) (Or.inl ⟨by rfl, ?hr21_1⟩) (by assumption) ?rr21_1
      case hr21_1 => (intro wS hSw; (try dsimp only at hSw); obtain ⟨x0, x1, x2, x3, _⟩ := four_H hSw.x.hx; have c1 := hSw.deed.cells.2.1; (try clear hSw); go_simp <;> (with_reducible rfl))
      (try simp only [Act.put, List.setIfInBounds_toArray, List.set_cons_zero, List.set_cons_succ, List.getElem_toArray, List.getElem_cons_zero])
      refine wpAnyH_take (i := 1) (v := ?vr21_2) rfl (by kernel_rfl) (by kernel_rfl) (by kernel_rfl) (fun _ _ _ h => h) (Or.inl ⟨by rfl, ?hr21_2⟩) (by assumption) ?rr21_2
      case hr21_2 => (intro wS hSw; (try dsimp only at hSw); (try clear hSw); go_simp <;> (with_reducible rfl))
      (try simp only [Act.put, List.setIfInBounds_toArray, List.set_cons_zero, List.set_cons_succ, List.getElem_toArray, List.getElem_cons_zero, List.getElem_cons_succ])
      refine wpAnyH_take (i := 2) (v := ?vr21_3) rfl (by kernel_rfl) (by kernel_rfl) (by kernel_rfl) (fun _ _ _ h => h) (Or.inl ⟨by rfl, ?hr21_3⟩) (by assumption) ?rr21_3
      case hr21_3 => (intro wS hSw; (try dsimp only at hSw); obtain ⟨x0, x1, x2, x3, _⟩ := four_H hSw.x.hx; have c1 := hSw.deed.cells.2.1; (try clear hSw); go_simp <;> (with_reducible rfl))
      (try simp only [Act.put, List.setIfInBounds_toArray, List.set_cons_zero, List.set_cons_succ, List.getElem_toArray, List.getElem_cons_zero, List.getElem_cons_succ])
      refine wpAnyH_take (i := 3) (v := .agg #[.int .i64 d.kind, .int .i64 d.sp, .int .i64 d.n, .int .u64 d.p.va, .int .i64 d.p.sz, .int .u64 d.p.pa, .bool d.p.att.write, .bool d.p.att.priv, .bool d.p.att.exec, .bool d.p.att.lock, .bool d.p.att.global, .bool d.p.att.quiet, .bool d.p.ref, .bool d.p.mod, .int .u64 d.va, .bool d.att.write, .bool d.att.priv, .bool d.att.exec, .bool d.att.lock, .bool d.att.global, .bool d.att.quiet, .bool d.mod, .bool d.raw, .bool d.near]) rfl (by kernel_rfl) (by kernel_rfl) (by kernel_rfl) (fun _ _ _ h => h) (yieldsIf_load_mid (by rfl) 40 (.tmp 5) rfl (w.heap.size + 1) 0 rfl [.int .i64 d.kind, .int .i64 d.sp, .int .i64 d.n, .int .u64 d.p.va, .int .i64 d.p.sz, .int .u64 d.p.pa, .bool d.p.att.write, .bool d.p.att.priv, .bool d.p.att.exec, .bool d.p.att.lock, .bool d.p.att.global, .bool d.p.att.quiet, .bool d.p.ref, .bool d.p.mod, .int .u64 d.va, .bool d.att.write, .bool d.att.priv, .bool d.att.exec, .bool d.att.lock, .bool d.att.global, .bool d.att.quiet, .bool d.mod, .bool d.raw, .bool d.near] _ (fun w hS => hS.deed.range) Tryz.underlying40 rfl (by kernel_rfl)) (by assumption) ?_
      (try simp only [Act.put, List.setIfInBounds_toArray, List.set_cons_zero, List.set_cons_succ, List.getElem_toArray, List.getElem_cons_zero, List.getElem_cons_succ])
      refine wpAnyH_take (i := 4) (v := ?vr21_5) rfl (by kernel_rfl) (by kernel_rfl) (by kernel_rfl) (fun _ _ _ h => h) (Or.inl ⟨by rfl, ?hr21_5⟩) (by assumption) ?rr21_5
      case hr21_5 => (intro wS hSw; (try dsimp only at hSw); obtain ⟨x0, x1, x2, x3, _⟩ := four_H hSw.x.hx; have c1 := hSw.deed.cells.2.1; (try clear hSw); go_simp <;> (with_reducible rfl))
      (try simp only [Act.put, List.setIfInBounds_toArray, List.set_cons_zero, List.set_cons_succ, List.getElem_toArray, List.getElem_cons_zero, List.getElem_cons_succ])
      refine wpAnyH_ready (rs := [5, 11]) (by kernel_rfl) (by simp) ?_
      refine AllReadyH.cons rfl (fun K hK => ?_) ?_
      · go_simp
        refine (CA.out _ hHeld.x.dh).mono ?_; rintro r w1 ⟨rfl, hb1⟩
        refine hK.out _ _ (hHeld.low hb1) (fun hHeld => ?_)
        (try clear hK K)
        (try simp only [Act.put, List.setIfInBounds_toArray, List.set_cons_zero, List.set_cons_succ, List.getElem_toArray, List.getElem_cons_zero, List.getElem_cons_succ])
        refine wpAnyH_ready (rs := [6, 11]) (by kernel_rfl) (by simp) ?_
        refine AllReadyH.cons rfl (fun K hK => ?_) ?_
        · go_simp
          refine (C2.out _ hHeld).mono ?_; rintro r w2 ⟨rfl, hb2⟩
          refine hK.out _ _ (hHeld.low hb2) (fun hHeld => ?_)
          (try clear hK K)
          (try simp only [Act.put, List.setIfInBounds_toArray, List.set_cons_zero, List.set_cons_succ, List.getElem_toArray, List.getElem_cons_zero, List.getElem_cons_succ])
          refine wpAnyH_take (i := 7) (v := ?vr21_6) rfl (by kernel_rfl) (by kernel_rfl) (by kernel_rfl) (fun _ _ _ h => h) (Or.inl ⟨by rfl, ?hr21_6⟩) (by assumption) ?rr21_6
          case hr21_6 => (intro wS hSw; (try dsimp only at hSw); (try clear hSw); go_simp <;> (with_reducible rfl))
          (try simp only [Act.put, List.setIfInBounds_toArray, List.set_cons_zero, List.set_cons_succ, List.getElem_toArray, List.getElem_cons_zero, List.getElem_cons_succ])
          refine wpAnyH_take (i := 8) (v := ?vr21_7) rfl (by kernel_rfl) (by kernel_rfl) (by kernel_rfl) (fun _ _ _ h => h) (Or.inl ⟨by rfl, ?hr21_7⟩) (by assumption) ?rr21_7
          case hr21_7 => (intro wS hSw; (try dsimp only at hSw); (try clear hSw); go_simp <;> (with_reducible rfl))
          (try simp only [Act.put, List.setIfInBounds_toArray, List.set_cons_zero, List.set_cons_succ, List.getElem_toArray, List.getElem_cons_zero, List.getElem_cons_succ])
          refine wpAnyH_take (i := 9) (v := ?vr21_8) rfl (by kernel_rfl) (by kernel_rfl) (by kernel_rfl) (fun _ _ _ h => h) (Or.inl ⟨by rfl, ?hr21_8⟩) (by assumption) ?rr21_8
          case hr21_8 => (intro wS hSw; (try dsimp only at hSw); (try clear hSw); go_simp <;> (with_reducible rfl))
          (try simp only [Act.put, List.setIfInBounds_toArray, List.set_cons_zero, List.set_cons_succ, List.getElem_toArray, List.getElem_cons_zero, List.getElem_cons_succ])
          refine wpAnyH_take (i := 10) (v := ?vr21_9) rfl (by kernel_rfl) (by kernel_rfl) (by kernel_rfl) (fun _ _ _ h => h) (Or.inl ⟨by rfl, ?hr21_9⟩) (by assumption) ?rr21_9
          case hr21_9 => (intro wS hSw; (try dsimp only at hSw); (try clear hSw); go_simp <;> (with_reducible rfl))
          (try simp only [Act.put, List.setIfInBounds_toArray, List.set_cons_zero, List.set_cons_succ, List.getElem_toArray, List.getElem_cons_zero, List.getElem_cons_succ])
          refine wpAnyH_ready (rs := [11]) (by kernel_rfl) (by simp) ?_
          refine AllReadyH.cons rfl (fun K hK => ?_) AllReadyH.nil
          go_simp
          have rB := heap_alloc_new w2 (.cells #[.int .u64 0, .int .i64 0, .int .u64 0, .bool false, .bool false, .bool false, .bool false, .bool false, .bool false, .bool false, .bool false] 38)
          have bB : Below w2.heap.size w2 (w2.alloc (.cells #[.int .u64 0, .int .i64 0, .int .u64 0, .bool false, .bool false, .bool false, .bool false, .bool false, .bool false, .bool false, .bool false] 38)) := (Below.refl _ _).alloc (Nat.le_refl _) _
          generalize w2.alloc (.cells #[.int .u64 0, .int .i64 0, .int .u64 0, .bool false, .bool false, .bool false, .bool false, .bool false, .bool false, .bool false, .bool false] 38) = WB at rB bB ⊢
          refine hK.out _ _ (hHeld.low bB) (fun hHeld => ?_)
          (try clear hK K)
          (try simp only [Act.put, List.setIfInBounds_toArray, List.set_cons_zero, List.set_cons_succ, List.getElem_toArray, List.getElem_cons_zero, List.getElem_cons_succ])
          refine wpAnyH_ready (rs := [12]) (by kernel_rfl) (by simp) ?_
          refine AllReadyH.cons rfl (fun K hK => ?_) AllReadyH.nil
          have B : Below W1.heap.size W1 WB := (lo_step (lo_step (lo_step (Below.refl W1.heap.size W1) hb1) hb2) bB)
          have B2 : Below W1.heap.size W1 w2 := (lo_step (lo_step (Below.refl W1.heap.size W1) hb1) hb2)
          have h9 := B2.size
          have rp : RowP WB w2.heap.size Pg.zero := ⟨blk_low rB (Below.refl WB.heap.size WB)⟩
          obtain ⟨p0, p1, p2, p3, p4, p5, p6, p7, p8, p9, p10⟩ := rp.cells
          have pf := set_one_page rp
          have Q := Lib.hid (rp.setAll V)
          have BS := Lib.hid B
          go_simp
          refine hK.out _ _ (HE.out.low (((((((((((B.setCell (p := ⟨w2.heap.size, 0, none⟩) h9 _).setCell (p := ⟨w2.heap.size, 1, none⟩) h9 _).setCell (p := ⟨w2.heap.size, 2, none⟩) h9 _).setCell (p := ⟨w2.heap.size, 3, none⟩) h9 _).setCell (p := ⟨w2.heap.size, 4, none⟩) h9 _).setCell (p := ⟨w2.heap.size, 5, none⟩) h9 _).setCell (p := ⟨w2.heap.size, 6, none⟩) h9 _).setCell (p := ⟨w2.heap.size, 7, none⟩) h9 _).setCell (p := ⟨w2.heap.size, 8, none⟩) h9 _).setCell (p := ⟨w2.heap.size, 9, none⟩) h9 _).setCell (p := ⟨w2.heap.size, 10, none⟩) h9 _)) (fun hHeld => ?_)
          (try clear hK K)
          (try simp only [Act.put, List.setIfInBounds_toArray, List.set_cons_zero, List.set_cons_succ, List.getElem_toArray, List.getElem_cons_zero, List.getElem_cons_succ])
          refine wpAnyH_take (i := 13) (v := ?vr21_10) rfl (by kernel_rfl) (by kernel_rfl) (by kernel_rfl) (fun _ _ _ h => h) (Or.inl ⟨by rfl, ?hr21_10⟩) (by assumption) ?rr21_10
          case hr21_10 => (intro wS hSw; (try dsimp only at hSw); (try clear hSw); go_simp <;> (with_reducible rfl))
          (try simp only [Act.put, List.setIfInBounds_toArray, List.set_cons_zero, List.set_cons_succ, List.getElem_toArray, List.getElem_cons_zero, List.getElem_cons_succ])
          refine wpAnyH_take (i := 14) (v := ?vr21_11) rfl (by kernel_rfl) (by kernel_rfl) (by kernel_rfl) (fun _ _ _ h => h) (Or.inl ⟨by rfl, ?hr21_11⟩) (by assumption) ?rr21_11
          case hr21_11 => (intro wS hSw; (try dsimp only at hSw); (try clear hSw); go_simp <;> (with_reducible rfl))
          (try simp only [Act.put, List.setIfInBounds_toArray, List.set_cons_zero, List.set_cons_succ, List.getElem_toArray, List.getElem_cons_zero, List.getElem_cons_succ])
          refine wpAnyH_done (by kernel_rfl) ?_ _
          have HH := Lib.hid hHeld
          clear hHeld
          go_wp2_with fail
          go_meet
          exact ⟨_, rfl, rfl, rfl, HH.out, (HP.out.low BS.out).kept (row_far V (by have := (Array.getElem?_eq_some_iff.1 HP.out.row).1; omega)), Q.out.1, by omega⟩
        refine AllReadyH.cons rfl (fun K hK => ?_) ?_
        · go_simp
          have rB := heap_alloc_new w1 (.cells #[.int .u64 0, .int .i64 0, .int .u64 0, .bool false, .bool false, .bool false, .bool false, .bool false, .bool false, .bool false, .bool false] 38)
          have bB : Below w1.heap.size w1 (w1.alloc (.cells #[.int .u64 0, .int .i64 0, .int .u64 0, .bool false, .bool false, .bool false, .bool false, .bool false, .bool false, .bool false, .bool false] 38)) := (Below.refl _ _).alloc (Nat.le_refl _) _
          generalize w1.alloc (.cells #[.int .u64 0, .int .i64 0, .int .u64 0, .bool false, .bool false, .bool false, .bool false, .bool false, .bool false, .bool false, .bool false] 38) = WB at rB bB ⊢
          refine hK.out _ _ (hHeld.low bB) (fun hHeld => ?_)
          (try clear hK K)
          (try simp only [Act.put, List.setIfInBounds_toArray, List.set_cons_zero, List.set_cons_succ, List.getElem_toArray, List.getElem_cons_zero, List.getElem_cons_succ])
          refine wpAnyH_ready (rs := [6]) (by kernel_rfl) (by simp) ?_
          refine AllReadyH.cons rfl (fun K hK => ?_) AllReadyH.nil
          go_simp
          refine (C2.out _ hHeld).mono ?_; rintro r w2 ⟨rfl, hb2⟩
          refine hK.out _ _ (hHeld.low hb2) (fun hHeld => ?_)
          (try clear hK K)
          (try simp only [Act.put, List.setIfInBounds_toArray, List.set_cons_zero, List.set_cons_succ, List.getElem_toArray, List.getElem_cons_zero, List.getElem_cons_succ])
          refine wpAnyH_take (i := 7) (v := ?vr21_12) rfl (by kernel_rfl) (by kernel_rfl) (by kernel_rfl) (fun _ _ _ h => h) (Or.inl ⟨by rfl, ?hr21_12⟩) (by assumption) ?rr21_12
          case hr21_12 => (intro wS hSw; (try dsimp only at hSw); (try clear hSw); go_simp <;> (with_reducible rfl))
          (try simp only [Act.put, List.setIfInBounds_toArray, List.set_cons_zero, List.set_cons_succ, List.getElem_toArray, List.getElem_cons_zero, List.getElem_cons_succ])
          refine wpAnyH_take (i := 8) (v := ?vr21_13) rfl (by kernel_rfl) (by kernel_rfl) (by kernel_rfl) (fun _ _ _ h => h) (Or.inl ⟨by rfl, ?hr21_13⟩) (by assumption) ?rr21_13
          case hr21_13 => (intro wS hSw; (try dsimp only at hSw); (try clear hSw); go_simp <;> (with_reducible rfl))
          (try simp only [Act.put, List.setIfInBounds_toArray, List.set_cons_zero, List.set_cons_succ, List.getElem_toArray, List.getElem_cons_zero, List.getElem_cons_succ])
          refine wpAnyH_take (i := 9) (v := ?vr21_14) rfl (by kernel_rfl) (by kernel_rfl) (by kernel_rfl) (fun _ _ _ h => h) (Or.inl ⟨by rfl, ?hr21_14⟩) (by assumption) ?rr21_14
          case hr21_14 => (intro wS hSw; (try dsimp only at hSw); (try clear hSw); go_simp <;> (with_reducible rfl))
          (try simp only [Act.put, List.setIfInBounds_toArray, List.set_cons_zero, List.set_cons_succ, List.getElem_toArray, List.getElem_cons_zero, List.getElem_cons_succ])
          refine wpAnyH_take (i := 10) (v := ?vr21_15) rfl (by kernel_rfl) (by kernel_rfl) (by kernel_rfl) (fun _ _ _ h => h) (Or.inl ⟨by rfl, ?hr21_15⟩) (by assumption) ?rr21_15
          case hr21_15 => (intro wS hSw; (try dsimp only at hSw); (try clear hSw); go_simp <;> (with_reducible rfl))
          (try simp only [Act.put, List.setIfInBounds_toArray, List.set_cons_zero, List.set_cons_succ, List.getElem_toArray, List.getElem_cons_zero, List.getElem_cons_succ])
          refine wpAnyH_ready (rs := [12]) (by kernel_rfl) (by simp) ?_
          refine AllReadyH.cons rfl (fun K hK => ?_) AllReadyH.nil
          have B : Below W1.heap.size W1 w2 := (lo_step (lo_step (lo_step (Below.refl W1.heap.size W1) hb1) bB) hb2)
          have B2 : Below W1.heap.size W1 w1 := (lo_step (Below.refl W1.heap.size W1) hb1)
          have h9 := B2.size
          have rp : RowP w2 w1.heap.size Pg.zero := ⟨blk_low rB (lo_step (Below.refl WB.heap.size WB) hb2)⟩
          obtain ⟨p0, p1, p2, p3, p4, p5, p6, p7, p8, p9, p10⟩ := rp.cells
          have pf := set_one_page rp
          have Q := Lib.hid (rp.setAll V)
          have BS := Lib.hid B
          go_simp
          refine hK.out _ _ (HE.out.low (((((((((((B.setCell (p := ⟨w1.heap.size, 0, none⟩) h9 _).setCell (p := ⟨w1.heap.size, 1, none⟩) h9 _).setCell (p := ⟨w1.heap.size, 2, none⟩) h9 _).setCell (p := ⟨w1.heap.size, 3, none⟩) h9 _).setCell (p := ⟨w1.heap.size, 4, none⟩) h9 _).setCell (p := ⟨w1.heap.size, 5, none⟩) h9 _).setCell (p := ⟨w1.heap.size, 6, none⟩) h9 _).setCell (p := ⟨w1.heap.size, 7, none⟩) h9 _).setCell (p := ⟨w1.heap.size, 8, none⟩) h9 _).setCell (p := ⟨w1.heap.size, 9, none⟩) h9 _).setCell (p := ⟨w1.heap.size, 10, none⟩) h9 _)) (fun hHeld => ?_)
          (try clear hK K)
          (try simp only [Act.put, List.setIfInBounds_toArray, List.set_cons_zero, List.set_cons_succ, List.getElem_toArray, List.getElem_cons_zero, List.getElem_cons_succ])
          refine wpAnyH_take (i := 13) (v := ?vr21_16) rfl (by kernel_rfl) (by kernel_rfl) (by kernel_rfl) (fun _ _ _ h => h) (Or.inl ⟨by rfl, ?hr21_16⟩) (by assumption) ?rr21_16
          case hr21_16 => (intro wS hSw; (try dsimp only at hSw); (try clear hSw); go_simp <;> (with_reducible rfl))
          (try simp only [Act.put, List.setIfInBounds_toArray, List.set_cons_zero, List.set_cons_succ, List.getElem_toArray, List.getElem_cons_zero, List.getElem_cons_succ])
          refine wpAnyH_take (i := 14) (v := ?vr21_17) rfl (by kernel_rfl) (by kernel_rfl) (by kernel_rfl) (fun _ _ _ h => h) (Or.inl ⟨by rfl, ?hr21_17⟩) (by assumption) ?rr21_17
          case hr21_17 => (intro wS hSw; (try dsimp only at hSw); (try clear hSw); go_simp <;> (with_reducible rfl))
          (try simp only [Act.put, List.setIfInBounds_toArray, List.set_cons_zero, List.set_cons_succ, List.getElem_toArray, List.getElem_cons_zero, List.getElem_cons_succ])
          refine wpAnyH_done (by kernel_rfl) ?_ _
          have HH := Lib.hid hHeld
          clear hHeld
          go_wp2_with fail
          go_meet
          exact ⟨_, rfl, rfl, rfl, HH.out, (HP.out.low BS.out).kept (row_far V (by have := (Array.getElem?_eq_some_iff.1 HP.out.row).1; omega)), Q.out.1, by omega⟩
        exact AllReadyH.nil
      refine AllReadyH.cons rfl (fun K hK => ?_) ?_
      · go_simp
        have rB := heap_alloc_new W1 (.cells #[.int .u64 0, .int .i64 0, .int .u64 0, .bool false, .bool false, .bool false, .bool false, .bool false, .bool false, .bool false, .bool false] 38)
        have bB : Below W1.heap.size W1 (W1.alloc (.cells #[.int .u64 0, .int .i64 0, .int .u64 0, .bool false, .bool false, .bool false, .bool false, .bool false, .bool false, .bool false, .bool false] 38)) := (Below.refl _ _).alloc (Nat.le_refl _) _
        generalize W1.alloc (.cells #[.int .u64 0, .int .i64 0, .int .u64 0, .bool false, .bool false, .bool false, .bool false, .bool false, .bool false, .bool false, .bool false] 38) = WB at rB bB ⊢
        refine hK.out _ _ (hHeld.low bB) (fun hHeld => ?_)
        (try clear hK K)
        (try simp only [Act.put, List.setIfInBounds_toArray, List.set_cons_zero, List.set_cons_succ, List.getElem_toArray, List.getElem_cons_zero, List.getElem_cons_succ])
        refine wpAnyH_ready (rs := [5]) (by kernel_rfl) (by simp) ?_
        refine AllReadyH.cons rfl (fun K hK => ?_) AllReadyH.nil
        go_simp
        refine (CA.out _ hHeld.x.dh).mono ?_; rintro r w1 ⟨rfl, hb1⟩
        refine hK.out _ _ (hHeld.low hb1) (fun hHeld => ?_)
        (try clear hK K)
        (try simp only [Act.put, List.setIfInBounds_toArray, List.set_cons_zero, List.set_cons_succ, List.getElem_toArray, List.getElem_cons_zero, List.getElem_cons_succ])
        refine wpAnyH_ready (rs := [6]) (by kernel_rfl) (by simp) ?_
        refine AllReadyH.cons rfl (fun K hK => ?_) AllReadyH.nil
        go_simp
        refine (C2.out _ hHeld).mono ?_; rintro r w2 ⟨rfl, hb2⟩
        refine hK.out _ _ (hHeld.low hb2) (fun hHeld => ?_)
        (try clear hK K)
        (try simp only [Act.put, List.setIfInBounds_toArray, List.set_cons_zero, List.set_cons_succ, List.getElem_toArray, List.getElem_cons_zero, List.getElem_cons_succ])
        refine wpAnyH_take (i := 7) (v := ?vr21_18) rfl (by kernel_rfl) (by kernel_rfl) (by kernel_rfl) (fun _ _ _ h => h) (Or.inl ⟨by rfl, ?hr21_18⟩) (by assumption) ?rr21_18
        case hr21_18 => (intro wS hSw; (try dsimp only at hSw); (try clear hSw); go_simp <;> (with_reducible rfl))
        (try simp only [Act.put, List.setIfInBounds_toArray, List.set_cons_zero, List.set_cons_succ, List.getElem_toArray, List.getElem_cons_zero, List.getElem_cons_succ])
        refine wpAnyH_take (i := 8) (v := ?vr21_19) rfl (by kernel_rfl) (by kernel_rfl) (by kernel_rfl) (fun _ _ _ h => h) (Or.inl ⟨by rfl, ?hr21_19⟩) (by assumption) ?rr21_19
        case hr21_19 => (intro wS hSw; (try dsimp only at hSw); (try clear hSw); go_simp <;> (with_reducible rfl))
        (try simp only [Act.put, List.setIfInBounds_toArray, List.set_cons_zero, List.set_cons_succ, List.getElem_toArray, List.getElem_cons_zero, List.getElem_cons_succ])
        refine wpAnyH_take (i := 9) (v := ?vr21_20) rfl (by kernel_rfl) (by kernel_rfl) (by kernel_rfl) (fun _ _ _ h => h) (Or.inl ⟨by rfl, ?hr21_20⟩) (by assumption) ?rr21_20
        case hr21_20 => (intro wS hSw; (try dsimp only at hSw); (try clear hSw); go_simp <;> (with_reducible rfl))
        (try simp only [Act.put, List.setIfInBounds_toArray, List.set_cons_zero, List.set_cons_succ, List.getElem_toArray, List.getElem_cons_zero, List.getElem_cons_succ])
        refine wpAnyH_take (i := 10) (v := ?vr21_21) rfl (by kernel_rfl) (by kernel_rfl) (by kernel_rfl) (fun _ _ _ h => h) (Or.inl ⟨by rfl, ?hr21_21⟩) (by assumption) ?rr21_21
        case hr21_21 => (intro wS hSw; (try dsimp only at hSw); (try clear hSw); go_simp <;> (with_reducible rfl))
        (try simp only [Act.put, List.setIfInBounds_toArray, List.set_cons_zero, List.set_cons_succ, List.getElem_toArray, List.getElem_cons_zero, List.getElem_cons_succ])
        refine wpAnyH_ready (rs := [12]) (by kernel_rfl) (by simp) ?_
        refine AllReadyH.cons rfl (fun K hK => ?_) AllReadyH.nil
        have B : Below W1.heap.size W1 w2 := (lo_step (lo_step (lo_step (Below.refl W1.heap.size W1) bB) hb1) hb2)
        have B2 : Below W1.heap.size W1 W1 := (Below.refl W1.heap.size W1)
        have h9 := B2.size
        have rp : RowP w2 W1.heap.size Pg.zero := ⟨blk_low rB (lo_step (lo_step (Below.refl WB.heap.size WB) hb1) hb2)⟩
        obtain ⟨p0, p1, p2, p3, p4, p5, p6, p7, p8, p9, p10⟩ := rp.cells
        have pf := set_one_page rp
        have Q := Lib.hid (rp.setAll V)
        have BS := Lib.hid B
        go_simp
        refine hK.out _ _ (HE.out.low (((((((((((B.setCell (p := ⟨W1.heap.size, 0, none⟩) h9 _).setCell (p := ⟨W1.heap.size, 1, none⟩) h9 _).setCell (p := ⟨W1.heap.size, 2, none⟩) h9 _).setCell (p := ⟨W1.heap.size, 3, none⟩) h9 _).setCell (p := ⟨W1.heap.size, 4, none⟩) h9 _).setCell (p := ⟨W1.heap.size, 5, none⟩) h9 _).setCell (p := ⟨W1.heap.size, 6, none⟩) h9 _).setCell (p := ⟨W1.heap.size, 7, none⟩) h9 _).setCell (p := ⟨W1.heap.size, 8, none⟩) h9 _).setCell (p := ⟨W1.heap.size, 9, none⟩) h9 _).setCell (p := ⟨W1.heap.size, 10, none⟩) h9 _)) (fun hHeld => ?_)
        (try clear hK K)
        (try simp only [Act.put, List.setIfInBounds_toArray, List.set_cons_zero, List.set_cons_succ, List.getElem_toArray, List.getElem_cons_zero, List.getElem_cons_succ])
        refine wpAnyH_take (i := 13) (v := ?vr21_22) rfl (by kernel_rfl) (by kernel_rfl) (by kernel_rfl) (fun _ _ _ h => h) (Or.inl ⟨by rfl, ?hr21_22⟩) (by assumption) ?rr21_22
        case hr21_22 => (intro wS hSw; (try dsimp only at hSw); (try clear hSw); go_simp <;> (with_reducible rfl))
        (try simp only [Act.put, List.setIfInBounds_toArray, List.set_cons_zero, List.set_cons_succ, List.getElem_toArray, List.getElem_cons_zero, List.getElem_cons_succ])
        refine wpAnyH_take (i := 14) (v := ?vr21_23) rfl (by kernel_rfl) (by kernel_rfl) (by kernel_rfl) (fun _ _ _ h => h) (Or.inl ⟨by rfl, ?hr21_23⟩) (by assumption) ?rr21_23
        case hr21_23 => (intro wS hSw; (try dsimp only at hSw); (try clear hSw); go_simp <;> (with_reducible rfl))
        (try simp only [Act.put, List.setIfInBounds_toArray, List.set_cons_zero, List.set_cons_succ, List.getElem_toArray, List.getElem_cons_zero, List.getElem_cons_succ])
        refine wpAnyH_done (by kernel_rfl) ?_ _
        have HH := Lib.hid hHeld
        clear hHeld
        go_wp2_with fail
        go_meet
        exact ⟨_, rfl, rfl, rfl, HH.out, (HP.out.low BS.out).kept (row_far V (by have := (Array.getElem?_eq_some_iff.1 HP.out.row).1; omega)), Q.out.1, by omega⟩
      exact AllReadyH.nil
    case rest =>
      obtain ⟨pc, rfl, rfl, rfl, E, P, Q, hpc⟩ := hcut
      clear E1 P1 CA C1 C2
      go_upto_region 22 with fail
      have HZ := Lib.hid (E.low (Below.refl _ _).drew)
      have hS : _ ∧ _ ∧ _ := ⟨HZ.out.x.hx, P.low (Below.refl _ _).drew, Q.low (Below.refl _ _).drew⟩
      clear E P Q
      refine wp_region_held_drew (S := fun wS => wS.heap[w.heap.size]? = some (.cells #[.int .i64 ns, .slice ao l.length cap, .int .i64 bl, .slice (some ⟨g2, 0, none⟩) n cap2] 30 (0, 0)) ∧ RowP wS pa V ∧ RowP wS pc V) (by kernel_rfl) hS (fun hHeld => ?_)
      clear hS
      generalize wc.drew = W8 at HZ hHeld ⊢
      refine wpAnyH_take (i := 0) (v := ?vz1) rfl (by kernel_rfl) (by kernel_rfl) (by kernel_rfl) (fun _ _ _ h => h) (Or.inl ⟨by rfl, ?hz1⟩) (by assumption) ?rz1
      case hz1 => (intro wS hSw; (try dsimp only at hSw); obtain ⟨x0, x1, x2, x3, _⟩ := four_H hSw.1; obtain ⟨y0, y1, y2, y3, y4, y5, y6, y7, y8, y9, y10⟩ := hSw.2.1.cells; obtain ⟨z0, z1, z2, z3, z4, z5, z6, z7, z8, z9, z10⟩ := hSw.2.2.cells; (try clear hSw); go_simp <;> (with_reducible rfl))
      (try simp only [Act.put, List.setIfInBounds_toArray, List.set_cons_zero, List.set_cons_succ, List.getElem_toArray, List.getElem_cons_zero])
      refine wpAnyH_take (i := 1) (v := ?vz2) rfl (by kernel_rfl) (by kernel_rfl) (by kernel_rfl) (fun _ _ _ h => h) (Or.inl ⟨by rfl, ?hz2⟩) (by assumption) ?rz2
      case hz2 => (intro wS hSw; (try dsimp only at hSw); obtain ⟨x0, x1, x2, x3, _⟩ := four_H hSw.1; obtain ⟨y0, y1, y2, y3, y4, y5, y6, y7, y8, y9, y10⟩ := hSw.2.1.cells; obtain ⟨z0, z1, z2, z3, z4, z5, z6, z7, z8, z9, z10⟩ := hSw.2.2.cells; (try clear hSw); go_simp <;> (with_reducible rfl))
      (try simp only [Act.put, List.setIfInBounds_toArray, List.set_cons_zero, List.set_cons_succ, List.getElem_toArray, List.getElem_cons_zero, List.getElem_cons_succ])
      refine wpAnyH_take (i := 2) (v := ?vz3) rfl (by kernel_rfl) (by kernel_rfl) (by kernel_rfl) (fun _ _ _ h => h) (Or.inl ⟨by rfl, ?hz3⟩) (by assumption) ?rz3
      case hz3 => (intro wS hSw; (try dsimp only at hSw); obtain ⟨x0, x1, x2, x3, _⟩ := four_H hSw.1; obtain ⟨y0, y1, y2, y3, y4, y5, y6, y7, y8, y9, y10⟩ := hSw.2.1.cells; obtain ⟨z0, z1, z2, z3, z4, z5, z6, z7, z8, z9, z10⟩ := hSw.2.2.cells; (try clear hSw); go_simp <;> (with_reducible rfl))
      (try simp only [Act.put, List.setIfInBounds_toArray, List.set_cons_zero, List.set_cons_succ, List.getElem_toArray, List.getElem_cons_zero, List.getElem_cons_succ])
      refine wpAnyH_take (i := 3) (v := .bool true) rfl (by kernel_rfl) (by kernel_rfl) (by kernel_rfl) (fun _ _ _ h => h) (Or.inl ⟨by rfl, ?hz4⟩) (by assumption) ?rz4
      case hz4 => (intro wS hSw; (try dsimp only at hSw); (try clear hSw); go_simp)
      (try simp only [Act.put, List.setIfInBounds_toArray, List.set_cons_zero, List.set_cons_succ, List.getElem_toArray, List.getElem_cons_zero, List.getElem_cons_succ])
      refine wpAnyH_take (i := 4) (v := ?vz5) rfl (by kernel_rfl) (by kernel_rfl) (by kernel_rfl) (fun _ _ _ h => h) (Or.inl ⟨by rfl, ?hz5⟩) (by assumption) ?rz5
      case hz5 => (intro wS hSw; (try dsimp only at hSw); (try clear hSw); go_simp <;> (with_reducible rfl))
      (try simp only [Act.put, List.setIfInBounds_toArray, List.set_cons_zero, List.set_cons_succ, List.getElem_toArray, List.getElem_cons_zero, List.getElem_cons_succ])
      refine wpAnyH_take (i := 5) (v := ?vz6) rfl (by kernel_rfl) (by kernel_rfl) (by kernel_rfl) (fun _ _ _ h => h) (Or.inl ⟨by rfl, ?hz6⟩) (by assumption) ?rz6
      case hz6 => (intro wS hSw; (try dsimp only at hSw); (try clear hSw); go_simp <;> (with_reducible rfl))
      (try simp only [Act.put, List.setIfInBounds_toArray, List.set_cons_zero, List.set_cons_succ, List.getElem_toArray, List.getElem_cons_zero, List.getElem_cons_succ])
      refine wpAnyH_take (i := 6) (v := ?vz7) rfl (by kernel_rfl) (by kernel_rfl) (by kernel_rfl) (fun _ _ _ h => h) (Or.inl ⟨by rfl, ?hz7⟩) (by assumption) ?rz7
      case hz7 => (intro wS hSw; (try dsimp only at hSw); (try clear hSw); go_simp <;> (with_reducible rfl))
      (try simp only [Act.put, List.setIfInBounds_toArray, List.set_cons_zero, List.set_cons_succ, List.getElem_toArray, List.getElem_cons_zero, List.getElem_cons_succ])
      refine wpAnyH_take (i := 7) (v := .bool true) rfl (by kernel_rfl) (by kernel_rfl) (by kernel_rfl) (fun _ _ _ h => h) (Or.inl ⟨by rfl, ?hz8⟩) (by assumption) ?rz8
      case hz8 => (intro wS hSw; (try dsimp only at hSw); (try clear hSw); go_simp)
      (try simp only [Act.put, List.setIfInBounds_toArray, List.set_cons_zero, List.set_cons_succ, List.getElem_toArray, List.getElem_cons_zero, List.getElem_cons_succ])
      refine wpAnyH_take (i := 8) (v := ?vz9) rfl (by kernel_rfl) (by kernel_rfl) (by kernel_rfl) (fun _ _ _ h => h) (Or.inl ⟨by rfl, ?hz9⟩) (by assumption) ?rz9
      case hz9 => (intro wS hSw; (try dsimp only at hSw); (try clear hSw); go_simp <;> (with_reducible rfl))
      (try simp only [Act.put, List.setIfInBounds_toArray, List.set_cons_zero, List.set_cons_succ, List.getElem_toArray, List.getElem_cons_zero, List.getElem_cons_succ])
      refine wpAnyH_take (i := 9) (v := ?vz10) rfl (by kernel_rfl) (by kernel_rfl) (by kernel_rfl) (fun _ _ _ h => h) (Or.inl ⟨by rfl, ?hz10⟩) (by assumption) ?rz10
      case hz10 => (intro wS hSw; (try dsimp only at hSw); (try clear hSw); go_simp <;> (with_reducible rfl))
      (try simp only [Act.put, List.setIfInBounds_toArray, List.set_cons_zero, List.set_cons_succ, List.getElem_toArray, List.getElem_cons_zero, List.getElem_cons_succ])
      refine wpAnyH_take (i := 10) (v := ?vz11) rfl (by kernel_rfl) (by kernel_rfl) (by kernel_rfl) (fun _ _ _ h => h) (Or.inl ⟨by rfl, ?hz11⟩) (by assumption) ?rz11
      case hz11 => (intro wS hSw; (try dsimp only at hSw); (try clear hSw); go_simp <;> (with_reducible rfl))
      (try simp only [Act.put, List.setIfInBounds_toArray, List.set_cons_zero, List.set_cons_succ, List.getElem_toArray, List.getElem_cons_zero, List.getElem_cons_succ])
      refine wpAnyH_take (i := 11) (v := ?vz12) rfl (by kernel_rfl) (by kernel_rfl) (by kernel_rfl) (fun _ _ _ h => h) (Or.inl ⟨by rfl, ?hz12⟩) (by assumption) ?rz12
      case hz12 => (intro wS hSw; (try dsimp only at hSw); (try clear hSw); go_simp <;> (with_reducible rfl))
      (try simp only [Act.put, List.setIfInBounds_toArray, List.set_cons_zero, List.set_cons_succ, List.getElem_toArray, List.getElem_cons_zero, List.getElem_cons_succ])
      refine wpAnyH_take (i := 12) (v := .bool true) rfl (by kernel_rfl) (by kernel_rfl) (by kernel_rfl) (fun _ _ _ h => h) (Or.inl ⟨by rfl, ?hz13⟩) (by assumption) ?rz13
      case hz13 => (intro wS hSw; (try dsimp only at hSw); (try clear hSw); go_simp)
      (try simp only [Act.put, List.setIfInBounds_toArray, List.set_cons_zero, List.set_cons_succ, List.getElem_toArray, List.getElem_cons_zero, List.getElem_cons_succ])
      refine wpAnyH_take (i := 13) (v := ?vz14) rfl (by kernel_rfl) (by kernel_rfl) (by kernel_rfl) (fun _ _ _ h => h) (Or.inl ⟨by rfl, ?hz14⟩) (by assumption) ?rz14
      case hz14 => (intro wS hSw; (try dsimp only at hSw); (try clear hSw); go_simp <;> (with_reducible rfl))
      (try simp only [Act.put, List.setIfInBounds_toArray, List.set_cons_zero, List.set_cons_succ, List.getElem_toArray, List.getElem_cons_zero, List.getElem_cons_succ])
      refine wpAnyH_ready (rs := [14]) (by kernel_rfl) (by simp) ?_
      refine AllReadyH.cons rfl (fun K hK => ?_) AllReadyH.nil
      obtain ⟨r0, r1, r2, r3, rf⟩ := four_H HZ.out.x.rx
      have hp1 := ne_HP HZ.out.x.rx hHeld.2.1.row
      have hp2 := ne_HP HZ.out.x.rx hHeld.2.2.row
      go_simp
      have FZ := Lib.hid HZ.out.fin
      refine hK.out _ _ ⟨(after4 _ _ _ _ (by omega)).trans HZ.out.x.hx, hHeld.2.1.kept (after4 _ _ _ _ (fun e => hp1 e.symm)), hHeld.2.2.kept (after4 _ _ _ _ (fun e => hp2 e.symm))⟩ (fun hHeld => ?_)
      (try clear hK K)
      (try simp only [Act.put, List.setIfInBounds_toArray, List.set_cons_zero, List.set_cons_succ, List.getElem_toArray, List.getElem_cons_zero, List.getElem_cons_succ])
      refine wpAnyH_take (i := 15) (v := ?vz15) rfl (by kernel_rfl) (by kernel_rfl) (by kernel_rfl) (fun _ _ _ h => h) (Or.inl ⟨by rfl, ?hz15⟩) (by assumption) ?rz15
      case hz15 => (intro wS hSw; (try dsimp only at hSw); (try clear hSw); go_simp <;> (with_reducible rfl))
      (try simp only [Act.put, List.setIfInBounds_toArray, List.set_cons_zero, List.set_cons_succ, List.getElem_toArray, List.getElem_cons_zero, List.getElem_cons_succ])
      refine wpAnyH_done (by kernel_rfl) ?_ _
      clear hHeld
      go_wp2_with fail
      exact bodyPost_ret (res_HE rfl _ _ _ _ rfl FZ.out.1 rfl) rfl ⟨_, _, _, _, _, _, _, rfl, FZ.out.2.1, FZ.out.2.2.1, HM.out, FZ.out.2.2.2, fun _ _ => Iff.rfl⟩
end
end Go.Proofs.YtffpfceclhogoaaGreat.Hp
