/-
  YtffpfceclhogoaaGreatGV: the contracts and plain facts of several texts, laid together. Conditions: those that each theorem names.
-/
import Derived.Test.YtffpfceclhogoaaGreatGQ
namespace Go.Proofs.YtffpfceclhogoaaGreat.Hp
open Fld Hs
open Go.ChangeShapes Go.WideShapes Go.ChangeAt Go.RowKit Go.Maps
set_option maxHeartbeats 8000000
set_option maxRecDepth 100000
section
variable {w0 w : World} {hb sb n : Nat} {ns bl : Int} {L : Nat → List Bk} {F : Nat → Prop} {v t : Value} {l : List SPg} {LT : Nat → List Hs.Bk} {U : Nat → Value}
theorem does_unmap (d : DeedV) (hd : d.wf) (k0 : d.kind = 1) (K : KY w0 w hb sb ns bl n L F) (D : DH w v l t n LT U) (T : HT ns bl n L l LT) :
    Calls Tryz.prog 11 #[.pointer (some ⟨hb, 0, none⟩), .agg #[.int .i64 ns, v, .int .i64 bl, t], .agg #[.int .i64 d.kind, .int .i64 d.sp, .int .i64 d.n, .int .u64 d.p.va, .int .i64 d.p.sz, .int .u64 d.p.pa, .bool d.p.att.write, .bool d.p.att.priv, .bool d.p.att.exec, .bool d.p.att.lock, .bool d.p.att.global, .bool d.p.att.quiet, .bool d.p.ref, .bool d.p.mod, .int .u64 d.va, .bool d.att.write, .bool d.att.priv, .bool d.att.exec, .bool d.att.lock, .bool d.att.global, .bool d.att.quiet, .bool d.mod, .bool d.raw, .bool d.near]] w fun e w' => DoneX w0 w w' hb sb ns bl F l d.sp e := by
  obtain ⟨⟨ao, cap, rfl⟩, g2, cap2, rfl⟩ := D.shape
  have X0 := TE.of K (TX.new D ns bl d)
  have hat := atD_bd hd T.val
  have CA := Lib.hid (fun (W : World) (h : DH W (.slice ao l.length cap) l (.slice (some ⟨g2, 0, none⟩) n cap2) n LT U) => ldat_any ns bl d hd T.val W h)
  obtain ⟨va, hva⟩ : ∃ va, va = atD d l := ⟨_, rfl⟩
  rw [← hva] at CA hat
  clear hva
  have C1 := Lib.hid (fun (W : World) (h : TE w0 w W hb sb ns bl L F (.slice ao l.length cap) l (.slice (some ⟨g2, 0, none⟩) n cap2) n LT U d) => dunmap_any ns bl d.sp va hd.s0 hd.s1 hat.1 hat.2 W h.x.dh)
  have HM := Lib.hid (T.unmap d.sp va)
  have HV := Lib.hid (And.intro (T.dunV d.sp va) (T.wfV d.sp va))
  have hk0 := Lib.hid k0
  clear k0
  clear K D T
  go_enter Tryz.func11, Tryz.ntmps11
  go_upto_region 1 with fail
  generalize World.alloc (World.alloc (World.alloc w _) _) _ = W0 at *
  have HX0 := Lib.hid X0
  obtain ⟨b0, b1, b2⟩ := X0.deed.cells
  rw [hk0.out] at b0
  have E0 := Lib.hid X0
  clear X0
  generalize whyE ns l d.sp va = Wy at *
  obtain ⟨D, hD⟩ : ∃ D, D = dunV ns l d.sp va := ⟨_, rfl⟩
  rw [← hD] at C1 HV
  clear hD
  go_upto_region 8 with fail
  go_cut [12, 13, 14] (fun a b c wx => ∃ nb pb v' t' U', a = .pointer (some ⟨nb, 0, none⟩) ∧ b = .pointer (some ⟨pb, 0, none⟩) ∧ c = .int .i64 Wy ∧ TN w0 w wx hb sb ns bl L F (.slice ao l.length cap) l (.slice (some ⟨g2, 0, none⟩) n cap2) n LT U d nb wx.heap.size v' (dunL ns l d.sp va) t' n (dunT ns l n LT d.sp va) U' ∧ RowP wx pb D ∧ w.heap.size + 3 ≤ pb)
  case first =>
    have HE := Lib.hid (E0.out.low (Below.refl _ _).drew)
    have hS := HE.out
    have hz := HE.out.size
    clear E0
    refine wp_region_held_drew (S := fun wS => TE w0 w wS hb sb ns bl L F (.slice ao l.length cap) l (.slice (some ⟨g2, 0, none⟩) n cap2) n LT U d) (by kernel_rfl) hS (fun hHeld => ?_)
    clear hS
    generalize W0.drew = W1 at HE hHeld hz ⊢
    refine wpAnyH_take (i := 0) (v := ?vu1) rfl (by kernel_rfl) (by kernel_rfl) (by kernel_rfl) (fun _ _ _ h => h) (Or.inl ⟨by rfl, ?hu1⟩) (by assumption) ?ru1
    case hu1 => (intro wS hSw; (try dsimp only at hSw); obtain ⟨x0, x1, x2, x3, _⟩ := four_H hSw.x.hx; have c1 := hSw.deed.cells.2.1; (try clear hSw); go_simp <;> (with_reducible rfl))
    (try simp only [Act.put, List.setIfInBounds_toArray, List.set_cons_zero, List.set_cons_succ, List.getElem_toArray, List.getElem_cons_zero])
    refine wpAnyH_take (i := 1) (v := ?vu2) rfl (by kernel_rfl) (by kernel_rfl) (by kernel_rfl) (fun _ _ _ h => h) (Or.inl ⟨by rfl, ?hu2⟩) (by assumption) ?ru2
    case hu2 => (intro wS hSw; (try dsimp only at hSw); (try clear hSw); go_simp <;> (with_reducible rfl))
    (try simp only [Act.put, List.setIfInBounds_toArray, List.set_cons_zero, List.set_cons_succ, List.getElem_toArray, List.getElem_cons_zero, List.getElem_cons_succ])
    refine wpAnyH_take (i := 2) (v := ?vu3) rfl (by kernel_rfl) (by kernel_rfl) (by kernel_rfl) (fun _ _ _ h => h) (Or.inl ⟨by rfl, ?hu3⟩) (by assumption) ?ru3
    case hu3 => (intro wS hSw; (try dsimp only at hSw); obtain ⟨x0, x1, x2, x3, _⟩ := four_H hSw.x.hx; have c1 := hSw.deed.cells.2.1; (try clear hSw); go_simp <;> (with_reducible rfl))
    (try simp only [Act.put, List.setIfInBounds_toArray, List.set_cons_zero, List.set_cons_succ, List.getElem_toArray, List.getElem_cons_zero, List.getElem_cons_succ])
    refine wpAnyH_take (i := 3) (v := .agg #[.int .i64 d.kind, .int .i64 d.sp, .int .i64 d.n, .int .u64 d.p.va, .int .i64 d.p.sz, .int .u64 d.p.pa, .bool d.p.att.write, .bool d.p.att.priv, .bool d.p.att.exec, .bool d.p.att.lock, .bool d.p.att.global, .bool d.p.att.quiet, .bool d.p.ref, .bool d.p.mod, .int .u64 d.va, .bool d.att.write, .bool d.att.priv, .bool d.att.exec, .bool d.att.lock, .bool d.att.global, .bool d.att.quiet, .bool d.mod, .bool d.raw, .bool d.near]) rfl (by kernel_rfl) (by kernel_rfl) (by kernel_rfl) (fun _ _ _ h => h) (yieldsIf_load_mid (by rfl) 40 (.tmp 5) rfl (w.heap.size + 1) 0 rfl [.int .i64 d.kind, .int .i64 d.sp, .int .i64 d.n, .int .u64 d.p.va, .int .i64 d.p.sz, .int .u64 d.p.pa, .bool d.p.att.write, .bool d.p.att.priv, .bool d.p.att.exec, .bool d.p.att.lock, .bool d.p.att.global, .bool d.p.att.quiet, .bool d.p.ref, .bool d.p.mod, .int .u64 d.va, .bool d.att.write, .bool d.att.priv, .bool d.att.exec, .bool d.att.lock, .bool d.att.global, .bool d.att.quiet, .bool d.mod, .bool d.raw, .bool d.near] _ (fun w hS => hS.deed.range) Tryz.underlying40 rfl (by kernel_rfl)) (by assumption) ?_
    (try simp only [Act.put, List.setIfInBounds_toArray, List.set_cons_zero, List.set_cons_succ, List.getElem_toArray, List.getElem_cons_zero, List.getElem_cons_succ])
    refine wpAnyH_take (i := 4) (v := ?vu5) rfl (by kernel_rfl) (by kernel_rfl) (by kernel_rfl) (fun _ _ _ h => h) (Or.inl ⟨by rfl, ?hu5⟩) (by assumption) ?ru5
    case hu5 => (intro wS hSw; (try dsimp only at hSw); obtain ⟨x0, x1, x2, x3, _⟩ := four_H hSw.x.hx; have c1 := hSw.deed.cells.2.1; (try clear hSw); go_simp <;> (with_reducible rfl))
    (try simp only [Act.put, List.setIfInBounds_toArray, List.set_cons_zero, List.set_cons_succ, List.getElem_toArray, List.getElem_cons_zero, List.getElem_cons_succ])
    refine wpAnyH_ready (rs := [5, 11, 12]) (by kernel_rfl) (by simp) ?_
    refine AllReadyH.cons rfl (fun K hK => ?_) ?_
    · go_simp
      refine (CA.out _ hHeld.x.dh).mono ?_; rintro r w1 ⟨rfl, hb1⟩
      refine hK.out _ _ (hHeld.low hb1) (fun hHeld => ?_)
      (try clear hK K)
      (try simp only [Act.put, List.setIfInBounds_toArray, List.set_cons_zero, List.set_cons_succ, List.getElem_toArray, List.getElem_cons_zero, List.getElem_cons_succ])
      refine wpAnyH_ready (rs := [6, 11, 12]) (by kernel_rfl) (by simp) ?_
      refine AllReadyH.cons rfl (fun K hK => ?_) ?_
      · go_simp
        refine (C1.out _ hHeld).mono ?_; rintro r w2 ⟨v', t', U', rfl, hD, hb2⟩
        obtain ⟨⟨ao5, cp5, rfl⟩, g5, cp6, rfl⟩ := hD.shape
        refine hK.out _ _ (hHeld.low hb2) (fun hHeld => ?_)
        (try clear hK K)
        (try simp only [Act.put, List.setIfInBounds_toArray, List.set_cons_zero, List.set_cons_succ, List.getElem_toArray, List.getElem_cons_zero, List.getElem_cons_succ])
        refine wpAnyH_take (i := 7) (v := ?vu6) rfl (by kernel_rfl) (by kernel_rfl) (by kernel_rfl) (fun _ _ _ h => h) (Or.inl ⟨by rfl, ?hu6⟩) (by assumption) ?ru6
        case hu6 => (intro wS hSw; (try dsimp only at hSw); (try clear hSw); go_simp <;> (with_reducible rfl))
        (try simp only [Act.put, List.setIfInBounds_toArray, List.set_cons_zero, List.set_cons_succ, List.getElem_toArray, List.getElem_cons_zero, List.getElem_cons_succ])
        refine wpAnyH_take (i := 8) (v := ?vu7) rfl (by kernel_rfl) (by kernel_rfl) (by kernel_rfl) (fun _ _ _ h => h) (Or.inl ⟨by rfl, ?hu7⟩) (by assumption) ?ru7
        case hu7 => (intro wS hSw; (try dsimp only at hSw); (try clear hSw); go_simp <;> (with_reducible rfl))
        (try simp only [Act.put, List.setIfInBounds_toArray, List.set_cons_zero, List.set_cons_succ, List.getElem_toArray, List.getElem_cons_zero, List.getElem_cons_succ])
        refine wpAnyH_take (i := 9) (v := ?vu8) rfl (by kernel_rfl) (by kernel_rfl) (by kernel_rfl) (fun _ _ _ h => h) (Or.inl ⟨by rfl, ?hu8⟩) (by assumption) ?ru8
        case hu8 => (intro wS hSw; (try dsimp only at hSw); (try clear hSw); go_simp <;> (with_reducible rfl))
        (try simp only [Act.put, List.setIfInBounds_toArray, List.set_cons_zero, List.set_cons_succ, List.getElem_toArray, List.getElem_cons_zero, List.getElem_cons_succ])
        refine wpAnyH_take (i := 10) (v := ?vu9) rfl (by kernel_rfl) (by kernel_rfl) (by kernel_rfl) (fun _ _ _ h => h) (Or.inl ⟨by rfl, ?hu9⟩) (by assumption) ?ru9
        case hu9 => (intro wS hSw; (try dsimp only at hSw); (try clear hSw); go_simp <;> (with_reducible rfl))
        (try simp only [Act.put, List.setIfInBounds_toArray, List.set_cons_zero, List.set_cons_succ, List.getElem_toArray, List.getElem_cons_zero, List.getElem_cons_succ])
        refine wpAnyH_ready (rs := [11, 12]) (by kernel_rfl) (by simp) ?_
        refine AllReadyH.cons rfl (fun K hK => ?_) ?_
        · go_simp
          have rA := heap_alloc_new w2 (.cells #[.int .i64 0, .slice none 0 0, .int .i64 0, .slice none 0 0] 30)
          have bA : Below w2.heap.size w2 (w2.alloc (.cells #[.int .i64 0, .slice none 0 0, .int .i64 0, .slice none 0 0] 30)) := (Below.refl _ _).alloc (Nat.le_refl _) _
          generalize w2.alloc (.cells #[.int .i64 0, .slice none 0 0, .int .i64 0, .slice none 0 0] 30) = WA at rA bA ⊢
          refine hK.out _ _ (hHeld.low bA) (fun hHeld => ?_)
          (try clear hK K)
          (try simp only [Act.put, List.setIfInBounds_toArray, List.set_cons_zero, List.set_cons_succ, List.getElem_toArray, List.getElem_cons_zero, List.getElem_cons_succ])
          refine wpAnyH_ready (rs := [12]) (by kernel_rfl) (by simp) ?_
          refine AllReadyH.cons rfl (fun K hK => ?_) AllReadyH.nil
          go_simp
          have rB := heap_alloc_new WA (.cells #[.int .u64 0, .int .i64 0, .int .u64 0, .bool false, .bool false, .bool false, .bool false, .bool false, .bool false, .bool false, .bool false] 38)
          have bB : Below WA.heap.size WA (WA.alloc (.cells #[.int .u64 0, .int .i64 0, .int .u64 0, .bool false, .bool false, .bool false, .bool false, .bool false, .bool false, .bool false, .bool false] 38)) := (Below.refl _ _).alloc (Nat.le_refl _) _
          generalize WA.alloc (.cells #[.int .u64 0, .int .i64 0, .int .u64 0, .bool false, .bool false, .bool false, .bool false, .bool false, .bool false, .bool false, .bool false] 38) = WB at rB bB ⊢
          refine hK.out _ _ (hHeld.low bB) (fun hHeld => ?_)
          (try clear hK K)
          (try simp only [Act.put, List.setIfInBounds_toArray, List.set_cons_zero, List.set_cons_succ, List.getElem_toArray, List.getElem_cons_zero, List.getElem_cons_succ])
          refine wpAnyH_ready (rs := [13]) (by kernel_rfl) (by simp) ?_
          refine AllReadyH.cons rfl (fun K hK => ?_) AllReadyH.nil
          have B : Below W1.heap.size W1 WB := (lo_step (lo_step (lo_step (lo_step (Below.refl W1.heap.size W1) hb1) hb2) bA) bB)
          have B1 : Below W1.heap.size W1 w2 := (lo_step (lo_step (Below.refl W1.heap.size W1) hb1) hb2)
          have B2 : Below W1.heap.size W1 WA := (lo_step (lo_step (lo_step (Below.refl W1.heap.size W1) hb1) hb2) bA)
          have h0 := B1.size
          have h9 := B2.size
          have rx := blk_low rA (lo_step (Below.refl WA.heap.size WA) bB)
          have rp : RowP WB WA.heap.size Pg.zero := ⟨blk_low rB (Below.refl WB.heap.size WB)⟩
          obtain ⟨n0, n1, n2, n3, nf⟩ := four_H rx
          obtain ⟨p0, p1, p2, p3, p4, p5, p6, p7, p8, p9, p10⟩ := rp.cells
          have pf := set_one_page rp
          have N := HE.out.next B (hD.low (lo_step (lo_step (Below.refl w2.heap.size w2) bA) bB)) h0 (Array.getElem?_eq_some_iff.1 rx).1 (Nat.le_refl _) rx
          have N2 := Lib.hid (N.page (RowP.far_H rp (fun e => ne_HP rx rp.row e.symm)) (by omega) (Array.getElem?_eq_some_iff.1 rp.row).1 D)
          have hne1 : ¬ w2.heap.size = WA.heap.size := ne_HP rx rp.row
          have hne2 : ¬ WA.heap.size = w2.heap.size := fun e => hne1 e.symm
          clear N
          go_simp
          refine hK.out _ _ (HE.out.low ((((B.setCell (p := ⟨w2.heap.size, 0, none⟩) h0 _).setCell (p := ⟨w2.heap.size, 1, none⟩) h0 _).setCell (p := ⟨w2.heap.size, 2, none⟩) h0 _).setCell (p := ⟨w2.heap.size, 3, none⟩) h0 _)) (fun hHeld => ?_)
          (try clear hK K)
          (try simp only [Act.put, List.setIfInBounds_toArray, List.set_cons_zero, List.set_cons_succ, List.getElem_toArray, List.getElem_cons_zero, List.getElem_cons_succ])
          refine wpAnyH_ready (rs := [14]) (by kernel_rfl) (by simp) ?_
          refine AllReadyH.cons rfl (fun K hK => ?_) AllReadyH.nil
          go_simp
          refine hK.out _ _ (HE.out.low (((((((((((((((B.setCell (p := ⟨w2.heap.size, 0, none⟩) h0 _).setCell (p := ⟨w2.heap.size, 1, none⟩) h0 _).setCell (p := ⟨w2.heap.size, 2, none⟩) h0 _).setCell (p := ⟨w2.heap.size, 3, none⟩) h0 _).setCell (p := ⟨WA.heap.size, 0, none⟩) h9 _).setCell (p := ⟨WA.heap.size, 1, none⟩) h9 _).setCell (p := ⟨WA.heap.size, 2, none⟩) h9 _).setCell (p := ⟨WA.heap.size, 3, none⟩) h9 _).setCell (p := ⟨WA.heap.size, 4, none⟩) h9 _).setCell (p := ⟨WA.heap.size, 5, none⟩) h9 _).setCell (p := ⟨WA.heap.size, 6, none⟩) h9 _).setCell (p := ⟨WA.heap.size, 7, none⟩) h9 _).setCell (p := ⟨WA.heap.size, 8, none⟩) h9 _).setCell (p := ⟨WA.heap.size, 9, none⟩) h9 _).setCell (p := ⟨WA.heap.size, 10, none⟩) h9 _)) (fun hHeld => ?_)
          (try clear hK K)
          (try simp only [Act.put, List.setIfInBounds_toArray, List.set_cons_zero, List.set_cons_succ, List.getElem_toArray, List.getElem_cons_zero, List.getElem_cons_succ])
          refine wpAnyH_take (i := 15) (v := ?vu10) rfl (by kernel_rfl) (by kernel_rfl) (by kernel_rfl) (fun _ _ _ h => h) (Or.inl ⟨by rfl, ?hu10⟩) (by assumption) ?ru10
          case hu10 => (intro wS hSw; (try dsimp only at hSw); (try clear hSw); go_simp <;> (with_reducible rfl))
          (try simp only [Act.put, List.setIfInBounds_toArray, List.set_cons_zero, List.set_cons_succ, List.getElem_toArray, List.getElem_cons_zero, List.getElem_cons_succ])
          refine wpAnyH_done (by kernel_rfl) ?_ _
          go_wp2_with fail
          go_meet
          exact ⟨_, _, _, _, _, rfl, rfl, rfl, (by simpa only [setCell_size] using N2.out.1), N2.out.2, by omega⟩
        refine AllReadyH.cons rfl (fun K hK => ?_) ?_
        · go_simp
          have rB := heap_alloc_new w2 (.cells #[.int .u64 0, .int .i64 0, .int .u64 0, .bool false, .bool false, .bool false, .bool false, .bool false, .bool false, .bool false, .bool false] 38)
          have bB : Below w2.heap.size w2 (w2.alloc (.cells #[.int .u64 0, .int .i64 0, .int .u64 0, .bool false, .bool false, .bool false, .bool false, .bool false, .bool false, .bool false, .bool false] 38)) := (Below.refl _ _).alloc (Nat.le_refl _) _
          generalize w2.alloc (.cells #[.int .u64 0, .int .i64 0, .int .u64 0, .bool false, .bool false, .bool false, .bool false, .bool false, .bool false, .bool false, .bool false] 38) = WB at rB bB ⊢
          refine hK.out _ _ (hHeld.low bB) (fun hHeld => ?_)
          (try clear hK K)
          (try simp only [Act.put, List.setIfInBounds_toArray, List.set_cons_zero, List.set_cons_succ, List.getElem_toArray, List.getElem_cons_zero, List.getElem_cons_succ])
          refine wpAnyH_ready (rs := [11]) (by kernel_rfl) (by simp) ?_
          refine AllReadyH.cons rfl (fun K hK => ?_) AllReadyH.nil
          go_simp
          have rA := heap_alloc_new WB (.cells #[.int .i64 0, .slice none 0 0, .int .i64 0, .slice none 0 0] 30)
          have bA : Below WB.heap.size WB (WB.alloc (.cells #[.int .i64 0, .slice none 0 0, .int .i64 0, .slice none 0 0] 30)) := (Below.refl _ _).alloc (Nat.le_refl _) _
          generalize WB.alloc (.cells #[.int .i64 0, .slice none 0 0, .int .i64 0, .slice none 0 0] 30) = WA at rA bA ⊢
          refine hK.out _ _ (hHeld.low bA) (fun hHeld => ?_)
          (try clear hK K)
          (try simp only [Act.put, List.setIfInBounds_toArray, List.set_cons_zero, List.set_cons_succ, List.getElem_toArray, List.getElem_cons_zero, List.getElem_cons_succ])
          refine wpAnyH_ready (rs := [13]) (by kernel_rfl) (by simp) ?_
          refine AllReadyH.cons rfl (fun K hK => ?_) AllReadyH.nil
          have B : Below W1.heap.size W1 WA := (lo_step (lo_step (lo_step (lo_step (Below.refl W1.heap.size W1) hb1) hb2) bB) bA)
          have B1 : Below W1.heap.size W1 WB := (lo_step (lo_step (lo_step (Below.refl W1.heap.size W1) hb1) hb2) bB)
          have B2 : Below W1.heap.size W1 w2 := (lo_step (lo_step (Below.refl W1.heap.size W1) hb1) hb2)
          have h0 := B1.size
          have h9 := B2.size
          have rx := blk_low rA (Below.refl WA.heap.size WA)
          have rp : RowP WA w2.heap.size Pg.zero := ⟨blk_low rB (lo_step (Below.refl WB.heap.size WB) bA)⟩
          obtain ⟨n0, n1, n2, n3, nf⟩ := four_H rx
          obtain ⟨p0, p1, p2, p3, p4, p5, p6, p7, p8, p9, p10⟩ := rp.cells
          have pf := set_one_page rp
          have N := HE.out.next B (hD.low (lo_step (lo_step (Below.refl w2.heap.size w2) bB) bA)) h0 (Array.getElem?_eq_some_iff.1 rx).1 (Nat.le_refl _) rx
          have N2 := Lib.hid (N.page (RowP.far_H rp (fun e => ne_HP rx rp.row e.symm)) (by omega) (Array.getElem?_eq_some_iff.1 rp.row).1 D)
          have hne1 : ¬ WB.heap.size = w2.heap.size := ne_HP rx rp.row
          have hne2 : ¬ w2.heap.size = WB.heap.size := fun e => hne1 e.symm
          clear N
          go_simp
          refine hK.out _ _ (HE.out.low ((((B.setCell (p := ⟨WB.heap.size, 0, none⟩) h0 _).setCell (p := ⟨WB.heap.size, 1, none⟩) h0 _).setCell (p := ⟨WB.heap.size, 2, none⟩) h0 _).setCell (p := ⟨WB.heap.size, 3, none⟩) h0 _)) (fun hHeld => ?_)
          (try clear hK K)
          (try simp only [Act.put, List.setIfInBounds_toArray, List.set_cons_zero, List.set_cons_succ, List.getElem_toArray, List.getElem_cons_zero, List.getElem_cons_succ])
          refine wpAnyH_ready (rs := [14]) (by kernel_rfl) (by simp) ?_
          refine AllReadyH.cons rfl (fun K hK => ?_) AllReadyH.nil
          go_simp
          refine hK.out _ _ (HE.out.low (((((((((((((((B.setCell (p := ⟨WB.heap.size, 0, none⟩) h0 _).setCell (p := ⟨WB.heap.size, 1, none⟩) h0 _).setCell (p := ⟨WB.heap.size, 2, none⟩) h0 _).setCell (p := ⟨WB.heap.size, 3, none⟩) h0 _).setCell (p := ⟨w2.heap.size, 0, none⟩) h9 _).setCell (p := ⟨w2.heap.size, 1, none⟩) h9 _).setCell (p := ⟨w2.heap.size, 2, none⟩) h9 _).setCell (p := ⟨w2.heap.size, 3, none⟩) h9 _).setCell (p := ⟨w2.heap.size, 4, none⟩) h9 _).setCell (p := ⟨w2.heap.size, 5, none⟩) h9 _).setCell (p := ⟨w2.heap.size, 6, none⟩) h9 _).setCell (p := ⟨w2.heap.size, 7, none⟩) h9 _).setCell (p := ⟨w2.heap.size, 8, none⟩) h9 _).setCell (p := ⟨w2.heap.size, 9, none⟩) h9 _).setCell (p := ⟨w2.heap.size, 10, none⟩) h9 _)) (fun hHeld => ?_)
          (try clear hK K)
          (try simp only [Act.put, List.setIfInBounds_toArray, List.set_cons_zero, List.set_cons_succ, List.getElem_toArray, List.getElem_cons_zero, List.getElem_cons_succ])
          refine wpAnyH_take (i := 15) (v := ?vu11) rfl (by kernel_rfl) (by kernel_rfl) (by kernel_rfl) (fun _ _ _ h => h) (Or.inl ⟨by rfl, ?hu11⟩) (by assumption) ?ru11
          case hu11 => (intro wS hSw; (try dsimp only at hSw); (try clear hSw); go_simp <;> (with_reducible rfl))
          (try simp only [Act.put, List.setIfInBounds_toArray, List.set_cons_zero, List.set_cons_succ, List.getElem_toArray, List.getElem_cons_zero, List.getElem_cons_succ])
          refine wpAnyH_done (by kernel_rfl) ?_ _
          go_wp2_with fail
          go_meet
          exact ⟨_, _, _, _, _, rfl, rfl, rfl, (by simpa only [setCell_size] using N2.out.1), N2.out.2, by omega⟩
        exact AllReadyH.nil
      refine AllReadyH.cons rfl (fun K hK => ?_) ?_
      · go_simp
        have rA := heap_alloc_new w1 (.cells #[.int .i64 0, .slice none 0 0, .int .i64 0, .slice none 0 0] 30)
        have bA : Below w1.heap.size w1 (w1.alloc (.cells #[.int .i64 0, .slice none 0 0, .int .i64 0, .slice none 0 0] 30)) := (Below.refl _ _).alloc (Nat.le_refl _) _
        generalize w1.alloc (.cells #[.int .i64 0, .slice none 0 0, .int .i64 0, .slice none 0 0] 30) = WA at rA bA ⊢
        refine hK.out _ _ (hHeld.low bA) (fun hHeld => ?_)
        (try clear hK K)
        (try simp only [Act.put, List.setIfInBounds_toArray, List.set_cons_zero, List.set_cons_succ, List.getElem_toArray, List.getElem_cons_zero, List.getElem_cons_succ])
        refine wpAnyH_ready (rs := [6, 12]) (by kernel_rfl) (by simp) ?_
        refine AllReadyH.cons rfl (fun K hK => ?_) ?_
        · go_simp
          refine (C1.out _ hHeld).mono ?_; rintro r w2 ⟨v', t', U', rfl, hD, hb2⟩
          obtain ⟨⟨ao5, cp5, rfl⟩, g5, cp6, rfl⟩ := hD.shape
          refine hK.out _ _ (hHeld.low hb2) (fun hHeld => ?_)
          (try clear hK K)
          (try simp only [Act.put, List.setIfInBounds_toArray, List.set_cons_zero, List.set_cons_succ, List.getElem_toArray, List.getElem_cons_zero, List.getElem_cons_succ])
          refine wpAnyH_take (i := 7) (v := ?vu12) rfl (by kernel_rfl) (by kernel_rfl) (by kernel_rfl) (fun _ _ _ h => h) (Or.inl ⟨by rfl, ?hu12⟩) (by assumption) ?ru12
          case hu12 => (intro wS hSw; (try dsimp only at hSw); (try clear hSw); go_simp <;> (with_reducible rfl))
          (try simp only [Act.put, List.setIfInBounds_toArray, List.set_cons_zero, List.set_cons_succ, List.getElem_toArray, List.getElem_cons_zero, List.getElem_cons_succ])
          refine wpAnyH_take (i := 8) (v := ?vu13) rfl (by kernel_rfl) (by kernel_rfl) (by kernel_rfl) (fun _ _ _ h => h) (Or.inl ⟨by rfl, ?hu13⟩) (by assumption) ?ru13
          case hu13 => (intro wS hSw; (try dsimp only at hSw); (try clear hSw); go_simp <;> (with_reducible rfl))
          (try simp only [Act.put, List.setIfInBounds_toArray, List.set_cons_zero, List.set_cons_succ, List.getElem_toArray, List.getElem_cons_zero, List.getElem_cons_succ])
          refine wpAnyH_take (i := 9) (v := ?vu14) rfl (by kernel_rfl) (by kernel_rfl) (by kernel_rfl) (fun _ _ _ h => h) (Or.inl ⟨by rfl, ?hu14⟩) (by assumption) ?ru14
          case hu14 => (intro wS hSw; (try dsimp only at hSw); (try clear hSw); go_simp <;> (with_reducible rfl))
          (try simp only [Act.put, List.setIfInBounds_toArray, List.set_cons_zero, List.set_cons_succ, List.getElem_toArray, List.getElem_cons_zero, List.getElem_cons_succ])
          refine wpAnyH_take (i := 10) (v := ?vu15) rfl (by kernel_rfl) (by kernel_rfl) (by kernel_rfl) (fun _ _ _ h => h) (Or.inl ⟨by rfl, ?hu15⟩) (by assumption) ?ru15
          case hu15 => (intro wS hSw; (try dsimp only at hSw); (try clear hSw); go_simp <;> (with_reducible rfl))
          (try simp only [Act.put, List.setIfInBounds_toArray, List.set_cons_zero, List.set_cons_succ, List.getElem_toArray, List.getElem_cons_zero, List.getElem_cons_succ])
          refine wpAnyH_ready (rs := [12]) (by kernel_rfl) (by simp) ?_
          refine AllReadyH.cons rfl (fun K hK => ?_) AllReadyH.nil
          go_simp
          have rB := heap_alloc_new w2 (.cells #[.int .u64 0, .int .i64 0, .int .u64 0, .bool false, .bool false, .bool false, .bool false, .bool false, .bool false, .bool false, .bool false] 38)
          have bB : Below w2.heap.size w2 (w2.alloc (.cells #[.int .u64 0, .int .i64 0, .int .u64 0, .bool false, .bool false, .bool false, .bool false, .bool false, .bool false, .bool false, .bool false] 38)) := (Below.refl _ _).alloc (Nat.le_refl _) _
          generalize w2.alloc (.cells #[.int .u64 0, .int .i64 0, .int .u64 0, .bool false, .bool false, .bool false, .bool false, .bool false, .bool false, .bool false, .bool false] 38) = WB at rB bB ⊢
          refine hK.out _ _ (hHeld.low bB) (fun hHeld => ?_)
          (try clear hK K)
          (try simp only [Act.put, List.setIfInBounds_toArray, List.set_cons_zero, List.set_cons_succ, List.getElem_toArray, List.getElem_cons_zero, List.getElem_cons_succ])
          refine wpAnyH_ready (rs := [13]) (by kernel_rfl) (by simp) ?_
          refine AllReadyH.cons rfl (fun K hK => ?_) AllReadyH.nil
          have B : Below W1.heap.size W1 WB := (lo_step (lo_step (lo_step (lo_step (Below.refl W1.heap.size W1) hb1) bA) hb2) bB)
          have B1 : Below W1.heap.size W1 w1 := (lo_step (Below.refl W1.heap.size W1) hb1)
          have B2 : Below W1.heap.size W1 w2 := (lo_step (lo_step (lo_step (Below.refl W1.heap.size W1) hb1) bA) hb2)
          have h0 := B1.size
          have h9 := B2.size
          have rx := blk_low rA (lo_step (lo_step (Below.refl WA.heap.size WA) hb2) bB)
          have rp : RowP WB w2.heap.size Pg.zero := ⟨blk_low rB (Below.refl WB.heap.size WB)⟩
          obtain ⟨n0, n1, n2, n3, nf⟩ := four_H rx
          obtain ⟨p0, p1, p2, p3, p4, p5, p6, p7, p8, p9, p10⟩ := rp.cells
          have pf := set_one_page rp
          have N := HE.out.next B (hD.low (lo_step (Below.refl w2.heap.size w2) bB)) h0 (Array.getElem?_eq_some_iff.1 rx).1 (Nat.le_refl _) rx
          have N2 := Lib.hid (N.page (RowP.far_H rp (fun e => ne_HP rx rp.row e.symm)) (by omega) (Array.getElem?_eq_some_iff.1 rp.row).1 D)
          have hne1 : ¬ w1.heap.size = w2.heap.size := ne_HP rx rp.row
          have hne2 : ¬ w2.heap.size = w1.heap.size := fun e => hne1 e.symm
          clear N
          go_simp
          refine hK.out _ _ (HE.out.low ((((B.setCell (p := ⟨w1.heap.size, 0, none⟩) h0 _).setCell (p := ⟨w1.heap.size, 1, none⟩) h0 _).setCell (p := ⟨w1.heap.size, 2, none⟩) h0 _).setCell (p := ⟨w1.heap.size, 3, none⟩) h0 _)) (fun hHeld => ?_)
          (try clear hK K)
          (try simp only [Act.put, List.setIfInBounds_toArray, List.set_cons_zero, List.set_cons_succ, List.getElem_toArray, List.getElem_cons_zero, List.getElem_cons_succ])
          refine wpAnyH_ready (rs := [14]) (by kernel_rfl) (by simp) ?_
          refine AllReadyH.cons rfl (fun K hK => ?_) AllReadyH.nil
          go_simp
          refine hK.out _ _ (HE.out.low (((((((((((((((B.setCell (p := ⟨w1.heap.size, 0, none⟩) h0 _).setCell (p := ⟨w1.heap.size, 1, none⟩) h0 _).setCell (p := ⟨w1.heap.size, 2, none⟩) h0 _).setCell (p := ⟨w1.heap.size, 3, none⟩) h0 _).setCell (p := ⟨w2.heap.size, 0, none⟩) h9 _).setCell (p := ⟨w2.heap.size, 1, none⟩) h9 _).setCell (p := ⟨w2.heap.size, 2, none⟩) h9 _).setCell (p := ⟨w2.heap.size, 3, none⟩) h9 _).setCell (p := ⟨w2.heap.size, 4, none⟩) h9 _).setCell (p := ⟨w2.heap.size, 5, none⟩) h9 _).setCell (p := ⟨w2.heap.size, 6, none⟩) h9 _).setCell (p := ⟨w2.heap.size, 7, none⟩) h9 _).setCell (p := ⟨w2.heap.size, 8, none⟩) h9 _).setCell (p := ⟨w2.heap.size, 9, none⟩) h9 _).setCell (p := ⟨w2.heap.size, 10, none⟩) h9 _)) (fun hHeld => ?_)
          (try clear hK K)
          (try simp only [Act.put, List.setIfInBounds_toArray, List.set_cons_zero, List.set_cons_succ, List.getElem_toArray, List.getElem_cons_zero, List.getElem_cons_succ])
          refine wpAnyH_take (i := 15) (v := ?vu16) rfl (by kernel_rfl) (by kernel_rfl) (by kernel_rfl) (fun _ _ _ h => h) (Or.inl ⟨by rfl, ?hu16⟩) (by assumption) ?ru16
          case hu16 => (intro wS hSw; (try dsimp only at hSw); (try clear hSw); go_simp <;> (with_reducible rfl))
          (try simp only [Act.put, List.setIfInBounds_toArray, List.set_cons_zero, List.set_cons_succ, List.getElem_toArray, List.getElem_cons_zero, List.getElem_cons_succ])
          refine wpAnyH_done (by kernel_rfl) ?_ _
          go_wp2_with fail
          go_meet
          exact ⟨_, _, _, _, _, rfl, rfl, rfl, (by simpa only [setCell_size] using N2.out.1), N2.out.2, by omega⟩
        refine AllReadyH.cons rfl (fun K hK => ?_) ?_
        · go_simp
          have rB := heap_alloc_new WA (.cells #[.int .u64 0, .int .i64 0, .int .u64 0, .bool false, .bool false, .bool false, .bool false, .bool false, .bool false, .bool false, .bool false] 38)
          have bB : Below WA.heap.size WA (WA.alloc (.cells #[.int .u64 0, .int .i64 0, .int .u64 0, .bool false, .bool false, .bool false, .bool false, .bool false, .bool false, .bool false, .bool false] 38)) := (Below.refl _ _).alloc (Nat.le_refl _) _
          generalize WA.alloc (.cells #[.int .u64 0, .int .i64 0, .int .u64 0, .bool false, .bool false, .bool false, .bool false, .bool false, .bool false, .bool false, .bool false] 38) = WB at rB bB ⊢
          refine hK.out _ _ (hHeld.low bB) (fun hHeld => ?_)
          (try clear hK K)
          (try simp only [Act.put, List.setIfInBounds_toArray, List.set_cons_zero, List.set_cons_succ, List.getElem_toArray, List.getElem_cons_zero, List.getElem_cons_succ])
          refine wpAnyH_ready (rs := [6]) (by kernel_rfl) (by simp) ?_
          refine AllReadyH.cons rfl (fun K hK => ?_) AllReadyH.nil
          go_simp
          refine (C1.out _ hHeld).mono ?_; rintro r w2 ⟨v', t', U', rfl, hD, hb2⟩
          obtain ⟨⟨ao5, cp5, rfl⟩, g5, cp6, rfl⟩ := hD.shape
          refine hK.out _ _ (hHeld.low hb2) (fun hHeld => ?_)
          (try clear hK K)
          (try simp only [Act.put, List.setIfInBounds_toArray, List.set_cons_zero, List.set_cons_succ, List.getElem_toArray, List.getElem_cons_zero, List.getElem_cons_succ])
          refine wpAnyH_take (i := 7) (v := ?vu17) rfl (by kernel_rfl) (by kernel_rfl) (by kernel_rfl) (fun _ _ _ h => h) (Or.inl ⟨by rfl, ?hu17⟩) (by assumption) ?ru17
          case hu17 => (intro wS hSw; (try dsimp only at hSw); (try clear hSw); go_simp <;> (with_reducible rfl))
          (try simp only [Act.put, List.setIfInBounds_toArray, List.set_cons_zero, List.set_cons_succ, List.getElem_toArray, List.getElem_cons_zero, List.getElem_cons_succ])
          refine wpAnyH_take (i := 8) (v := ?vu18) rfl (by kernel_rfl) (by kernel_rfl) (by kernel_rfl) (fun _ _ _ h => h) (Or.inl ⟨by rfl, ?hu18⟩) (by assumption) ?ru18
          case hu18 => (intro wS hSw; (try dsimp only at hSw); (try clear hSw); go_simp <;> (with_reducible rfl))
          (try simp only [Act.put, List.setIfInBounds_toArray, List.set_cons_zero, List.set_cons_succ, List.getElem_toArray, List.getElem_cons_zero, List.getElem_cons_succ])
          refine wpAnyH_take (i := 9) (v := ?vu19) rfl (by kernel_rfl) (by kernel_rfl) (by kernel_rfl) (fun _ _ _ h => h) (Or.inl ⟨by rfl, ?hu19⟩) (by assumption) ?ru19
          case hu19 => (intro wS hSw; (try dsimp only at hSw); (try clear hSw); go_simp <;> (with_reducible rfl))
          (try simp only [Act.put, List.setIfInBounds_toArray, List.set_cons_zero, List.set_cons_succ, List.getElem_toArray, List.getElem_cons_zero, List.getElem_cons_succ])
          refine wpAnyH_take (i := 10) (v := ?vu20) rfl (by kernel_rfl) (by kernel_rfl) (by kernel_rfl) (fun _ _ _ h => h) (Or.inl ⟨by rfl, ?hu20⟩) (by assumption) ?ru20
          case hu20 => (intro wS hSw; (try dsimp only at hSw); (try clear hSw); go_simp <;> (with_reducible rfl))
          (try simp only [Act.put, List.setIfInBounds_toArray, List.set_cons_zero, List.set_cons_succ, List.getElem_toArray, List.getElem_cons_zero, List.getElem_cons_succ])
          refine wpAnyH_ready (rs := [13]) (by kernel_rfl) (by simp) ?_
          refine AllReadyH.cons rfl (fun K hK => ?_) AllReadyH.nil
          have B : Below W1.heap.size W1 w2 := (lo_step (lo_step (lo_step (lo_step (Below.refl W1.heap.size W1) hb1) bA) bB) hb2)
          have B1 : Below W1.heap.size W1 w1 := (lo_step (Below.refl W1.heap.size W1) hb1)
          have B2 : Below W1.heap.size W1 WA := (lo_step (lo_step (Below.refl W1.heap.size W1) hb1) bA)
          have h0 := B1.size
          have h9 := B2.size
          have rx := blk_low rA (lo_step (lo_step (Below.refl WA.heap.size WA) bB) hb2)
          have rp : RowP w2 WA.heap.size Pg.zero := ⟨blk_low rB (lo_step (Below.refl WB.heap.size WB) hb2)⟩
          obtain ⟨n0, n1, n2, n3, nf⟩ := four_H rx
          obtain ⟨p0, p1, p2, p3, p4, p5, p6, p7, p8, p9, p10⟩ := rp.cells
          have pf := set_one_page rp
          have N := HE.out.next B (hD.low (Below.refl w2.heap.size w2)) h0 (Array.getElem?_eq_some_iff.1 rx).1 (Nat.le_refl _) rx
          have N2 := Lib.hid (N.page (RowP.far_H rp (fun e => ne_HP rx rp.row e.symm)) (by omega) (Array.getElem?_eq_some_iff.1 rp.row).1 D)
          have hne1 : ¬ w1.heap.size = WA.heap.size := ne_HP rx rp.row
          have hne2 : ¬ WA.heap.size = w1.heap.size := fun e => hne1 e.symm
          clear N
          go_simp
          refine hK.out _ _ (HE.out.low ((((B.setCell (p := ⟨w1.heap.size, 0, none⟩) h0 _).setCell (p := ⟨w1.heap.size, 1, none⟩) h0 _).setCell (p := ⟨w1.heap.size, 2, none⟩) h0 _).setCell (p := ⟨w1.heap.size, 3, none⟩) h0 _)) (fun hHeld => ?_)
          (try clear hK K)
          (try simp only [Act.put, List.setIfInBounds_toArray, List.set_cons_zero, List.set_cons_succ, List.getElem_toArray, List.getElem_cons_zero, List.getElem_cons_succ])
          refine wpAnyH_ready (rs := [14]) (by kernel_rfl) (by simp) ?_
          refine AllReadyH.cons rfl (fun K hK => ?_) AllReadyH.nil
          go_simp
          refine hK.out _ _ (HE.out.low (((((((((((((((B.setCell (p := ⟨w1.heap.size, 0, none⟩) h0 _).setCell (p := ⟨w1.heap.size, 1, none⟩) h0 _).setCell (p := ⟨w1.heap.size, 2, none⟩) h0 _).setCell (p := ⟨w1.heap.size, 3, none⟩) h0 _).setCell (p := ⟨WA.heap.size, 0, none⟩) h9 _).setCell (p := ⟨WA.heap.size, 1, none⟩) h9 _).setCell (p := ⟨WA.heap.size, 2, none⟩) h9 _).setCell (p := ⟨WA.heap.size, 3, none⟩) h9 _).setCell (p := ⟨WA.heap.size, 4, none⟩) h9 _).setCell (p := ⟨WA.heap.size, 5, none⟩) h9 _).setCell (p := ⟨WA.heap.size, 6, none⟩) h9 _).setCell (p := ⟨WA.heap.size, 7, none⟩) h9 _).setCell (p := ⟨WA.heap.size, 8, none⟩) h9 _).setCell (p := ⟨WA.heap.size, 9, none⟩) h9 _).setCell (p := ⟨WA.heap.size, 10, none⟩) h9 _)) (fun hHeld => ?_)
          (try clear hK K)
          (try simp only [Act.put, List.setIfInBounds_toArray, List.set_cons_zero, List.set_cons_succ, List.getElem_toArray, List.getElem_cons_zero, List.getElem_cons_succ])
          refine wpAnyH_take (i := 15) (v := ?vu21) rfl (by kernel_rfl) (by kernel_rfl) (by kernel_rfl) (fun _ _ _ h => h) (Or.inl ⟨by rfl, ?hu21⟩) (by assumption) ?ru21
          case hu21 => (intro wS hSw; (try dsimp only at hSw); (try clear hSw); go_simp <;> (with_reducible rfl))
          (try simp only [Act.put, List.setIfInBounds_toArray, List.set_cons_zero, List.set_cons_succ, List.getElem_toArray, List.getElem_cons_zero, List.getElem_cons_succ])
          refine wpAnyH_done (by kernel_rfl) ?_ _
          go_wp2_with fail
          go_meet
          exact ⟨_, _, _, _, _, rfl, rfl, rfl, (by simpa only [setCell_size] using N2.out.1), N2.out.2, by omega⟩
        exact AllReadyH.nil
      refine AllReadyH.cons rfl (fun K hK => ?_) ?_
      · go_simp
        have rB := heap_alloc_new w1 (.cells #[.int .u64 0, .int .i64 0, .int .u64 0, .bool false, .bool false, .bool false, .bool false, .bool false, .bool false, .bool false, .bool false] 38)
        have bB : Below w1.heap.size w1 (w1.alloc (.cells #[.int .u64 0, .int .i64 0, .int .u64 0, .bool false, .bool false, .bool false, .bool false, .bool false, .bool false, .bool false, .bool false] 38)) := (Below.refl _ _).alloc (Nat.le_refl _) _
        generalize w1.alloc (.cells #[.int .u64 0, .int .i64 0, .int .u64 0, .bool false, .bool false, .bool false, .bool false, .bool false, .bool false, .bool false, .bool false] 38) = WB at rB bB ⊢
        refine hK.out _ _ (hHeld.low bB) (fun hHeld => ?_)
        (try clear hK K)
        (try simp only [Act.put, List.setIfInBounds_toArray, List.set_cons_zero, List.set_cons_succ, List.getElem_toArray, List.getElem_cons_zero, List.getElem_cons_succ])
        refine wpAnyH_ready (rs := [6, 11]) (by kernel_rfl) (by simp) ?_
        refine AllReadyH.cons rfl (fun K hK => ?_) ?_
        · go_simp
          refine (C1.out _ hHeld).mono ?_; rintro r w2 ⟨v', t', U', rfl, hD, hb2⟩
          obtain ⟨⟨ao5, cp5, rfl⟩, g5, cp6, rfl⟩ := hD.shape
          refine hK.out _ _ (hHeld.low hb2) (fun hHeld => ?_)
          (try clear hK K)
          (try simp only [Act.put, List.setIfInBounds_toArray, List.set_cons_zero, List.set_cons_succ, List.getElem_toArray, List.getElem_cons_zero, List.getElem_cons_succ])
          refine wpAnyH_take (i := 7) (v := ?vu22) rfl (by kernel_rfl) (by kernel_rfl) (by kernel_rfl) (fun _ _ _ h => h) (Or.inl ⟨by rfl, ?hu22⟩) (by assumption) ?ru22
          case hu22 => (intro wS hSw; (try dsimp only at hSw); (try clear hSw); go_simp <;> (with_reducible rfl))
          (try simp only [Act.put, List.setIfInBounds_toArray, List.set_cons_zero, List.set_cons_succ, List.getElem_toArray, List.getElem_cons_zero, List.getElem_cons_succ])
          refine wpAnyH_take (i := 8) (v := ?vu23) rfl (by kernel_rfl) (by kernel_rfl) (by kernel_rfl) (fun _ _ _ h => h) (Or.inl ⟨by rfl, ?hu23⟩) (by assumption) ?ru23
          case hu23 => (intro wS hSw; (try dsimp only at hSw); (try clear hSw); go_simp <;> (with_reducible rfl))
          (try simp only [Act.put, List.setIfInBounds_toArray, List.set_cons_zero, List.set_cons_succ, List.getElem_toArray, List.getElem_cons_zero, List.getElem_cons_succ])
          refine wpAnyH_take (i := 9) (v := ?vu24) rfl (by kernel_rfl) (by kernel_rfl) (by kernel_rfl) (fun _ _ _ h => h) (Or.inl ⟨by rfl, ?hu24⟩) (by assumption) ?ru24
          case hu24 => (intro wS hSw; (try dsimp only at hSw); (try clear hSw); go_simp <;> (with_reducible rfl))
          (try simp only [Act.put, List.setIfInBounds_toArray, List.set_cons_zero, List.set_cons_succ, List.getElem_toArray, List.getElem_cons_zero, List.getElem_cons_succ])
          refine wpAnyH_take (i := 10) (v := ?vu25) rfl (by kernel_rfl) (by kernel_rfl) (by kernel_rfl) (fun _ _ _ h => h) (Or.inl ⟨by rfl, ?hu25⟩) (by assumption) ?ru25
          case hu25 => (intro wS hSw; (try dsimp only at hSw); (try clear hSw); go_simp <;> (with_reducible rfl))
          (try simp only [Act.put, List.setIfInBounds_toArray, List.set_cons_zero, List.set_cons_succ, List.getElem_toArray, List.getElem_cons_zero, List.getElem_cons_succ])
          refine wpAnyH_ready (rs := [11]) (by kernel_rfl) (by simp) ?_
          refine AllReadyH.cons rfl (fun K hK => ?_) AllReadyH.nil
          go_simp
          have rA := heap_alloc_new w2 (.cells #[.int .i64 0, .slice none 0 0, .int .i64 0, .slice none 0 0] 30)
          have bA : Below w2.heap.size w2 (w2.alloc (.cells #[.int .i64 0, .slice none 0 0, .int .i64 0, .slice none 0 0] 30)) := (Below.refl _ _).alloc (Nat.le_refl _) _
          generalize w2.alloc (.cells #[.int .i64 0, .slice none 0 0, .int .i64 0, .slice none 0 0] 30) = WA at rA bA ⊢
          refine hK.out _ _ (hHeld.low bA) (fun hHeld => ?_)
          (try clear hK K)
          (try simp only [Act.put, List.setIfInBounds_toArray, List.set_cons_zero, List.set_cons_succ, List.getElem_toArray, List.getElem_cons_zero, List.getElem_cons_succ])
          refine wpAnyH_ready (rs := [13]) (by kernel_rfl) (by simp) ?_
          refine AllReadyH.cons rfl (fun K hK => ?_) AllReadyH.nil
          have B : Below W1.heap.size W1 WA := (lo_step (lo_step (lo_step (lo_step (Below.refl W1.heap.size W1) hb1) bB) hb2) bA)
          have B1 : Below W1.heap.size W1 w2 := (lo_step (lo_step (lo_step (Below.refl W1.heap.size W1) hb1) bB) hb2)
          have B2 : Below W1.heap.size W1 w1 := (lo_step (Below.refl W1.heap.size W1) hb1)
          have h0 := B1.size
          have h9 := B2.size
          have rx := blk_low rA (Below.refl WA.heap.size WA)
          have rp : RowP WA w1.heap.size Pg.zero := ⟨blk_low rB (lo_step (lo_step (Below.refl WB.heap.size WB) hb2) bA)⟩
          obtain ⟨n0, n1, n2, n3, nf⟩ := four_H rx
          obtain ⟨p0, p1, p2, p3, p4, p5, p6, p7, p8, p9, p10⟩ := rp.cells
          have pf := set_one_page rp
          have N := HE.out.next B (hD.low (lo_step (Below.refl w2.heap.size w2) bA)) h0 (Array.getElem?_eq_some_iff.1 rx).1 (Nat.le_refl _) rx
          have N2 := Lib.hid (N.page (RowP.far_H rp (fun e => ne_HP rx rp.row e.symm)) (by omega) (Array.getElem?_eq_some_iff.1 rp.row).1 D)
          have hne1 : ¬ w2.heap.size = w1.heap.size := ne_HP rx rp.row
          have hne2 : ¬ w1.heap.size = w2.heap.size := fun e => hne1 e.symm
          clear N
          go_simp
          refine hK.out _ _ (HE.out.low ((((B.setCell (p := ⟨w2.heap.size, 0, none⟩) h0 _).setCell (p := ⟨w2.heap.size, 1, none⟩) h0 _).setCell (p := ⟨w2.heap.size, 2, none⟩) h0 _).setCell (p := ⟨w2.heap.size, 3, none⟩) h0 _)) (fun hHeld => ?_)
          (try clear hK K)
          (try simp only [Act.put, List.setIfInBounds_toArray, List.set_cons_zero, List.set_cons_succ, List.getElem_toArray, List.getElem_cons_zero, List.getElem_cons_succ])
          refine wpAnyH_ready (rs := [14]) (by kernel_rfl) (by simp) ?_
          refine AllReadyH.cons rfl (fun K hK => ?_) AllReadyH.nil
          go_simp
          refine hK.out _ _ (HE.out.low (((((((((((((((B.setCell (p := ⟨w2.heap.size, 0, none⟩) h0 _).setCell (p := ⟨w2.heap.size, 1, none⟩) h0 _).setCell (p := ⟨w2.heap.size, 2, none⟩) h0 _).setCell (p := ⟨w2.heap.size, 3, none⟩) h0 _).setCell (p := ⟨w1.heap.size, 0, none⟩) h9 _).setCell (p := ⟨w1.heap.size, 1, none⟩) h9 _).setCell (p := ⟨w1.heap.size, 2, none⟩) h9 _).setCell (p := ⟨w1.heap.size, 3, none⟩) h9 _).setCell (p := ⟨w1.heap.size, 4, none⟩) h9 _).setCell (p := ⟨w1.heap.size, 5, none⟩) h9 _).setCell (p := ⟨w1.heap.size, 6, none⟩) h9 _).setCell (p := ⟨w1.heap.size, 7, none⟩) h9 _).setCell (p := ⟨w1.heap.size, 8, none⟩) h9 _).setCell (p := ⟨w1.heap.size, 9, none⟩) h9 _).setCell (p := ⟨w1.heap.size, 10, none⟩) h9 _)) (fun hHeld => ?_)
          (try clear hK K)
          (try simp only [Act.put, List.setIfInBounds_toArray, List.set_cons_zero, List.set_cons_succ, List.getElem_toArray, List.getElem_cons_zero, List.getElem_cons_succ])
          refine wpAnyH_take (i := 15) (v := ?vu26) rfl (by kernel_rfl) (by kernel_rfl) (by kernel_rfl) (fun _ _ _ h => h) (Or.inl ⟨by rfl, ?hu26⟩) (by assumption) ?ru26
          case hu26 => (intro wS hSw; (try dsimp only at hSw); (try clear hSw); go_simp <;> (with_reducible rfl))
          (try simp only [Act.put, List.setIfInBounds_toArray, List.set_cons_zero, List.set_cons_succ, List.getElem_toArray, List.getElem_cons_zero, List.getElem_cons_succ])
          refine wpAnyH_done (by kernel_rfl) ?_ _
          go_wp2_with fail
          go_meet
          exact ⟨_, _, _, _, _, rfl, rfl, rfl, (by simpa only [setCell_size] using N2.out.1), N2.out.2, by omega⟩
        refine AllReadyH.cons rfl (fun K hK => ?_) ?_
        · go_simp
          have rA := heap_alloc_new WB (.cells #[.int .i64 0, .slice none 0 0, .int .i64 0, .slice none 0 0] 30)
          have bA : Below WB.heap.size WB (WB.alloc (.cells #[.int .i64 0, .slice none 0 0, .int .i64 0, .slice none 0 0] 30)) := (Below.refl _ _).alloc (Nat.le_refl _) _
          generalize WB.alloc (.cells #[.int .i64 0, .slice none 0 0, .int .i64 0, .slice none 0 0] 30) = WA at rA bA ⊢
          refine hK.out _ _ (hHeld.low bA) (fun hHeld => ?_)
          (try clear hK K)
          (try simp only [Act.put, List.setIfInBounds_toArray, List.set_cons_zero, List.set_cons_succ, List.getElem_toArray, List.getElem_cons_zero, List.getElem_cons_succ])
          refine wpAnyH_ready (rs := [6]) (by kernel_rfl) (by simp) ?_
          refine AllReadyH.cons rfl (fun K hK => ?_) AllReadyH.nil
          go_simp
          refine (C1.out _ hHeld).mono ?_; rintro r w2 ⟨v', t', U', rfl, hD, hb2⟩
          obtain ⟨⟨ao5, cp5, rfl⟩, g5, cp6, rfl⟩ := hD.shape
          refine hK.out _ _ (hHeld.low hb2) (fun hHeld => ?_)
          (try clear hK K)
          (try simp only [Act.put, List.setIfInBounds_toArray, List.set_cons_zero, List.set_cons_succ, List.getElem_toArray, List.getElem_cons_zero, List.getElem_cons_succ])
          refine wpAnyH_take (i := 7) (v := ?vu27) rfl (by kernel_rfl) (by kernel_rfl) (by kernel_rfl) (fun _ _ _ h => h) (Or.inl ⟨by rfl, ?hu27⟩) (by assumption) ?ru27
          case hu27 => (intro wS hSw; (try dsimp only at hSw); (try clear hSw); go_simp <;> (with_reducible rfl))
          (try simp only [Act.put, List.setIfInBounds_toArray, List.set_cons_zero, List.set_cons_succ, List.getElem_toArray, List.getElem_cons_zero, List.getElem_cons_succ])
          refine wpAnyH_take (i := 8) (v := ?vu28) rfl (by kernel_rfl) (by kernel_rfl) (by kernel_rfl) (fun _ _ _ h => h) (Or.inl ⟨by rfl, ?hu28⟩) (by assumption) ?ru28
          case hu28 => (intro wS hSw; (try dsimp only at hSw); (try clear hSw); go_simp <;> (with_reducible rfl))
          (try simp only [Act.put, List.setIfInBounds_toArray, List.set_cons_zero, List.set_cons_succ, List.getElem_toArray, List.getElem_cons_zero, List.getElem_cons_succ])
          refine wpAnyH_take (i := 9) (v := ?vu29) rfl (by kernel_rfl) (by kernel_rfl) (by kernel_rfl) (fun _ _ _ h => h) (Or.inl ⟨by rfl, ?hu29⟩) (by assumption) ?ru29
          case hu29 => (intro wS hSw; (try dsimp only at hSw); (try clear hSw); go_simp <;> (with_reducible rfl))
          (try simp only [Act.put, List.setIfInBounds_toArray, List.set_cons_zero, List.set_cons_succ, List.getElem_toArray, List.getElem_cons_zero, List.getElem_cons_succ])
          refine wpAnyH_take (i := 10) (v := ?vu30) rfl (by kernel_rfl) (by kernel_rfl) (by kernel_rfl) (fun _ _ _ h => h) (Or.inl ⟨by rfl, ?hu30⟩) (by assumption) ?ru30
          case hu30 => (intro wS hSw; (try dsimp only at hSw); (try clear hSw); go_simp <;> (with_reducible rfl))
          (try simp only [Act.put, List.setIfInBounds_toArray, List.set_cons_zero, List.set_cons_succ, List.getElem_toArray, List.getElem_cons_zero, List.getElem_cons_succ])
          refine wpAnyH_ready (rs := [13]) (by kernel_rfl) (by simp) ?_
          refine AllReadyH.cons rfl (fun K hK => ?_) AllReadyH.nil
          have B : Below W1.heap.size W1 w2 := (lo_step (lo_step (lo_step (lo_step (Below.refl W1.heap.size W1) hb1) bB) bA) hb2)
          have B1 : Below W1.heap.size W1 WB := (lo_step (lo_step (Below.refl W1.heap.size W1) hb1) bB)
          have B2 : Below W1.heap.size W1 w1 := (lo_step (Below.refl W1.heap.size W1) hb1)
          have h0 := B1.size
          have h9 := B2.size
          have rx := blk_low rA (lo_step (Below.refl WA.heap.size WA) hb2)
          have rp : RowP w2 w1.heap.size Pg.zero := ⟨blk_low rB (lo_step (lo_step (Below.refl WB.heap.size WB) bA) hb2)⟩
          obtain ⟨n0, n1, n2, n3, nf⟩ := four_H rx
          obtain ⟨p0, p1, p2, p3, p4, p5, p6, p7, p8, p9, p10⟩ := rp.cells
          have pf := set_one_page rp
          have N := HE.out.next B (hD.low (Below.refl w2.heap.size w2)) h0 (Array.getElem?_eq_some_iff.1 rx).1 (Nat.le_refl _) rx
          have N2 := Lib.hid (N.page (RowP.far_H rp (fun e => ne_HP rx rp.row e.symm)) (by omega) (Array.getElem?_eq_some_iff.1 rp.row).1 D)
          have hne1 : ¬ WB.heap.size = w1.heap.size := ne_HP rx rp.row
          have hne2 : ¬ w1.heap.size = WB.heap.size := fun e => hne1 e.symm
          clear N
          go_simp
          refine hK.out _ _ (HE.out.low ((((B.setCell (p := ⟨WB.heap.size, 0, none⟩) h0 _).setCell (p := ⟨WB.heap.size, 1, none⟩) h0 _).setCell (p := ⟨WB.heap.size, 2, none⟩) h0 _).setCell (p := ⟨WB.heap.size, 3, none⟩) h0 _)) (fun hHeld => ?_)
          (try clear hK K)
          (try simp only [Act.put, List.setIfInBounds_toArray, List.set_cons_zero, List.set_cons_succ, List.getElem_toArray, List.getElem_cons_zero, List.getElem_cons_succ])
          refine wpAnyH_ready (rs := [14]) (by kernel_rfl) (by simp) ?_
          refine AllReadyH.cons rfl (fun K hK => ?_) AllReadyH.nil
          go_simp
          refine hK.out _ _ (HE.out.low (((((((((((((((B.setCell (p := ⟨WB.heap.size, 0, none⟩) h0 _).setCell (p := ⟨WB.heap.size, 1, none⟩) h0 _).setCell (p := ⟨WB.heap.size, 2, none⟩) h0 _).setCell (p := ⟨WB.heap.size, 3, none⟩) h0 _).setCell (p := ⟨w1.heap.size, 0, none⟩) h9 _).setCell (p := ⟨w1.heap.size, 1, none⟩) h9 _).setCell (p := ⟨w1.heap.size, 2, none⟩) h9 _).setCell (p := ⟨w1.heap.size, 3, none⟩) h9 _).setCell (p := ⟨w1.heap.size, 4, none⟩) h9 _).setCell (p := ⟨w1.heap.size, 5, none⟩) h9 _).setCell (p := ⟨w1.heap.size, 6, none⟩) h9 _).setCell (p := ⟨w1.heap.size, 7, none⟩) h9 _).setCell (p := ⟨w1.heap.size, 8, none⟩) h9 _).setCell (p := ⟨w1.heap.size, 9, none⟩) h9 _).setCell (p := ⟨w1.heap.size, 10, none⟩) h9 _)) (fun hHeld => ?_)
          (try clear hK K)
          (try simp only [Act.put, List.setIfInBounds_toArray, List.set_cons_zero, List.set_cons_succ, List.getElem_toArray, List.getElem_cons_zero, List.getElem_cons_succ])
          refine wpAnyH_take (i := 15) (v := ?vu31) rfl (by kernel_rfl) (by kernel_rfl) (by kernel_rfl) (fun _ _ _ h => h) (Or.inl ⟨by rfl, ?hu31⟩) (by assumption) ?ru31
          case hu31 => (intro wS hSw; (try dsimp only at hSw); (try clear hSw); go_simp <;> (with_reducible rfl))
          (try simp only [Act.put, List.setIfInBounds_toArray, List.set_cons_zero, List.set_cons_succ, List.getElem_toArray, List.getElem_cons_zero, List.getElem_cons_succ])
          refine wpAnyH_done (by kernel_rfl) ?_ _
          go_wp2_with fail
          go_meet
          exact ⟨_, _, _, _, _, rfl, rfl, rfl, (by simpa only [setCell_size] using N2.out.1), N2.out.2, by omega⟩
        exact AllReadyH.nil
      exact AllReadyH.nil
    refine AllReadyH.cons rfl (fun K hK => ?_) ?_
    · go_simp
      have rA := heap_alloc_new W1 (.cells #[.int .i64 0, .slice none 0 0, .int .i64 0, .slice none 0 0] 30)
      have bA : Below W1.heap.size W1 (W1.alloc (.cells #[.int .i64 0, .slice none 0 0, .int .i64 0, .slice none 0 0] 30)) := (Below.refl _ _).alloc (Nat.le_refl _) _
      generalize W1.alloc (.cells #[.int .i64 0, .slice none 0 0, .int .i64 0, .slice none 0 0] 30) = WA at rA bA ⊢
      refine hK.out _ _ (hHeld.low bA) (fun hHeld => ?_)
      (try clear hK K)
      (try simp only [Act.put, List.setIfInBounds_toArray, List.set_cons_zero, List.set_cons_succ, List.getElem_toArray, List.getElem_cons_zero, List.getElem_cons_succ])
      refine wpAnyH_ready (rs := [5, 12]) (by kernel_rfl) (by simp) ?_
      refine AllReadyH.cons rfl (fun K hK => ?_) ?_
      · go_simp
        refine (CA.out _ hHeld.x.dh).mono ?_; rintro r w1 ⟨rfl, hb1⟩
        refine hK.out _ _ (hHeld.low hb1) (fun hHeld => ?_)
        (try clear hK K)
        (try simp only [Act.put, List.setIfInBounds_toArray, List.set_cons_zero, List.set_cons_succ, List.getElem_toArray, List.getElem_cons_zero, List.getElem_cons_succ])
        refine wpAnyH_ready (rs := [6, 12]) (by kernel_rfl) (by simp) ?_
        refine AllReadyH.cons rfl (fun K hK => ?_) ?_
        · go_simp
          refine (C1.out _ hHeld).mono ?_; rintro r w2 ⟨v', t', U', rfl, hD, hb2⟩
          obtain ⟨⟨ao5, cp5, rfl⟩, g5, cp6, rfl⟩ := hD.shape
          refine hK.out _ _ (hHeld.low hb2) (fun hHeld => ?_)
          (try clear hK K)
          (try simp only [Act.put, List.setIfInBounds_toArray, List.set_cons_zero, List.set_cons_succ, List.getElem_toArray, List.getElem_cons_zero, List.getElem_cons_succ])
          refine wpAnyH_take (i := 7) (v := ?vu32) rfl (by kernel_rfl) (by kernel_rfl) (by kernel_rfl) (fun _ _ _ h => h) (Or.inl ⟨by rfl, ?hu32⟩) (by assumption) ?ru32
          case hu32 => (intro wS hSw; (try dsimp only at hSw); (try clear hSw); go_simp <;> (with_reducible rfl))
          (try simp only [Act.put, List.setIfInBounds_toArray, List.set_cons_zero, List.set_cons_succ, List.getElem_toArray, List.getElem_cons_zero, List.getElem_cons_succ])
          refine wpAnyH_take (i := 8) (v := ?vu33) rfl (by kernel_rfl) (by kernel_rfl) (by kernel_rfl) (fun _ _ _ h => h) (Or.inl ⟨by rfl, ?hu33⟩) (by assumption) ?ru33
          case hu33 => (intro wS hSw; (try dsimp only at hSw); (try clear hSw); go_simp <;> (with_reducible rfl))
          (try simp only [Act.put, List.setIfInBounds_toArray, List.set_cons_zero, List.set_cons_succ, List.getElem_toArray, List.getElem_cons_zero, List.getElem_cons_succ])
          refine wpAnyH_take (i := 9) (v := ?vu34) rfl (by kernel_rfl) (by kernel_rfl) (by kernel_rfl) (fun _ _ _ h => h) (Or.inl ⟨by rfl, ?hu34⟩) (by assumption) ?ru34
          case hu34 => (intro wS hSw; (try dsimp only at hSw); (try clear hSw); go_simp <;> (with_reducible rfl))
          (try simp only [Act.put, List.setIfInBounds_toArray, List.set_cons_zero, List.set_cons_succ, List.getElem_toArray, List.getElem_cons_zero, List.getElem_cons_succ])
          refine wpAnyH_take (i := 10) (v := ?vu35) rfl (by kernel_rfl) (by kernel_rfl) (by kernel_rfl) (fun _ _ _ h => h) (Or.inl ⟨by rfl, ?hu35⟩) (by assumption) ?ru35
          case hu35 => (intro wS hSw; (try dsimp only at hSw); (try clear hSw); go_simp <;> (with_reducible rfl))
          (try simp only [Act.put, List.setIfInBounds_toArray, List.set_cons_zero, List.set_cons_succ, List.getElem_toArray, List.getElem_cons_zero, List.getElem_cons_succ])
          refine wpAnyH_ready (rs := [12]) (by kernel_rfl) (by simp) ?_
          refine AllReadyH.cons rfl (fun K hK => ?_) AllReadyH.nil
          go_simp
          have rB := heap_alloc_new w2 (.cells #[.int .u64 0, .int .i64 0, .int .u64 0, .bool false, .bool false, .bool false, .bool false, .bool false, .bool false, .bool false, .bool false] 38)
          have bB : Below w2.heap.size w2 (w2.alloc (.cells #[.int .u64 0, .int .i64 0, .int .u64 0, .bool false, .bool false, .bool false, .bool false, .bool false, .bool false, .bool false, .bool false] 38)) := (Below.refl _ _).alloc (Nat.le_refl _) _
          generalize w2.alloc (.cells #[.int .u64 0, .int .i64 0, .int .u64 0, .bool false, .bool false, .bool false, .bool false, .bool false, .bool false, .bool false, .bool false] 38) = WB at rB bB ⊢
          refine hK.out _ _ (hHeld.low bB) (fun hHeld => ?_)
          (try clear hK K)
          (try simp only [Act.put, List.setIfInBounds_toArray, List.set_cons_zero, List.set_cons_succ, List.getElem_toArray, List.getElem_cons_zero, List.getElem_cons_succ])
          refine wpAnyH_ready (rs := [13]) (by kernel_rfl) (by simp) ?_
          refine AllReadyH.cons rfl (fun K hK => ?_) AllReadyH.nil
          have B : Below W1.heap.size W1 WB := (lo_step (lo_step (lo_step (lo_step (Below.refl W1.heap.size W1) bA) hb1) hb2) bB)
          have B1 : Below W1.heap.size W1 W1 := (Below.refl W1.heap.size W1)
          have B2 : Below W1.heap.size W1 w2 := (lo_step (lo_step (lo_step (Below.refl W1.heap.size W1) bA) hb1) hb2)
          have h0 := B1.size
          have h9 := B2.size
          have rx := blk_low rA (lo_step (lo_step (lo_step (Below.refl WA.heap.size WA) hb1) hb2) bB)
          have rp : RowP WB w2.heap.size Pg.zero := ⟨blk_low rB (Below.refl WB.heap.size WB)⟩
          obtain ⟨n0, n1, n2, n3, nf⟩ := four_H rx
          obtain ⟨p0, p1, p2, p3, p4, p5, p6, p7, p8, p9, p10⟩ := rp.cells
          have pf := set_one_page rp
          have N := HE.out.next B (hD.low (lo_step (Below.refl w2.heap.size w2) bB)) h0 (Array.getElem?_eq_some_iff.1 rx).1 (Nat.le_refl _) rx
          have N2 := Lib.hid (N.page (RowP.far_H rp (fun e => ne_HP rx rp.row e.symm)) (by omega) (Array.getElem?_eq_some_iff.1 rp.row).1 D)
          have hne1 : ¬ W1.heap.size = w2.heap.size := ne_HP rx rp.row
          have hne2 : ¬ w2.heap.size = W1.heap.size := fun e => hne1 e.symm
          clear N
          go_simp
          refine hK.out _ _ (HE.out.low ((((B.setCell (p := ⟨W1.heap.size, 0, none⟩) h0 _).setCell (p := ⟨W1.heap.size, 1, none⟩) h0 _).setCell (p := ⟨W1.heap.size, 2, none⟩) h0 _).setCell (p := ⟨W1.heap.size, 3, none⟩) h0 _)) (fun hHeld => ?_)
          (try clear hK K)
          (try simp only [Act.put, List.setIfInBounds_toArray, List.set_cons_zero, List.set_cons_succ, List.getElem_toArray, List.getElem_cons_zero, List.getElem_cons_succ])
          refine wpAnyH_ready (rs := [14]) (by kernel_rfl) (by simp) ?_
          refine AllReadyH.cons rfl (fun K hK => ?_) AllReadyH.nil
          go_simp
          refine hK.out _ _ (HE.out.low (((((((((((((((B.setCell (p := ⟨W1.heap.size, 0, none⟩) h0 _).setCell (p := ⟨W1.heap.size, 1, none⟩) h0 _).setCell (p := ⟨W1.heap.size, 2, none⟩) h0 _).setCell (p := ⟨W1.heap.size, 3, none⟩) h0 _).setCell (p := ⟨w2.heap.size, 0, none⟩) h9 _).setCell (p := ⟨w2.heap.size, 1, none⟩) h9 _).setCell (p := ⟨w2.heap.size, 2, none⟩) h9 _).setCell (p := ⟨w2.heap.size, 3, none⟩) h9 _).setCell (p := ⟨w2.heap.size, 4, none⟩) h9 _).setCell (p := ⟨w2.heap.size, 5, none⟩) h9 _).setCell (p := ⟨w2.heap.size, 6, none⟩) h9 _).setCell (p := ⟨w2.heap.size, 7, none⟩) h9 _).setCell (p := ⟨w2.heap.size, 8, none⟩) h9 _).setCell (p := ⟨w2.heap.size, 9, none⟩) h9 _).setCell (p := ⟨w2.heap.size, 10, none⟩) h9 _)) (fun hHeld => ?_)
          (try clear hK K)
          (try simp only [Act.put, List.setIfInBounds_toArray, List.set_cons_zero, List.set_cons_succ, List.getElem_toArray, List.getElem_cons_zero, List.getElem_cons_succ])
          refine wpAnyH_take (i := 15) (v := ?vu36) rfl (by kernel_rfl) (by kernel_rfl) (by kernel_rfl) (fun _ _ _ h => h) (Or.inl ⟨by rfl, ?hu36⟩) (by assumption) ?ru36
          case hu36 => (intro wS hSw; (try dsimp only at hSw); (try clear hSw); go_simp <;> (with_reducible rfl))
          (try simp only [Act.put, List.setIfInBounds_toArray, List.set_cons_zero, List.set_cons_succ, List.getElem_toArray, List.getElem_cons_zero, List.getElem_cons_succ])
          refine wpAnyH_done (by kernel_rfl) ?_ _
          go_wp2_with fail
          go_meet
          exact ⟨_, _, _, _, _, rfl, rfl, rfl, (by simpa only [setCell_size] using N2.out.1), N2.out.2, by omega⟩
        refine AllReadyH.cons rfl (fun K hK => ?_) ?_
        · go_simp
          have rB := heap_alloc_new w1 (.cells #[.int .u64 0, .int .i64 0, .int .u64 0, .bool false, .bool false, .bool false, .bool false, .bool false, .bool false, .bool false, .bool false] 38)
          have bB : Below w1.heap.size w1 (w1.alloc (.cells #[.int .u64 0, .int .i64 0, .int .u64 0, .bool false, .bool false, .bool false, .bool false, .bool false, .bool false, .bool false, .bool false] 38)) := (Below.refl _ _).alloc (Nat.le_refl _) _
          generalize w1.alloc (.cells #[.int .u64 0, .int .i64 0, .int .u64 0, .bool false, .bool false, .bool false, .bool false, .bool false, .bool false, .bool false, .bool false] 38) = WB at rB bB ⊢
          refine hK.out _ _ (hHeld.low bB) (fun hHeld => ?_)
          (try clear hK K)
          (try simp only [Act.put, List.setIfInBounds_toArray, List.set_cons_zero, List.set_cons_succ, List.getElem_toArray, List.getElem_cons_zero, List.getElem_cons_succ])
          refine wpAnyH_ready (rs := [6]) (by kernel_rfl) (by simp) ?_
          refine AllReadyH.cons rfl (fun K hK => ?_) AllReadyH.nil
          go_simp
          refine (C1.out _ hHeld).mono ?_; rintro r w2 ⟨v', t', U', rfl, hD, hb2⟩
          obtain ⟨⟨ao5, cp5, rfl⟩, g5, cp6, rfl⟩ := hD.shape
          refine hK.out _ _ (hHeld.low hb2) (fun hHeld => ?_)
          (try clear hK K)
          (try simp only [Act.put, List.setIfInBounds_toArray, List.set_cons_zero, List.set_cons_succ, List.getElem_toArray, List.getElem_cons_zero, List.getElem_cons_succ])
          refine wpAnyH_take (i := 7) (v := ?vu37) rfl (by kernel_rfl) (by kernel_rfl) (by kernel_rfl) (fun _ _ _ h => h) (Or.inl ⟨by rfl, ?hu37⟩) (by assumption) ?ru37
          case hu37 => (intro wS hSw; (try dsimp only at hSw); (try clear hSw); go_simp <;> (with_reducible rfl))
          (try simp only [Act.put, List.setIfInBounds_toArray, List.set_cons_zero, List.set_cons_succ, List.getElem_toArray, List.getElem_cons_zero, List.getElem_cons_succ])
          refine wpAnyH_take (i := 8) (v := ?vu38) rfl (by kernel_rfl) (by kernel_rfl) (by kernel_rfl) (fun _ _ _ h => h) (Or.inl ⟨by rfl, ?hu38⟩) (by assumption) ?ru38
          case hu38 => (intro wS hSw; (try dsimp only at hSw); (try clear hSw); go_simp <;> (with_reducible rfl))
          (try simp only [Act.put, List.setIfInBounds_toArray, List.set_cons_zero, List.set_cons_succ, List.getElem_toArray, List.getElem_cons_zero, List.getElem_cons_succ])
          refine wpAnyH_take (i := 9) (v := ?vu39) rfl (by kernel_rfl) (by kernel_rfl) (by kernel_rfl) (fun _ _ _ h => h) (Or.inl ⟨by rfl, ?hu39⟩) (by assumption) ?ru39
          case hu39 => (intro wS hSw; (try dsimp only at hSw); (try clear hSw); go_simp <;> (with_reducible rfl))
          (try simp only [Act.put, List.setIfInBounds_toArray, List.set_cons_zero, List.set_cons_succ, List.getElem_toArray, List.getElem_cons_zero, List.getElem_cons_succ])
          refine wpAnyH_take (i := 10) (v := ?vu40) rfl (by kernel_rfl) (by kernel_rfl) (by kernel_rfl) (fun _ _ _ h => h) (Or.inl ⟨by rfl, ?hu40⟩) (by assumption) ?ru40
          case hu40 => (intro wS hSw; (try dsimp only at hSw); (try clear hSw); go_simp <;> (with_reducible rfl))
          (try simp only [Act.put, List.setIfInBounds_toArray, List.set_cons_zero, List.set_cons_succ, List.getElem_toArray, List.getElem_cons_zero, List.getElem_cons_succ])
          refine wpAnyH_ready (rs := [13]) (by kernel_rfl) (by simp) ?_
          refine AllReadyH.cons rfl (fun K hK => ?_) AllReadyH.nil
          have B : Below W1.heap.size W1 w2 := (lo_step (lo_step (lo_step (lo_step (Below.refl W1.heap.size W1) bA) hb1) bB) hb2)
          have B1 : Below W1.heap.size W1 W1 := (Below.refl W1.heap.size W1)
          have B2 : Below W1.heap.size W1 w1 := (lo_step (lo_step (Below.refl W1.heap.size W1) bA) hb1)
          have h0 := B1.size
          have h9 := B2.size
          have rx := blk_low rA (lo_step (lo_step (lo_step (Below.refl WA.heap.size WA) hb1) bB) hb2)
          have rp : RowP w2 w1.heap.size Pg.zero := ⟨blk_low rB (lo_step (Below.refl WB.heap.size WB) hb2)⟩
          obtain ⟨n0, n1, n2, n3, nf⟩ := four_H rx
          obtain ⟨p0, p1, p2, p3, p4, p5, p6, p7, p8, p9, p10⟩ := rp.cells
          have pf := set_one_page rp
          have N := HE.out.next B (hD.low (Below.refl w2.heap.size w2)) h0 (Array.getElem?_eq_some_iff.1 rx).1 (Nat.le_refl _) rx
          have N2 := Lib.hid (N.page (RowP.far_H rp (fun e => ne_HP rx rp.row e.symm)) (by omega) (Array.getElem?_eq_some_iff.1 rp.row).1 D)
          have hne1 : ¬ W1.heap.size = w1.heap.size := ne_HP rx rp.row
          have hne2 : ¬ w1.heap.size = W1.heap.size := fun e => hne1 e.symm
          clear N
          go_simp
          refine hK.out _ _ (HE.out.low ((((B.setCell (p := ⟨W1.heap.size, 0, none⟩) h0 _).setCell (p := ⟨W1.heap.size, 1, none⟩) h0 _).setCell (p := ⟨W1.heap.size, 2, none⟩) h0 _).setCell (p := ⟨W1.heap.size, 3, none⟩) h0 _)) (fun hHeld => ?_)
          (try clear hK K)
          (try simp only [Act.put, List.setIfInBounds_toArray, List.set_cons_zero, List.set_cons_succ, List.getElem_toArray, List.getElem_cons_zero, List.getElem_cons_succ])
          refine wpAnyH_ready (rs := [14]) (by kernel_rfl) (by simp) ?_
          refine AllReadyH.cons rfl (fun K hK => ?_) AllReadyH.nil
          go_simp
          refine hK.out _ _ (HE.out.low (((((((((((((((B.setCell (p := ⟨W1.heap.size, 0, none⟩) h0 _).setCell (p := ⟨W1.heap.size, 1, none⟩) h0 _).setCell (p := ⟨W1.heap.size, 2, none⟩) h0 _).setCell (p := ⟨W1.heap.size, 3, none⟩) h0 _).setCell (p := ⟨w1.heap.size, 0, none⟩) h9 _).setCell (p := ⟨w1.heap.size, 1, none⟩) h9 _).setCell (p := ⟨w1.heap.size, 2, none⟩) h9 _).setCell (p := ⟨w1.heap.size, 3, none⟩) h9 _).setCell (p := ⟨w1.heap.size, 4, none⟩) h9 _).setCell (p := ⟨w1.heap.size, 5, none⟩) h9 _).setCell (p := ⟨w1.heap.size, 6, none⟩) h9 _).setCell (p := ⟨w1.heap.size, 7, none⟩) h9 _).setCell (p := ⟨w1.heap.size, 8, none⟩) h9 _).setCell (p := ⟨w1.heap.size, 9, none⟩) h9 _).setCell (p := ⟨w1.heap.size, 10, none⟩) h9 _)) (fun hHeld => ?_)
          (try clear hK K)
          (try simp only [Act.put, List.setIfInBounds_toArray, List.set_cons_zero, List.set_cons_succ, List.getElem_toArray, List.getElem_cons_zero, List.getElem_cons_succ])
          refine wpAnyH_take (i := 15) (v := ?vu41) rfl (by kernel_rfl) (by kernel_rfl) (by kernel_rfl) (fun _ _ _ h => h) (Or.inl ⟨by rfl, ?hu41⟩) (by assumption) ?ru41
          case hu41 => (intro wS hSw; (try dsimp only at hSw); (try clear hSw); go_simp <;> (with_reducible rfl))
          (try simp only [Act.put, List.setIfInBounds_toArray, List.set_cons_zero, List.set_cons_succ, List.getElem_toArray, List.getElem_cons_zero, List.getElem_cons_succ])
          refine wpAnyH_done (by kernel_rfl) ?_ _
          go_wp2_with fail
          go_meet
          exact ⟨_, _, _, _, _, rfl, rfl, rfl, (by simpa only [setCell_size] using N2.out.1), N2.out.2, by omega⟩
        exact AllReadyH.nil
      refine AllReadyH.cons rfl (fun K hK => ?_) ?_
      · go_simp
        have rB := heap_alloc_new WA (.cells #[.int .u64 0, .int .i64 0, .int .u64 0, .bool false, .bool false, .bool false, .bool false, .bool false, .bool false, .bool false, .bool false] 38)
        have bB : Below WA.heap.size WA (WA.alloc (.cells #[.int .u64 0, .int .i64 0, .int .u64 0, .bool false, .bool false, .bool false, .bool false, .bool false, .bool false, .bool false, .bool false] 38)) := (Below.refl _ _).alloc (Nat.le_refl _) _
        generalize WA.alloc (.cells #[.int .u64 0, .int .i64 0, .int .u64 0, .bool false, .bool false, .bool false, .bool false, .bool false, .bool false, .bool false, .bool false] 38) = WB at rB bB ⊢
        refine hK.out _ _ (hHeld.low bB) (fun hHeld => ?_)
        (try clear hK K)
        (try simp only [Act.put, List.setIfInBounds_toArray, List.set_cons_zero, List.set_cons_succ, List.getElem_toArray, List.getElem_cons_zero, List.getElem_cons_succ])
        refine wpAnyH_ready (rs := [5]) (by kernel_rfl) (by simp) ?_
        refine AllReadyH.cons rfl (fun K hK => ?_) AllReadyH.nil
        go_simp
        refine (CA.out _ hHeld.x.dh).mono ?_; rintro r w1 ⟨rfl, hb1⟩
        refine hK.out _ _ (hHeld.low hb1) (fun hHeld => ?_)
        (try clear hK K)
        (try simp only [Act.put, List.setIfInBounds_toArray, List.set_cons_zero, List.set_cons_succ, List.getElem_toArray, List.getElem_cons_zero, List.getElem_cons_succ])
        refine wpAnyH_ready (rs := [6]) (by kernel_rfl) (by simp) ?_
        refine AllReadyH.cons rfl (fun K hK => ?_) AllReadyH.nil
        go_simp
        refine (C1.out _ hHeld).mono ?_; rintro r w2 ⟨v', t', U', rfl, hD, hb2⟩
        obtain ⟨⟨ao5, cp5, rfl⟩, g5, cp6, rfl⟩ := hD.shape
        refine hK.out _ _ (hHeld.low hb2) (fun hHeld => ?_)
        (try clear hK K)
        (try simp only [Act.put, List.setIfInBounds_toArray, List.set_cons_zero, List.set_cons_succ, List.getElem_toArray, List.getElem_cons_zero, List.getElem_cons_succ])
        refine wpAnyH_take (i := 7) (v := ?vu42) rfl (by kernel_rfl) (by kernel_rfl) (by kernel_rfl) (fun _ _ _ h => h) (Or.inl ⟨by rfl, ?hu42⟩) (by assumption) ?ru42
        case hu42 => (intro wS hSw; (try dsimp only at hSw); (try clear hSw); go_simp <;> (with_reducible rfl))
        (try simp only [Act.put, List.setIfInBounds_toArray, List.set_cons_zero, List.set_cons_succ, List.getElem_toArray, List.getElem_cons_zero, List.getElem_cons_succ])
        refine wpAnyH_take (i := 8) (v := ?vu43) rfl (by kernel_rfl) (by kernel_rfl) (by kernel_rfl) (fun _ _ _ h => h) (Or.inl ⟨by rfl, ?hu43⟩) (by assumption) ?ru43
        case hu43 => (intro wS hSw; (try dsimp only at hSw); (try clear hSw); go_simp <;> (with_reducible rfl))
        (try simp only [Act.put, List.setIfInBounds_toArray, List.set_cons_zero, List.set_cons_succ, List.getElem_toArray, List.getElem_cons_zero, List.getElem_cons_succ])
        refine wpAnyH_take (i := 9) (v := ?vu44) rfl (by kernel_rfl) (by kernel_rfl) (by kernel_rfl) (fun _ _ _ h => h) (Or.inl ⟨by rfl, ?hu44⟩) (by assumption) ?ru44
        case hu44 => (intro wS hSw; (try dsimp only at hSw); (try clear hSw); go_simp <;> (with_reducible rfl))
        (try simp only [Act.put, List.setIfInBounds_toArray, List.set_cons_zero, List.set_cons_succ, List.getElem_toArray, List.getElem_cons_zero, List.getElem_cons_succ])
        refine wpAnyH_take (i := 10) (v := ?vu45) rfl (by kernel_rfl) (by kernel_rfl) (by kernel_rfl) (fun _ _ _ h => h) (Or.inl ⟨by rfl, ?hu45⟩) (by assumption) ?ru45
        case hu45 => (intro wS hSw; (try dsimp only at hSw); (try clear hSw); go_simp <;> (with_reducible rfl))
        (try simp only [Act.put, List.setIfInBounds_toArray, List.set_cons_zero, List.set_cons_succ, List.getElem_toArray, List.getElem_cons_zero, List.getElem_cons_succ])
        refine wpAnyH_ready (rs := [13]) (by kernel_rfl) (by simp) ?_
        refine AllReadyH.cons rfl (fun K hK => ?_) AllReadyH.nil
        have B : Below W1.heap.size W1 w2 := (lo_step (lo_step (lo_step (lo_step (Below.refl W1.heap.size W1) bA) bB) hb1) hb2)
        have B1 : Below W1.heap.size W1 W1 := (Below.refl W1.heap.size W1)
        have B2 : Below W1.heap.size W1 WA := (lo_step (Below.refl W1.heap.size W1) bA)
        have h0 := B1.size
        have h9 := B2.size
        have rx := blk_low rA (lo_step (lo_step (lo_step (Below.refl WA.heap.size WA) bB) hb1) hb2)
        have rp : RowP w2 WA.heap.size Pg.zero := ⟨blk_low rB (lo_step (lo_step (Below.refl WB.heap.size WB) hb1) hb2)⟩
        obtain ⟨n0, n1, n2, n3, nf⟩ := four_H rx
        obtain ⟨p0, p1, p2, p3, p4, p5, p6, p7, p8, p9, p10⟩ := rp.cells
        have pf := set_one_page rp
        have N := HE.out.next B (hD.low (Below.refl w2.heap.size w2)) h0 (Array.getElem?_eq_some_iff.1 rx).1 (Nat.le_refl _) rx
        have N2 := Lib.hid (N.page (RowP.far_H rp (fun e => ne_HP rx rp.row e.symm)) (by omega) (Array.getElem?_eq_some_iff.1 rp.row).1 D)
        have hne1 : ¬ W1.heap.size = WA.heap.size := ne_HP rx rp.row
        have hne2 : ¬ WA.heap.size = W1.heap.size := fun e => hne1 e.symm
        clear N
        go_simp
        refine hK.out _ _ (HE.out.low ((((B.setCell (p := ⟨W1.heap.size, 0, none⟩) h0 _).setCell (p := ⟨W1.heap.size, 1, none⟩) h0 _).setCell (p := ⟨W1.heap.size, 2, none⟩) h0 _).setCell (p := ⟨W1.heap.size, 3, none⟩) h0 _)) (fun hHeld => ?_)
        (try clear hK K)
        (try simp only [Act.put, List.setIfInBounds_toArray, List.set_cons_zero, List.set_cons_succ, List.getElem_toArray, List.getElem_cons_zero, List.getElem_cons_succ])
        refine wpAnyH_ready (rs := [14]) (by kernel_rfl) (by simp) ?_
        refine AllReadyH.cons rfl (fun K hK => ?_) AllReadyH.nil
        go_simp
        refine hK.out _ _ (HE.out.low (((((((((((((((B.setCell (p := ⟨W1.heap.size, 0, none⟩) h0 _).setCell (p := ⟨W1.heap.size, 1, none⟩) h0 _).setCell (p := ⟨W1.heap.size, 2, none⟩) h0 _).setCell (p := ⟨W1.heap.size, 3, none⟩) h0 _).setCell (p := ⟨WA.heap.size, 0, none⟩) h9 _).setCell (p := ⟨WA.heap.size, 1, none⟩) h9 _).setCell (p := ⟨WA.heap.size, 2, none⟩) h9 _).setCell (p := ⟨WA.heap.size, 3, none⟩) h9 _).setCell (p := ⟨WA.heap.size, 4, none⟩) h9 _).setCell (p := ⟨WA.heap.size, 5, none⟩) h9 _).setCell (p := ⟨WA.heap.size, 6, none⟩) h9 _).setCell (p := ⟨WA.heap.size, 7, none⟩) h9 _).setCell (p := ⟨WA.heap.size, 8, none⟩) h9 _).setCell (p := ⟨WA.heap.size, 9, none⟩) h9 _).setCell (p := ⟨WA.heap.size, 10, none⟩) h9 _)) (fun hHeld => ?_)
        (try clear hK K)
        (try simp only [Act.put, List.setIfInBounds_toArray, List.set_cons_zero, List.set_cons_succ, List.getElem_toArray, List.getElem_cons_zero, List.getElem_cons_succ])
        refine wpAnyH_take (i := 15) (v := ?vu46) rfl (by kernel_rfl) (by kernel_rfl) (by kernel_rfl) (fun _ _ _ h => h) (Or.inl ⟨by rfl, ?hu46⟩) (by assumption) ?ru46
        case hu46 => (intro wS hSw; (try dsimp only at hSw); (try clear hSw); go_simp <;> (with_reducible rfl))
        (try simp only [Act.put, List.setIfInBounds_toArray, List.set_cons_zero, List.set_cons_succ, List.getElem_toArray, List.getElem_cons_zero, List.getElem_cons_succ])
        refine wpAnyH_done (by kernel_rfl) ?_ _
        go_wp2_with fail
        go_meet
        exact ⟨_, _, _, _, _, rfl, rfl, rfl, (by simpa only [setCell_size] using N2.out.1), N2.out.2, by omega⟩
      exact AllReadyH.nil
    refine AllReadyH.cons rfl (fun K hK => ?_) ?_
    · go_simp
      have rB := heap_alloc_new W1 (.cells #[.int .u64 0, .int .i64 0, .int .u64 0, .bool false, .bool false, .bool false, .bool false, .bool false, .bool false, .bool false, .bool false] 38)
      have bB : Below W1.heap.size W1 (W1.alloc (.cells #[.int .u64 0, .int .i64 0, .int .u64 0, .bool false, .bool false, .bool false, .bool false, .bool false, .bool false, .bool false, .bool false] 38)) := (Below.refl _ _).alloc (Nat.le_refl _) _
      generalize W1.alloc (.cells #[.int .u64 0, .int .i64 0, .int .u64 0, .bool false, .bool false, .bool false, .bool false, .bool false, .bool false, .bool false, .bool false] 38) = WB at rB bB ⊢
      refine hK.out _ _ (hHeld.low bB) (fun hHeld => ?_)
      (try clear hK K)
      (try simp only [Act.put, List.setIfInBounds_toArray, List.set_cons_zero, List.set_cons_succ, List.getElem_toArray, List.getElem_cons_zero, List.getElem_cons_succ])
      refine wpAnyH_ready (rs := [5, 11]) (by kernel_rfl) (by simp) ?_
      refine AllReadyH.cons rfl (fun K hK => ?_) ?_
      · go_simp
        refine (CA.out _ hHeld.x.dh).mono ?_; rintro r w1 ⟨rfl, hb1⟩
        refine hK.out _ _ (hHeld.low hb1) (fun hHeld => ?_)
        (try clear hK K)
        (try simp only [Act.put, List.setIfInBounds_toArray, List.set_cons_zero, List.set_cons_succ, List.getElem_toArray, List.getElem_cons_zero, List.getElem_cons_succ])
        refine wpAnyH_ready (rs := [6, 11]) (by kernel_rfl) (by simp) ?_
        refine AllReadyH.cons rfl (fun K hK => ?_) ?_
        · go_simp
          refine (C1.out _ hHeld).mono ?_; rintro r w2 ⟨v', t', U', rfl, hD, hb2⟩
          obtain ⟨⟨ao5, cp5, rfl⟩, g5, cp6, rfl⟩ := hD.shape
          refine hK.out _ _ (hHeld.low hb2) (fun hHeld => ?_)
          (try clear hK K)
          (try simp only [Act.put, List.setIfInBounds_toArray, List.set_cons_zero, List.set_cons_succ, List.getElem_toArray, List.getElem_cons_zero, List.getElem_cons_succ])
          refine wpAnyH_take (i := 7) (v := ?vu47) rfl (by kernel_rfl) (by kernel_rfl) (by kernel_rfl) (fun _ _ _ h => h) (Or.inl ⟨by rfl, ?hu47⟩) (by assumption) ?ru47
          case hu47 => (intro wS hSw; (try dsimp only at hSw); (try clear hSw); go_simp <;> (with_reducible rfl))
          (try simp only [Act.put, List.setIfInBounds_toArray, List.set_cons_zero, List.set_cons_succ, List.getElem_toArray, List.getElem_cons_zero, List.getElem_cons_succ])
          refine wpAnyH_take (i := 8) (v := ?vu48) rfl (by kernel_rfl) (by kernel_rfl) (by kernel_rfl) (fun _ _ _ h => h) (Or.inl ⟨by rfl, ?hu48⟩) (by assumption) ?ru48
          case hu48 => (intro wS hSw; (try dsimp only at hSw); (try clear hSw); go_simp <;> (with_reducible rfl))
          (try simp only [Act.put, List.setIfInBounds_toArray, List.set_cons_zero, List.set_cons_succ, List.getElem_toArray, List.getElem_cons_zero, List.getElem_cons_succ])
          refine wpAnyH_take (i := 9) (v := ?vu49) rfl (by kernel_rfl) (by kernel_rfl) (by kernel_rfl) (fun _ _ _ h => h) (Or.inl ⟨by rfl, ?hu49⟩) (by assumption) ?ru49
          case hu49 => (intro wS hSw; (try dsimp only at hSw); (try clear hSw); go_simp <;> (with_reducible rfl))
          (try simp only [Act.put, List.setIfInBounds_toArray, List.set_cons_zero, List.set_cons_succ, List.getElem_toArray, List.getElem_cons_zero, List.getElem_cons_succ])
          refine wpAnyH_take (i := 10) (v := ?vu50) rfl (by kernel_rfl) (by kernel_rfl) (by kernel_rfl) (fun _ _ _ h => h) (Or.inl ⟨by rfl, ?hu50⟩) (by assumption) ?ru50
          case hu50 => (intro wS hSw; (try dsimp only at hSw); (try clear hSw); go_simp <;> (with_reducible rfl))
          (try simp only [Act.put, List.setIfInBounds_toArray, List.set_cons_zero, List.set_cons_succ, List.getElem_toArray, List.getElem_cons_zero, List.getElem_cons_succ])
          refine wpAnyH_ready (rs := [11]) (by kernel_rfl) (by simp) ?_
          refine AllReadyH.cons rfl (fun K hK => ?_) AllReadyH.nil
          go_simp
          have rA := heap_alloc_new w2 (.cells #[.int .i64 0, .slice none 0 0, .int .i64 0, .slice none 0 0] 30)
          have bA : Below w2.heap.size w2 (w2.alloc (.cells #[.int .i64 0, .slice none 0 0, .int .i64 0, .slice none 0 0] 30)) := (Below.refl _ _).alloc (Nat.le_refl _) _
          generalize w2.alloc (.cells #[.int .i64 0, .slice none 0 0, .int .i64 0, .slice none 0 0] 30) = WA at rA bA ⊢
          refine hK.out _ _ (hHeld.low bA) (fun hHeld => ?_)
          (try clear hK K)
          (try simp only [Act.put, List.setIfInBounds_toArray, List.set_cons_zero, List.set_cons_succ, List.getElem_toArray, List.getElem_cons_zero, List.getElem_cons_succ])
          refine wpAnyH_ready (rs := [13]) (by kernel_rfl) (by simp) ?_
          refine AllReadyH.cons rfl (fun K hK => ?_) AllReadyH.nil
          have B : Below W1.heap.size W1 WA := (lo_step (lo_step (lo_step (lo_step (Below.refl W1.heap.size W1) bB) hb1) hb2) bA)
          have B1 : Below W1.heap.size W1 w2 := (lo_step (lo_step (lo_step (Below.refl W1.heap.size W1) bB) hb1) hb2)
          have B2 : Below W1.heap.size W1 W1 := (Below.refl W1.heap.size W1)
          have h0 := B1.size
          have h9 := B2.size
          have rx := blk_low rA (Below.refl WA.heap.size WA)
          have rp : RowP WA W1.heap.size Pg.zero := ⟨blk_low rB (lo_step (lo_step (lo_step (Below.refl WB.heap.size WB) hb1) hb2) bA)⟩
          obtain ⟨n0, n1, n2, n3, nf⟩ := four_H rx
          obtain ⟨p0, p1, p2, p3, p4, p5, p6, p7, p8, p9, p10⟩ := rp.cells
          have pf := set_one_page rp
          have N := HE.out.next B (hD.low (lo_step (Below.refl w2.heap.size w2) bA)) h0 (Array.getElem?_eq_some_iff.1 rx).1 (Nat.le_refl _) rx
          have N2 := Lib.hid (N.page (RowP.far_H rp (fun e => ne_HP rx rp.row e.symm)) (by omega) (Array.getElem?_eq_some_iff.1 rp.row).1 D)
          have hne1 : ¬ w2.heap.size = W1.heap.size := ne_HP rx rp.row
          have hne2 : ¬ W1.heap.size = w2.heap.size := fun e => hne1 e.symm
          clear N
          go_simp
          refine hK.out _ _ (HE.out.low ((((B.setCell (p := ⟨w2.heap.size, 0, none⟩) h0 _).setCell (p := ⟨w2.heap.size, 1, none⟩) h0 _).setCell (p := ⟨w2.heap.size, 2, none⟩) h0 _).setCell (p := ⟨w2.heap.size, 3, none⟩) h0 _)) (fun hHeld => ?_)
          (try clear hK K)
          (try simp only [Act.put, List.setIfInBounds_toArray, List.set_cons_zero, List.set_cons_succ, List.getElem_toArray, List.getElem_cons_zero, List.getElem_cons_succ])
          refine wpAnyH_ready (rs := [14]) (by kernel_rfl) (by simp) ?_
          refine AllReadyH.cons rfl (fun K hK => ?_) AllReadyH.nil
          go_simp
          refine hK.out _ _ (HE.out.low (((((((((((((((B.setCell (p := ⟨w2.heap.size, 0, none⟩) h0 _).setCell (p := ⟨w2.heap.size, 1, none⟩) h0 _).setCell (p := ⟨w2.heap.size, 2, none⟩) h0 _).setCell (p := ⟨w2.heap.size, 3, none⟩) h0 _).setCell (p := ⟨W1.heap.size, 0, none⟩) h9 _).setCell (p := ⟨W1.heap.size, 1, none⟩) h9 _).setCell (p := ⟨W1.heap.size, 2, none⟩) h9 _).setCell (p := ⟨W1.heap.size, 3, none⟩) h9 _).setCell (p := ⟨W1.heap.size, 4, none⟩) h9 _).setCell (p := ⟨W1.heap.size, 5, none⟩) h9 _).setCell (p := ⟨W1.heap.size, 6, none⟩) h9 _).setCell (p := ⟨W1.heap.size, 7, none⟩) h9 _).setCell (p := ⟨W1.heap.size, 8, none⟩) h9 _).setCell (p := ⟨W1.heap.size, 9, none⟩) h9 _).setCell (p := ⟨W1.heap.size, 10, none⟩) h9 _)) (fun hHeld => ?_)
          (try clear hK K)
          (try simp only [Act.put, List.setIfInBounds_toArray, List.set_cons_zero, List.set_cons_succ, List.getElem_toArray, List.getElem_cons_zero, List.getElem_cons_succ])
          refine wpAnyH_take (i := 15) (v := ?vu51) rfl (by kernel_rfl) (by kernel_rfl) (by kernel_rfl) (fun _ _ _ h => h) (Or.inl ⟨by rfl, ?hu51⟩) (by assumption) ?ru51
          case hu51 => (intro wS hSw; (try dsimp only at hSw); (try clear hSw); go_simp <;> (with_reducible rfl))
          (try simp only [Act.put, List.setIfInBounds_toArray, List.set_cons_zero, List.set_cons_succ, List.getElem_toArray, List.getElem_cons_zero, List.getElem_cons_succ])
          refine wpAnyH_done (by kernel_rfl) ?_ _
          go_wp2_with fail
          go_meet
          exact ⟨_, _, _, _, _, rfl, rfl, rfl, (by simpa only [setCell_size] using N2.out.1), N2.out.2, by omega⟩
        refine AllReadyH.cons rfl (fun K hK => ?_) ?_
        · go_simp
          have rA := heap_alloc_new w1 (.cells #[.int .i64 0, .slice none 0 0, .int .i64 0, .slice none 0 0] 30)
          have bA : Below w1.heap.size w1 (w1.alloc (.cells #[.int .i64 0, .slice none 0 0, .int .i64 0, .slice none 0 0] 30)) := (Below.refl _ _).alloc (Nat.le_refl _) _
          generalize w1.alloc (.cells #[.int .i64 0, .slice none 0 0, .int .i64 0, .slice none 0 0] 30) = WA at rA bA ⊢
          refine hK.out _ _ (hHeld.low bA) (fun hHeld => ?_)
          (try clear hK K)
          (try simp only [Act.put, List.setIfInBounds_toArray, List.set_cons_zero, List.set_cons_succ, List.getElem_toArray, List.getElem_cons_zero, List.getElem_cons_succ])
          refine wpAnyH_ready (rs := [6]) (by kernel_rfl) (by simp) ?_
          refine AllReadyH.cons rfl (fun K hK => ?_) AllReadyH.nil
          go_simp
          refine (C1.out _ hHeld).mono ?_; rintro r w2 ⟨v', t', U', rfl, hD, hb2⟩
          obtain ⟨⟨ao5, cp5, rfl⟩, g5, cp6, rfl⟩ := hD.shape
          refine hK.out _ _ (hHeld.low hb2) (fun hHeld => ?_)
          (try clear hK K)
          (try simp only [Act.put, List.setIfInBounds_toArray, List.set_cons_zero, List.set_cons_succ, List.getElem_toArray, List.getElem_cons_zero, List.getElem_cons_succ])
          refine wpAnyH_take (i := 7) (v := ?vu52) rfl (by kernel_rfl) (by kernel_rfl) (by kernel_rfl) (fun _ _ _ h => h) (Or.inl ⟨by rfl, ?hu52⟩) (by assumption) ?ru52
          case hu52 => (intro wS hSw; (try dsimp only at hSw); (try clear hSw); go_simp <;> (with_reducible rfl))
          (try simp only [Act.put, List.setIfInBounds_toArray, List.set_cons_zero, List.set_cons_succ, List.getElem_toArray, List.getElem_cons_zero, List.getElem_cons_succ])
          refine wpAnyH_take (i := 8) (v := ?vu53) rfl (by kernel_rfl) (by kernel_rfl) (by kernel_rfl) (fun _ _ _ h => h) (Or.inl ⟨by rfl, ?hu53⟩) (by assumption) ?ru53
          case hu53 => (intro wS hSw; (try dsimp only at hSw); (try clear hSw); go_simp <;> (with_reducible rfl))
          (try simp only [Act.put, List.setIfInBounds_toArray, List.set_cons_zero, List.set_cons_succ, List.getElem_toArray, List.getElem_cons_zero, List.getElem_cons_succ])
          refine wpAnyH_take (i := 9) (v := ?vu54) rfl (by kernel_rfl) (by kernel_rfl) (by kernel_rfl) (fun _ _ _ h => h) (Or.inl ⟨by rfl, ?hu54⟩) (by assumption) ?ru54
          case hu54 => (intro wS hSw; (try dsimp only at hSw); (try clear hSw); go_simp <;> (with_reducible rfl))
          (try simp only [Act.put, List.setIfInBounds_toArray, List.set_cons_zero, List.set_cons_succ, List.getElem_toArray, List.getElem_cons_zero, List.getElem_cons_succ])
          refine wpAnyH_take (i := 10) (v := ?vu55) rfl (by kernel_rfl) (by kernel_rfl) (by kernel_rfl) (fun _ _ _ h => h) (Or.inl ⟨by rfl, ?hu55⟩) (by assumption) ?ru55
          case hu55 => (intro wS hSw; (try dsimp only at hSw); (try clear hSw); go_simp <;> (with_reducible rfl))
          (try simp only [Act.put, List.setIfInBounds_toArray, List.set_cons_zero, List.set_cons_succ, List.getElem_toArray, List.getElem_cons_zero, List.getElem_cons_succ])
          refine wpAnyH_ready (rs := [13]) (by kernel_rfl) (by simp) ?_
          refine AllReadyH.cons rfl (fun K hK => ?_) AllReadyH.nil
          have B : Below W1.heap.size W1 w2 := (lo_step (lo_step (lo_step (lo_step (Below.refl W1.heap.size W1) bB) hb1) bA) hb2)
          have B1 : Below W1.heap.size W1 w1 := (lo_step (lo_step (Below.refl W1.heap.size W1) bB) hb1)
          have B2 : Below W1.heap.size W1 W1 := (Below.refl W1.heap.size W1)
          have h0 := B1.size
          have h9 := B2.size
          have rx := blk_low rA (lo_step (Below.refl WA.heap.size WA) hb2)
          have rp : RowP w2 W1.heap.size Pg.zero := ⟨blk_low rB (lo_step (lo_step (lo_step (Below.refl WB.heap.size WB) hb1) bA) hb2)⟩
          obtain ⟨n0, n1, n2, n3, nf⟩ := four_H rx
          obtain ⟨p0, p1, p2, p3, p4, p5, p6, p7, p8, p9, p10⟩ := rp.cells
          have pf := set_one_page rp
          have N := HE.out.next B (hD.low (Below.refl w2.heap.size w2)) h0 (Array.getElem?_eq_some_iff.1 rx).1 (Nat.le_refl _) rx
          have N2 := Lib.hid (N.page (RowP.far_H rp (fun e => ne_HP rx rp.row e.symm)) (by omega) (Array.getElem?_eq_some_iff.1 rp.row).1 D)
          have hne1 : ¬ w1.heap.size = W1.heap.size := ne_HP rx rp.row
          have hne2 : ¬ W1.heap.size = w1.heap.size := fun e => hne1 e.symm
          clear N
          go_simp
          refine hK.out _ _ (HE.out.low ((((B.setCell (p := ⟨w1.heap.size, 0, none⟩) h0 _).setCell (p := ⟨w1.heap.size, 1, none⟩) h0 _).setCell (p := ⟨w1.heap.size, 2, none⟩) h0 _).setCell (p := ⟨w1.heap.size, 3, none⟩) h0 _)) (fun hHeld => ?_)
          (try clear hK K)
          (try simp only [Act.put, List.setIfInBounds_toArray, List.set_cons_zero, List.set_cons_succ, List.getElem_toArray, List.getElem_cons_zero, List.getElem_cons_succ])
          refine wpAnyH_ready (rs := [14]) (by kernel_rfl) (by simp) ?_
          refine AllReadyH.cons rfl (fun K hK => ?_) AllReadyH.nil
          go_simp
          refine hK.out _ _ (HE.out.low (((((((((((((((B.setCell (p := ⟨w1.heap.size, 0, none⟩) h0 _).setCell (p := ⟨w1.heap.size, 1, none⟩) h0 _).setCell (p := ⟨w1.heap.size, 2, none⟩) h0 _).setCell (p := ⟨w1.heap.size, 3, none⟩) h0 _).setCell (p := ⟨W1.heap.size, 0, none⟩) h9 _).setCell (p := ⟨W1.heap.size, 1, none⟩) h9 _).setCell (p := ⟨W1.heap.size, 2, none⟩) h9 _).setCell (p := ⟨W1.heap.size, 3, none⟩) h9 _).setCell (p := ⟨W1.heap.size, 4, none⟩) h9 _).setCell (p := ⟨W1.heap.size, 5, none⟩) h9 _).setCell (p := ⟨W1.heap.size, 6, none⟩) h9 _).setCell (p := ⟨W1.heap.size, 7, none⟩) h9 _).setCell (p := ⟨W1.heap.size, 8, none⟩) h9 _).setCell (p := ⟨W1.heap.size, 9, none⟩) h9 _).setCell (p := ⟨W1.heap.size, 10, none⟩) h9 _)) (fun hHeld => ?_)
          (try clear hK K)
          (try simp only [Act.put, List.setIfInBounds_toArray, List.set_cons_zero, List.set_cons_succ, List.getElem_toArray, List.getElem_cons_zero, List.getElem_cons_succ])
          refine wpAnyH_take (i := 15) (v := ?vu56) rfl (by kernel_rfl) (by kernel_rfl) (by kernel_rfl) (fun _ _ _ h => h) (Or.inl ⟨by rfl, ?hu56⟩) (by assumption) ?ru56
          case hu56 => (intro wS hSw; (try dsimp only at hSw); (try clear hSw); go_simp <;> (with_reducible rfl))
          (try simp only [Act.put, List.setIfInBounds_toArray, List.set_cons_zero, List.set_cons_succ, List.getElem_toArray, List.getElem_cons_zero, List.getElem_cons_succ])
          refine wpAnyH_done (by kernel_rfl) ?_ _
          go_wp2_with fail
          go_meet
          exact ⟨_, _, _, _, _, rfl, rfl, rfl, (by simpa only [setCell_size] using N2.out.1), N2.out.2, by omega⟩
        exact AllReadyH.nil
      refine AllReadyH.cons rfl (fun K hK => ?_) ?_
      · go_simp
        have rA := heap_alloc_new WB (.cells #[.int .i64 0, .slice none 0 0, .int .i64 0, .slice none 0 0] 30)
        have bA : Below WB.heap.size WB (WB.alloc (.cells #[.int .i64 0, .slice none 0 0, .int .i64 0, .slice none 0 0] 30)) := (Below.refl _ _).alloc (Nat.le_refl _) _
        generalize WB.alloc (.cells #[.int .i64 0, .slice none 0 0, .int .i64 0, .slice none 0 0] 30) = WA at rA bA ⊢
        refine hK.out _ _ (hHeld.low bA) (fun hHeld => ?_)
        (try clear hK K)
        (try simp only [Act.put, List.setIfInBounds_toArray, List.set_cons_zero, List.set_cons_succ, List.getElem_toArray, List.getElem_cons_zero, List.getElem_cons_succ])
        refine wpAnyH_ready (rs := [5]) (by kernel_rfl) (by simp) ?_
        refine AllReadyH.cons rfl (fun K hK => ?_) AllReadyH.nil
        go_simp
        refine (CA.out _ hHeld.x.dh).mono ?_; rintro r w1 ⟨rfl, hb1⟩
        refine hK.out _ _ (hHeld.low hb1) (fun hHeld => ?_)
        (try clear hK K)
        (try simp only [Act.put, List.setIfInBounds_toArray, List.set_cons_zero, List.set_cons_succ, List.getElem_toArray, List.getElem_cons_zero, List.getElem_cons_succ])
        refine wpAnyH_ready (rs := [6]) (by kernel_rfl) (by simp) ?_
        refine AllReadyH.cons rfl (fun K hK => ?_) AllReadyH.nil
        go_simp
        refine (C1.out _ hHeld).mono ?_; rintro r w2 ⟨v', t', U', rfl, hD, hb2⟩
        obtain ⟨⟨ao5, cp5, rfl⟩, g5, cp6, rfl⟩ := hD.shape
        refine hK.out _ _ (hHeld.low hb2) (fun hHeld => ?_)
        (try clear hK K)
        (try simp only [Act.put, List.setIfInBounds_toArray, List.set_cons_zero, List.set_cons_succ, List.getElem_toArray, List.getElem_cons_zero, List.getElem_cons_succ])
        refine wpAnyH_take (i := 7) (v := ?vu57) rfl (by kernel_rfl) (by kernel_rfl) (by kernel_rfl) (fun _ _ _ h => h) (Or.inl ⟨by rfl, ?hu57⟩) (by assumption) ?ru57
        case hu57 => (intro wS hSw; (try dsimp only at hSw); (try clear hSw); go_simp <;> (with_reducible rfl))
        (try simp only [Act.put, List.setIfInBounds_toArray, List.set_cons_zero, List.set_cons_succ, List.getElem_toArray, List.getElem_cons_zero, List.getElem_cons_succ])
        refine wpAnyH_take (i := 8) (v := ?vu58) rfl (by kernel_rfl) (by kernel_rfl) (by kernel_rfl) (fun _ _ _ h => h) (Or.inl ⟨by rfl, ?hu58⟩) (by assumption) ?ru58
        case hu58 => (intro wS hSw; (try dsimp only at hSw); (try clear hSw); go_simp <;> (with_reducible rfl))
        (try simp only [Act.put, List.setIfInBounds_toArray, List.set_cons_zero, List.set_cons_succ, List.getElem_toArray, List.getElem_cons_zero, List.getElem_cons_succ])
        refine wpAnyH_take (i := 9) (v := ?vu59) rfl (by kernel_rfl) (by kernel_rfl) (by kernel_rfl) (fun _ _ _ h => h) (Or.inl ⟨by rfl, ?hu59⟩) (by assumption) ?ru59
        case hu59 => (intro wS hSw; (try dsimp only at hSw); (try clear hSw); go_simp <;> (with_reducible rfl))
        (try simp only [Act.put, List.setIfInBounds_toArray, List.set_cons_zero, List.set_cons_succ, List.getElem_toArray, List.getElem_cons_zero, List.getElem_cons_succ])
        refine wpAnyH_take (i := 10) (v := ?vu60) rfl (by kernel_rfl) (by kernel_rfl) (by kernel_rfl) (fun _ _ _ h => h) (Or.inl ⟨by rfl, ?hu60⟩) (by assumption) ?ru60
        case hu60 => (intro wS hSw; (try dsimp only at hSw); (try clear hSw); go_simp <;> (with_reducible rfl))
        (try simp only [Act.put, List.setIfInBounds_toArray, List.set_cons_zero, List.set_cons_succ, List.getElem_toArray, List.getElem_cons_zero, List.getElem_cons_succ])
        refine wpAnyH_ready (rs := [13]) (by kernel_rfl) (by simp) ?_
        refine AllReadyH.cons rfl (fun K hK => ?_) AllReadyH.nil
        have B : Below W1.heap.size W1 w2 := (lo_step (lo_step (lo_step (lo_step (Below.refl W1.heap.size W1) bB) bA) hb1) hb2)
        have B1 : Below W1.heap.size W1 WB := (lo_step (Below.refl W1.heap.size W1) bB)
        have B2 : Below W1.heap.size W1 W1 := (Below.refl W1.heap.size W1)
        have h0 := B1.size
        have h9 := B2.size
        have rx := blk_low rA (lo_step (lo_step (Below.refl WA.heap.size WA) hb1) hb2)
        have rp : RowP w2 W1.heap.size Pg.zero := ⟨blk_low rB (lo_step (lo_step (lo_step (Below.refl WB.heap.size WB) bA) hb1) hb2)⟩
        obtain ⟨n0, n1, n2, n3, nf⟩ := four_H rx
        obtain ⟨p0, p1, p2, p3, p4, p5, p6, p7, p8, p9, p10⟩ := rp.cells
        have pf := set_one_page rp
        have N := HE.out.next B (hD.low (Below.refl w2.heap.size w2)) h0 (Array.getElem?_eq_some_iff.1 rx).1 (Nat.le_refl _) rx
        have N2 := Lib.hid (N.page (RowP.far_H rp (fun e => ne_HP rx rp.row e.symm)) (by omega) (Array.getElem?_eq_some_iff.1 rp.row).1 D)
        have hne1 : ¬ WB.heap.size = W1.heap.size := ne_HP rx rp.row
        have hne2 : ¬ W1.heap.size = WB.heap.size := fun e => hne1 e.symm
        clear N
        go_simp
        refine hK.out _ _ (HE.out.low ((((B.setCell (p := ⟨WB.heap.size, 0, none⟩) h0 _).setCell (p := ⟨WB.heap.size, 1, none⟩) h0 _).setCell (p := ⟨WB.heap.size, 2, none⟩) h0 _).setCell (p := ⟨WB.heap.size, 3, none⟩) h0 _)) (fun hHeld => ?_)
        (try clear hK K)
        (try simp only [Act.put, List.setIfInBounds_toArray, List.set_cons_zero, List.set_cons_succ, List.getElem_toArray, List.getElem_cons_zero, List.getElem_cons_succ])
        refine wpAnyH_ready (rs := [14]) (by kernel_rfl) (by simp) ?_
        refine AllReadyH.cons rfl (fun K hK => ?_) AllReadyH.nil
        go_simp
        refine hK.out _ _ (HE.out.low (((((((((((((((B.setCell (p := ⟨WB.heap.size, 0, none⟩) h0 _).setCell (p := ⟨WB.heap.size, 1, none⟩) h0 _).setCell (p := ⟨WB.heap.size, 2, none⟩) h0 _).setCell (p := ⟨WB.heap.size, 3, none⟩) h0 _).setCell (p := ⟨W1.heap.size, 0, none⟩) h9 _).setCell (p := ⟨W1.heap.size, 1, none⟩) h9 _).setCell (p := ⟨W1.heap.size, 2, none⟩) h9 _).setCell (p := ⟨W1.heap.size, 3, none⟩) h9 _).setCell (p := ⟨W1.heap.size, 4, none⟩) h9 _).setCell (p := ⟨W1.heap.size, 5, none⟩) h9 _).setCell (p := ⟨W1.heap.size, 6, none⟩) h9 _).setCell (p := ⟨W1.heap.size, 7, none⟩) h9 _).setCell (p := ⟨W1.heap.size, 8, none⟩) h9 _).setCell (p := ⟨W1.heap.size, 9, none⟩) h9 _).setCell (p := ⟨W1.heap.size, 10, none⟩) h9 _)) (fun hHeld => ?_)
        (try clear hK K)
        (try simp only [Act.put, List.setIfInBounds_toArray, List.set_cons_zero, List.set_cons_succ, List.getElem_toArray, List.getElem_cons_zero, List.getElem_cons_succ])
        refine wpAnyH_take (i := 15) (v := ?vu61) rfl (by kernel_rfl) (by kernel_rfl) (by kernel_rfl) (fun _ _ _ h => h) (Or.inl ⟨by rfl, ?hu61⟩) (by assumption) ?ru61
        case hu61 => (intro wS hSw; (try dsimp only at hSw); (try clear hSw); go_simp <;> (with_reducible rfl))
        (try simp only [Act.put, List.setIfInBounds_toArray, List.set_cons_zero, List.set_cons_succ, List.getElem_toArray, List.getElem_cons_zero, List.getElem_cons_succ])
        refine wpAnyH_done (by kernel_rfl) ?_ _
        go_wp2_with fail
        go_meet
        exact ⟨_, _, _, _, _, rfl, rfl, rfl, (by simpa only [setCell_size] using N2.out.1), N2.out.2, by omega⟩
      exact AllReadyH.nil
    exact AllReadyH.nil
  case rest =>
    obtain ⟨nb, pb, v', t', U', rfl, rfl, rfl, N, P, hpb⟩ := hcut
    obtain ⟨⟨ao5, cp5, rfl⟩, g5, cp6, rfl⟩ := N.nd.shape
    have C6 := Lib.hid (fun (W : World) (m : Nat) (h : TN w0 w W hb sb ns bl L F (.slice ao l.length cap) l (.slice (some ⟨g2, 0, none⟩) n cap2) n LT U d nb m (.slice ao5 (dunL ns l d.sp va).length cp5) (dunL ns l d.sp va) (.slice (some ⟨g5, 0, none⟩) n cp6) n (dunT ns l n LT d.sp va) U') => h.kyd.unmap d.sp va hd.s0 hd.s1 hat.1 hat.2 HV.out.2)
    rw [HV.out.1, HM.out.1] at C6
    have HN := Lib.hid (And.intro N (And.intro P hpb))
    clear N P E0
    go_upto_region 9 with fail
    go_cut [15, 16] (fun a b wx => ∃ pc G, a = .pointer (some ⟨pc, 0, none⟩) ∧ b = .int .i64 Wy ∧ TZ w0 w wx hb sb ns bl n (unmT ns n L d.sp va) F d (.int .i64 ns) (.slice ao l.length cap) (.int .i64 bl) (.slice (some ⟨g2, 0, none⟩) n cap2) nb G (.slice ao5 (dunL ns l d.sp va).length cp5) (dunL ns l d.sp va) (.slice (some ⟨g5, 0, none⟩) n cp6) (dunT ns l n LT d.sp va) U' ∧ RowP wx pc D ∧ RowP wx pb D)
    case first =>
      have HN1 := Lib.hid (HN.out.1.up rfl (Below.refl _ _).drew)
      have HP1 := Lib.hid (HN.out.2.1.low (Below.refl _ _).drew)
      have hpb := HN.out.2.2
      have hS : _ ∧ _ := ⟨HN1.out.x.hx, HN1.out.deed⟩
      clear HN
      refine wp_region_held_drew (S := fun wS => wS.heap[w.heap.size]? = some (.cells #[.int .i64 ns, .slice ao l.length cap, .int .i64 bl, .slice (some ⟨g2, 0, none⟩) n cap2] 30 (0, 0)) ∧ DeedB wS (w.heap.size + 1) d) (by kernel_rfl) hS (fun hHeld => ?_)
      clear hS
      generalize wc.drew = W1 at HN1 HP1 hHeld ⊢
      refine wpAnyH_take (i := 0) (v := ?vv1) rfl (by kernel_rfl) (by kernel_rfl) (by kernel_rfl) (fun _ _ _ h => h) (Or.inl ⟨by rfl, ?hv1⟩) (by assumption) ?rv1
      case hv1 => (intro wS hSw; (try dsimp only at hSw); (try clear hSw); go_simp <;> (with_reducible rfl))
      (try simp only [Act.put, List.setIfInBounds_toArray, List.set_cons_zero, List.set_cons_succ, List.getElem_toArray, List.getElem_cons_zero])
      refine wpAnyH_take (i := 1) (v := ?vv2) rfl (by kernel_rfl) (by kernel_rfl) (by kernel_rfl) (fun _ _ _ h => h) (Or.inl ⟨by rfl, ?hv2⟩) (by assumption) ?rv2
      case hv2 => (intro wS hSw; (try dsimp only at hSw); (try clear hSw); go_simp <;> (with_reducible rfl))
      (try simp only [Act.put, List.setIfInBounds_toArray, List.set_cons_zero, List.set_cons_succ, List.getElem_toArray, List.getElem_cons_zero, List.getElem_cons_succ])
      refine wpAnyH_take (i := 2) (v := ?vv3) rfl (by kernel_rfl) (by kernel_rfl) (by kernel_rfl) (fun _ _ _ h => h) (Or.inl ⟨by rfl, ?hv3⟩) (by assumption) ?rv3
      case hv3 => (intro wS hSw; (try dsimp only at hSw); obtain ⟨x0, x1, x2, x3, _⟩ := four_H hSw.1; have c1 := hSw.2.cells.2.1; (try clear hSw); go_simp <;> (with_reducible rfl))
      (try simp only [Act.put, List.setIfInBounds_toArray, List.set_cons_zero, List.set_cons_succ, List.getElem_toArray, List.getElem_cons_zero, List.getElem_cons_succ])
      refine wpAnyH_take (i := 3) (v := .agg #[.int .i64 d.kind, .int .i64 d.sp, .int .i64 d.n, .int .u64 d.p.va, .int .i64 d.p.sz, .int .u64 d.p.pa, .bool d.p.att.write, .bool d.p.att.priv, .bool d.p.att.exec, .bool d.p.att.lock, .bool d.p.att.global, .bool d.p.att.quiet, .bool d.p.ref, .bool d.p.mod, .int .u64 d.va, .bool d.att.write, .bool d.att.priv, .bool d.att.exec, .bool d.att.lock, .bool d.att.global, .bool d.att.quiet, .bool d.mod, .bool d.raw, .bool d.near]) rfl (by kernel_rfl) (by kernel_rfl) (by kernel_rfl) (fun _ _ _ h => h) (yieldsIf_load_mid (by rfl) 40 (.tmp 5) rfl (w.heap.size + 1) 0 rfl [.int .i64 d.kind, .int .i64 d.sp, .int .i64 d.n, .int .u64 d.p.va, .int .i64 d.p.sz, .int .u64 d.p.pa, .bool d.p.att.write, .bool d.p.att.priv, .bool d.p.att.exec, .bool d.p.att.lock, .bool d.p.att.global, .bool d.p.att.quiet, .bool d.p.ref, .bool d.p.mod, .int .u64 d.va, .bool d.att.write, .bool d.att.priv, .bool d.att.exec, .bool d.att.lock, .bool d.att.global, .bool d.att.quiet, .bool d.mod, .bool d.raw, .bool d.near] _ (fun w hS => hS.2.range) Tryz.underlying40 rfl (by kernel_rfl)) (by assumption) ?_
      (try simp only [Act.put, List.setIfInBounds_toArray, List.set_cons_zero, List.set_cons_succ, List.getElem_toArray, List.getElem_cons_zero, List.getElem_cons_succ])
      refine wpAnyH_take (i := 4) (v := ?vv5) rfl (by kernel_rfl) (by kernel_rfl) (by kernel_rfl) (fun _ _ _ h => h) (Or.inl ⟨by rfl, ?hv5⟩) (by assumption) ?rv5
      case hv5 => (intro wS hSw; (try dsimp only at hSw); obtain ⟨x0, x1, x2, x3, _⟩ := four_H hSw.1; have c1 := hSw.2.cells.2.1; (try clear hSw); go_simp <;> (with_reducible rfl))
      (try simp only [Act.put, List.setIfInBounds_toArray, List.set_cons_zero, List.set_cons_succ, List.getElem_toArray, List.getElem_cons_zero, List.getElem_cons_succ])
      refine wpAnyH_ready (rs := [5, 10]) (by kernel_rfl) (by simp) ?_
      refine AllReadyH.cons rfl (fun K hK => ?_) ?_
      · go_simp
        refine (CA.out _ HN1.out.x.dh).mono ?_; rintro r w2 ⟨rfl, hb2⟩
        have N2 := Lib.hid (HN1.out.up rfl hb2)
        have P2 := Lib.hid (HP1.out.low hb2)
        refine hK.out _ _ ⟨N2.out.x.hx, N2.out.deed⟩ (fun hHeld => ?_)
        (try clear hK K)
        (try simp only [Act.put, List.setIfInBounds_toArray, List.set_cons_zero, List.set_cons_succ, List.getElem_toArray, List.getElem_cons_zero, List.getElem_cons_succ])
        refine wpAnyH_ready (rs := [6, 10]) (by kernel_rfl) (by simp) ?_
        refine AllReadyH.cons rfl (fun K hK => ?_) ?_
        · go_simp
          refine (C6.out _ _ N2.out).mono ?_; rintro r w3 ⟨rfl, K8, kp8⟩
          have Z3 := Lib.hid (N2.out.done (fun k hk => hk) K8 kp8)
          have P3 := Lib.hid (P2.out.kept (kp8.1 pb (.inl (.inr ⟨by omega, (Array.getElem?_eq_some_iff.1 P2.out.row).1⟩))))
          clear K8 kp8
          refine hK.out _ _ ⟨Z3.out.hx, ⟨Z3.out.dx⟩⟩ (fun hHeld => ?_)
          (try clear hK K)
          (try simp only [Act.put, List.setIfInBounds_toArray, List.set_cons_zero, List.set_cons_succ, List.getElem_toArray, List.getElem_cons_zero, List.getElem_cons_succ])
          refine wpAnyH_take (i := 7) (v := ?vv6) rfl (by kernel_rfl) (by kernel_rfl) (by kernel_rfl) (fun _ _ _ h => h) (Or.inl ⟨by rfl, ?hv6⟩) (by assumption) ?rv6
          case hv6 => (intro wS hSw; (try dsimp only at hSw); (try clear hSw); go_simp <;> (with_reducible rfl))
          (try simp only [Act.put, List.setIfInBounds_toArray, List.set_cons_zero, List.set_cons_succ, List.getElem_toArray, List.getElem_cons_zero, List.getElem_cons_succ])
          refine wpAnyH_take (i := 8) (v := ?vv7) rfl (by kernel_rfl) (by kernel_rfl) (by kernel_rfl) (fun _ _ _ h => h) (Or.inl ⟨by rfl, ?hv7⟩) (by assumption) ?rv7
          case hv7 => (intro wS hSw; (try dsimp only at hSw); (try clear hSw); go_simp <;> (with_reducible rfl))
          (try simp only [Act.put, List.setIfInBounds_toArray, List.set_cons_zero, List.set_cons_succ, List.getElem_toArray, List.getElem_cons_zero, List.getElem_cons_succ])
          refine wpAnyH_take (i := 9) (v := ?vv8) rfl (by kernel_rfl) (by kernel_rfl) (by kernel_rfl) (fun _ _ _ h => h) (Or.inl ⟨by rfl, ?hv8⟩) (by assumption) ?rv8
          case hv8 => (intro wS hSw; (try dsimp only at hSw); (try clear hSw); go_simp <;> (with_reducible rfl))
          (try simp only [Act.put, List.setIfInBounds_toArray, List.set_cons_zero, List.set_cons_succ, List.getElem_toArray, List.getElem_cons_zero, List.getElem_cons_succ])
          refine wpAnyH_ready (rs := [10]) (by kernel_rfl) (by simp) ?_
          refine AllReadyH.cons rfl (fun K hK => ?_) AllReadyH.nil
          go_simp
          have hC : w.heap.size + 3 ≤ w3.heap.size := by have := Z3.out.nl; have := (Array.getElem?_eq_some_iff.1 Z3.out.nx).1; omega
          have hPl : pb < w3.heap.size := (Array.getElem?_eq_some_iff.1 P3.out.row).1
          have rC := heap_alloc_new w3 (.cells #[.int .u64 0, .int .i64 0, .int .u64 0, .bool false, .bool false, .bool false, .bool false, .bool false, .bool false, .bool false, .bool false] 38)
          have bC : Below w3.heap.size w3 (w3.alloc (.cells #[.int .u64 0, .int .i64 0, .int .u64 0, .bool false, .bool false, .bool false, .bool false, .bool false, .bool false, .bool false, .bool false] 38)) := (Below.refl _ _).alloc (Nat.le_refl _) _
          generalize w3.alloc (.cells #[.int .u64 0, .int .i64 0, .int .u64 0, .bool false, .bool false, .bool false, .bool false, .bool false, .bool false, .bool false, .bool false] 38) = WC at rC bC ⊢
          have hCl := (Array.getElem?_eq_some_iff.1 rC).1
          have P4 := Lib.hid (P3.out.low bC)
          have Z4 := Lib.hid (Z3.out.add bC (G' := fun k => (F k ∨ (w.heap.size ≤ k ∧ k < w2.heap.size)) ∨ k = w3.heap.size) (fun k h => .inl h) (fun k h => h.elim .inl (fun e => .inr ⟨by omega, by omega⟩)))
          refine hK.out _ _ ⟨Z4.out.hx, ⟨Z4.out.dx⟩⟩ (fun hHeld => ?_)
          (try clear hK K)
          (try simp only [Act.put, List.setIfInBounds_toArray, List.set_cons_zero, List.set_cons_succ, List.getElem_toArray, List.getElem_cons_zero, List.getElem_cons_succ])
          refine wpAnyH_ready (rs := [11]) (by kernel_rfl) (by simp) ?_
          refine AllReadyH.cons rfl (fun K hK => ?_) AllReadyH.nil
          have rp : RowP WC w3.heap.size Pg.zero := ⟨rC⟩
          obtain ⟨p0, p1, p2, p3, p4, p5, p6, p7, p8, p9, p10⟩ := rp.cells
          have pf := set_one_page rp
          have T := Lib.hid (Z4.out.page rp hC (.inr rfl) D)
          have PP := Lib.hid (P4.out.kept (T.out.2.2 pb (by omega)))
          clear rp
          go_simp
          refine hK.out _ _ ⟨T.out.1.hx, ⟨T.out.1.dx⟩⟩ (fun hHeld => ?_)
          (try clear hK K)
          (try simp only [Act.put, List.setIfInBounds_toArray, List.set_cons_zero, List.set_cons_succ, List.getElem_toArray, List.getElem_cons_zero, List.getElem_cons_succ])
          refine wpAnyH_take (i := 12) (v := ?vv9) rfl (by kernel_rfl) (by kernel_rfl) (by kernel_rfl) (fun _ _ _ h => h) (Or.inl ⟨by rfl, ?hv9⟩) (by assumption) ?rv9
          case hv9 => (intro wS hSw; (try dsimp only at hSw); (try clear hSw); go_simp <;> (with_reducible rfl))
          (try simp only [Act.put, List.setIfInBounds_toArray, List.set_cons_zero, List.set_cons_succ, List.getElem_toArray, List.getElem_cons_zero, List.getElem_cons_succ])
          refine wpAnyH_done (by kernel_rfl) ?_ _
          clear hHeld
          go_wp2_with fail
          go_meet
          exact ⟨_, _, rfl, rfl, T.out.1, T.out.2.1, PP.out⟩
        refine AllReadyH.cons rfl (fun K hK => ?_) ?_
        · go_simp
          have hC : w.heap.size + 3 ≤ w2.heap.size := by have := N2.out.nl; have := N2.out.nm; omega
          have hPl : pb < w2.heap.size := (Array.getElem?_eq_some_iff.1 P2.out.row).1
          have rC := heap_alloc_new w2 (.cells #[.int .u64 0, .int .i64 0, .int .u64 0, .bool false, .bool false, .bool false, .bool false, .bool false, .bool false, .bool false, .bool false] 38)
          have bC : Below w2.heap.size w2 (w2.alloc (.cells #[.int .u64 0, .int .i64 0, .int .u64 0, .bool false, .bool false, .bool false, .bool false, .bool false, .bool false, .bool false, .bool false] 38)) := (Below.refl _ _).alloc (Nat.le_refl _) _
          generalize w2.alloc (.cells #[.int .u64 0, .int .i64 0, .int .u64 0, .bool false, .bool false, .bool false, .bool false, .bool false, .bool false, .bool false, .bool false] 38) = WC at rC bC ⊢
          have hCl := (Array.getElem?_eq_some_iff.1 rC).1
          have P3 := Lib.hid (P2.out.low bC)
          have N3 := Lib.hid (N2.out.up rfl bC)
          refine hK.out _ _ ⟨N3.out.x.hx, N3.out.deed⟩ (fun hHeld => ?_)
          (try clear hK K)
          (try simp only [Act.put, List.setIfInBounds_toArray, List.set_cons_zero, List.set_cons_succ, List.getElem_toArray, List.getElem_cons_zero, List.getElem_cons_succ])
          refine wpAnyH_ready (rs := [6]) (by kernel_rfl) (by simp) ?_
          refine AllReadyH.cons rfl (fun K hK => ?_) AllReadyH.nil
          go_simp
          refine (C6.out _ _ N3.out).mono ?_; rintro r w4 ⟨rfl, K8, kp8⟩
          have Z4 := Lib.hid (N3.out.done (fun k hk => hk) K8 kp8)
          have P4 := Lib.hid (P3.out.kept (kp8.1 pb (.inl (.inr ⟨by omega, (Array.getElem?_eq_some_iff.1 P3.out.row).1⟩))))
          have hCm := (Array.getElem?_eq_some_iff.1 rC).1
          have rC4 := (kp8.1 w2.heap.size (.inl (.inr ⟨by omega, hCm⟩))).trans rC
          clear K8 kp8
          refine hK.out _ _ ⟨Z4.out.hx, ⟨Z4.out.dx⟩⟩ (fun hHeld => ?_)
          (try clear hK K)
          (try simp only [Act.put, List.setIfInBounds_toArray, List.set_cons_zero, List.set_cons_succ, List.getElem_toArray, List.getElem_cons_zero, List.getElem_cons_succ])
          refine wpAnyH_take (i := 7) (v := ?vv10) rfl (by kernel_rfl) (by kernel_rfl) (by kernel_rfl) (fun _ _ _ h => h) (Or.inl ⟨by rfl, ?hv10⟩) (by assumption) ?rv10
          case hv10 => (intro wS hSw; (try dsimp only at hSw); (try clear hSw); go_simp <;> (with_reducible rfl))
          (try simp only [Act.put, List.setIfInBounds_toArray, List.set_cons_zero, List.set_cons_succ, List.getElem_toArray, List.getElem_cons_zero, List.getElem_cons_succ])
          refine wpAnyH_take (i := 8) (v := ?vv11) rfl (by kernel_rfl) (by kernel_rfl) (by kernel_rfl) (fun _ _ _ h => h) (Or.inl ⟨by rfl, ?hv11⟩) (by assumption) ?rv11
          case hv11 => (intro wS hSw; (try dsimp only at hSw); (try clear hSw); go_simp <;> (with_reducible rfl))
          (try simp only [Act.put, List.setIfInBounds_toArray, List.set_cons_zero, List.set_cons_succ, List.getElem_toArray, List.getElem_cons_zero, List.getElem_cons_succ])
          refine wpAnyH_take (i := 9) (v := ?vv12) rfl (by kernel_rfl) (by kernel_rfl) (by kernel_rfl) (fun _ _ _ h => h) (Or.inl ⟨by rfl, ?hv12⟩) (by assumption) ?rv12
          case hv12 => (intro wS hSw; (try dsimp only at hSw); (try clear hSw); go_simp <;> (with_reducible rfl))
          (try simp only [Act.put, List.setIfInBounds_toArray, List.set_cons_zero, List.set_cons_succ, List.getElem_toArray, List.getElem_cons_zero, List.getElem_cons_succ])
          refine wpAnyH_ready (rs := [11]) (by kernel_rfl) (by simp) ?_
          refine AllReadyH.cons rfl (fun K hK => ?_) AllReadyH.nil
          have rp : RowP w4 w2.heap.size Pg.zero := ⟨rC4⟩
          obtain ⟨p0, p1, p2, p3, p4, p5, p6, p7, p8, p9, p10⟩ := rp.cells
          have pf := set_one_page rp
          have T := Lib.hid (Z4.out.page rp hC (.inr ⟨by omega, hCm⟩) D)
          have PP := Lib.hid (P4.out.kept (T.out.2.2 pb (by omega)))
          clear rp
          go_simp
          refine hK.out _ _ ⟨T.out.1.hx, ⟨T.out.1.dx⟩⟩ (fun hHeld => ?_)
          (try clear hK K)
          (try simp only [Act.put, List.setIfInBounds_toArray, List.set_cons_zero, List.set_cons_succ, List.getElem_toArray, List.getElem_cons_zero, List.getElem_cons_succ])
          refine wpAnyH_take (i := 12) (v := ?vv13) rfl (by kernel_rfl) (by kernel_rfl) (by kernel_rfl) (fun _ _ _ h => h) (Or.inl ⟨by rfl, ?hv13⟩) (by assumption) ?rv13
          case hv13 => (intro wS hSw; (try dsimp only at hSw); (try clear hSw); go_simp <;> (with_reducible rfl))
          (try simp only [Act.put, List.setIfInBounds_toArray, List.set_cons_zero, List.set_cons_succ, List.getElem_toArray, List.getElem_cons_zero, List.getElem_cons_succ])
          refine wpAnyH_done (by kernel_rfl) ?_ _
          clear hHeld
          go_wp2_with fail
          go_meet
          exact ⟨_, _, rfl, rfl, T.out.1, T.out.2.1, PP.out⟩
        exact AllReadyH.nil
      refine AllReadyH.cons rfl (fun K hK => ?_) ?_
      · go_simp
        have hC : w.heap.size + 3 ≤ W1.heap.size := by have := HN1.out.nl; have := HN1.out.nm; omega
        have hPl : pb < W1.heap.size := (Array.getElem?_eq_some_iff.1 HP1.out.row).1
        have rC := heap_alloc_new W1 (.cells #[.int .u64 0, .int .i64 0, .int .u64 0, .bool false, .bool false, .bool false, .bool false, .bool false, .bool false, .bool false, .bool false] 38)
        have bC : Below W1.heap.size W1 (W1.alloc (.cells #[.int .u64 0, .int .i64 0, .int .u64 0, .bool false, .bool false, .bool false, .bool false, .bool false, .bool false, .bool false, .bool false] 38)) := (Below.refl _ _).alloc (Nat.le_refl _) _
        generalize W1.alloc (.cells #[.int .u64 0, .int .i64 0, .int .u64 0, .bool false, .bool false, .bool false, .bool false, .bool false, .bool false, .bool false, .bool false] 38) = WC at rC bC ⊢
        have hCl := (Array.getElem?_eq_some_iff.1 rC).1
        have P2 := Lib.hid (HP1.out.low bC)
        have N2 := Lib.hid (HN1.out.up rfl bC)
        refine hK.out _ _ ⟨N2.out.x.hx, N2.out.deed⟩ (fun hHeld => ?_)
        (try clear hK K)
        (try simp only [Act.put, List.setIfInBounds_toArray, List.set_cons_zero, List.set_cons_succ, List.getElem_toArray, List.getElem_cons_zero, List.getElem_cons_succ])
        refine wpAnyH_ready (rs := [5]) (by kernel_rfl) (by simp) ?_
        refine AllReadyH.cons rfl (fun K hK => ?_) AllReadyH.nil
        go_simp
        refine (CA.out _ N2.out.x.dh).mono ?_; rintro r w3 ⟨rfl, hb3⟩
        have N3 := Lib.hid (N2.out.up rfl hb3)
        have P3 := Lib.hid (P2.out.low hb3)
        have rC3 := blk_low rC hb3
        refine hK.out _ _ ⟨N3.out.x.hx, N3.out.deed⟩ (fun hHeld => ?_)
        (try clear hK K)
        (try simp only [Act.put, List.setIfInBounds_toArray, List.set_cons_zero, List.set_cons_succ, List.getElem_toArray, List.getElem_cons_zero, List.getElem_cons_succ])
        refine wpAnyH_ready (rs := [6]) (by kernel_rfl) (by simp) ?_
        refine AllReadyH.cons rfl (fun K hK => ?_) AllReadyH.nil
        go_simp
        refine (C6.out _ _ N3.out).mono ?_; rintro r w4 ⟨rfl, K8, kp8⟩
        have Z4 := Lib.hid (N3.out.done (fun k hk => hk) K8 kp8)
        have P4 := Lib.hid (P3.out.kept (kp8.1 pb (.inl (.inr ⟨by omega, (Array.getElem?_eq_some_iff.1 P3.out.row).1⟩))))
        have hCm := (Array.getElem?_eq_some_iff.1 rC3).1
        have rC4 := (kp8.1 W1.heap.size (.inl (.inr ⟨by omega, hCm⟩))).trans rC3
        clear K8 kp8
        refine hK.out _ _ ⟨Z4.out.hx, ⟨Z4.out.dx⟩⟩ (fun hHeld => ?_)
        (try clear hK K)
        (try simp only [Act.put, List.setIfInBounds_toArray, List.set_cons_zero, List.set_cons_succ, List.getElem_toArray, List.getElem_cons_zero, List.getElem_cons_succ])
        refine wpAnyH_take (i := 7) (v := ?vv14) rfl (by kernel_rfl) (by kernel_rfl) (by kernel_rfl) (fun _ _ _ h => h) (Or.inl ⟨by rfl, ?hv14⟩) (by assumption) ?rv14
        case hv14 => (intro wS hSw; (try dsimp only at hSw); (try clear hSw); go_simp <;> (with_reducible rfl))
        (try simp only [Act.put, List.setIfInBounds_toArray, List.set_cons_zero, List.set_cons_succ, List.getElem_toArray, List.getElem_cons_zero, List.getElem_cons_succ])
        refine wpAnyH_take (i := 8) (v := ?vv15) rfl (by kernel_rfl) (by kernel_rfl) (by kernel_rfl) (fun _ _ _ h => h) (Or.inl ⟨by rfl, ?hv15⟩) (by assumption) ?rv15
        case hv15 => (intro wS hSw; (try dsimp only at hSw); (try clear hSw); go_simp <;> (with_reducible rfl))
        (try simp only [Act.put, List.setIfInBounds_toArray, List.set_cons_zero, List.set_cons_succ, List.getElem_toArray, List.getElem_cons_zero, List.getElem_cons_succ])
        refine wpAnyH_take (i := 9) (v := ?vv16) rfl (by kernel_rfl) (by kernel_rfl) (by kernel_rfl) (fun _ _ _ h => h) (Or.inl ⟨by rfl, ?hv16⟩) (by assumption) ?rv16
        case hv16 => (intro wS hSw; (try dsimp only at hSw); (try clear hSw); go_simp <;> (with_reducible rfl))
        (try simp only [Act.put, List.setIfInBounds_toArray, List.set_cons_zero, List.set_cons_succ, List.getElem_toArray, List.getElem_cons_zero, List.getElem_cons_succ])
        refine wpAnyH_ready (rs := [11]) (by kernel_rfl) (by simp) ?_
        refine AllReadyH.cons rfl (fun K hK => ?_) AllReadyH.nil
        have rp : RowP w4 W1.heap.size Pg.zero := ⟨rC4⟩
        obtain ⟨p0, p1, p2, p3, p4, p5, p6, p7, p8, p9, p10⟩ := rp.cells
        have pf := set_one_page rp
        have T := Lib.hid (Z4.out.page rp hC (.inr ⟨by omega, hCm⟩) D)
        have PP := Lib.hid (P4.out.kept (T.out.2.2 pb (by omega)))
        clear rp
        go_simp
        refine hK.out _ _ ⟨T.out.1.hx, ⟨T.out.1.dx⟩⟩ (fun hHeld => ?_)
        (try clear hK K)
        (try simp only [Act.put, List.setIfInBounds_toArray, List.set_cons_zero, List.set_cons_succ, List.getElem_toArray, List.getElem_cons_zero, List.getElem_cons_succ])
        refine wpAnyH_take (i := 12) (v := ?vv17) rfl (by kernel_rfl) (by kernel_rfl) (by kernel_rfl) (fun _ _ _ h => h) (Or.inl ⟨by rfl, ?hv17⟩) (by assumption) ?rv17
        case hv17 => (intro wS hSw; (try dsimp only at hSw); (try clear hSw); go_simp <;> (with_reducible rfl))
        (try simp only [Act.put, List.setIfInBounds_toArray, List.set_cons_zero, List.set_cons_succ, List.getElem_toArray, List.getElem_cons_zero, List.getElem_cons_succ])
        refine wpAnyH_done (by kernel_rfl) ?_ _
        clear hHeld
        go_wp2_with fail
        go_meet
        exact ⟨_, _, rfl, rfl, T.out.1, T.out.2.1, PP.out⟩
      exact AllReadyH.nil
    case rest =>
      obtain ⟨pc, G, rfl, rfl, Z, Q, P⟩ := hcut
      have hwl := HN.out.2.2
      clear C6 CA C1 HN
      go_upto_region 10 with fail
      have HZ := Lib.hid (Z.low (Below.refl _ _).drew)
      have hS : _ ∧ _ ∧ _ := ⟨HZ.out.nx, P.low (Below.refl _ _).drew, Q.low (Below.refl _ _).drew⟩
      clear Z P Q
      refine wp_region_held_drew (S := fun wS => wS.heap[nb]? = some (.cells #[.int .i64 ns, .slice ao5 (dunL ns l d.sp va).length cp5, .int .i64 bl, .slice (some ⟨g5, 0, none⟩) n cp6] 30 (0, 0)) ∧ RowP wS pb D ∧ RowP wS pc D) (by kernel_rfl) hS (fun hHeld => ?_)
      clear hS
      generalize wc.drew = W8 at HZ hHeld ⊢
      refine wpAnyH_take (i := 0) (v := ?vz1) rfl (by kernel_rfl) (by kernel_rfl) (by kernel_rfl) (fun _ _ _ h => h) (Or.inl ⟨by rfl, ?hz1⟩) (by assumption) ?rz1
      case hz1 => (intro wS hSw; (try dsimp only at hSw); obtain ⟨x0, x1, x2, x3, _⟩ := four_H hSw.1; obtain ⟨y0, y1, y2, y3, y4, y5, y6, y7, y8, y9, y10⟩ := hSw.2.1.cells; obtain ⟨z0, z1, z2, z3, z4, z5, z6, z7, z8, z9, z10⟩ := hSw.2.2.cells; (try clear hSw); go_simp <;> (with_reducible rfl))
      (try simp only [Act.put, List.setIfInBounds_toArray, List.set_cons_zero, List.set_cons_succ, List.getElem_toArray, List.getElem_cons_zero])
      refine wpAnyH_take (i := 1) (v := ?vz2) rfl (by kernel_rfl) (by kernel_rfl) (by kernel_rfl) (fun _ _ _ h => h) (Or.inl ⟨by rfl, ?hz2⟩) (by assumption) ?rz2
      case hz2 => (intro wS hSw; (try dsimp only at hSw); obtain ⟨x0, x1, x2, x3, _⟩ := four_H hSw.1; obtain ⟨y0, y1, y2, y3, y4, y5, y6, y7, y8, y9, y10⟩ := hSw.2.1.cells; obtain ⟨z0, z1, z2, z3, z4, z5, z6, z7, z8, z9, z10⟩ := hSw.2.2.cells; (try clear hSw); go_simp <;> (with_reducible rfl))
      (try simp only [Act.put, List.setIfInBounds_toArray, List.set_cons_zero, List.set_cons_succ, List.getElem_toArray, List.getElem_cons_zero, List.getElem_cons_succ])
      refine wpAnyH_take (i := 2) (v := ?vz3) rfl (by kernel_rfl) (by kernel_rfl) (by kernel_rfl) (fun _ _ _ h => h) (Or.inl ⟨by rfl, ?hz3⟩) (by assumption) ?rz3
      case hz3 => (intro wS hSw; (try dsimp only at hSw); obtain ⟨x0, x1, x2, x3, _⟩ := four_H hSw.1; obtain ⟨y0, y1, y2, y3, y4, y5, y6, y7, y8, y9, y10⟩ := hSw.2.1.cells; obtain ⟨z0, z1, z2, z3, z4, z5, z6, z7, z8, z9, z10⟩ := hSw.2.2.cells; (try clear hSw); go_simp <;> (with_reducible rfl))
      (try simp only [Act.put, List.setIfInBounds_toArray, List.set_cons_zero, List.set_cons_succ, List.getElem_toArray, List.getElem_cons_zero, List.getElem_cons_succ])
      refine wpAnyH_take (i := 3) (v := .bool true) rfl (by kernel_rfl) (by kernel_rfl) (by kernel_rfl) (fun _ _ _ h => h) (Or.inl ⟨by rfl, ?hz4⟩) (by assumption) ?rz4
      case hz4 => (intro wS hSw; (try dsimp only at hSw); (try clear hSw); go_simp)
      (try simp only [Act.put, List.setIfInBounds_toArray, List.set_cons_zero, List.set_cons_succ, List.getElem_toArray, List.getElem_cons_zero, List.getElem_cons_succ])
      refine wpAnyH_take (i := 4) (v := ?vz5) rfl (by kernel_rfl) (by kernel_rfl) (by kernel_rfl) (fun _ _ _ h => h) (Or.inl ⟨by rfl, ?hz5⟩) (by assumption) ?rz5
      case hz5 => (intro wS hSw; (try dsimp only at hSw); (try clear hSw); go_simp <;> (with_reducible rfl))
      (try simp only [Act.put, List.setIfInBounds_toArray, List.set_cons_zero, List.set_cons_succ, List.getElem_toArray, List.getElem_cons_zero, List.getElem_cons_succ])
      refine wpAnyH_take (i := 5) (v := ?vz6) rfl (by kernel_rfl) (by kernel_rfl) (by kernel_rfl) (fun _ _ _ h => h) (Or.inl ⟨by rfl, ?hz6⟩) (by assumption) ?rz6
      case hz6 => (intro wS hSw; (try dsimp only at hSw); (try clear hSw); go_simp <;> (with_reducible rfl))
      (try simp only [Act.put, List.setIfInBounds_toArray, List.set_cons_zero, List.set_cons_succ, List.getElem_toArray, List.getElem_cons_zero, List.getElem_cons_succ])
      refine wpAnyH_take (i := 6) (v := ?vz7) rfl (by kernel_rfl) (by kernel_rfl) (by kernel_rfl) (fun _ _ _ h => h) (Or.inl ⟨by rfl, ?hz7⟩) (by assumption) ?rz7
      case hz7 => (intro wS hSw; (try dsimp only at hSw); (try clear hSw); go_simp <;> (with_reducible rfl))
      (try simp only [Act.put, List.setIfInBounds_toArray, List.set_cons_zero, List.set_cons_succ, List.getElem_toArray, List.getElem_cons_zero, List.getElem_cons_succ])
      refine wpAnyH_take (i := 7) (v := .bool true) rfl (by kernel_rfl) (by kernel_rfl) (by kernel_rfl) (fun _ _ _ h => h) (Or.inl ⟨by rfl, ?hz8⟩) (by assumption) ?rz8
      case hz8 => (intro wS hSw; (try dsimp only at hSw); (try clear hSw); go_simp)
      (try simp only [Act.put, List.setIfInBounds_toArray, List.set_cons_zero, List.set_cons_succ, List.getElem_toArray, List.getElem_cons_zero, List.getElem_cons_succ])
      refine wpAnyH_take (i := 8) (v := ?vz9) rfl (by kernel_rfl) (by kernel_rfl) (by kernel_rfl) (fun _ _ _ h => h) (Or.inl ⟨by rfl, ?hz9⟩) (by assumption) ?rz9
      case hz9 => (intro wS hSw; (try dsimp only at hSw); (try clear hSw); go_simp <;> (with_reducible rfl))
      (try simp only [Act.put, List.setIfInBounds_toArray, List.set_cons_zero, List.set_cons_succ, List.getElem_toArray, List.getElem_cons_zero, List.getElem_cons_succ])
      refine wpAnyH_ready (rs := [9]) (by kernel_rfl) (by simp) ?_
      refine AllReadyH.cons rfl (fun K hK => ?_) AllReadyH.nil
      obtain ⟨r0, r1, r2, r3, rf⟩ := four_H HZ.out.rx
      have hp1 := ne_HP HZ.out.rx hHeld.2.1.row
      have hp2 := ne_HP HZ.out.rx hHeld.2.2.row
      have hnl := HZ.out.nl
      go_simp
      have FZ := Lib.hid HZ.out.fin
      refine hK.out _ _ ⟨(HZ.out.after _ _ _ _ (by omega)).trans HZ.out.nx, hHeld.2.1.kept (HZ.out.after _ _ _ _ (fun e => hp1 e.symm)), hHeld.2.2.kept (HZ.out.after _ _ _ _ (fun e => hp2 e.symm))⟩ (fun hHeld => ?_)
      (try clear hK K)
      (try simp only [Act.put, List.setIfInBounds_toArray, List.set_cons_zero, List.set_cons_succ, List.getElem_toArray, List.getElem_cons_zero, List.getElem_cons_succ])
      refine wpAnyH_take (i := 10) (v := ?vz10) rfl (by kernel_rfl) (by kernel_rfl) (by kernel_rfl) (fun _ _ _ h => h) (Or.inl ⟨by rfl, ?hz10⟩) (by assumption) ?rz10
      case hz10 => (intro wS hSw; (try dsimp only at hSw); (try clear hSw); go_simp <;> (with_reducible rfl))
      (try simp only [Act.put, List.setIfInBounds_toArray, List.set_cons_zero, List.set_cons_succ, List.getElem_toArray, List.getElem_cons_zero, List.getElem_cons_succ])
      refine wpAnyH_done (by kernel_rfl) ?_ _
      clear hHeld
      go_wp2_with fail
      exact bodyPost_ret (res_HE rfl _ _ _ _ rfl FZ.out.1 rfl) rfl ⟨_, _, _, _, _, _, _, rfl, FZ.out.2.1, FZ.out.2.2.1, HM.out.2, FZ.out.2.2.2, fun x hx => dunL_other hx⟩
end
end Go.Proofs.YtffpfceclhogoaaGreat.Hp
