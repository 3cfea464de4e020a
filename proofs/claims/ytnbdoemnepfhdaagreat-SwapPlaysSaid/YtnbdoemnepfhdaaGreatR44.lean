/-
  Contracts and plain facts: WDoD, WDoE, WDoF, WDeeds, WDoG. Conditions: each says its own.
-/
import Derived.Test.YtnbdoemnepfhdaaGreatR43
import Derived.Test.YtnbdoemnepfhdaaGreatR42
import Derived.Deep.CutBlock
import Derived.Deep.DeepCutAuto
import Derived.Test.YtnbdoemnepfhdaaGreatR27
namespace Go.Proofs.YtnbdoemnepfhdaaGreat.Sw
open Fld Ts
open Frm (OwnI IsD setT manyE manyI manyT giveE giveT lst cnt)
open Pt (arI)
open Go.ChangeShapes Go.WideShapes Go.ChangeAt Go.RowKit Go.Shelf Go.Deep
set_option maxHeartbeats 8000000
set_option maxRecDepth 100000
section
variable {W w : World} {wb sb bm fb bb n : Nat} {g : Nat → Nat} {F : Nat → Bool} {gv lv sv : Value}
theorem okD : okP 32 := ⟨by decide, by decide, by decide⟩
theorem does_chg_no (nn ss gg : Int) (n0 : -9223372036854775808 ≤ nn) (n1 : nn ≤ 9223372036854775807) (E : Ent) {A B : List Tb} {x : Tb} {k : Nat} (hk : arI nn ((A ++ x :: B).length : Int) = (k : Int)) (hA : A.length = k) (hL2 : (A ++ x :: B).length ≤ 1000) (hf : Fit n g F (A ++ x :: B)) (he : manyE F n (frI x.s gg) ≠ 0) (h : WX W w wb sb bm fb bb n g F (A ++ x :: B) (lst F n) (A ++ x :: B) lv gv sv lv gv sv) :
    Calls Tryz.prog 7 #[.pointer (some ⟨wb, 0, none⟩), .agg #[.int .i64 1, .int .i64 nn, .int .i64 ss, .int .i64 gg, .int .i64 E.size, .int .i64 E.ctx, .int .u64 E.va, .int .u64 E.pa, .bool E.att.write, .bool E.att.priv, .bool E.att.exec, .bool E.att.lock, .bool E.att.global, .bool E.att.quiet, .bool E.valid]] w fun e w' => e = .returned (.bool true) ∧ ∃ bm', WX W w' wb sb bm' fb bb n g F (A ++ x :: B) (lst F n) (A ++ x :: B) lv gv sv lv gv sv := by
  have hL : 0 < (A ++ x :: B).length := by rw [List.length_append, List.length_cons]; omega
  have hkl : k < (A ++ x :: B).length := by rw [List.length_append, List.length_cons]; omega
  obtain ⟨o, ho⟩ : ∃ o, k * 5 = o := ⟨_, rfl⟩
  obtain ⟨lg, lc, sg, sc, hlv, hsv, _, _, _, _, _, _, _, _, l2, l3, t2, t3⟩ := h.mid hA ho
  subst hlv hsv
  obtain ⟨ao, cap, hgv⟩ := own_shape h.gl
  subst hgv
  obtain ⟨xo, xc, hxv⟩ := own_shape (h.ds x (by simp))
  have HXV := Lib.hid hxv
  clear hxv
  have CA := Lib.hid (fun W => Pt.raround_any nn ((A ++ x :: B).length : Int) n0 n1 (by omega) (by omega) W)
  rw [hk] at CA
  have hn := hf.le
  have CD := Lib.hid (fun (Wz : World) (hW : OwnI Wz W.heap.size ao cap (lst F n)) (hB : W.heap.size ≤ Wz.heap.size) => rchange_no n W.heap.size cap ao F x.s (x.n : Int) (x.f : Int) x.g gg xo x.l.length xc Wz hW hB (by omega) he)
  have CP := Lib.hid (fun (Wz : World) (hW : PAt Wz sb bm fb bb n g F) => pchange_no x.st x.s gg hW he)
  generalize manyE F n (frI x.s gg) = Er at *
  have hEr : (Er == 0) = false := by simpa using he
  clear he hn hf
  generalize lst F n = Q at *
  have HX := Lib.hid h
  obtain ⟨ll, hll⟩ : ∃ ll, (A ++ x :: B).length = ll := ⟨_, rfl⟩
  have HLL := Lib.hid hll
  rw [hll] at hkl hL hL2 CA HX l2 t2
  have hnz : ((ll : Int) == 0) = false := by simp; omega
  have hlt : (k : Int) < (ll : Int) := by omega
  have hAK : (⟨sg, 0, none⟩ : Addr).add o = ⟨sg, o, none⟩ := add_at sg o
  have hAL : (⟨lg, 0, none⟩ : Addr).add k = ⟨lg, k, none⟩ := add_at lg k
  have hAB := Lib.hid hA
  have HK := Lib.hid hk
  clear hk hA hll h
  go_enter Tryz.func7, Tryz.ntmps7
  go_upto_region 1 with fail
  have X1 := Lib.hid (HX.out.alloc (.cells #[.int .i64 1, .int .i64 nn, .int .i64 ss, .int .i64 gg, .int .i64 E.size, .int .i64 E.ctx, .int .u64 E.va, .int .u64 E.pa, .bool E.att.write, .bool E.att.priv, .bool E.att.exec, .bool E.att.lock, .bool E.att.global, .bool E.att.quiet, .bool E.valid] 32))
  have D1 := Lib.hid (DB13.mk (k := 1) (n := nn) (s := ss) (g := gg) (e := E) (World.alloc_heap_new w (.cells #[.int .i64 1, .int .i64 nn, .int .i64 ss, .int .i64 gg, .int .i64 E.size, .int .i64 E.ctx, .int .u64 E.va, .int .u64 E.pa, .bool E.att.write, .bool E.att.priv, .bool E.att.exec, .bool E.att.lock, .bool E.att.global, .bool E.att.quiet, .bool E.valid] 32)))
  clear HX
  obtain ⟨b, hb⟩ : ∃ b, w.heap.size = b := ⟨_, rfl⟩
  rw [hb] at D1 ⊢
  clear hb
  generalize w.alloc _ = W1 at *
  obtain ⟨c0, c1, c2, c3, c4, c5, cf⟩ := X1.out.cells
  obtain ⟨p0, s0, s1, s2, s3, s4, fl, fs⟩ := X1.out.rowc hAB.out ho
  obtain ⟨d0, d1, d2, d3, _, _, _, _, _, _, _, _, _, _, _⟩ := D1.out.cells
  go_upto_region 10 with fail
  go_quiet ((go_at_call 10; (with_reducible refine (CA.out _).mono ?_); rintro e w' ⟨rfl, m, rfl⟩; exact ⟨rfl, _, by rw [World.drewN_drewN]⟩))
  have X2 := Lib.hid (X1.out.drewN nq)
  have D2 := Lib.hid (D1.out.low (drewN_low W1 nq))
  clear X1 D1 c0 c1 c2 c3 c4 c5 cf p0 s0 s1 s2 s3 s4 fl fs d0 d1 d2 d3
  generalize W1.drewN nq = W2 at *
  obtain ⟨c0, c1, c2, c3, c4, c5, cf⟩ := X2.out.cells
  obtain ⟨p0, s0, s1, s2, s3, s4, fl, fs⟩ := X2.out.rowc hAB.out ho
  obtain ⟨d0, d1, d2, d3, _, _, _, _, _, _, _, _, _, _, _⟩ := D2.out.cells
  go_upto_region 23 with fail
  have QC := Lib.hid (fun (Wz : World) (hb : Below W2.heap.size W2 Wz) => (show Wz.cell? ⟨wb, 3, none⟩ = some (.int .i64 (n : Int)) ∧ Wz.cell? ⟨wb, 4, none⟩ = some (.slice ao Q.length cap) ∧ Wz.cell? ⟨wb, 5, none⟩ = some (.slice (some ⟨sg, 0, none⟩) ll sc) ∧ Wz.cell? ⟨sg, o, none⟩ = some (.int .i64 x.s) ∧ Wz.cell? ⟨sg, o + 1, none⟩ = some (.int .i64 (x.n : Int)) ∧ Wz.cell? ⟨sg, o + 2, none⟩ = some (.slice xo x.l.length xc) ∧ Wz.cell? ⟨sg, o + 3, none⟩ = some (.int .i64 (x.f : Int)) ∧ Wz.cell? ⟨sg, o + 4, none⟩ = some (.int .i64 x.g) ∧ Wz.cell? ⟨b, 3, none⟩ = some (.int .i64 gg) from by
    obtain ⟨c0, c1, c2, c3, c4, c5, cf⟩ := (X2.out.low hb).cells
    obtain ⟨p0, s0, s1, s2, s3, s4, fl, fs⟩ := (X2.out.low hb).rowc hAB.out ho
    obtain ⟨d0, d1, d2, d3, _, _, _, _, _, _, _, _, _, _, _⟩ := (D2.out.low hb).cells
    rw [HXV.out] at s2
    exact ⟨c3, c4, c5, s0, s1, s2, s3, s4, d3⟩))
  clear c0 c1 c2 c3 c4 c5 cf p0 s0 s1 s2 s3 s4 fl fs d0 d1 d2 d3
  go_cut [14, 15, 16, 17] (fun p q i e wx => ∃ bF bS wy, wy = wx ∧ p = .pointer (some ⟨bF, 0, none⟩) ∧ q = .pointer (some ⟨bS, 0, none⟩) ∧ i = .int .i64 0 ∧ e = .int .i64 Er ∧ Below W2.heap.size W2 wx ∧ wx.heap[bF]? = some (.cells #[.int .i64 (n : Int), .slice ao Q.length cap] 43 (0, 0)))
  case first =>
    have Y0 := Lib.hid (show BXs W2 W2.drew [] from (BXs.start W2).low (drewN_low W2 1))
    have hS := QC.out _ Y0.out.bel
    refine wp_region_held_drew (S := fun wS => wS.cell? ⟨wb, 3, none⟩ = some (.int .i64 (n : Int)) ∧ wS.cell? ⟨wb, 4, none⟩ = some (.slice ao Q.length cap) ∧ wS.cell? ⟨wb, 5, none⟩ = some (.slice (some ⟨sg, 0, none⟩) ll sc) ∧ wS.cell? ⟨sg, o, none⟩ = some (.int .i64 x.s) ∧ wS.cell? ⟨sg, o + 1, none⟩ = some (.int .i64 (x.n : Int)) ∧ wS.cell? ⟨sg, o + 2, none⟩ = some (.slice xo x.l.length xc) ∧ wS.cell? ⟨sg, o + 3, none⟩ = some (.int .i64 (x.f : Int)) ∧ wS.cell? ⟨sg, o + 4, none⟩ = some (.int .i64 x.g) ∧ wS.cell? ⟨b, 3, none⟩ = some (.int .i64 gg)) (by kernel_rfl) hS (fun hHeld => ?_)
    clear hS
    generalize W2.drew = V0 at Y0 hHeld ⊢
    refine wpAnyH_take (i := 0) (v := ?va1) rfl (by kernel_rfl) (by kernel_rfl) (by kernel_rfl) (fun _ _ _ h => h) (Or.inl ⟨by rfl, ?ha1⟩) (by assumption) ?ra1
    case ha1 => (intro wS hSw; (try dsimp only at hSw); (try clear hSw); go_simp <;> (with_reducible rfl))
    (try simp only [Act.put, List.setIfInBounds_toArray, List.set_cons_zero, List.set_cons_succ, List.getElem_toArray, List.getElem_cons_zero])
    refine wpAnyH_take (i := 1) (v := ?va2) rfl (by kernel_rfl) (by kernel_rfl) (by kernel_rfl) (fun _ _ _ h => h) (Or.inl ⟨by rfl, ?ha2⟩) (by assumption) ?ra2
    case ha2 => (intro wS hSw; (try dsimp only at hSw); (try clear hSw); go_simp <;> (with_reducible rfl))
    (try simp only [Act.put, List.setIfInBounds_toArray, List.set_cons_zero, List.set_cons_succ, List.getElem_toArray, List.getElem_cons_zero, List.getElem_cons_succ])
    refine wpAnyH_take (i := 2) (v := ?va3) rfl (by kernel_rfl) (by kernel_rfl) (by kernel_rfl) (fun _ _ _ h => h) (Or.inl ⟨by rfl, ?ha3⟩) (by assumption) ?ra3
    case ha3 => (intro wS hSw; (try dsimp only at hSw); (try clear hSw); go_simp <;> (with_reducible rfl))
    (try simp only [Act.put, List.setIfInBounds_toArray, List.set_cons_zero, List.set_cons_succ, List.getElem_toArray, List.getElem_cons_zero, List.getElem_cons_succ])
    refine wpAnyH_take (i := 3) (v := ?va4) rfl (by kernel_rfl) (by kernel_rfl) (by kernel_rfl) (fun _ _ _ h => h) (Or.inl ⟨by rfl, ?ha4⟩) (by assumption) ?ra4
    case ha4 => (intro wS hSw; (try dsimp only at hSw); obtain ⟨c3, c4, c5, s0, s1, s2, s3, s4, d3⟩ := hSw; (try clear hSw); go_simp <;> (with_reducible rfl))
    (try simp only [Act.put, List.setIfInBounds_toArray, List.set_cons_zero, List.set_cons_succ, List.getElem_toArray, List.getElem_cons_zero, List.getElem_cons_succ])
    refine wpAnyH_take (i := 4) (v := ?va5) rfl (by kernel_rfl) (by kernel_rfl) (by kernel_rfl) (fun _ _ _ h => h) (Or.inl ⟨by rfl, ?ha5⟩) (by assumption) ?ra5
    case ha5 => (intro wS hSw; (try dsimp only at hSw); (try clear hSw); go_simp <;> (with_reducible rfl))
    (try simp only [Act.put, List.setIfInBounds_toArray, List.set_cons_zero, List.set_cons_succ, List.getElem_toArray, List.getElem_cons_zero, List.getElem_cons_succ])
    refine wpAnyH_take (i := 5) (v := ?va6) rfl (by kernel_rfl) (by kernel_rfl) (by kernel_rfl) (fun _ _ _ h => h) (Or.inl ⟨by rfl, ?ha6⟩) (by assumption) ?ra6
    case ha6 => (intro wS hSw; (try dsimp only at hSw); (try clear hSw); go_simp <;> (with_reducible rfl))
    (try simp only [Act.put, List.setIfInBounds_toArray, List.set_cons_zero, List.set_cons_succ, List.getElem_toArray, List.getElem_cons_zero, List.getElem_cons_succ])
    refine wpAnyH_take (i := 6) (v := ?va7) rfl (by kernel_rfl) (by kernel_rfl) (by kernel_rfl) (fun _ _ _ h => h) (Or.inl ⟨by rfl, ?ha7⟩) (by assumption) ?ra7
    case ha7 => (intro wS hSw; (try dsimp only at hSw); (try clear hSw); go_simp <;> (with_reducible rfl))
    (try simp only [Act.put, List.setIfInBounds_toArray, List.set_cons_zero, List.set_cons_succ, List.getElem_toArray, List.getElem_cons_zero, List.getElem_cons_succ])
    refine wpAnyH_take (i := 7) (v := ?va8) rfl (by kernel_rfl) (by kernel_rfl) (by kernel_rfl) (fun _ _ _ h => h) (Or.inl ⟨by rfl, ?ha8⟩) (by assumption) ?ra8
    case ha8 => (intro wS hSw; (try dsimp only at hSw); obtain ⟨c3, c4, c5, s0, s1, s2, s3, s4, d3⟩ := hSw; (try clear hSw); go_simp <;> (with_reducible rfl))
    (try simp only [Act.put, List.setIfInBounds_toArray, List.set_cons_zero, List.set_cons_succ, List.getElem_toArray, List.getElem_cons_zero, List.getElem_cons_succ])
    refine wpAnyH_take (i := 8) (v := ?va9) rfl (by kernel_rfl) (by kernel_rfl) (by kernel_rfl) (fun _ _ _ h => h) (Or.inl ⟨by rfl, ?ha9⟩) (by assumption) ?ra9
    case ha9 => (intro wS hSw; (try dsimp only at hSw); (try clear hSw); go_simp <;> (with_reducible rfl))
    (try simp only [Act.put, List.setIfInBounds_toArray, List.set_cons_zero, List.set_cons_succ, List.getElem_toArray, List.getElem_cons_zero, List.getElem_cons_succ])
    refine wpAnyH_take (i := 9) (v := ?va10) rfl (by kernel_rfl) (by kernel_rfl) (by kernel_rfl) (fun _ _ _ h => h) (Or.inl ⟨by rfl, ?ha10⟩) (by assumption) ?ra10
    case ha10 => (intro wS hSw; (try dsimp only at hSw); (try clear hSw); go_simp <;> (with_reducible rfl))
    (try simp only [Act.put, List.setIfInBounds_toArray, List.set_cons_zero, List.set_cons_succ, List.getElem_toArray, List.getElem_cons_zero, List.getElem_cons_succ])
    refine wpAnyH_take (i := 10) (v := ?va11) rfl (by kernel_rfl) (by kernel_rfl) (by kernel_rfl) (fun _ _ _ h => h) (Or.inl ⟨by rfl, ?ha11⟩) (by assumption) ?ra11
    case ha11 => (intro wS hSw; (try dsimp only at hSw); obtain ⟨c3, c4, c5, s0, s1, s2, s3, s4, d3⟩ := hSw; (try clear hSw); go_simp <;> (with_reducible rfl))
    (try simp only [Act.put, List.setIfInBounds_toArray, List.set_cons_zero, List.set_cons_succ, List.getElem_toArray, List.getElem_cons_zero, List.getElem_cons_succ])
    refine wpAnyH_take (i := 11) (v := ?va12) rfl (by kernel_rfl) (by kernel_rfl) (by kernel_rfl) (fun _ _ _ h => h) (Or.inl ⟨by rfl, ?ha12⟩) (by assumption) ?ra12
    case ha12 => (intro wS hSw; (try dsimp only at hSw); (try clear hSw); go_simp <;> (with_reducible rfl))
    (try simp only [Act.put, List.setIfInBounds_toArray, List.set_cons_zero, List.set_cons_succ, List.getElem_toArray, List.getElem_cons_zero, List.getElem_cons_succ])
    refine wpAnyH_take (i := 12) (v := ?va13) rfl (by kernel_rfl) (by kernel_rfl) (by kernel_rfl) (fun _ _ _ h => h) (Or.inl ⟨by rfl, ?ha13⟩) (by assumption) ?ra13
    case ha13 => (intro wS hSw; (try dsimp only at hSw); obtain ⟨c3, c4, c5, s0, s1, s2, s3, s4, d3⟩ := hSw; (try clear hSw); go_simp <;> (with_reducible rfl))
    (try simp only [Act.put, List.setIfInBounds_toArray, List.set_cons_zero, List.set_cons_succ, List.getElem_toArray, List.getElem_cons_zero, List.getElem_cons_succ])
    refine wpAnyH_ready (rs := [13, 19, 20]) (by kernel_rfl) (by simp) ?_
    refine AllReadyH.cons rfl (fun K hK => ?_) ?_
    · go_simp
      refine (CD.out _ (X2.out.low Y0.out.bel).gl (X2.out.low Y0.out.bel).bel.size).mono ?_; rintro r V1 ⟨rfl, ho1, hb1⟩
      have Y1 := Lib.hid (Y0.out.low hb1)
      clear ho1 hb1
      refine hK.out _ _ (QC.out _ Y1.out.bel) (fun hHeld => ?_)
      (try clear hK K)
      (try simp only [Act.put, List.setIfInBounds_toArray, List.set_cons_zero, List.set_cons_succ, List.getElem_toArray, List.getElem_cons_zero, List.getElem_cons_succ])
      refine wpAnyH_take (i := 14) (v := ?va14) rfl (by kernel_rfl) (by kernel_rfl) (by kernel_rfl) (fun _ _ _ h => h) (Or.inl ⟨by rfl, ?ha14⟩) (by assumption) ?ra14
      case ha14 => (intro wS hSw; (try dsimp only at hSw); (try clear hSw); go_simp <;> (with_reducible rfl))
      (try simp only [Act.put, List.setIfInBounds_toArray, List.set_cons_zero, List.set_cons_succ, List.getElem_toArray, List.getElem_cons_zero, List.getElem_cons_succ])
      refine wpAnyH_take (i := 15) (v := ?va15) rfl (by kernel_rfl) (by kernel_rfl) (by kernel_rfl) (fun _ _ _ h => h) (Or.inl ⟨by rfl, ?ha15⟩) (by assumption) ?ra15
      case ha15 => (intro wS hSw; (try dsimp only at hSw); (try clear hSw); go_simp <;> (with_reducible rfl))
      (try simp only [Act.put, List.setIfInBounds_toArray, List.set_cons_zero, List.set_cons_succ, List.getElem_toArray, List.getElem_cons_zero, List.getElem_cons_succ])
      refine wpAnyH_take (i := 16) (v := ?va16) rfl (by kernel_rfl) (by kernel_rfl) (by kernel_rfl) (fun _ _ _ h => h) (Or.inl ⟨by rfl, ?ha16⟩) (by assumption) ?ra16
      case ha16 => (intro wS hSw; (try dsimp only at hSw); (try clear hSw); go_simp <;> (with_reducible rfl))
      (try simp only [Act.put, List.setIfInBounds_toArray, List.set_cons_zero, List.set_cons_succ, List.getElem_toArray, List.getElem_cons_zero, List.getElem_cons_succ])
      refine wpAnyH_take (i := 17) (v := ?va17) rfl (by kernel_rfl) (by kernel_rfl) (by kernel_rfl) (fun _ _ _ h => h) (Or.inl ⟨by rfl, ?ha17⟩) (by assumption) ?ra17
      case ha17 => (intro wS hSw; (try dsimp only at hSw); (try clear hSw); go_simp <;> (with_reducible rfl))
      (try simp only [Act.put, List.setIfInBounds_toArray, List.set_cons_zero, List.set_cons_succ, List.getElem_toArray, List.getElem_cons_zero, List.getElem_cons_succ])
      refine wpAnyH_take (i := 18) (v := ?va18) rfl (by kernel_rfl) (by kernel_rfl) (by kernel_rfl) (fun _ _ _ h => h) (Or.inl ⟨by rfl, ?ha18⟩) (by assumption) ?ra18
      case ha18 => (intro wS hSw; (try dsimp only at hSw); (try clear hSw); go_simp <;> (with_reducible rfl))
      (try simp only [Act.put, List.setIfInBounds_toArray, List.set_cons_zero, List.set_cons_succ, List.getElem_toArray, List.getElem_cons_zero, List.getElem_cons_succ])
      refine wpAnyH_ready (rs := [19, 20]) (by kernel_rfl) (by simp) ?_
      refine AllReadyH.cons rfl (fun K hK => ?_) ?_
      · go_simp
        have Y2 := Lib.hid (Y1.out.push #[.int .i64 0, .slice none 0 0] 43)
        generalize V1.alloc (.cells #[.int .i64 0, .slice none 0 0] 43) = V2 at Y2 ⊢
        refine hK.out _ _ (QC.out _ Y2.out.bel) (fun hHeld => ?_)
        (try clear hK K)
        (try simp only [Act.put, List.setIfInBounds_toArray, List.set_cons_zero, List.set_cons_succ, List.getElem_toArray, List.getElem_cons_zero, List.getElem_cons_succ])
        refine wpAnyH_ready (rs := [20]) (by kernel_rfl) (by simp) ?_
        refine AllReadyH.cons rfl (fun K hK => ?_) AllReadyH.nil
        go_simp
        have Y3 := Lib.hid (Y2.out.push #[.int .i64 0, .int .i64 0, .slice none 0 0, .int .i64 0, .int .i64 0] 70)
        generalize V2.alloc (.cells #[.int .i64 0, .int .i64 0, .slice none 0 0, .int .i64 0, .int .i64 0] 70) = V3 at Y3 ⊢
        refine hK.out _ _ (QC.out _ Y3.out.bel) (fun hHeld => ?_)
        (try clear hK K)
        (try simp only [Act.put, List.setIfInBounds_toArray, List.set_cons_zero, List.set_cons_succ, List.getElem_toArray, List.getElem_cons_zero, List.getElem_cons_succ])
        refine wpAnyH_ready (rs := [21]) (by kernel_rfl) (by simp) ?_
        refine AllReadyH.cons rfl (fun K hK => ?_) AllReadyH.nil
        have r9 := Y3.out.h1
        have f9 := froz r9
        obtain ⟨z0, z1⟩ := cell2 r9
        go_simp
        have Y4 := Lib.hid (BXs.put2 (A := [(V2.heap.size, #[.int .i64 0, .int .i64 0, .slice none 0 0, .int .i64 0, .int .i64 0], 70)]) Y3.out (a := .int .i64 (n : Int)) (c := .slice ao Q.length cap))
        clear r9 f9 z0 z1
        generalize World.setCell (World.setCell V3 _ _) _ _ = V4 at Y4 ⊢
        refine hK.out _ _ (QC.out _ Y4.out.bel) (fun hHeld => ?_)
        (try clear hK K)
        (try simp only [Act.put, List.setIfInBounds_toArray, List.set_cons_zero, List.set_cons_succ, List.getElem_toArray, List.getElem_cons_zero, List.getElem_cons_succ])
        refine wpAnyH_ready (rs := [22]) (by kernel_rfl) (by simp) ?_
        refine AllReadyH.cons rfl (fun K hK => ?_) AllReadyH.nil
        have r9 := Y4.out.h0
        have f9 := froz r9
        obtain ⟨z0, z1, z2, z3, z4⟩ := cell5 r9
        go_simp
        have Y5 := Lib.hid (BXs.put5 (A := []) Y4.out (c0 := .int .i64 x.s) (c1 := .int .i64 (x.n : Int)) (c2 := .slice xo x.l.length xc) (c3 := .int .i64 (x.f : Int)) (c4 := .int .i64 x.g))
        clear r9 f9 z0 z1 z2 z3 z4
        generalize World.setCell (World.setCell (World.setCell (World.setCell (World.setCell V4 _ _) _ _) _ _) _ _) _ _ = V5 at Y5 ⊢
        refine hK.out _ _ (QC.out _ Y5.out.bel) (fun hHeld => ?_)
        (try clear hK K)
        (try simp only [Act.put, List.setIfInBounds_toArray, List.set_cons_zero, List.set_cons_succ, List.getElem_toArray, List.getElem_cons_zero, List.getElem_cons_succ])
        refine wpAnyH_take (i := 23) (v := ?va19) rfl (by kernel_rfl) (by kernel_rfl) (by kernel_rfl) (fun _ _ _ h => h) (Or.inl ⟨by rfl, ?ha19⟩) (by assumption) ?ra19
        case ha19 => (intro wS hSw; (try dsimp only at hSw); (try clear hSw); go_simp <;> (with_reducible rfl))
        (try simp only [Act.put, List.setIfInBounds_toArray, List.set_cons_zero, List.set_cons_succ, List.getElem_toArray, List.getElem_cons_zero, List.getElem_cons_succ])
        refine wpAnyH_take (i := 24) (v := ?va20) rfl (by kernel_rfl) (by kernel_rfl) (by kernel_rfl) (fun _ _ _ h => h) (Or.inl ⟨by rfl, ?ha20⟩) (by assumption) ?ra20
        case ha20 => (intro wS hSw; (try dsimp only at hSw); (try clear hSw); go_simp <;> (with_reducible rfl))
        (try simp only [Act.put, List.setIfInBounds_toArray, List.set_cons_zero, List.set_cons_succ, List.getElem_toArray, List.getElem_cons_zero, List.getElem_cons_succ])
        refine wpAnyH_done (by kernel_rfl) ?_ _
        clear hHeld
        go_wp2_with fail
        go_meet
        exact ⟨_, _, _, rfl, rfl, rfl, rfl, rfl, Y5.out.bel, Y5.out.h1⟩
      refine AllReadyH.cons rfl (fun K hK => ?_) ?_
      · go_simp
        have Y2 := Lib.hid (Y1.out.push #[.int .i64 0, .int .i64 0, .slice none 0 0, .int .i64 0, .int .i64 0] 70)
        generalize V1.alloc (.cells #[.int .i64 0, .int .i64 0, .slice none 0 0, .int .i64 0, .int .i64 0] 70) = V2 at Y2 ⊢
        refine hK.out _ _ (QC.out _ Y2.out.bel) (fun hHeld => ?_)
        (try clear hK K)
        (try simp only [Act.put, List.setIfInBounds_toArray, List.set_cons_zero, List.set_cons_succ, List.getElem_toArray, List.getElem_cons_zero, List.getElem_cons_succ])
        refine wpAnyH_ready (rs := [19]) (by kernel_rfl) (by simp) ?_
        refine AllReadyH.cons rfl (fun K hK => ?_) AllReadyH.nil
        go_simp
        have Y3 := Lib.hid (Y2.out.push #[.int .i64 0, .slice none 0 0] 43)
        generalize V2.alloc (.cells #[.int .i64 0, .slice none 0 0] 43) = V3 at Y3 ⊢
        refine hK.out _ _ (QC.out _ Y3.out.bel) (fun hHeld => ?_)
        (try clear hK K)
        (try simp only [Act.put, List.setIfInBounds_toArray, List.set_cons_zero, List.set_cons_succ, List.getElem_toArray, List.getElem_cons_zero, List.getElem_cons_succ])
        refine wpAnyH_ready (rs := [21]) (by kernel_rfl) (by simp) ?_
        refine AllReadyH.cons rfl (fun K hK => ?_) AllReadyH.nil
        have r9 := Y3.out.h0
        have f9 := froz r9
        obtain ⟨z0, z1⟩ := cell2 r9
        go_simp
        have Y4 := Lib.hid (BXs.put2 (A := []) Y3.out (a := .int .i64 (n : Int)) (c := .slice ao Q.length cap))
        clear r9 f9 z0 z1
        generalize World.setCell (World.setCell V3 _ _) _ _ = V4 at Y4 ⊢
        refine hK.out _ _ (QC.out _ Y4.out.bel) (fun hHeld => ?_)
        (try clear hK K)
        (try simp only [Act.put, List.setIfInBounds_toArray, List.set_cons_zero, List.set_cons_succ, List.getElem_toArray, List.getElem_cons_zero, List.getElem_cons_succ])
        refine wpAnyH_ready (rs := [22]) (by kernel_rfl) (by simp) ?_
        refine AllReadyH.cons rfl (fun K hK => ?_) AllReadyH.nil
        have r9 := Y4.out.h1
        have f9 := froz r9
        obtain ⟨z0, z1, z2, z3, z4⟩ := cell5 r9
        go_simp
        have Y5 := Lib.hid (BXs.put5 (A := [(V2.heap.size, #[.int .i64 (n : Int), .slice ao Q.length cap], 43)]) Y4.out (c0 := .int .i64 x.s) (c1 := .int .i64 (x.n : Int)) (c2 := .slice xo x.l.length xc) (c3 := .int .i64 (x.f : Int)) (c4 := .int .i64 x.g))
        clear r9 f9 z0 z1 z2 z3 z4
        generalize World.setCell (World.setCell (World.setCell (World.setCell (World.setCell V4 _ _) _ _) _ _) _ _) _ _ = V5 at Y5 ⊢
        refine hK.out _ _ (QC.out _ Y5.out.bel) (fun hHeld => ?_)
        (try clear hK K)
        (try simp only [Act.put, List.setIfInBounds_toArray, List.set_cons_zero, List.set_cons_succ, List.getElem_toArray, List.getElem_cons_zero, List.getElem_cons_succ])
        refine wpAnyH_take (i := 23) (v := ?va21) rfl (by kernel_rfl) (by kernel_rfl) (by kernel_rfl) (fun _ _ _ h => h) (Or.inl ⟨by rfl, ?ha21⟩) (by assumption) ?ra21
        case ha21 => (intro wS hSw; (try dsimp only at hSw); (try clear hSw); go_simp <;> (with_reducible rfl))
        (try simp only [Act.put, List.setIfInBounds_toArray, List.set_cons_zero, List.set_cons_succ, List.getElem_toArray, List.getElem_cons_zero, List.getElem_cons_succ])
        refine wpAnyH_take (i := 24) (v := ?va22) rfl (by kernel_rfl) (by kernel_rfl) (by kernel_rfl) (fun _ _ _ h => h) (Or.inl ⟨by rfl, ?ha22⟩) (by assumption) ?ra22
        case ha22 => (intro wS hSw; (try dsimp only at hSw); (try clear hSw); go_simp <;> (with_reducible rfl))
        (try simp only [Act.put, List.setIfInBounds_toArray, List.set_cons_zero, List.set_cons_succ, List.getElem_toArray, List.getElem_cons_zero, List.getElem_cons_succ])
        refine wpAnyH_done (by kernel_rfl) ?_ _
        clear hHeld
        go_wp2_with fail
        go_meet
        exact ⟨_, _, _, rfl, rfl, rfl, rfl, rfl, Y5.out.bel, Y5.out.h0⟩
      exact AllReadyH.nil
    refine AllReadyH.cons rfl (fun K hK => ?_) ?_
    · go_simp
      have Y1 := Lib.hid (Y0.out.push #[.int .i64 0, .slice none 0 0] 43)
      generalize V0.alloc (.cells #[.int .i64 0, .slice none 0 0] 43) = V1 at Y1 ⊢
      refine hK.out _ _ (QC.out _ Y1.out.bel) (fun hHeld => ?_)
      (try clear hK K)
      (try simp only [Act.put, List.setIfInBounds_toArray, List.set_cons_zero, List.set_cons_succ, List.getElem_toArray, List.getElem_cons_zero, List.getElem_cons_succ])
      refine wpAnyH_ready (rs := [13, 20]) (by kernel_rfl) (by simp) ?_
      refine AllReadyH.cons rfl (fun K hK => ?_) ?_
      · go_simp
        refine (CD.out _ (X2.out.low Y1.out.bel).gl (X2.out.low Y1.out.bel).bel.size).mono ?_; rintro r V2 ⟨rfl, ho2, hb2⟩
        have Y2 := Lib.hid (Y1.out.low hb2)
        clear ho2 hb2
        refine hK.out _ _ (QC.out _ Y2.out.bel) (fun hHeld => ?_)
        (try clear hK K)
        (try simp only [Act.put, List.setIfInBounds_toArray, List.set_cons_zero, List.set_cons_succ, List.getElem_toArray, List.getElem_cons_zero, List.getElem_cons_succ])
        refine wpAnyH_take (i := 14) (v := ?va23) rfl (by kernel_rfl) (by kernel_rfl) (by kernel_rfl) (fun _ _ _ h => h) (Or.inl ⟨by rfl, ?ha23⟩) (by assumption) ?ra23
        case ha23 => (intro wS hSw; (try dsimp only at hSw); (try clear hSw); go_simp <;> (with_reducible rfl))
        (try simp only [Act.put, List.setIfInBounds_toArray, List.set_cons_zero, List.set_cons_succ, List.getElem_toArray, List.getElem_cons_zero, List.getElem_cons_succ])
        refine wpAnyH_take (i := 15) (v := ?va24) rfl (by kernel_rfl) (by kernel_rfl) (by kernel_rfl) (fun _ _ _ h => h) (Or.inl ⟨by rfl, ?ha24⟩) (by assumption) ?ra24
        case ha24 => (intro wS hSw; (try dsimp only at hSw); (try clear hSw); go_simp <;> (with_reducible rfl))
        (try simp only [Act.put, List.setIfInBounds_toArray, List.set_cons_zero, List.set_cons_succ, List.getElem_toArray, List.getElem_cons_zero, List.getElem_cons_succ])
        refine wpAnyH_take (i := 16) (v := ?va25) rfl (by kernel_rfl) (by kernel_rfl) (by kernel_rfl) (fun _ _ _ h => h) (Or.inl ⟨by rfl, ?ha25⟩) (by assumption) ?ra25
        case ha25 => (intro wS hSw; (try dsimp only at hSw); (try clear hSw); go_simp <;> (with_reducible rfl))
        (try simp only [Act.put, List.setIfInBounds_toArray, List.set_cons_zero, List.set_cons_succ, List.getElem_toArray, List.getElem_cons_zero, List.getElem_cons_succ])
        refine wpAnyH_take (i := 17) (v := ?va26) rfl (by kernel_rfl) (by kernel_rfl) (by kernel_rfl) (fun _ _ _ h => h) (Or.inl ⟨by rfl, ?ha26⟩) (by assumption) ?ra26
        case ha26 => (intro wS hSw; (try dsimp only at hSw); (try clear hSw); go_simp <;> (with_reducible rfl))
        (try simp only [Act.put, List.setIfInBounds_toArray, List.set_cons_zero, List.set_cons_succ, List.getElem_toArray, List.getElem_cons_zero, List.getElem_cons_succ])
        refine wpAnyH_take (i := 18) (v := ?va27) rfl (by kernel_rfl) (by kernel_rfl) (by kernel_rfl) (fun _ _ _ h => h) (Or.inl ⟨by rfl, ?ha27⟩) (by assumption) ?ra27
        case ha27 => (intro wS hSw; (try dsimp only at hSw); (try clear hSw); go_simp <;> (with_reducible rfl))
        (try simp only [Act.put, List.setIfInBounds_toArray, List.set_cons_zero, List.set_cons_succ, List.getElem_toArray, List.getElem_cons_zero, List.getElem_cons_succ])
        refine wpAnyH_ready (rs := [20]) (by kernel_rfl) (by simp) ?_
        refine AllReadyH.cons rfl (fun K hK => ?_) AllReadyH.nil
        go_simp
        have Y3 := Lib.hid (Y2.out.push #[.int .i64 0, .int .i64 0, .slice none 0 0, .int .i64 0, .int .i64 0] 70)
        generalize V2.alloc (.cells #[.int .i64 0, .int .i64 0, .slice none 0 0, .int .i64 0, .int .i64 0] 70) = V3 at Y3 ⊢
        refine hK.out _ _ (QC.out _ Y3.out.bel) (fun hHeld => ?_)
        (try clear hK K)
        (try simp only [Act.put, List.setIfInBounds_toArray, List.set_cons_zero, List.set_cons_succ, List.getElem_toArray, List.getElem_cons_zero, List.getElem_cons_succ])
        refine wpAnyH_ready (rs := [21]) (by kernel_rfl) (by simp) ?_
        refine AllReadyH.cons rfl (fun K hK => ?_) AllReadyH.nil
        have r9 := Y3.out.h1
        have f9 := froz r9
        obtain ⟨z0, z1⟩ := cell2 r9
        go_simp
        have Y4 := Lib.hid (BXs.put2 (A := [(V2.heap.size, #[.int .i64 0, .int .i64 0, .slice none 0 0, .int .i64 0, .int .i64 0], 70)]) Y3.out (a := .int .i64 (n : Int)) (c := .slice ao Q.length cap))
        clear r9 f9 z0 z1
        generalize World.setCell (World.setCell V3 _ _) _ _ = V4 at Y4 ⊢
        refine hK.out _ _ (QC.out _ Y4.out.bel) (fun hHeld => ?_)
        (try clear hK K)
        (try simp only [Act.put, List.setIfInBounds_toArray, List.set_cons_zero, List.set_cons_succ, List.getElem_toArray, List.getElem_cons_zero, List.getElem_cons_succ])
        refine wpAnyH_ready (rs := [22]) (by kernel_rfl) (by simp) ?_
        refine AllReadyH.cons rfl (fun K hK => ?_) AllReadyH.nil
        have r9 := Y4.out.h0
        have f9 := froz r9
        obtain ⟨z0, z1, z2, z3, z4⟩ := cell5 r9
        go_simp
        have Y5 := Lib.hid (BXs.put5 (A := []) Y4.out (c0 := .int .i64 x.s) (c1 := .int .i64 (x.n : Int)) (c2 := .slice xo x.l.length xc) (c3 := .int .i64 (x.f : Int)) (c4 := .int .i64 x.g))
        clear r9 f9 z0 z1 z2 z3 z4
        generalize World.setCell (World.setCell (World.setCell (World.setCell (World.setCell V4 _ _) _ _) _ _) _ _) _ _ = V5 at Y5 ⊢
        refine hK.out _ _ (QC.out _ Y5.out.bel) (fun hHeld => ?_)
        (try clear hK K)
        (try simp only [Act.put, List.setIfInBounds_toArray, List.set_cons_zero, List.set_cons_succ, List.getElem_toArray, List.getElem_cons_zero, List.getElem_cons_succ])
        refine wpAnyH_take (i := 23) (v := ?va28) rfl (by kernel_rfl) (by kernel_rfl) (by kernel_rfl) (fun _ _ _ h => h) (Or.inl ⟨by rfl, ?ha28⟩) (by assumption) ?ra28
        case ha28 => (intro wS hSw; (try dsimp only at hSw); (try clear hSw); go_simp <;> (with_reducible rfl))
        (try simp only [Act.put, List.setIfInBounds_toArray, List.set_cons_zero, List.set_cons_succ, List.getElem_toArray, List.getElem_cons_zero, List.getElem_cons_succ])
        refine wpAnyH_take (i := 24) (v := ?va29) rfl (by kernel_rfl) (by kernel_rfl) (by kernel_rfl) (fun _ _ _ h => h) (Or.inl ⟨by rfl, ?ha29⟩) (by assumption) ?ra29
        case ha29 => (intro wS hSw; (try dsimp only at hSw); (try clear hSw); go_simp <;> (with_reducible rfl))
        (try simp only [Act.put, List.setIfInBounds_toArray, List.set_cons_zero, List.set_cons_succ, List.getElem_toArray, List.getElem_cons_zero, List.getElem_cons_succ])
        refine wpAnyH_done (by kernel_rfl) ?_ _
        clear hHeld
        go_wp2_with fail
        go_meet
        exact ⟨_, _, _, rfl, rfl, rfl, rfl, rfl, Y5.out.bel, Y5.out.h1⟩
      refine AllReadyH.cons rfl (fun K hK => ?_) ?_
      · go_simp
        have Y2 := Lib.hid (Y1.out.push #[.int .i64 0, .int .i64 0, .slice none 0 0, .int .i64 0, .int .i64 0] 70)
        generalize V1.alloc (.cells #[.int .i64 0, .int .i64 0, .slice none 0 0, .int .i64 0, .int .i64 0] 70) = V2 at Y2 ⊢
        refine hK.out _ _ (QC.out _ Y2.out.bel) (fun hHeld => ?_)
        (try clear hK K)
        (try simp only [Act.put, List.setIfInBounds_toArray, List.set_cons_zero, List.set_cons_succ, List.getElem_toArray, List.getElem_cons_zero, List.getElem_cons_succ])
        refine wpAnyH_ready (rs := [13]) (by kernel_rfl) (by simp) ?_
        refine AllReadyH.cons rfl (fun K hK => ?_) AllReadyH.nil
        go_simp
        refine (CD.out _ (X2.out.low Y2.out.bel).gl (X2.out.low Y2.out.bel).bel.size).mono ?_; rintro r V3 ⟨rfl, ho3, hb3⟩
        have Y3 := Lib.hid (Y2.out.low hb3)
        clear ho3 hb3
        refine hK.out _ _ (QC.out _ Y3.out.bel) (fun hHeld => ?_)
        (try clear hK K)
        (try simp only [Act.put, List.setIfInBounds_toArray, List.set_cons_zero, List.set_cons_succ, List.getElem_toArray, List.getElem_cons_zero, List.getElem_cons_succ])
        refine wpAnyH_take (i := 14) (v := ?va30) rfl (by kernel_rfl) (by kernel_rfl) (by kernel_rfl) (fun _ _ _ h => h) (Or.inl ⟨by rfl, ?ha30⟩) (by assumption) ?ra30
        case ha30 => (intro wS hSw; (try dsimp only at hSw); (try clear hSw); go_simp <;> (with_reducible rfl))
        (try simp only [Act.put, List.setIfInBounds_toArray, List.set_cons_zero, List.set_cons_succ, List.getElem_toArray, List.getElem_cons_zero, List.getElem_cons_succ])
        refine wpAnyH_take (i := 15) (v := ?va31) rfl (by kernel_rfl) (by kernel_rfl) (by kernel_rfl) (fun _ _ _ h => h) (Or.inl ⟨by rfl, ?ha31⟩) (by assumption) ?ra31
        case ha31 => (intro wS hSw; (try dsimp only at hSw); (try clear hSw); go_simp <;> (with_reducible rfl))
        (try simp only [Act.put, List.setIfInBounds_toArray, List.set_cons_zero, List.set_cons_succ, List.getElem_toArray, List.getElem_cons_zero, List.getElem_cons_succ])
        refine wpAnyH_take (i := 16) (v := ?va32) rfl (by kernel_rfl) (by kernel_rfl) (by kernel_rfl) (fun _ _ _ h => h) (Or.inl ⟨by rfl, ?ha32⟩) (by assumption) ?ra32
        case ha32 => (intro wS hSw; (try dsimp only at hSw); (try clear hSw); go_simp <;> (with_reducible rfl))
        (try simp only [Act.put, List.setIfInBounds_toArray, List.set_cons_zero, List.set_cons_succ, List.getElem_toArray, List.getElem_cons_zero, List.getElem_cons_succ])
        refine wpAnyH_take (i := 17) (v := ?va33) rfl (by kernel_rfl) (by kernel_rfl) (by kernel_rfl) (fun _ _ _ h => h) (Or.inl ⟨by rfl, ?ha33⟩) (by assumption) ?ra33
        case ha33 => (intro wS hSw; (try dsimp only at hSw); (try clear hSw); go_simp <;> (with_reducible rfl))
        (try simp only [Act.put, List.setIfInBounds_toArray, List.set_cons_zero, List.set_cons_succ, List.getElem_toArray, List.getElem_cons_zero, List.getElem_cons_succ])
        refine wpAnyH_take (i := 18) (v := ?va34) rfl (by kernel_rfl) (by kernel_rfl) (by kernel_rfl) (fun _ _ _ h => h) (Or.inl ⟨by rfl, ?ha34⟩) (by assumption) ?ra34
        case ha34 => (intro wS hSw; (try dsimp only at hSw); (try clear hSw); go_simp <;> (with_reducible rfl))
        (try simp only [Act.put, List.setIfInBounds_toArray, List.set_cons_zero, List.set_cons_succ, List.getElem_toArray, List.getElem_cons_zero, List.getElem_cons_succ])
        refine wpAnyH_ready (rs := [21]) (by kernel_rfl) (by simp) ?_
        refine AllReadyH.cons rfl (fun K hK => ?_) AllReadyH.nil
        have r9 := Y3.out.h1
        have f9 := froz r9
        obtain ⟨z0, z1⟩ := cell2 r9
        go_simp
        have Y4 := Lib.hid (BXs.put2 (A := [(V1.heap.size, #[.int .i64 0, .int .i64 0, .slice none 0 0, .int .i64 0, .int .i64 0], 70)]) Y3.out (a := .int .i64 (n : Int)) (c := .slice ao Q.length cap))
        clear r9 f9 z0 z1
        generalize World.setCell (World.setCell V3 _ _) _ _ = V4 at Y4 ⊢
        refine hK.out _ _ (QC.out _ Y4.out.bel) (fun hHeld => ?_)
        (try clear hK K)
        (try simp only [Act.put, List.setIfInBounds_toArray, List.set_cons_zero, List.set_cons_succ, List.getElem_toArray, List.getElem_cons_zero, List.getElem_cons_succ])
        refine wpAnyH_ready (rs := [22]) (by kernel_rfl) (by simp) ?_
        refine AllReadyH.cons rfl (fun K hK => ?_) AllReadyH.nil
        have r9 := Y4.out.h0
        have f9 := froz r9
        obtain ⟨z0, z1, z2, z3, z4⟩ := cell5 r9
        go_simp
        have Y5 := Lib.hid (BXs.put5 (A := []) Y4.out (c0 := .int .i64 x.s) (c1 := .int .i64 (x.n : Int)) (c2 := .slice xo x.l.length xc) (c3 := .int .i64 (x.f : Int)) (c4 := .int .i64 x.g))
        clear r9 f9 z0 z1 z2 z3 z4
        generalize World.setCell (World.setCell (World.setCell (World.setCell (World.setCell V4 _ _) _ _) _ _) _ _) _ _ = V5 at Y5 ⊢
        refine hK.out _ _ (QC.out _ Y5.out.bel) (fun hHeld => ?_)
        (try clear hK K)
        (try simp only [Act.put, List.setIfInBounds_toArray, List.set_cons_zero, List.set_cons_succ, List.getElem_toArray, List.getElem_cons_zero, List.getElem_cons_succ])
        refine wpAnyH_take (i := 23) (v := ?va35) rfl (by kernel_rfl) (by kernel_rfl) (by kernel_rfl) (fun _ _ _ h => h) (Or.inl ⟨by rfl, ?ha35⟩) (by assumption) ?ra35
        case ha35 => (intro wS hSw; (try dsimp only at hSw); (try clear hSw); go_simp <;> (with_reducible rfl))
        (try simp only [Act.put, List.setIfInBounds_toArray, List.set_cons_zero, List.set_cons_succ, List.getElem_toArray, List.getElem_cons_zero, List.getElem_cons_succ])
        refine wpAnyH_take (i := 24) (v := ?va36) rfl (by kernel_rfl) (by kernel_rfl) (by kernel_rfl) (fun _ _ _ h => h) (Or.inl ⟨by rfl, ?ha36⟩) (by assumption) ?ra36
        case ha36 => (intro wS hSw; (try dsimp only at hSw); (try clear hSw); go_simp <;> (with_reducible rfl))
        (try simp only [Act.put, List.setIfInBounds_toArray, List.set_cons_zero, List.set_cons_succ, List.getElem_toArray, List.getElem_cons_zero, List.getElem_cons_succ])
        refine wpAnyH_done (by kernel_rfl) ?_ _
        clear hHeld
        go_wp2_with fail
        go_meet
        exact ⟨_, _, _, rfl, rfl, rfl, rfl, rfl, Y5.out.bel, Y5.out.h1⟩
      exact AllReadyH.nil
    refine AllReadyH.cons rfl (fun K hK => ?_) ?_
    · go_simp
      have Y1 := Lib.hid (Y0.out.push #[.int .i64 0, .int .i64 0, .slice none 0 0, .int .i64 0, .int .i64 0] 70)
      generalize V0.alloc (.cells #[.int .i64 0, .int .i64 0, .slice none 0 0, .int .i64 0, .int .i64 0] 70) = V1 at Y1 ⊢
      refine hK.out _ _ (QC.out _ Y1.out.bel) (fun hHeld => ?_)
      (try clear hK K)
      (try simp only [Act.put, List.setIfInBounds_toArray, List.set_cons_zero, List.set_cons_succ, List.getElem_toArray, List.getElem_cons_zero, List.getElem_cons_succ])
      refine wpAnyH_ready (rs := [13, 19]) (by kernel_rfl) (by simp) ?_
      refine AllReadyH.cons rfl (fun K hK => ?_) ?_
      · go_simp
        refine (CD.out _ (X2.out.low Y1.out.bel).gl (X2.out.low Y1.out.bel).bel.size).mono ?_; rintro r V2 ⟨rfl, ho2, hb2⟩
        have Y2 := Lib.hid (Y1.out.low hb2)
        clear ho2 hb2
        refine hK.out _ _ (QC.out _ Y2.out.bel) (fun hHeld => ?_)
        (try clear hK K)
        (try simp only [Act.put, List.setIfInBounds_toArray, List.set_cons_zero, List.set_cons_succ, List.getElem_toArray, List.getElem_cons_zero, List.getElem_cons_succ])
        refine wpAnyH_take (i := 14) (v := ?va37) rfl (by kernel_rfl) (by kernel_rfl) (by kernel_rfl) (fun _ _ _ h => h) (Or.inl ⟨by rfl, ?ha37⟩) (by assumption) ?ra37
        case ha37 => (intro wS hSw; (try dsimp only at hSw); (try clear hSw); go_simp <;> (with_reducible rfl))
        (try simp only [Act.put, List.setIfInBounds_toArray, List.set_cons_zero, List.set_cons_succ, List.getElem_toArray, List.getElem_cons_zero, List.getElem_cons_succ])
        refine wpAnyH_take (i := 15) (v := ?va38) rfl (by kernel_rfl) (by kernel_rfl) (by kernel_rfl) (fun _ _ _ h => h) (Or.inl ⟨by rfl, ?ha38⟩) (by assumption) ?ra38
        case ha38 => (intro wS hSw; (try dsimp only at hSw); (try clear hSw); go_simp <;> (with_reducible rfl))
        (try simp only [Act.put, List.setIfInBounds_toArray, List.set_cons_zero, List.set_cons_succ, List.getElem_toArray, List.getElem_cons_zero, List.getElem_cons_succ])
        refine wpAnyH_take (i := 16) (v := ?va39) rfl (by kernel_rfl) (by kernel_rfl) (by kernel_rfl) (fun _ _ _ h => h) (Or.inl ⟨by rfl, ?ha39⟩) (by assumption) ?ra39
        case ha39 => (intro wS hSw; (try dsimp only at hSw); (try clear hSw); go_simp <;> (with_reducible rfl))
        (try simp only [Act.put, List.setIfInBounds_toArray, List.set_cons_zero, List.set_cons_succ, List.getElem_toArray, List.getElem_cons_zero, List.getElem_cons_succ])
        refine wpAnyH_take (i := 17) (v := ?va40) rfl (by kernel_rfl) (by kernel_rfl) (by kernel_rfl) (fun _ _ _ h => h) (Or.inl ⟨by rfl, ?ha40⟩) (by assumption) ?ra40
        case ha40 => (intro wS hSw; (try dsimp only at hSw); (try clear hSw); go_simp <;> (with_reducible rfl))
        (try simp only [Act.put, List.setIfInBounds_toArray, List.set_cons_zero, List.set_cons_succ, List.getElem_toArray, List.getElem_cons_zero, List.getElem_cons_succ])
        refine wpAnyH_take (i := 18) (v := ?va41) rfl (by kernel_rfl) (by kernel_rfl) (by kernel_rfl) (fun _ _ _ h => h) (Or.inl ⟨by rfl, ?ha41⟩) (by assumption) ?ra41
        case ha41 => (intro wS hSw; (try dsimp only at hSw); (try clear hSw); go_simp <;> (with_reducible rfl))
        (try simp only [Act.put, List.setIfInBounds_toArray, List.set_cons_zero, List.set_cons_succ, List.getElem_toArray, List.getElem_cons_zero, List.getElem_cons_succ])
        refine wpAnyH_ready (rs := [19]) (by kernel_rfl) (by simp) ?_
        refine AllReadyH.cons rfl (fun K hK => ?_) AllReadyH.nil
        go_simp
        have Y3 := Lib.hid (Y2.out.push #[.int .i64 0, .slice none 0 0] 43)
        generalize V2.alloc (.cells #[.int .i64 0, .slice none 0 0] 43) = V3 at Y3 ⊢
        refine hK.out _ _ (QC.out _ Y3.out.bel) (fun hHeld => ?_)
        (try clear hK K)
        (try simp only [Act.put, List.setIfInBounds_toArray, List.set_cons_zero, List.set_cons_succ, List.getElem_toArray, List.getElem_cons_zero, List.getElem_cons_succ])
        refine wpAnyH_ready (rs := [21]) (by kernel_rfl) (by simp) ?_
        refine AllReadyH.cons rfl (fun K hK => ?_) AllReadyH.nil
        have r9 := Y3.out.h0
        have f9 := froz r9
        obtain ⟨z0, z1⟩ := cell2 r9
        go_simp
        have Y4 := Lib.hid (BXs.put2 (A := []) Y3.out (a := .int .i64 (n : Int)) (c := .slice ao Q.length cap))
        clear r9 f9 z0 z1
        generalize World.setCell (World.setCell V3 _ _) _ _ = V4 at Y4 ⊢
        refine hK.out _ _ (QC.out _ Y4.out.bel) (fun hHeld => ?_)
        (try clear hK K)
        (try simp only [Act.put, List.setIfInBounds_toArray, List.set_cons_zero, List.set_cons_succ, List.getElem_toArray, List.getElem_cons_zero, List.getElem_cons_succ])
        refine wpAnyH_ready (rs := [22]) (by kernel_rfl) (by simp) ?_
        refine AllReadyH.cons rfl (fun K hK => ?_) AllReadyH.nil
        have r9 := Y4.out.h1
        have f9 := froz r9
        obtain ⟨z0, z1, z2, z3, z4⟩ := cell5 r9
        go_simp
        have Y5 := Lib.hid (BXs.put5 (A := [(V2.heap.size, #[.int .i64 (n : Int), .slice ao Q.length cap], 43)]) Y4.out (c0 := .int .i64 x.s) (c1 := .int .i64 (x.n : Int)) (c2 := .slice xo x.l.length xc) (c3 := .int .i64 (x.f : Int)) (c4 := .int .i64 x.g))
        clear r9 f9 z0 z1 z2 z3 z4
        generalize World.setCell (World.setCell (World.setCell (World.setCell (World.setCell V4 _ _) _ _) _ _) _ _) _ _ = V5 at Y5 ⊢
        refine hK.out _ _ (QC.out _ Y5.out.bel) (fun hHeld => ?_)
        (try clear hK K)
        (try simp only [Act.put, List.setIfInBounds_toArray, List.set_cons_zero, List.set_cons_succ, List.getElem_toArray, List.getElem_cons_zero, List.getElem_cons_succ])
        refine wpAnyH_take (i := 23) (v := ?va42) rfl (by kernel_rfl) (by kernel_rfl) (by kernel_rfl) (fun _ _ _ h => h) (Or.inl ⟨by rfl, ?ha42⟩) (by assumption) ?ra42
        case ha42 => (intro wS hSw; (try dsimp only at hSw); (try clear hSw); go_simp <;> (with_reducible rfl))
        (try simp only [Act.put, List.setIfInBounds_toArray, List.set_cons_zero, List.set_cons_succ, List.getElem_toArray, List.getElem_cons_zero, List.getElem_cons_succ])
        refine wpAnyH_take (i := 24) (v := ?va43) rfl (by kernel_rfl) (by kernel_rfl) (by kernel_rfl) (fun _ _ _ h => h) (Or.inl ⟨by rfl, ?ha43⟩) (by assumption) ?ra43
        case ha43 => (intro wS hSw; (try dsimp only at hSw); (try clear hSw); go_simp <;> (with_reducible rfl))
        (try simp only [Act.put, List.setIfInBounds_toArray, List.set_cons_zero, List.set_cons_succ, List.getElem_toArray, List.getElem_cons_zero, List.getElem_cons_succ])
        refine wpAnyH_done (by kernel_rfl) ?_ _
        clear hHeld
        go_wp2_with fail
        go_meet
        exact ⟨_, _, _, rfl, rfl, rfl, rfl, rfl, Y5.out.bel, Y5.out.h0⟩
      refine AllReadyH.cons rfl (fun K hK => ?_) ?_
      · go_simp
        have Y2 := Lib.hid (Y1.out.push #[.int .i64 0, .slice none 0 0] 43)
        generalize V1.alloc (.cells #[.int .i64 0, .slice none 0 0] 43) = V2 at Y2 ⊢
        refine hK.out _ _ (QC.out _ Y2.out.bel) (fun hHeld => ?_)
        (try clear hK K)
        (try simp only [Act.put, List.setIfInBounds_toArray, List.set_cons_zero, List.set_cons_succ, List.getElem_toArray, List.getElem_cons_zero, List.getElem_cons_succ])
        refine wpAnyH_ready (rs := [13]) (by kernel_rfl) (by simp) ?_
        refine AllReadyH.cons rfl (fun K hK => ?_) AllReadyH.nil
        go_simp
        refine (CD.out _ (X2.out.low Y2.out.bel).gl (X2.out.low Y2.out.bel).bel.size).mono ?_; rintro r V3 ⟨rfl, ho3, hb3⟩
        have Y3 := Lib.hid (Y2.out.low hb3)
        clear ho3 hb3
        refine hK.out _ _ (QC.out _ Y3.out.bel) (fun hHeld => ?_)
        (try clear hK K)
        (try simp only [Act.put, List.setIfInBounds_toArray, List.set_cons_zero, List.set_cons_succ, List.getElem_toArray, List.getElem_cons_zero, List.getElem_cons_succ])
        refine wpAnyH_take (i := 14) (v := ?va44) rfl (by kernel_rfl) (by kernel_rfl) (by kernel_rfl) (fun _ _ _ h => h) (Or.inl ⟨by rfl, ?ha44⟩) (by assumption) ?ra44
        case ha44 => (intro wS hSw; (try dsimp only at hSw); (try clear hSw); go_simp <;> (with_reducible rfl))
        (try simp only [Act.put, List.setIfInBounds_toArray, List.set_cons_zero, List.set_cons_succ, List.getElem_toArray, List.getElem_cons_zero, List.getElem_cons_succ])
        refine wpAnyH_take (i := 15) (v := ?va45) rfl (by kernel_rfl) (by kernel_rfl) (by kernel_rfl) (fun _ _ _ h => h) (Or.inl ⟨by rfl, ?ha45⟩) (by assumption) ?ra45
        case ha45 => (intro wS hSw; (try dsimp only at hSw); (try clear hSw); go_simp <;> (with_reducible rfl))
        (try simp only [Act.put, List.setIfInBounds_toArray, List.set_cons_zero, List.set_cons_succ, List.getElem_toArray, List.getElem_cons_zero, List.getElem_cons_succ])
        refine wpAnyH_take (i := 16) (v := ?va46) rfl (by kernel_rfl) (by kernel_rfl) (by kernel_rfl) (fun _ _ _ h => h) (Or.inl ⟨by rfl, ?ha46⟩) (by assumption) ?ra46
        case ha46 => (intro wS hSw; (try dsimp only at hSw); (try clear hSw); go_simp <;> (with_reducible rfl))
        (try simp only [Act.put, List.setIfInBounds_toArray, List.set_cons_zero, List.set_cons_succ, List.getElem_toArray, List.getElem_cons_zero, List.getElem_cons_succ])
        refine wpAnyH_take (i := 17) (v := ?va47) rfl (by kernel_rfl) (by kernel_rfl) (by kernel_rfl) (fun _ _ _ h => h) (Or.inl ⟨by rfl, ?ha47⟩) (by assumption) ?ra47
        case ha47 => (intro wS hSw; (try dsimp only at hSw); (try clear hSw); go_simp <;> (with_reducible rfl))
        (try simp only [Act.put, List.setIfInBounds_toArray, List.set_cons_zero, List.set_cons_succ, List.getElem_toArray, List.getElem_cons_zero, List.getElem_cons_succ])
        refine wpAnyH_take (i := 18) (v := ?va48) rfl (by kernel_rfl) (by kernel_rfl) (by kernel_rfl) (fun _ _ _ h => h) (Or.inl ⟨by rfl, ?ha48⟩) (by assumption) ?ra48
        case ha48 => (intro wS hSw; (try dsimp only at hSw); (try clear hSw); go_simp <;> (with_reducible rfl))
        (try simp only [Act.put, List.setIfInBounds_toArray, List.set_cons_zero, List.set_cons_succ, List.getElem_toArray, List.getElem_cons_zero, List.getElem_cons_succ])
        refine wpAnyH_ready (rs := [21]) (by kernel_rfl) (by simp) ?_
        refine AllReadyH.cons rfl (fun K hK => ?_) AllReadyH.nil
        have r9 := Y3.out.h0
        have f9 := froz r9
        obtain ⟨z0, z1⟩ := cell2 r9
        go_simp
        have Y4 := Lib.hid (BXs.put2 (A := []) Y3.out (a := .int .i64 (n : Int)) (c := .slice ao Q.length cap))
        clear r9 f9 z0 z1
        generalize World.setCell (World.setCell V3 _ _) _ _ = V4 at Y4 ⊢
        refine hK.out _ _ (QC.out _ Y4.out.bel) (fun hHeld => ?_)
        (try clear hK K)
        (try simp only [Act.put, List.setIfInBounds_toArray, List.set_cons_zero, List.set_cons_succ, List.getElem_toArray, List.getElem_cons_zero, List.getElem_cons_succ])
        refine wpAnyH_ready (rs := [22]) (by kernel_rfl) (by simp) ?_
        refine AllReadyH.cons rfl (fun K hK => ?_) AllReadyH.nil
        have r9 := Y4.out.h1
        have f9 := froz r9
        obtain ⟨z0, z1, z2, z3, z4⟩ := cell5 r9
        go_simp
        have Y5 := Lib.hid (BXs.put5 (A := [(V1.heap.size, #[.int .i64 (n : Int), .slice ao Q.length cap], 43)]) Y4.out (c0 := .int .i64 x.s) (c1 := .int .i64 (x.n : Int)) (c2 := .slice xo x.l.length xc) (c3 := .int .i64 (x.f : Int)) (c4 := .int .i64 x.g))
        clear r9 f9 z0 z1 z2 z3 z4
        generalize World.setCell (World.setCell (World.setCell (World.setCell (World.setCell V4 _ _) _ _) _ _) _ _) _ _ = V5 at Y5 ⊢
        refine hK.out _ _ (QC.out _ Y5.out.bel) (fun hHeld => ?_)
        (try clear hK K)
        (try simp only [Act.put, List.setIfInBounds_toArray, List.set_cons_zero, List.set_cons_succ, List.getElem_toArray, List.getElem_cons_zero, List.getElem_cons_succ])
        refine wpAnyH_take (i := 23) (v := ?va49) rfl (by kernel_rfl) (by kernel_rfl) (by kernel_rfl) (fun _ _ _ h => h) (Or.inl ⟨by rfl, ?ha49⟩) (by assumption) ?ra49
        case ha49 => (intro wS hSw; (try dsimp only at hSw); (try clear hSw); go_simp <;> (with_reducible rfl))
        (try simp only [Act.put, List.setIfInBounds_toArray, List.set_cons_zero, List.set_cons_succ, List.getElem_toArray, List.getElem_cons_zero, List.getElem_cons_succ])
        refine wpAnyH_take (i := 24) (v := ?va50) rfl (by kernel_rfl) (by kernel_rfl) (by kernel_rfl) (fun _ _ _ h => h) (Or.inl ⟨by rfl, ?ha50⟩) (by assumption) ?ra50
        case ha50 => (intro wS hSw; (try dsimp only at hSw); (try clear hSw); go_simp <;> (with_reducible rfl))
        (try simp only [Act.put, List.setIfInBounds_toArray, List.set_cons_zero, List.set_cons_succ, List.getElem_toArray, List.getElem_cons_zero, List.getElem_cons_succ])
        refine wpAnyH_done (by kernel_rfl) ?_ _
        clear hHeld
        go_wp2_with fail
        go_meet
        exact ⟨_, _, _, rfl, rfl, rfl, rfl, rfl, Y5.out.bel, Y5.out.h0⟩
      exact AllReadyH.nil
    exact AllReadyH.nil
  case rest =>
    obtain ⟨bF, bS, wy, hwy, rfl, rfl, rfl, rfl, B3, R3⟩ := hcut
    subst hwy
    have X3 := Lib.hid (X2.out.low B3).drew
    have D3 := Lib.hid (D2.out.low B3).drew
    have R3 := Lib.hid (show wy.drew.heap[bF]? = some (.cells #[.int .i64 (n : Int), .slice ao Q.length cap] 43 (0, 0)) from R3)
    clear X2 D2 QC CD B3
    go_upto_region 24 with fail
    have CP1 := Lib.hid (CP.out _ X3.out.pa)
    have hS : wy.drew.cell? ⟨wb, 0, none⟩ = some (.pointer (some ⟨sb, 0, none⟩)) ∧ wy.drew.cell? ⟨wb, 1, none⟩ = some (.pointer (some ⟨fb, 0, none⟩)) ∧ wy.drew.cell? ⟨wb, 2, none⟩ = some (.slice (some ⟨lg, 0, none⟩) ll lc) ∧ wy.drew.cell? ⟨lg, k, none⟩ = some (.pointer (some ⟨x.st, 0, none⟩)) ∧ wy.drew.cell? ⟨b, 3, none⟩ = some (.int .i64 gg) := ⟨X3.out.cells.1, X3.out.cells.2.1, X3.out.cells.2.2.1, X3.out.ptrc hAB.out, D3.out.cells.2.2.2.1⟩
    refine wp_region_held_drew (S := fun wS => wS.cell? ⟨wb, 0, none⟩ = some (.pointer (some ⟨sb, 0, none⟩)) ∧ wS.cell? ⟨wb, 1, none⟩ = some (.pointer (some ⟨fb, 0, none⟩)) ∧ wS.cell? ⟨wb, 2, none⟩ = some (.slice (some ⟨lg, 0, none⟩) ll lc) ∧ wS.cell? ⟨lg, k, none⟩ = some (.pointer (some ⟨x.st, 0, none⟩)) ∧ wS.cell? ⟨b, 3, none⟩ = some (.int .i64 gg)) (by kernel_rfl) hS (fun hHeld => ?_)
    clear hS CP
    generalize wy.drew = V0 at X3 D3 R3 CP1 hHeld ⊢
    refine wpAnyH_take (i := 0) (v := ?vu1) rfl (by kernel_rfl) (by kernel_rfl) (by kernel_rfl) (fun _ _ _ h => h) (Or.inl ⟨by rfl, ?hu1⟩) (by assumption) ?ru1
    case hu1 => (intro wS hSw; (try dsimp only at hSw); (try clear hSw); go_simp <;> (with_reducible rfl))
    (try simp only [Act.put, List.setIfInBounds_toArray, List.set_cons_zero, List.set_cons_succ, List.getElem_toArray, List.getElem_cons_zero])
    refine wpAnyH_take (i := 1) (v := ?vu2) rfl (by kernel_rfl) (by kernel_rfl) (by kernel_rfl) (fun _ _ _ h => h) (Or.inl ⟨by rfl, ?hu2⟩) (by assumption) ?ru2
    case hu2 => (intro wS hSw; (try dsimp only at hSw); (try clear hSw); go_simp <;> (with_reducible rfl))
    (try simp only [Act.put, List.setIfInBounds_toArray, List.set_cons_zero, List.set_cons_succ, List.getElem_toArray, List.getElem_cons_zero, List.getElem_cons_succ])
    refine wpAnyH_take (i := 2) (v := ?vu3) rfl (by kernel_rfl) (by kernel_rfl) (by kernel_rfl) (fun _ _ _ h => h) (Or.inl ⟨by rfl, ?hu3⟩) (by assumption) ?ru3
    case hu3 => (intro wS hSw; (try dsimp only at hSw); (try clear hSw); go_simp <;> (with_reducible rfl))
    (try simp only [Act.put, List.setIfInBounds_toArray, List.set_cons_zero, List.set_cons_succ, List.getElem_toArray, List.getElem_cons_zero, List.getElem_cons_succ])
    refine wpAnyH_take (i := 3) (v := ?vu4) rfl (by kernel_rfl) (by kernel_rfl) (by kernel_rfl) (fun _ _ _ h => h) (Or.inl ⟨by rfl, ?hu4⟩) (by assumption) ?ru4
    case hu4 => (intro wS hSw; (try dsimp only at hSw); obtain ⟨c0, c1, c2, p0, d3⟩ := hSw; (try clear hSw); go_simp <;> (with_reducible rfl))
    (try simp only [Act.put, List.setIfInBounds_toArray, List.set_cons_zero, List.set_cons_succ, List.getElem_toArray, List.getElem_cons_zero, List.getElem_cons_succ])
    refine wpAnyH_take (i := 4) (v := ?vu5) rfl (by kernel_rfl) (by kernel_rfl) (by kernel_rfl) (fun _ _ _ h => h) (Or.inl ⟨by rfl, ?hu5⟩) (by assumption) ?ru5
    case hu5 => (intro wS hSw; (try dsimp only at hSw); (try clear hSw); go_simp <;> (with_reducible rfl))
    (try simp only [Act.put, List.setIfInBounds_toArray, List.set_cons_zero, List.set_cons_succ, List.getElem_toArray, List.getElem_cons_zero, List.getElem_cons_succ])
    refine wpAnyH_take (i := 5) (v := ?vu6) rfl (by kernel_rfl) (by kernel_rfl) (by kernel_rfl) (fun _ _ _ h => h) (Or.inl ⟨by rfl, ?hu6⟩) (by assumption) ?ru6
    case hu6 => (intro wS hSw; (try dsimp only at hSw); (try clear hSw); go_simp <;> (with_reducible rfl))
    (try simp only [Act.put, List.setIfInBounds_toArray, List.set_cons_zero, List.set_cons_succ, List.getElem_toArray, List.getElem_cons_zero, List.getElem_cons_succ])
    refine wpAnyH_take (i := 6) (v := ?vu7) rfl (by kernel_rfl) (by kernel_rfl) (by kernel_rfl) (fun _ _ _ h => h) (Or.inl ⟨by rfl, ?hu7⟩) (by assumption) ?ru7
    case hu7 => (intro wS hSw; (try dsimp only at hSw); (try clear hSw); go_simp <;> (with_reducible rfl))
    (try simp only [Act.put, List.setIfInBounds_toArray, List.set_cons_zero, List.set_cons_succ, List.getElem_toArray, List.getElem_cons_zero, List.getElem_cons_succ])
    refine wpAnyH_take (i := 7) (v := ?vu8) rfl (by kernel_rfl) (by kernel_rfl) (by kernel_rfl) (fun _ _ _ h => h) (Or.inl ⟨by rfl, ?hu8⟩) (by assumption) ?ru8
    case hu8 => (intro wS hSw; (try dsimp only at hSw); obtain ⟨c0, c1, c2, p0, d3⟩ := hSw; (try clear hSw); go_simp <;> (with_reducible rfl))
    (try simp only [Act.put, List.setIfInBounds_toArray, List.set_cons_zero, List.set_cons_succ, List.getElem_toArray, List.getElem_cons_zero, List.getElem_cons_succ])
    refine wpAnyH_take (i := 8) (v := ?vu9) rfl (by kernel_rfl) (by kernel_rfl) (by kernel_rfl) (fun _ _ _ h => h) (Or.inl ⟨by rfl, ?hu9⟩) (by assumption) ?ru9
    case hu9 => (intro wS hSw; (try dsimp only at hSw); (try clear hSw); go_simp <;> (with_reducible rfl))
    (try simp only [Act.put, List.setIfInBounds_toArray, List.set_cons_zero, List.set_cons_succ, List.getElem_toArray, List.getElem_cons_zero, List.getElem_cons_succ])
    refine wpAnyH_take (i := 9) (v := ?vu10) rfl (by kernel_rfl) (by kernel_rfl) (by kernel_rfl) (fun _ _ _ h => h) (Or.inl ⟨by rfl, ?hu10⟩) (by assumption) ?ru10
    case hu10 => (intro wS hSw; (try dsimp only at hSw); (try clear hSw); go_simp <;> (with_reducible rfl))
    (try simp only [Act.put, List.setIfInBounds_toArray, List.set_cons_zero, List.set_cons_succ, List.getElem_toArray, List.getElem_cons_zero, List.getElem_cons_succ])
    refine wpAnyH_take (i := 10) (v := ?vu11) rfl (by kernel_rfl) (by kernel_rfl) (by kernel_rfl) (fun _ _ _ h => h) (Or.inl ⟨by rfl, ?hu11⟩) (by assumption) ?ru11
    case hu11 => (intro wS hSw; (try dsimp only at hSw); (try clear hSw); go_simp <;> (with_reducible rfl))
    (try simp only [Act.put, List.setIfInBounds_toArray, List.set_cons_zero, List.set_cons_succ, List.getElem_toArray, List.getElem_cons_zero, List.getElem_cons_succ])
    refine wpAnyH_take (i := 11) (v := ?vu12) rfl (by kernel_rfl) (by kernel_rfl) (by kernel_rfl) (fun _ _ _ h => h) (Or.inl ⟨by rfl, ?hu12⟩) (by assumption) ?ru12
    case hu12 => (intro wS hSw; (try dsimp only at hSw); obtain ⟨c0, c1, c2, p0, d3⟩ := hSw; (try clear hSw); go_simp <;> (with_reducible rfl))
    (try simp only [Act.put, List.setIfInBounds_toArray, List.set_cons_zero, List.set_cons_succ, List.getElem_toArray, List.getElem_cons_zero, List.getElem_cons_succ])
    refine wpAnyH_take (i := 12) (v := ?vu13) rfl (by kernel_rfl) (by kernel_rfl) (by kernel_rfl) (fun _ _ _ h => h) (Or.inl ⟨by rfl, ?hu13⟩) (by assumption) ?ru13
    case hu13 => (intro wS hSw; (try dsimp only at hSw); (try clear hSw); go_simp <;> (with_reducible rfl))
    (try simp only [Act.put, List.setIfInBounds_toArray, List.set_cons_zero, List.set_cons_succ, List.getElem_toArray, List.getElem_cons_zero, List.getElem_cons_succ])
    refine wpAnyH_take (i := 13) (v := ?vu14) rfl (by kernel_rfl) (by kernel_rfl) (by kernel_rfl) (fun _ _ _ h => h) (Or.inl ⟨by rfl, ?hu14⟩) (by assumption) ?ru14
    case hu14 => (intro wS hSw; (try dsimp only at hSw); (try clear hSw); go_simp <;> (with_reducible rfl))
    (try simp only [Act.put, List.setIfInBounds_toArray, List.set_cons_zero, List.set_cons_succ, List.getElem_toArray, List.getElem_cons_zero, List.getElem_cons_succ])
    refine wpAnyH_take (i := 14) (v := ?vu15) rfl (by kernel_rfl) (by kernel_rfl) (by kernel_rfl) (fun _ _ _ h => h) (Or.inl ⟨by rfl, ?hu15⟩) (by assumption) ?ru15
    case hu15 => (intro wS hSw; (try dsimp only at hSw); obtain ⟨c0, c1, c2, p0, d3⟩ := hSw; (try clear hSw); go_simp <;> (with_reducible rfl))
    (try simp only [Act.put, List.setIfInBounds_toArray, List.set_cons_zero, List.set_cons_succ, List.getElem_toArray, List.getElem_cons_zero, List.getElem_cons_succ])
    refine wpAnyH_take (i := 15) (v := ?vu16) rfl (by kernel_rfl) (by kernel_rfl) (by kernel_rfl) (fun _ _ _ h => h) (Or.inl ⟨by rfl, ?hu16⟩) (by assumption) ?ru16
    case hu16 => (intro wS hSw; (try dsimp only at hSw); (try clear hSw); go_simp <;> (with_reducible rfl))
    (try simp only [Act.put, List.setIfInBounds_toArray, List.set_cons_zero, List.set_cons_succ, List.getElem_toArray, List.getElem_cons_zero, List.getElem_cons_succ])
    refine wpAnyH_take (i := 16) (v := ?vu17) rfl (by kernel_rfl) (by kernel_rfl) (by kernel_rfl) (fun _ _ _ h => h) (Or.inl ⟨by rfl, ?hu17⟩) (by assumption) ?ru17
    case hu17 => (intro wS hSw; (try dsimp only at hSw); (try clear hSw); go_simp <;> (with_reducible rfl))
    (try simp only [Act.put, List.setIfInBounds_toArray, List.set_cons_zero, List.set_cons_succ, List.getElem_toArray, List.getElem_cons_zero, List.getElem_cons_succ])
    refine wpAnyH_take (i := 17) (v := ?vu18) rfl (by kernel_rfl) (by kernel_rfl) (by kernel_rfl) (fun _ _ _ h => h) (Or.inl ⟨by rfl, ?hu18⟩) (by assumption) ?ru18
    case hu18 => (intro wS hSw; (try dsimp only at hSw); obtain ⟨c0, c1, c2, p0, d3⟩ := hSw; (try clear hSw); go_simp <;> (with_reducible rfl))
    (try simp only [Act.put, List.setIfInBounds_toArray, List.set_cons_zero, List.set_cons_succ, List.getElem_toArray, List.getElem_cons_zero, List.getElem_cons_succ])
    refine wpAnyH_ready (rs := [18]) (by kernel_rfl) (by simp) ?_
    refine AllReadyH.cons rfl (fun K hK => ?_) AllReadyH.nil
    go_simp
    refine CP1.out.mono ?_; rintro r w9 ⟨rfl, bm9, P9, m9, t9⟩
    have X9 := Lib.hid (X3.out.prog P9 m9 t9)
    have D9 := Lib.hid (DB13.mk (w := w9) ((t9.cells X3.out.pa D3.out.row okD).trans D3.out.row))
    have R9 := Lib.hid ((t9.cells X3.out.pa R3.out okF).trans R3.out)
    clear P9 m9 t9
    refine hK.out _ _ ⟨X9.out.cells.1, X9.out.cells.2.1, X9.out.cells.2.2.1, X9.out.ptrc hAB.out, D9.out.cells.2.2.2.1⟩ (fun hHeld => ?_)
    (try clear hK K)
    (try simp only [Act.put, List.setIfInBounds_toArray, List.set_cons_zero, List.set_cons_succ, List.getElem_toArray, List.getElem_cons_zero, List.getElem_cons_succ])
    refine wpAnyH_take (i := 19) (v := ?vu19) rfl (by kernel_rfl) (by kernel_rfl) (by kernel_rfl) (fun _ _ _ h => h) (Or.inl ⟨by rfl, ?hu19⟩) (by assumption) ?ru19
    case hu19 => (intro wS hSw; (try dsimp only at hSw); (try clear hSw); go_simp <;> (with_reducible rfl))
    (try simp only [Act.put, List.setIfInBounds_toArray, List.set_cons_zero, List.set_cons_succ, List.getElem_toArray, List.getElem_cons_zero, List.getElem_cons_succ])
    refine wpAnyH_take (i := 20) (v := ?vu20) rfl (by kernel_rfl) (by kernel_rfl) (by kernel_rfl) (fun _ _ _ h => h) (Or.inl ⟨by rfl, ?hu20⟩) (by assumption) ?ru20
    case hu20 => (intro wS hSw; (try dsimp only at hSw); (try clear hSw); go_simp <;> (with_reducible rfl))
    (try simp only [Act.put, List.setIfInBounds_toArray, List.set_cons_zero, List.set_cons_succ, List.getElem_toArray, List.getElem_cons_zero, List.getElem_cons_succ])
    refine wpAnyH_take (i := 21) (v := ?vu21) rfl (by kernel_rfl) (by kernel_rfl) (by kernel_rfl) (fun _ _ _ h => h) (Or.inl ⟨by rfl, ?hu21⟩) (by assumption) ?ru21
    case hu21 => (intro wS hSw; (try dsimp only at hSw); (try clear hSw); go_simp <;> (with_reducible rfl))
    (try simp only [Act.put, List.setIfInBounds_toArray, List.set_cons_zero, List.set_cons_succ, List.getElem_toArray, List.getElem_cons_zero, List.getElem_cons_succ])
    refine wpAnyH_take (i := 22) (v := ?vu22) rfl (by kernel_rfl) (by kernel_rfl) (by kernel_rfl) (fun _ _ _ h => h) (Or.inl ⟨by rfl, ?hu22⟩) (by assumption) ?ru22
    case hu22 => (intro wS hSw; (try dsimp only at hSw); (try clear hSw); go_simp <;> (with_reducible rfl))
    (try simp only [Act.put, List.setIfInBounds_toArray, List.set_cons_zero, List.set_cons_succ, List.getElem_toArray, List.getElem_cons_zero, List.getElem_cons_succ])
    refine wpAnyH_take (i := 23) (v := ?vu23) rfl (by kernel_rfl) (by kernel_rfl) (by kernel_rfl) (fun _ _ _ h => h) (Or.inl ⟨by rfl, ?hu23⟩) (by assumption) ?ru23
    case hu23 => (intro wS hSw; (try dsimp only at hSw); (try clear hSw); go_simp <;> (with_reducible rfl))
    (try simp only [Act.put, List.setIfInBounds_toArray, List.set_cons_zero, List.set_cons_succ, List.getElem_toArray, List.getElem_cons_zero, List.getElem_cons_succ])
    refine wpAnyH_take (i := 24) (v := ?vu24) rfl (by kernel_rfl) (by kernel_rfl) (by kernel_rfl) (fun _ _ _ h => h) (Or.inl ⟨by rfl, ?hu24⟩) (by assumption) ?ru24
    case hu24 => (intro wS hSw; (try dsimp only at hSw); (try clear hSw); go_simp <;> (with_reducible rfl))
    (try simp only [Act.put, List.setIfInBounds_toArray, List.set_cons_zero, List.set_cons_succ, List.getElem_toArray, List.getElem_cons_zero, List.getElem_cons_succ])
    refine wpAnyH_take (i := 25) (v := ?vu25) rfl (by kernel_rfl) (by kernel_rfl) (by kernel_rfl) (fun _ _ _ h => h) (Or.inl ⟨by rfl, ?hu25⟩) (by assumption) ?ru25
    case hu25 => (intro wS hSw; (try dsimp only at hSw); (try clear hSw); go_simp <;> (with_reducible rfl))
    (try simp only [Act.put, List.setIfInBounds_toArray, List.set_cons_zero, List.set_cons_succ, List.getElem_toArray, List.getElem_cons_zero, List.getElem_cons_succ])
    refine wpAnyH_done (by kernel_rfl) ?_ _
    clear hHeld X3 D3 R3 CP1 D9
    obtain ⟨c0, c1, c2, c3, c4, c5, cf⟩ := X9.out.cells
    obtain ⟨e1, e2⟩ := cell2 R9.out
    go_upto_region 28 with fail
    have X10 := Lib.hid ((X9.out.put 3 (.int .i64 (n : Int)) (.slice (some ⟨lg, 0, none⟩) ll lc) (.slice ao Q.length cap) (.slice (some ⟨sg, 0, none⟩) ll sc) rfl).put 4 (.slice ao Q.length cap) (.slice (some ⟨lg, 0, none⟩) ll lc) (.slice ao Q.length cap) (.slice (some ⟨sg, 0, none⟩) ll sc) rfl)
    clear X9 R9 c0 c1 c2 c3 c4 c5 cf e1 e2
    generalize World.setCell (World.setCell w9 _ _) _ _ = W10 at *
    go_wp2_with fail
    go_ret
    refine ⟨rfl, bm9, ?_⟩
    rw [HLL.out]
    exact X10.out
end
end Go.Proofs.YtnbdoemnepfhdaaGreat.Sw

namespace Go.Proofs.YtnbdoemnepfhdaaGreat.Sw
open Fld Ts
open Frm (OwnI IsD setT manyE manyI manyT giveE giveT lst cnt allB_mem)
open Pt (arI)
open Go.ChangeShapes Go.WideShapes Go.ChangeAt Go.RowKit Go.Shelf Go.Deep
set_option maxHeartbeats 1000000
set_option maxRecDepth 100000
section
variable {W w : World} {wb sb bm fb bb n : Nat} {g : Nat → Nat} {F : Nat → Bool} {gv lv sv : Value}
theorem okD2 : okP 32 := ⟨by decide, by decide, by decide⟩
theorem okW13 : okP 139 := ⟨by decide, by decide, by decide⟩
/-- One TSB in another's place. -/
theorem Fit.chg {h : Nat → Nat} {A B : List Tb} {x y : Tb} (hf : Fit n g F (A ++ x :: B)) (hy : y.In n) (hF : ∀ j, y.f ≤ j → j < y.f + y.k → F j = false) (hp : PlAt h (y.q n g) y.T) (hT : Gd (y.p n) y.T) (ht : Tie (y.p n) y.l y.T) : Fit n (Mem.clr h (8192 * x.f) (8192 * x.k)) (setT (setT F y.f y.k true) x.f x.k false) (A ++ y :: B) := by
  have a := hf.add hy hF hp hT ht
  rw [List.append_assoc, List.cons_append] at a
  exact a.del.perm ((List.perm_append_singleton y B).append_left A)
/-- The TSB that a Change makes. -/
theorem chg_y {L : List Tb} {x : Tb} (hf : Fit n g F L) (hx : x ∈ L) {gg : Int} (he : manyE F n (frI x.s gg) = 0) : ∃ y : Tb, y.In n ∧ y.s = x.s ∧ y.g = gg ∧ y.T = insAll (y.p n) (lstP (x.p n) x.T x.n) ∧ Gd (y.p n) y.T ∧ (∀ j, y.f ≤ j → j < y.f + y.k → F j = false) ∧ manyI F n (frI y.s y.g) = (y.f : Int) ∧ manyT F n (frI y.s y.g) = setT F y.f y.k true := by
  obtain ⟨i, m1, m2, m3, m4, m5, _⟩ := many_yes he
  have hfr := fr_bd x.s gg
  rcases places_or x.s gg with hp | ⟨p1, p2, p3, p4, p5⟩
  · exact absurd (hfr.2.2.2.2.2 hp) (by omega)
  have hy : Tb.In ⟨0, i, x.s, gg, insAll (Tb.p ⟨0, i, x.s, gg, fun _ => Pl.none, .slice none 0 0, []⟩ n) (lstP (x.p n) x.T x.n), .slice none 0 0, []⟩ n := ⟨p1, p2, p3, m4⟩
  have f0 : Fine (Tb.p ⟨0, i, x.s, gg, fun _ => Pl.none, .slice none 0 0, []⟩ n) (lstP (x.p n) x.T x.n) := fun e he => by
    obtain ⟨a, b⟩ := lst_fine ((hf.mem x hx).ok hf.le (fun _ => 0)) (hf.gd x hx) e he
    exact ⟨a, b⟩
  exact ⟨_, hy, rfl, rfl, rfl, gd_all _ f0, fun j a b => allB_mem.1 m5 j a b, m2, m3⟩
theorem row_set {b c o : Nat} {u : Value} {p q : Array Value} {s t : TypeId} {e f : Nat × Nat} (h : w.heap[b]? = some (.cells p s e)) (k : w.heap[c]? = some (.cells q t f)) (ht : t ≠ s) : (w.setCell ⟨c, o, none⟩ u).heap[b]? = some (.cells p s e) :=
  (Below.heap_setCell _ _ _ _ (by
    show b ≠ c
    rintro rfl
    rw [h] at k
    injection k with k
    injection k with _ k _
    exact ht k.symm)).trans h
theorem rowP_set {st c o : Nat} {u : Value} {p : Par} {q : Array Value} {t : TypeId} {f : Nat × Nat} (h : RowP w st sb p) (k : w.heap[c]? = some (.cells q t f)) (ht : t ≠ 111) : RowP (w.setCell ⟨c, o, none⟩ u) st sb p := ⟨row_set h.row k ht⟩
/-- The row of the TSBs' pointers is a block of its own. -/
theorem WX.otherL {A B Ls : List Tb} {x : Tb} {lg lc m : Nat} {Q : List Int} {bl bg bs : Value} (h : WX W w wb sb bm fb bb n g F (A ++ x :: B) Q Ls bl bg bs (.slice (some ⟨lg, 0, none⟩) m lc) gv sv) (o : Nat) (u : Value) : Other w (w.setCell ⟨lg, o, none⟩ u) 47 := by
  obtain ⟨g', c', hv, _, _, _, ⟨cur, hc⟩, _⟩ := own_at h.ll (by rw [List.length_append, List.length_cons]; omega)
  injection hv with a _ _
  injection a with a
  injection a with a
  subst a
  exact other_set hc u
theorem WX.ptr_set {A B Ls : List Tb} {x y : Tb} {lg lc m : Nat} {Q : List Int} {bl bg bs : Value} (h : WX W w wb sb bm fb bb n g F (A ++ x :: B) Q Ls bl bg bs (.slice (some ⟨lg, 0, none⟩) m lc) gv sv) {k : Nat} (hk : A.length = k) (hm : (A ++ x :: B).length = m) (hr : RowP w y.st sb (y.p n)) : WX W (w.setCell ⟨lg, k, none⟩ (.pointer (some ⟨y.st, 0, none⟩))) wb sb bm fb bb n g F (A ++ y :: B) Q Ls bl bg bs (.slice (some ⟨lg, 0, none⟩) m lc) gv sv := by
  subst hk
  refine h.setL rfl hm A.length _ ?_ fun z hz => ?_
  · rw [List.map_append, List.map_append, List.map_cons, List.map_cons, List.set_append_right _ _ (by simp)]
    simp [ptrV]
  · rcases mem_mid hz with rfl | e
    · exact hr
    · exact h.rows z (mid_mem (.inr e))
theorem WX.fill5 {A B Lp : List Tb} {x y : Tb} {sg sc m2 k o : Nat} {Q : List Int} {bl bg bs : Value} (h : WX W w wb sb bm fb bb n g F Lp Q (A ++ x :: B) bl bg bs lv gv (.slice (some ⟨sg, 0, none⟩) m2 sc)) (hk : A.length = k) (ho : k * 5 = o) (hm : (A ++ x :: B).length = m2) (hw : WsAt w W.heap.size y.v y.l) : WX W (((((w.setCell ⟨sg, o, none⟩ (.int .i64 y.s)).setCell ⟨sg, o + 1, none⟩ (.int .i64 (y.n : Int))).setCell ⟨sg, o + 2, none⟩ y.v).setCell ⟨sg, o + 3, none⟩ (.int .i64 (y.f : Int))).setCell ⟨sg, o + 4, none⟩ (.int .i64 y.g)) wb sb bm fb bb n g F Lp Q (A ++ y :: B) bl bg bs lv gv (.slice (some ⟨sg, 0, none⟩) m2 sc) := by
  have hlen : (A ++ y :: B).length = m2 := by rw [← hm]; simp
  have h0 := h.sl
  rw [hm] at h0
  have hs := own_set1 (own_set1 (own_set1 (own_set1 (own_set1 h0 o (.int .i64 y.s)) (o + 1) (.int .i64 (y.n : Int))) (o + 2) y.v) (o + 3) (.int .i64 (y.f : Int))) (o + 4) (.int .i64 y.g)
  rw [sRow_set5 A B x o (by omega)] at hs
  rw [show sRow A ++ ([.int .i64 y.s, .int .i64 (y.n : Int), y.v, .int .i64 (y.f : Int), .int .i64 y.g] ++ sRow B) = sRow (A ++ y :: B) by rw [sRow_app, sRow_cons]; rfl] at hs
  refine h.setS rfl hm _ (fun k _ hne => ((((Below.heap_setCell _ _ _ _ hne).trans (Below.heap_setCell _ _ _ _ hne)).trans (Below.heap_setCell _ _ _ _ hne)).trans (Below.heap_setCell _ _ _ _ hne)).trans (Below.heap_setCell _ _ _ _ hne)) ⟨rfl, rfl, rfl, by simp⟩ hs hlen (fun z hz => ?_)
  rcases mem_mid hz with rfl | e
  · exact hw
  · exact h.ds z (mid_mem (.inr e))
theorem WX.rowcS {A B Lp : List Tb} {x : Tb} {sg sc m2 k o : Nat} {Q : List Int} {bl bg bs : Value} (h : WX W w wb sb bm fb bb n g F Lp Q (A ++ x :: B) bl bg bs lv gv (.slice (some ⟨sg, 0, none⟩) m2 sc)) (hk : A.length = k) (ho : k * 5 = o) : w.cell? ⟨sg, o, none⟩ = some (.int .i64 x.s) ∧ w.cell? ⟨sg, o + 1, none⟩ = some (.int .i64 (x.n : Int)) ∧ w.cell? ⟨sg, o + 2, none⟩ = some x.v ∧ w.cell? ⟨sg, o + 3, none⟩ = some (.int .i64 (x.f : Int)) ∧ w.cell? ⟨sg, o + 4, none⟩ = some (.int .i64 x.g) ∧ ∀ i, w.frozen? ⟨sg, i, none⟩ = false := by
  obtain ⟨g', c', hv, _, _, _, ⟨cur, hc⟩, hl⟩ := own_at h.sl (by rw [List.length_append, List.length_cons]; omega)
  injection hv with a _ _
  injection a with a
  injection a with a
  subst a
  exact ⟨hl _ _ (sRow_get (j := 0) rfl (by omega)), hl _ _ (sRow_get (j := 1) rfl (by omega)), hl _ _ (sRow_get (j := 2) rfl (by omega)), hl _ _ (sRow_get (j := 3) rfl (by omega)), hl _ _ (sRow_get (j := 4) rfl (by omega)), froz hc⟩
end
end Go.Proofs.YtnbdoemnepfhdaaGreat.Sw

namespace Go.Proofs.YtnbdoemnepfhdaaGreat.Sw
open Fld Ts
open Frm (OwnI IsD setT manyE manyI manyT giveE giveT lst cnt)
open Pt (arI)
open Go.ChangeShapes Go.WideShapes Go.ChangeAt Go.RowKit Go.Shelf Go.Deep
set_option maxHeartbeats 8000000
set_option maxRecDepth 100000
section
variable {W w : World} {wb sb bm fb bb n : Nat} {g : Nat → Nat} {F : Nat → Bool} {gv lv sv : Value}
theorem does_chg_yes (nn ss : Int) (n0 : -9223372036854775808 ≤ nn) (n1 : nn ≤ 9223372036854775807) (E : Ent) {A B : List Tb} {x y : Tb} {k : Nat} (hk : arI nn ((A ++ x :: B).length : Int) = (k : Int)) (hA : A.length = k) (hL2 : (A ++ x :: B).length ≤ 1000) (hf : Fit n g F (A ++ x :: B)) (hy : y.In n) (hs : y.s = x.s) (hyT : y.T = insAll (y.p n) (lstP (x.p n) x.T x.n)) (hyG : Gd (y.p n) y.T) (hfree : ∀ j, y.f ≤ j → j < y.f + y.k → F j = false) (he : manyE F n (frI y.s y.g) = 0) (hi : manyI F n (frI y.s y.g) = (y.f : Int)) (hT : manyT F n (frI y.s y.g) = setT F y.f y.k true) (h : WX W w wb sb bm fb bb n g F (A ++ x :: B) (lst F n) (A ++ x :: B) lv gv sv lv gv sv) :
    Calls Tryz.prog 7 #[.pointer (some ⟨wb, 0, none⟩), .agg #[.int .i64 1, .int .i64 nn, .int .i64 ss, .int .i64 y.g, .int .i64 E.size, .int .i64 E.ctx, .int .u64 E.va, .int .u64 E.pa, .bool E.att.write, .bool E.att.priv, .bool E.att.exec, .bool E.att.lock, .bool E.att.global, .bool E.att.quiet, .bool E.valid]] w fun e w' => e = .returned (.bool true) ∧ ∃ (z : Tb) (bm' : Nat) (g' : Nat → Nat) (F' : Nat → Bool) (gv' lv' sv' : Value), WX W w' wb sb bm' fb bb n g' F' (A ++ z :: B) (lst F' n) (A ++ z :: B) lv' gv' sv' lv' gv' sv' ∧ Fit n g' F' (A ++ z :: B) := by
  have hL : 0 < (A ++ x :: B).length := by rw [List.length_append, List.length_cons]; omega
  have hkl : k < (A ++ x :: B).length := by rw [List.length_append, List.length_cons]; omega
  obtain ⟨o, ho⟩ : ∃ o, k * 5 = o := ⟨_, rfl⟩
  obtain ⟨lg, lc, sg, sc, hlv, hsv, _, _, _, _, _, _, _, _, l2, l3, t2, t3⟩ := h.mid hA ho
  subst hlv hsv
  obtain ⟨ao, cap, hgv⟩ := own_shape h.gl
  subst hgv
  have hxm : x ∈ A ++ x :: B := mid_mem (.inl rfl)
  obtain ⟨xo, xc, hxv⟩ := own_shape (h.ds x hxm)
  have CA := Lib.hid (fun W => Pt.raround_any nn ((A ++ x :: B).length : Int) n0 n1 (by omega) (by omega) W)
  rw [hk] at CA
  have hn := hf.le
  have hx := hf.mem x hxm
  have CD := Lib.hid (fun (Wz : World) (hW : OwnI Wz W.heap.size ao cap (lst F n)) (hB : W.heap.size ≤ Wz.heap.size) (hd : WsAt Wz W.heap.size x.v x.l) => rchange_yes W.heap.size cap ao x y hn hx hy hs Wz hW hB hd (hf.tie x hxm) (hf.gd x hxm) (hf.tk x hxm) he hi hT)
  have CP := Lib.hid (fun (Wz : World) (hW : PAt Wz sb bm fb bb n g F) (hr : RowP Wz x.st sb (x.p n)) => pchange_yes x y hn hx hy hs hW (row_q hr) (hf.at hxm) (hf.gd x hxm) (hf.tk x hxm) (ap_of hx hy (hf.tk x hxm) hfree) he hi hT hyT)
  have HFit := Lib.hid (fun (g2 : Nat → Nat) (st : Nat) (v : Value) (l : List Wd) (hp : PlAt g2 (y.q n g) y.T) (ht : Tie (y.p n) l y.T) => (show Fit n (Mem.clr g2 (8192 * x.f) (8192 * x.k)) (setT (setT F y.f y.k true) x.f x.k false) (A ++ ⟨st, y.f, y.s, y.g, y.T, v, l⟩ :: B) from Fit.chg (y := ⟨st, y.f, y.s, y.g, y.T, v, l⟩) hf ⟨hy.hs, hy.g0, hy.g1, hy.is⟩ hfree hp hyG ht))
  rw [hxv, ← hyT] at CD
  generalize (lstP (x.p n) x.T x.n).length = m at *
  obtain ⟨F2, hF2⟩ : ∃ F2, setT (setT F y.f y.k true) x.f x.k false = F2 := ⟨_, rfl⟩
  rw [hF2] at CD CP HFit
  obtain ⟨R, hR⟩ : ∃ R, lst F2 n = R := ⟨_, rfl⟩
  rw [hR] at CD
  have HR := Lib.hid hR
  have HXV := Lib.hid hxv
  clear hxv hyT hyG he hi hT hfree hn hf hF2 hR hxm hx hy hs
  generalize lst F n = Q at *
  have HX := Lib.hid h
  obtain ⟨ll, hll⟩ : ∃ ll, (A ++ x :: B).length = ll := ⟨_, rfl⟩
  have HLL := Lib.hid hll
  rw [hll] at hkl hL hL2 CA HX l2 t2
  have hnz : ((ll : Int) == 0) = false := by simp; omega
  have hlt : (k : Int) < (ll : Int) := by omega
  have hAK : (⟨sg, 0, none⟩ : Addr).add o = ⟨sg, o, none⟩ := add_at sg o
  have hAL : (⟨lg, 0, none⟩ : Addr).add k = ⟨lg, k, none⟩ := add_at lg k
  have hAB := Lib.hid hA
  have HK := Lib.hid hk
  clear hk hA hll h
  go_enter Tryz.func7, Tryz.ntmps7
  go_upto_region 1 with fail
  have X1 := Lib.hid (HX.out.alloc (.cells #[.int .i64 1, .int .i64 nn, .int .i64 ss, .int .i64 y.g, .int .i64 E.size, .int .i64 E.ctx, .int .u64 E.va, .int .u64 E.pa, .bool E.att.write, .bool E.att.priv, .bool E.att.exec, .bool E.att.lock, .bool E.att.global, .bool E.att.quiet, .bool E.valid] 32))
  have D1 := Lib.hid (DB13.mk (k := 1) (n := nn) (s := ss) (g := y.g) (e := E) (World.alloc_heap_new w (.cells #[.int .i64 1, .int .i64 nn, .int .i64 ss, .int .i64 y.g, .int .i64 E.size, .int .i64 E.ctx, .int .u64 E.va, .int .u64 E.pa, .bool E.att.write, .bool E.att.priv, .bool E.att.exec, .bool E.att.lock, .bool E.att.global, .bool E.att.quiet, .bool E.valid] 32)))
  clear HX
  obtain ⟨b, hb⟩ : ∃ b, w.heap.size = b := ⟨_, rfl⟩
  rw [hb] at D1 ⊢
  clear hb
  generalize w.alloc _ = W1 at *
  obtain ⟨c0, c1, c2, c3, c4, c5, cf⟩ := X1.out.cells
  obtain ⟨p0, s0, s1, s2, s3, s4, fl, fs⟩ := X1.out.rowc hAB.out ho
  obtain ⟨d0, d1, d2, d3, _, _, _, _, _, _, _, _, _, _, _⟩ := D1.out.cells
  go_upto_region 10 with fail
  go_quiet ((go_at_call 10; (with_reducible refine (CA.out _).mono ?_); rintro e w' ⟨rfl, m, rfl⟩; exact ⟨rfl, _, by rw [World.drewN_drewN]⟩))
  have X2 := Lib.hid (X1.out.drewN nq)
  have D2 := Lib.hid (D1.out.low (drewN_low W1 nq))
  clear X1 D1 c0 c1 c2 c3 c4 c5 cf p0 s0 s1 s2 s3 s4 fl fs d0 d1 d2 d3
  generalize W1.drewN nq = W2 at *
  obtain ⟨c0, c1, c2, c3, c4, c5, cf⟩ := X2.out.cells
  obtain ⟨p0, s0, s1, s2, s3, s4, fl, fs⟩ := X2.out.rowc hAB.out ho
  obtain ⟨d0, d1, d2, d3, _, _, _, _, _, _, _, _, _, _, _⟩ := D2.out.cells
  go_upto_region 23 with fail
  have QC := Lib.hid (fun (Wz : World) (hb : Below W2.heap.size W2 Wz) => (show Wz.cell? ⟨wb, 3, none⟩ = some (.int .i64 (n : Int)) ∧ Wz.cell? ⟨wb, 4, none⟩ = some (.slice ao Q.length cap) ∧ Wz.cell? ⟨wb, 5, none⟩ = some (.slice (some ⟨sg, 0, none⟩) ll sc) ∧ Wz.cell? ⟨sg, o, none⟩ = some (.int .i64 x.s) ∧ Wz.cell? ⟨sg, o + 1, none⟩ = some (.int .i64 (x.n : Int)) ∧ Wz.cell? ⟨sg, o + 2, none⟩ = some (.slice xo x.l.length xc) ∧ Wz.cell? ⟨sg, o + 3, none⟩ = some (.int .i64 (x.f : Int)) ∧ Wz.cell? ⟨sg, o + 4, none⟩ = some (.int .i64 x.g) ∧ Wz.cell? ⟨b, 3, none⟩ = some (.int .i64 y.g) from by
    obtain ⟨c0, c1, c2, c3, c4, c5, cf⟩ := (X2.out.low hb).cells
    obtain ⟨p0, s0, s1, s2, s3, s4, fl, fs⟩ := (X2.out.low hb).rowc hAB.out ho
    obtain ⟨d0, d1, d2, d3, _, _, _, _, _, _, _, _, _, _, _⟩ := (D2.out.low hb).cells
    rw [HXV.out] at s2
    exact ⟨c3, c4, c5, s0, s1, s2, s3, s4, d3⟩))
  clear c0 c1 c2 c3 c4 c5 cf p0 s0 s1 s2 s3 s4 fl fs d0 d1 d2 d3
  go_cut [14, 15, 16, 17] (fun p q i e wx => ∃ (bF bS cap2 : Nat) (ao2 : Option Addr) (v2 : Value) (l2 : List Wd) (wy : World), wy = wx ∧ p = .pointer (some ⟨bF, 0, none⟩) ∧ q = .pointer (some ⟨bS, 0, none⟩) ∧ i = .int .i64 (m : Int) ∧ e = .int .i64 0 ∧ Below W2.heap.size W2 wx ∧ wx.heap[bF]? = some (.cells #[.int .i64 (n : Int), .slice ao2 R.length cap2] 43 (0, 0)) ∧ wx.heap[bS]? = some (.cells #[.int .i64 y.s, .int .i64 (y.n : Int), v2, .int .i64 (y.f : Int), .int .i64 y.g] 70 (0, 0)) ∧ OwnI wx W.heap.size ao2 cap2 R ∧ WsAt wx W.heap.size v2 l2 ∧ Tie (y.p n) l2 y.T)
  case first =>
    have Y0 := Lib.hid (show BXs W2 W2.drew [] from (BXs.start W2).low (drewN_low W2 1))
    have hS := QC.out _ Y0.out.bel
    refine wp_region_held_drew (S := fun wS => wS.cell? ⟨wb, 3, none⟩ = some (.int .i64 (n : Int)) ∧ wS.cell? ⟨wb, 4, none⟩ = some (.slice ao Q.length cap) ∧ wS.cell? ⟨wb, 5, none⟩ = some (.slice (some ⟨sg, 0, none⟩) ll sc) ∧ wS.cell? ⟨sg, o, none⟩ = some (.int .i64 x.s) ∧ wS.cell? ⟨sg, o + 1, none⟩ = some (.int .i64 (x.n : Int)) ∧ wS.cell? ⟨sg, o + 2, none⟩ = some (.slice xo x.l.length xc) ∧ wS.cell? ⟨sg, o + 3, none⟩ = some (.int .i64 (x.f : Int)) ∧ wS.cell? ⟨sg, o + 4, none⟩ = some (.int .i64 x.g) ∧ wS.cell? ⟨b, 3, none⟩ = some (.int .i64 y.g)) (by kernel_rfl) hS (fun hHeld => ?_)
    clear hS
    generalize W2.drew = V0 at Y0 hHeld ⊢
    refine wpAnyH_take (i := 0) (v := ?va1) rfl (by kernel_rfl) (by kernel_rfl) (by kernel_rfl) (fun _ _ _ h => h) (Or.inl ⟨by rfl, ?ha1⟩) (by assumption) ?ra1
    case ha1 => (intro wS hSw; (try dsimp only at hSw); (try clear hSw); go_simp <;> (with_reducible rfl))
    (try simp only [Act.put, List.setIfInBounds_toArray, List.set_cons_zero, List.set_cons_succ, List.getElem_toArray, List.getElem_cons_zero])
    refine wpAnyH_take (i := 1) (v := ?va2) rfl (by kernel_rfl) (by kernel_rfl) (by kernel_rfl) (fun _ _ _ h => h) (Or.inl ⟨by rfl, ?ha2⟩) (by assumption) ?ra2
    case ha2 => (intro wS hSw; (try dsimp only at hSw); (try clear hSw); go_simp <;> (with_reducible rfl))
    (try simp only [Act.put, List.setIfInBounds_toArray, List.set_cons_zero, List.set_cons_succ, List.getElem_toArray, List.getElem_cons_zero, List.getElem_cons_succ])
    refine wpAnyH_take (i := 2) (v := ?va3) rfl (by kernel_rfl) (by kernel_rfl) (by kernel_rfl) (fun _ _ _ h => h) (Or.inl ⟨by rfl, ?ha3⟩) (by assumption) ?ra3
    case ha3 => (intro wS hSw; (try dsimp only at hSw); (try clear hSw); go_simp <;> (with_reducible rfl))
    (try simp only [Act.put, List.setIfInBounds_toArray, List.set_cons_zero, List.set_cons_succ, List.getElem_toArray, List.getElem_cons_zero, List.getElem_cons_succ])
    refine wpAnyH_take (i := 3) (v := ?va4) rfl (by kernel_rfl) (by kernel_rfl) (by kernel_rfl) (fun _ _ _ h => h) (Or.inl ⟨by rfl, ?ha4⟩) (by assumption) ?ra4
    case ha4 => (intro wS hSw; (try dsimp only at hSw); obtain ⟨c3, c4, c5, s0, s1, s2, s3, s4, d3⟩ := hSw; (try clear hSw); go_simp <;> (with_reducible rfl))
    (try simp only [Act.put, List.setIfInBounds_toArray, List.set_cons_zero, List.set_cons_succ, List.getElem_toArray, List.getElem_cons_zero, List.getElem_cons_succ])
    refine wpAnyH_take (i := 4) (v := ?va5) rfl (by kernel_rfl) (by kernel_rfl) (by kernel_rfl) (fun _ _ _ h => h) (Or.inl ⟨by rfl, ?ha5⟩) (by assumption) ?ra5
    case ha5 => (intro wS hSw; (try dsimp only at hSw); (try clear hSw); go_simp <;> (with_reducible rfl))
    (try simp only [Act.put, List.setIfInBounds_toArray, List.set_cons_zero, List.set_cons_succ, List.getElem_toArray, List.getElem_cons_zero, List.getElem_cons_succ])
    refine wpAnyH_take (i := 5) (v := ?va6) rfl (by kernel_rfl) (by kernel_rfl) (by kernel_rfl) (fun _ _ _ h => h) (Or.inl ⟨by rfl, ?ha6⟩) (by assumption) ?ra6
    case ha6 => (intro wS hSw; (try dsimp only at hSw); (try clear hSw); go_simp <;> (with_reducible rfl))
    (try simp only [Act.put, List.setIfInBounds_toArray, List.set_cons_zero, List.set_cons_succ, List.getElem_toArray, List.getElem_cons_zero, List.getElem_cons_succ])
    refine wpAnyH_take (i := 6) (v := ?va7) rfl (by kernel_rfl) (by kernel_rfl) (by kernel_rfl) (fun _ _ _ h => h) (Or.inl ⟨by rfl, ?ha7⟩) (by assumption) ?ra7
    case ha7 => (intro wS hSw; (try dsimp only at hSw); (try clear hSw); go_simp <;> (with_reducible rfl))
    (try simp only [Act.put, List.setIfInBounds_toArray, List.set_cons_zero, List.set_cons_succ, List.getElem_toArray, List.getElem_cons_zero, List.getElem_cons_succ])
    refine wpAnyH_take (i := 7) (v := ?va8) rfl (by kernel_rfl) (by kernel_rfl) (by kernel_rfl) (fun _ _ _ h => h) (Or.inl ⟨by rfl, ?ha8⟩) (by assumption) ?ra8
    case ha8 => (intro wS hSw; (try dsimp only at hSw); obtain ⟨c3, c4, c5, s0, s1, s2, s3, s4, d3⟩ := hSw; (try clear hSw); go_simp <;> (with_reducible rfl))
    (try simp only [Act.put, List.setIfInBounds_toArray, List.set_cons_zero, List.set_cons_succ, List.getElem_toArray, List.getElem_cons_zero, List.getElem_cons_succ])
    refine wpAnyH_take (i := 8) (v := ?va9) rfl (by kernel_rfl) (by kernel_rfl) (by kernel_rfl) (fun _ _ _ h => h) (Or.inl ⟨by rfl, ?ha9⟩) (by assumption) ?ra9
    case ha9 => (intro wS hSw; (try dsimp only at hSw); (try clear hSw); go_simp <;> (with_reducible rfl))
    (try simp only [Act.put, List.setIfInBounds_toArray, List.set_cons_zero, List.set_cons_succ, List.getElem_toArray, List.getElem_cons_zero, List.getElem_cons_succ])
    refine wpAnyH_take (i := 9) (v := ?va10) rfl (by kernel_rfl) (by kernel_rfl) (by kernel_rfl) (fun _ _ _ h => h) (Or.inl ⟨by rfl, ?ha10⟩) (by assumption) ?ra10
    case ha10 => (intro wS hSw; (try dsimp only at hSw); (try clear hSw); go_simp <;> (with_reducible rfl))
    (try simp only [Act.put, List.setIfInBounds_toArray, List.set_cons_zero, List.set_cons_succ, List.getElem_toArray, List.getElem_cons_zero, List.getElem_cons_succ])
    refine wpAnyH_take (i := 10) (v := ?va11) rfl (by kernel_rfl) (by kernel_rfl) (by kernel_rfl) (fun _ _ _ h => h) (Or.inl ⟨by rfl, ?ha11⟩) (by assumption) ?ra11
    case ha11 => (intro wS hSw; (try dsimp only at hSw); obtain ⟨c3, c4, c5, s0, s1, s2, s3, s4, d3⟩ := hSw; (try clear hSw); go_simp <;> (with_reducible rfl))
    (try simp only [Act.put, List.setIfInBounds_toArray, List.set_cons_zero, List.set_cons_succ, List.getElem_toArray, List.getElem_cons_zero, List.getElem_cons_succ])
    refine wpAnyH_take (i := 11) (v := ?va12) rfl (by kernel_rfl) (by kernel_rfl) (by kernel_rfl) (fun _ _ _ h => h) (Or.inl ⟨by rfl, ?ha12⟩) (by assumption) ?ra12
    case ha12 => (intro wS hSw; (try dsimp only at hSw); (try clear hSw); go_simp <;> (with_reducible rfl))
    (try simp only [Act.put, List.setIfInBounds_toArray, List.set_cons_zero, List.set_cons_succ, List.getElem_toArray, List.getElem_cons_zero, List.getElem_cons_succ])
    refine wpAnyH_take (i := 12) (v := ?va13) rfl (by kernel_rfl) (by kernel_rfl) (by kernel_rfl) (fun _ _ _ h => h) (Or.inl ⟨by rfl, ?ha13⟩) (by assumption) ?ra13
    case ha13 => (intro wS hSw; (try dsimp only at hSw); obtain ⟨c3, c4, c5, s0, s1, s2, s3, s4, d3⟩ := hSw; (try clear hSw); go_simp <;> (with_reducible rfl))
    (try simp only [Act.put, List.setIfInBounds_toArray, List.set_cons_zero, List.set_cons_succ, List.getElem_toArray, List.getElem_cons_zero, List.getElem_cons_succ])
    refine wpAnyH_ready (rs := [13, 19, 20]) (by kernel_rfl) (by simp) ?_
    refine AllReadyH.cons rfl (fun K hK => ?_) ?_
    · go_simp
      refine (CD.out _ (X2.out.low Y0.out.bel).gl (X2.out.low Y0.out.bel).bel.size (HXV.out ▸ (X2.out.low Y0.out.bel).ds x (mid_mem (.inl rfl)))).mono ?_; rintro r V1 ⟨ao2, cap2, v2, l2, rfl, ho1, hz1, ht1, hb1⟩
      obtain ⟨vo2, vc2, rfl⟩ := own_shape hz1
      have Y1 := Lib.hid (Y0.out.low hb1)
      have O1 := Lib.hid ho1
      have Z1 := Lib.hid hz1
      have HT := Lib.hid ht1
      clear ho1 hz1 ht1 hb1
      refine hK.out _ _ (QC.out _ Y1.out.bel) (fun hHeld => ?_)
      (try clear hK K)
      (try simp only [Act.put, List.setIfInBounds_toArray, List.set_cons_zero, List.set_cons_succ, List.getElem_toArray, List.getElem_cons_zero, List.getElem_cons_succ])
      refine wpAnyH_take (i := 14) (v := ?va14) rfl (by kernel_rfl) (by kernel_rfl) (by kernel_rfl) (fun _ _ _ h => h) (Or.inl ⟨by rfl, ?ha14⟩) (by assumption) ?ra14
      case ha14 => (intro wS hSw; (try dsimp only at hSw); (try clear hSw); go_simp <;> (with_reducible rfl))
      (try simp only [Act.put, List.setIfInBounds_toArray, List.set_cons_zero, List.set_cons_succ, List.getElem_toArray, List.getElem_cons_zero, List.getElem_cons_succ])
      refine wpAnyH_take (i := 15) (v := ?va15) rfl (by kernel_rfl) (by kernel_rfl) (by kernel_rfl) (fun _ _ _ h => h) (Or.inl ⟨by rfl, ?ha15⟩) (by assumption) ?ra15
      case ha15 => (intro wS hSw; (try dsimp only at hSw); (try clear hSw); go_simp <;> (with_reducible rfl))
      (try simp only [Act.put, List.setIfInBounds_toArray, List.set_cons_zero, List.set_cons_succ, List.getElem_toArray, List.getElem_cons_zero, List.getElem_cons_succ])
      refine wpAnyH_take (i := 16) (v := ?va16) rfl (by kernel_rfl) (by kernel_rfl) (by kernel_rfl) (fun _ _ _ h => h) (Or.inl ⟨by rfl, ?ha16⟩) (by assumption) ?ra16
      case ha16 => (intro wS hSw; (try dsimp only at hSw); (try clear hSw); go_simp <;> (with_reducible rfl))
      (try simp only [Act.put, List.setIfInBounds_toArray, List.set_cons_zero, List.set_cons_succ, List.getElem_toArray, List.getElem_cons_zero, List.getElem_cons_succ])
      refine wpAnyH_take (i := 17) (v := ?va17) rfl (by kernel_rfl) (by kernel_rfl) (by kernel_rfl) (fun _ _ _ h => h) (Or.inl ⟨by rfl, ?ha17⟩) (by assumption) ?ra17
      case ha17 => (intro wS hSw; (try dsimp only at hSw); (try clear hSw); go_simp <;> (with_reducible rfl))
      (try simp only [Act.put, List.setIfInBounds_toArray, List.set_cons_zero, List.set_cons_succ, List.getElem_toArray, List.getElem_cons_zero, List.getElem_cons_succ])
      refine wpAnyH_take (i := 18) (v := ?va18) rfl (by kernel_rfl) (by kernel_rfl) (by kernel_rfl) (fun _ _ _ h => h) (Or.inl ⟨by rfl, ?ha18⟩) (by assumption) ?ra18
      case ha18 => (intro wS hSw; (try dsimp only at hSw); (try clear hSw); go_simp <;> (with_reducible rfl))
      (try simp only [Act.put, List.setIfInBounds_toArray, List.set_cons_zero, List.set_cons_succ, List.getElem_toArray, List.getElem_cons_zero, List.getElem_cons_succ])
      refine wpAnyH_ready (rs := [19, 20]) (by kernel_rfl) (by simp) ?_
      refine AllReadyH.cons rfl (fun K hK => ?_) ?_
      · go_simp
        have Y2 := Lib.hid (Y1.out.push #[.int .i64 0, .slice none 0 0] 43)
        have O2 := Lib.hid (own_below O1.out ((Below.refl V1.heap.size V1).alloc (Nat.le_refl _) (.cells #[.int .i64 0, .slice none 0 0] 43)))
        have Z2 := Lib.hid (ws_low Z1.out ((Below.refl V1.heap.size V1).alloc (Nat.le_refl _) (.cells #[.int .i64 0, .slice none 0 0] 43)))
        clear O1 Z1
        generalize V1.alloc (.cells #[.int .i64 0, .slice none 0 0] 43) = V2 at Y2 O2 Z2 ⊢
        refine hK.out _ _ (QC.out _ Y2.out.bel) (fun hHeld => ?_)
        (try clear hK K)
        (try simp only [Act.put, List.setIfInBounds_toArray, List.set_cons_zero, List.set_cons_succ, List.getElem_toArray, List.getElem_cons_zero, List.getElem_cons_succ])
        refine wpAnyH_ready (rs := [20]) (by kernel_rfl) (by simp) ?_
        refine AllReadyH.cons rfl (fun K hK => ?_) AllReadyH.nil
        go_simp
        have Y3 := Lib.hid (Y2.out.push #[.int .i64 0, .int .i64 0, .slice none 0 0, .int .i64 0, .int .i64 0] 70)
        have O3 := Lib.hid (own_below O2.out ((Below.refl V2.heap.size V2).alloc (Nat.le_refl _) (.cells #[.int .i64 0, .int .i64 0, .slice none 0 0, .int .i64 0, .int .i64 0] 70)))
        have Z3 := Lib.hid (ws_low Z2.out ((Below.refl V2.heap.size V2).alloc (Nat.le_refl _) (.cells #[.int .i64 0, .int .i64 0, .slice none 0 0, .int .i64 0, .int .i64 0] 70)))
        clear O2 Z2
        generalize V2.alloc (.cells #[.int .i64 0, .int .i64 0, .slice none 0 0, .int .i64 0, .int .i64 0] 70) = V3 at Y3 O3 Z3 ⊢
        refine hK.out _ _ (QC.out _ Y3.out.bel) (fun hHeld => ?_)
        (try clear hK K)
        (try simp only [Act.put, List.setIfInBounds_toArray, List.set_cons_zero, List.set_cons_succ, List.getElem_toArray, List.getElem_cons_zero, List.getElem_cons_succ])
        refine wpAnyH_ready (rs := [21]) (by kernel_rfl) (by simp) ?_
        refine AllReadyH.cons rfl (fun K hK => ?_) AllReadyH.nil
        have r9 := Y3.out.h1
        have f9 := froz r9
        obtain ⟨z0, z1⟩ := cell2 r9
        go_simp
        have Y4 := Lib.hid (BXs.put2 (A := [(V2.heap.size, #[.int .i64 0, .int .i64 0, .slice none 0 0, .int .i64 0, .int .i64 0], 70)]) Y3.out (a := .int .i64 (n : Int)) (c := .slice ao2 R.length cap2))
        have O4 := Lib.hid (own_put2 O3.out r9 (by decide) (.int .i64 (n : Int)) (.slice ao2 R.length cap2))
        have Z4 := Lib.hid (ws_put2 Z3.out r9 (by decide) (.int .i64 (n : Int)) (.slice ao2 R.length cap2))
        clear r9 f9 z0 z1 O3 Z3
        generalize World.setCell (World.setCell V3 _ _) _ _ = V4 at Y4 O4 Z4 ⊢
        refine hK.out _ _ (QC.out _ Y4.out.bel) (fun hHeld => ?_)
        (try clear hK K)
        (try simp only [Act.put, List.setIfInBounds_toArray, List.set_cons_zero, List.set_cons_succ, List.getElem_toArray, List.getElem_cons_zero, List.getElem_cons_succ])
        refine wpAnyH_ready (rs := [22]) (by kernel_rfl) (by simp) ?_
        refine AllReadyH.cons rfl (fun K hK => ?_) AllReadyH.nil
        have r9 := Y4.out.h0
        have f9 := froz r9
        obtain ⟨z0, z1, z2, z3, z4⟩ := cell5 r9
        go_simp
        have Y5 := Lib.hid (BXs.put5 (A := []) Y4.out (c0 := .int .i64 y.s) (c1 := .int .i64 (y.n : Int)) (c2 := .slice vo2 l2.length vc2) (c3 := .int .i64 (y.f : Int)) (c4 := .int .i64 y.g))
        have O5 := Lib.hid (own_put5 O4.out r9 (by decide) (.int .i64 y.s) (.int .i64 (y.n : Int)) (.slice vo2 l2.length vc2) (.int .i64 (y.f : Int)) (.int .i64 y.g))
        have Z5 := Lib.hid (ws_put5 Z4.out r9 (by decide) (.int .i64 y.s) (.int .i64 (y.n : Int)) (.slice vo2 l2.length vc2) (.int .i64 (y.f : Int)) (.int .i64 y.g))
        clear r9 f9 z0 z1 z2 z3 z4 O4 Z4
        generalize World.setCell (World.setCell (World.setCell (World.setCell (World.setCell V4 _ _) _ _) _ _) _ _) _ _ = V5 at Y5 O5 Z5 ⊢
        refine hK.out _ _ (QC.out _ Y5.out.bel) (fun hHeld => ?_)
        (try clear hK K)
        (try simp only [Act.put, List.setIfInBounds_toArray, List.set_cons_zero, List.set_cons_succ, List.getElem_toArray, List.getElem_cons_zero, List.getElem_cons_succ])
        refine wpAnyH_take (i := 23) (v := ?va19) rfl (by kernel_rfl) (by kernel_rfl) (by kernel_rfl) (fun _ _ _ h => h) (Or.inl ⟨by rfl, ?ha19⟩) (by assumption) ?ra19
        case ha19 => (intro wS hSw; (try dsimp only at hSw); (try clear hSw); go_simp <;> (with_reducible rfl))
        (try simp only [Act.put, List.setIfInBounds_toArray, List.set_cons_zero, List.set_cons_succ, List.getElem_toArray, List.getElem_cons_zero, List.getElem_cons_succ])
        refine wpAnyH_take (i := 24) (v := ?va20) rfl (by kernel_rfl) (by kernel_rfl) (by kernel_rfl) (fun _ _ _ h => h) (Or.inl ⟨by rfl, ?ha20⟩) (by assumption) ?ra20
        case ha20 => (intro wS hSw; (try dsimp only at hSw); (try clear hSw); go_simp <;> (with_reducible rfl))
        (try simp only [Act.put, List.setIfInBounds_toArray, List.set_cons_zero, List.set_cons_succ, List.getElem_toArray, List.getElem_cons_zero, List.getElem_cons_succ])
        refine wpAnyH_done (by kernel_rfl) ?_ _
        clear hHeld
        go_wp2_with fail
        go_meet
        exact ⟨_, _, _, _, _, _, _, rfl, rfl, rfl, rfl, rfl, Y5.out.bel, Y5.out.h1, Y5.out.h0, O5.out, Z5.out, HT.out⟩
      refine AllReadyH.cons rfl (fun K hK => ?_) ?_
      · go_simp
        have Y2 := Lib.hid (Y1.out.push #[.int .i64 0, .int .i64 0, .slice none 0 0, .int .i64 0, .int .i64 0] 70)
        have O2 := Lib.hid (own_below O1.out ((Below.refl V1.heap.size V1).alloc (Nat.le_refl _) (.cells #[.int .i64 0, .int .i64 0, .slice none 0 0, .int .i64 0, .int .i64 0] 70)))
        have Z2 := Lib.hid (ws_low Z1.out ((Below.refl V1.heap.size V1).alloc (Nat.le_refl _) (.cells #[.int .i64 0, .int .i64 0, .slice none 0 0, .int .i64 0, .int .i64 0] 70)))
        clear O1 Z1
        generalize V1.alloc (.cells #[.int .i64 0, .int .i64 0, .slice none 0 0, .int .i64 0, .int .i64 0] 70) = V2 at Y2 O2 Z2 ⊢
        refine hK.out _ _ (QC.out _ Y2.out.bel) (fun hHeld => ?_)
        (try clear hK K)
        (try simp only [Act.put, List.setIfInBounds_toArray, List.set_cons_zero, List.set_cons_succ, List.getElem_toArray, List.getElem_cons_zero, List.getElem_cons_succ])
        refine wpAnyH_ready (rs := [19]) (by kernel_rfl) (by simp) ?_
        refine AllReadyH.cons rfl (fun K hK => ?_) AllReadyH.nil
        go_simp
        have Y3 := Lib.hid (Y2.out.push #[.int .i64 0, .slice none 0 0] 43)
        have O3 := Lib.hid (own_below O2.out ((Below.refl V2.heap.size V2).alloc (Nat.le_refl _) (.cells #[.int .i64 0, .slice none 0 0] 43)))
        have Z3 := Lib.hid (ws_low Z2.out ((Below.refl V2.heap.size V2).alloc (Nat.le_refl _) (.cells #[.int .i64 0, .slice none 0 0] 43)))
        clear O2 Z2
        generalize V2.alloc (.cells #[.int .i64 0, .slice none 0 0] 43) = V3 at Y3 O3 Z3 ⊢
        refine hK.out _ _ (QC.out _ Y3.out.bel) (fun hHeld => ?_)
        (try clear hK K)
        (try simp only [Act.put, List.setIfInBounds_toArray, List.set_cons_zero, List.set_cons_succ, List.getElem_toArray, List.getElem_cons_zero, List.getElem_cons_succ])
        refine wpAnyH_ready (rs := [21]) (by kernel_rfl) (by simp) ?_
        refine AllReadyH.cons rfl (fun K hK => ?_) AllReadyH.nil
        have r9 := Y3.out.h0
        have f9 := froz r9
        obtain ⟨z0, z1⟩ := cell2 r9
        go_simp
        have Y4 := Lib.hid (BXs.put2 (A := []) Y3.out (a := .int .i64 (n : Int)) (c := .slice ao2 R.length cap2))
        have O4 := Lib.hid (own_put2 O3.out r9 (by decide) (.int .i64 (n : Int)) (.slice ao2 R.length cap2))
        have Z4 := Lib.hid (ws_put2 Z3.out r9 (by decide) (.int .i64 (n : Int)) (.slice ao2 R.length cap2))
        clear r9 f9 z0 z1 O3 Z3
        generalize World.setCell (World.setCell V3 _ _) _ _ = V4 at Y4 O4 Z4 ⊢
        refine hK.out _ _ (QC.out _ Y4.out.bel) (fun hHeld => ?_)
        (try clear hK K)
        (try simp only [Act.put, List.setIfInBounds_toArray, List.set_cons_zero, List.set_cons_succ, List.getElem_toArray, List.getElem_cons_zero, List.getElem_cons_succ])
        refine wpAnyH_ready (rs := [22]) (by kernel_rfl) (by simp) ?_
        refine AllReadyH.cons rfl (fun K hK => ?_) AllReadyH.nil
        have r9 := Y4.out.h1
        have f9 := froz r9
        obtain ⟨z0, z1, z2, z3, z4⟩ := cell5 r9
        go_simp
        have Y5 := Lib.hid (BXs.put5 (A := [(V2.heap.size, #[.int .i64 (n : Int), .slice ao2 R.length cap2], 43)]) Y4.out (c0 := .int .i64 y.s) (c1 := .int .i64 (y.n : Int)) (c2 := .slice vo2 l2.length vc2) (c3 := .int .i64 (y.f : Int)) (c4 := .int .i64 y.g))
        have O5 := Lib.hid (own_put5 O4.out r9 (by decide) (.int .i64 y.s) (.int .i64 (y.n : Int)) (.slice vo2 l2.length vc2) (.int .i64 (y.f : Int)) (.int .i64 y.g))
        have Z5 := Lib.hid (ws_put5 Z4.out r9 (by decide) (.int .i64 y.s) (.int .i64 (y.n : Int)) (.slice vo2 l2.length vc2) (.int .i64 (y.f : Int)) (.int .i64 y.g))
        clear r9 f9 z0 z1 z2 z3 z4 O4 Z4
        generalize World.setCell (World.setCell (World.setCell (World.setCell (World.setCell V4 _ _) _ _) _ _) _ _) _ _ = V5 at Y5 O5 Z5 ⊢
        refine hK.out _ _ (QC.out _ Y5.out.bel) (fun hHeld => ?_)
        (try clear hK K)
        (try simp only [Act.put, List.setIfInBounds_toArray, List.set_cons_zero, List.set_cons_succ, List.getElem_toArray, List.getElem_cons_zero, List.getElem_cons_succ])
        refine wpAnyH_take (i := 23) (v := ?va21) rfl (by kernel_rfl) (by kernel_rfl) (by kernel_rfl) (fun _ _ _ h => h) (Or.inl ⟨by rfl, ?ha21⟩) (by assumption) ?ra21
        case ha21 => (intro wS hSw; (try dsimp only at hSw); (try clear hSw); go_simp <;> (with_reducible rfl))
        (try simp only [Act.put, List.setIfInBounds_toArray, List.set_cons_zero, List.set_cons_succ, List.getElem_toArray, List.getElem_cons_zero, List.getElem_cons_succ])
        refine wpAnyH_take (i := 24) (v := ?va22) rfl (by kernel_rfl) (by kernel_rfl) (by kernel_rfl) (fun _ _ _ h => h) (Or.inl ⟨by rfl, ?ha22⟩) (by assumption) ?ra22
        case ha22 => (intro wS hSw; (try dsimp only at hSw); (try clear hSw); go_simp <;> (with_reducible rfl))
        (try simp only [Act.put, List.setIfInBounds_toArray, List.set_cons_zero, List.set_cons_succ, List.getElem_toArray, List.getElem_cons_zero, List.getElem_cons_succ])
        refine wpAnyH_done (by kernel_rfl) ?_ _
        clear hHeld
        go_wp2_with fail
        go_meet
        exact ⟨_, _, _, _, _, _, _, rfl, rfl, rfl, rfl, rfl, Y5.out.bel, Y5.out.h0, Y5.out.h1, O5.out, Z5.out, HT.out⟩
      exact AllReadyH.nil
    refine AllReadyH.cons rfl (fun K hK => ?_) ?_
    · go_simp
      have Y1 := Lib.hid (Y0.out.push #[.int .i64 0, .slice none 0 0] 43)
      generalize V0.alloc (.cells #[.int .i64 0, .slice none 0 0] 43) = V1 at Y1 ⊢
      refine hK.out _ _ (QC.out _ Y1.out.bel) (fun hHeld => ?_)
      (try clear hK K)
      (try simp only [Act.put, List.setIfInBounds_toArray, List.set_cons_zero, List.set_cons_succ, List.getElem_toArray, List.getElem_cons_zero, List.getElem_cons_succ])
      refine wpAnyH_ready (rs := [13, 20]) (by kernel_rfl) (by simp) ?_
      refine AllReadyH.cons rfl (fun K hK => ?_) ?_
      · go_simp
        refine (CD.out _ (X2.out.low Y1.out.bel).gl (X2.out.low Y1.out.bel).bel.size (HXV.out ▸ (X2.out.low Y1.out.bel).ds x (mid_mem (.inl rfl)))).mono ?_; rintro r V2 ⟨ao2, cap2, v2, l2, rfl, ho2, hz2, ht2, hb2⟩
        obtain ⟨vo2, vc2, rfl⟩ := own_shape hz2
        have Y2 := Lib.hid (Y1.out.low hb2)
        have O2 := Lib.hid ho2
        have Z2 := Lib.hid hz2
        have HT := Lib.hid ht2
        clear ho2 hz2 ht2 hb2
        refine hK.out _ _ (QC.out _ Y2.out.bel) (fun hHeld => ?_)
        (try clear hK K)
        (try simp only [Act.put, List.setIfInBounds_toArray, List.set_cons_zero, List.set_cons_succ, List.getElem_toArray, List.getElem_cons_zero, List.getElem_cons_succ])
        refine wpAnyH_take (i := 14) (v := ?va23) rfl (by kernel_rfl) (by kernel_rfl) (by kernel_rfl) (fun _ _ _ h => h) (Or.inl ⟨by rfl, ?ha23⟩) (by assumption) ?ra23
        case ha23 => (intro wS hSw; (try dsimp only at hSw); (try clear hSw); go_simp <;> (with_reducible rfl))
        (try simp only [Act.put, List.setIfInBounds_toArray, List.set_cons_zero, List.set_cons_succ, List.getElem_toArray, List.getElem_cons_zero, List.getElem_cons_succ])
        refine wpAnyH_take (i := 15) (v := ?va24) rfl (by kernel_rfl) (by kernel_rfl) (by kernel_rfl) (fun _ _ _ h => h) (Or.inl ⟨by rfl, ?ha24⟩) (by assumption) ?ra24
        case ha24 => (intro wS hSw; (try dsimp only at hSw); (try clear hSw); go_simp <;> (with_reducible rfl))
        (try simp only [Act.put, List.setIfInBounds_toArray, List.set_cons_zero, List.set_cons_succ, List.getElem_toArray, List.getElem_cons_zero, List.getElem_cons_succ])
        refine wpAnyH_take (i := 16) (v := ?va25) rfl (by kernel_rfl) (by kernel_rfl) (by kernel_rfl) (fun _ _ _ h => h) (Or.inl ⟨by rfl, ?ha25⟩) (by assumption) ?ra25
        case ha25 => (intro wS hSw; (try dsimp only at hSw); (try clear hSw); go_simp <;> (with_reducible rfl))
        (try simp only [Act.put, List.setIfInBounds_toArray, List.set_cons_zero, List.set_cons_succ, List.getElem_toArray, List.getElem_cons_zero, List.getElem_cons_succ])
        refine wpAnyH_take (i := 17) (v := ?va26) rfl (by kernel_rfl) (by kernel_rfl) (by kernel_rfl) (fun _ _ _ h => h) (Or.inl ⟨by rfl, ?ha26⟩) (by assumption) ?ra26
        case ha26 => (intro wS hSw; (try dsimp only at hSw); (try clear hSw); go_simp <;> (with_reducible rfl))
        (try simp only [Act.put, List.setIfInBounds_toArray, List.set_cons_zero, List.set_cons_succ, List.getElem_toArray, List.getElem_cons_zero, List.getElem_cons_succ])
        refine wpAnyH_take (i := 18) (v := ?va27) rfl (by kernel_rfl) (by kernel_rfl) (by kernel_rfl) (fun _ _ _ h => h) (Or.inl ⟨by rfl, ?ha27⟩) (by assumption) ?ra27
        case ha27 => (intro wS hSw; (try dsimp only at hSw); (try clear hSw); go_simp <;> (with_reducible rfl))
        (try simp only [Act.put, List.setIfInBounds_toArray, List.set_cons_zero, List.set_cons_succ, List.getElem_toArray, List.getElem_cons_zero, List.getElem_cons_succ])
        refine wpAnyH_ready (rs := [20]) (by kernel_rfl) (by simp) ?_
        refine AllReadyH.cons rfl (fun K hK => ?_) AllReadyH.nil
        go_simp
        have Y3 := Lib.hid (Y2.out.push #[.int .i64 0, .int .i64 0, .slice none 0 0, .int .i64 0, .int .i64 0] 70)
        have O3 := Lib.hid (own_below O2.out ((Below.refl V2.heap.size V2).alloc (Nat.le_refl _) (.cells #[.int .i64 0, .int .i64 0, .slice none 0 0, .int .i64 0, .int .i64 0] 70)))
        have Z3 := Lib.hid (ws_low Z2.out ((Below.refl V2.heap.size V2).alloc (Nat.le_refl _) (.cells #[.int .i64 0, .int .i64 0, .slice none 0 0, .int .i64 0, .int .i64 0] 70)))
        clear O2 Z2
        generalize V2.alloc (.cells #[.int .i64 0, .int .i64 0, .slice none 0 0, .int .i64 0, .int .i64 0] 70) = V3 at Y3 O3 Z3 ⊢
        refine hK.out _ _ (QC.out _ Y3.out.bel) (fun hHeld => ?_)
        (try clear hK K)
        (try simp only [Act.put, List.setIfInBounds_toArray, List.set_cons_zero, List.set_cons_succ, List.getElem_toArray, List.getElem_cons_zero, List.getElem_cons_succ])
        refine wpAnyH_ready (rs := [21]) (by kernel_rfl) (by simp) ?_
        refine AllReadyH.cons rfl (fun K hK => ?_) AllReadyH.nil
        have r9 := Y3.out.h1
        have f9 := froz r9
        obtain ⟨z0, z1⟩ := cell2 r9
        go_simp
        have Y4 := Lib.hid (BXs.put2 (A := [(V2.heap.size, #[.int .i64 0, .int .i64 0, .slice none 0 0, .int .i64 0, .int .i64 0], 70)]) Y3.out (a := .int .i64 (n : Int)) (c := .slice ao2 R.length cap2))
        have O4 := Lib.hid (own_put2 O3.out r9 (by decide) (.int .i64 (n : Int)) (.slice ao2 R.length cap2))
        have Z4 := Lib.hid (ws_put2 Z3.out r9 (by decide) (.int .i64 (n : Int)) (.slice ao2 R.length cap2))
        clear r9 f9 z0 z1 O3 Z3
        generalize World.setCell (World.setCell V3 _ _) _ _ = V4 at Y4 O4 Z4 ⊢
        refine hK.out _ _ (QC.out _ Y4.out.bel) (fun hHeld => ?_)
        (try clear hK K)
        (try simp only [Act.put, List.setIfInBounds_toArray, List.set_cons_zero, List.set_cons_succ, List.getElem_toArray, List.getElem_cons_zero, List.getElem_cons_succ])
        refine wpAnyH_ready (rs := [22]) (by kernel_rfl) (by simp) ?_
        refine AllReadyH.cons rfl (fun K hK => ?_) AllReadyH.nil
        have r9 := Y4.out.h0
        have f9 := froz r9
        obtain ⟨z0, z1, z2, z3, z4⟩ := cell5 r9
        go_simp
        have Y5 := Lib.hid (BXs.put5 (A := []) Y4.out (c0 := .int .i64 y.s) (c1 := .int .i64 (y.n : Int)) (c2 := .slice vo2 l2.length vc2) (c3 := .int .i64 (y.f : Int)) (c4 := .int .i64 y.g))
        have O5 := Lib.hid (own_put5 O4.out r9 (by decide) (.int .i64 y.s) (.int .i64 (y.n : Int)) (.slice vo2 l2.length vc2) (.int .i64 (y.f : Int)) (.int .i64 y.g))
        have Z5 := Lib.hid (ws_put5 Z4.out r9 (by decide) (.int .i64 y.s) (.int .i64 (y.n : Int)) (.slice vo2 l2.length vc2) (.int .i64 (y.f : Int)) (.int .i64 y.g))
        clear r9 f9 z0 z1 z2 z3 z4 O4 Z4
        generalize World.setCell (World.setCell (World.setCell (World.setCell (World.setCell V4 _ _) _ _) _ _) _ _) _ _ = V5 at Y5 O5 Z5 ⊢
        refine hK.out _ _ (QC.out _ Y5.out.bel) (fun hHeld => ?_)
        (try clear hK K)
        (try simp only [Act.put, List.setIfInBounds_toArray, List.set_cons_zero, List.set_cons_succ, List.getElem_toArray, List.getElem_cons_zero, List.getElem_cons_succ])
        refine wpAnyH_take (i := 23) (v := ?va28) rfl (by kernel_rfl) (by kernel_rfl) (by kernel_rfl) (fun _ _ _ h => h) (Or.inl ⟨by rfl, ?ha28⟩) (by assumption) ?ra28
        case ha28 => (intro wS hSw; (try dsimp only at hSw); (try clear hSw); go_simp <;> (with_reducible rfl))
        (try simp only [Act.put, List.setIfInBounds_toArray, List.set_cons_zero, List.set_cons_succ, List.getElem_toArray, List.getElem_cons_zero, List.getElem_cons_succ])
        refine wpAnyH_take (i := 24) (v := ?va29) rfl (by kernel_rfl) (by kernel_rfl) (by kernel_rfl) (fun _ _ _ h => h) (Or.inl ⟨by rfl, ?ha29⟩) (by assumption) ?ra29
        case ha29 => (intro wS hSw; (try dsimp only at hSw); (try clear hSw); go_simp <;> (with_reducible rfl))
        (try simp only [Act.put, List.setIfInBounds_toArray, List.set_cons_zero, List.set_cons_succ, List.getElem_toArray, List.getElem_cons_zero, List.getElem_cons_succ])
        refine wpAnyH_done (by kernel_rfl) ?_ _
        clear hHeld
        go_wp2_with fail
        go_meet
        exact ⟨_, _, _, _, _, _, _, rfl, rfl, rfl, rfl, rfl, Y5.out.bel, Y5.out.h1, Y5.out.h0, O5.out, Z5.out, HT.out⟩
      refine AllReadyH.cons rfl (fun K hK => ?_) ?_
      · go_simp
        have Y2 := Lib.hid (Y1.out.push #[.int .i64 0, .int .i64 0, .slice none 0 0, .int .i64 0, .int .i64 0] 70)
        generalize V1.alloc (.cells #[.int .i64 0, .int .i64 0, .slice none 0 0, .int .i64 0, .int .i64 0] 70) = V2 at Y2 ⊢
        refine hK.out _ _ (QC.out _ Y2.out.bel) (fun hHeld => ?_)
        (try clear hK K)
        (try simp only [Act.put, List.setIfInBounds_toArray, List.set_cons_zero, List.set_cons_succ, List.getElem_toArray, List.getElem_cons_zero, List.getElem_cons_succ])
        refine wpAnyH_ready (rs := [13]) (by kernel_rfl) (by simp) ?_
        refine AllReadyH.cons rfl (fun K hK => ?_) AllReadyH.nil
        go_simp
        refine (CD.out _ (X2.out.low Y2.out.bel).gl (X2.out.low Y2.out.bel).bel.size (HXV.out ▸ (X2.out.low Y2.out.bel).ds x (mid_mem (.inl rfl)))).mono ?_; rintro r V3 ⟨ao2, cap2, v2, l2, rfl, ho3, hz3, ht3, hb3⟩
        obtain ⟨vo2, vc2, rfl⟩ := own_shape hz3
        have Y3 := Lib.hid (Y2.out.low hb3)
        have O3 := Lib.hid ho3
        have Z3 := Lib.hid hz3
        have HT := Lib.hid ht3
        clear ho3 hz3 ht3 hb3
        refine hK.out _ _ (QC.out _ Y3.out.bel) (fun hHeld => ?_)
        (try clear hK K)
        (try simp only [Act.put, List.setIfInBounds_toArray, List.set_cons_zero, List.set_cons_succ, List.getElem_toArray, List.getElem_cons_zero, List.getElem_cons_succ])
        refine wpAnyH_take (i := 14) (v := ?va30) rfl (by kernel_rfl) (by kernel_rfl) (by kernel_rfl) (fun _ _ _ h => h) (Or.inl ⟨by rfl, ?ha30⟩) (by assumption) ?ra30
        case ha30 => (intro wS hSw; (try dsimp only at hSw); (try clear hSw); go_simp <;> (with_reducible rfl))
        (try simp only [Act.put, List.setIfInBounds_toArray, List.set_cons_zero, List.set_cons_succ, List.getElem_toArray, List.getElem_cons_zero, List.getElem_cons_succ])
        refine wpAnyH_take (i := 15) (v := ?va31) rfl (by kernel_rfl) (by kernel_rfl) (by kernel_rfl) (fun _ _ _ h => h) (Or.inl ⟨by rfl, ?ha31⟩) (by assumption) ?ra31
        case ha31 => (intro wS hSw; (try dsimp only at hSw); (try clear hSw); go_simp <;> (with_reducible rfl))
        (try simp only [Act.put, List.setIfInBounds_toArray, List.set_cons_zero, List.set_cons_succ, List.getElem_toArray, List.getElem_cons_zero, List.getElem_cons_succ])
        refine wpAnyH_take (i := 16) (v := ?va32) rfl (by kernel_rfl) (by kernel_rfl) (by kernel_rfl) (fun _ _ _ h => h) (Or.inl ⟨by rfl, ?ha32⟩) (by assumption) ?ra32
        case ha32 => (intro wS hSw; (try dsimp only at hSw); (try clear hSw); go_simp <;> (with_reducible rfl))
        (try simp only [Act.put, List.setIfInBounds_toArray, List.set_cons_zero, List.set_cons_succ, List.getElem_toArray, List.getElem_cons_zero, List.getElem_cons_succ])
        refine wpAnyH_take (i := 17) (v := ?va33) rfl (by kernel_rfl) (by kernel_rfl) (by kernel_rfl) (fun _ _ _ h => h) (Or.inl ⟨by rfl, ?ha33⟩) (by assumption) ?ra33
        case ha33 => (intro wS hSw; (try dsimp only at hSw); (try clear hSw); go_simp <;> (with_reducible rfl))
        (try simp only [Act.put, List.setIfInBounds_toArray, List.set_cons_zero, List.set_cons_succ, List.getElem_toArray, List.getElem_cons_zero, List.getElem_cons_succ])
        refine wpAnyH_take (i := 18) (v := ?va34) rfl (by kernel_rfl) (by kernel_rfl) (by kernel_rfl) (fun _ _ _ h => h) (Or.inl ⟨by rfl, ?ha34⟩) (by assumption) ?ra34
        case ha34 => (intro wS hSw; (try dsimp only at hSw); (try clear hSw); go_simp <;> (with_reducible rfl))
        (try simp only [Act.put, List.setIfInBounds_toArray, List.set_cons_zero, List.set_cons_succ, List.getElem_toArray, List.getElem_cons_zero, List.getElem_cons_succ])
        refine wpAnyH_ready (rs := [21]) (by kernel_rfl) (by simp) ?_
        refine AllReadyH.cons rfl (fun K hK => ?_) AllReadyH.nil
        have r9 := Y3.out.h1
        have f9 := froz r9
        obtain ⟨z0, z1⟩ := cell2 r9
        go_simp
        have Y4 := Lib.hid (BXs.put2 (A := [(V1.heap.size, #[.int .i64 0, .int .i64 0, .slice none 0 0, .int .i64 0, .int .i64 0], 70)]) Y3.out (a := .int .i64 (n : Int)) (c := .slice ao2 R.length cap2))
        have O4 := Lib.hid (own_put2 O3.out r9 (by decide) (.int .i64 (n : Int)) (.slice ao2 R.length cap2))
        have Z4 := Lib.hid (ws_put2 Z3.out r9 (by decide) (.int .i64 (n : Int)) (.slice ao2 R.length cap2))
        clear r9 f9 z0 z1 O3 Z3
        generalize World.setCell (World.setCell V3 _ _) _ _ = V4 at Y4 O4 Z4 ⊢
        refine hK.out _ _ (QC.out _ Y4.out.bel) (fun hHeld => ?_)
        (try clear hK K)
        (try simp only [Act.put, List.setIfInBounds_toArray, List.set_cons_zero, List.set_cons_succ, List.getElem_toArray, List.getElem_cons_zero, List.getElem_cons_succ])
        refine wpAnyH_ready (rs := [22]) (by kernel_rfl) (by simp) ?_
        refine AllReadyH.cons rfl (fun K hK => ?_) AllReadyH.nil
        have r9 := Y4.out.h0
        have f9 := froz r9
        obtain ⟨z0, z1, z2, z3, z4⟩ := cell5 r9
        go_simp
        have Y5 := Lib.hid (BXs.put5 (A := []) Y4.out (c0 := .int .i64 y.s) (c1 := .int .i64 (y.n : Int)) (c2 := .slice vo2 l2.length vc2) (c3 := .int .i64 (y.f : Int)) (c4 := .int .i64 y.g))
        have O5 := Lib.hid (own_put5 O4.out r9 (by decide) (.int .i64 y.s) (.int .i64 (y.n : Int)) (.slice vo2 l2.length vc2) (.int .i64 (y.f : Int)) (.int .i64 y.g))
        have Z5 := Lib.hid (ws_put5 Z4.out r9 (by decide) (.int .i64 y.s) (.int .i64 (y.n : Int)) (.slice vo2 l2.length vc2) (.int .i64 (y.f : Int)) (.int .i64 y.g))
        clear r9 f9 z0 z1 z2 z3 z4 O4 Z4
        generalize World.setCell (World.setCell (World.setCell (World.setCell (World.setCell V4 _ _) _ _) _ _) _ _) _ _ = V5 at Y5 O5 Z5 ⊢
        refine hK.out _ _ (QC.out _ Y5.out.bel) (fun hHeld => ?_)
        (try clear hK K)
        (try simp only [Act.put, List.setIfInBounds_toArray, List.set_cons_zero, List.set_cons_succ, List.getElem_toArray, List.getElem_cons_zero, List.getElem_cons_succ])
        refine wpAnyH_take (i := 23) (v := ?va35) rfl (by kernel_rfl) (by kernel_rfl) (by kernel_rfl) (fun _ _ _ h => h) (Or.inl ⟨by rfl, ?ha35⟩) (by assumption) ?ra35
        case ha35 => (intro wS hSw; (try dsimp only at hSw); (try clear hSw); go_simp <;> (with_reducible rfl))
        (try simp only [Act.put, List.setIfInBounds_toArray, List.set_cons_zero, List.set_cons_succ, List.getElem_toArray, List.getElem_cons_zero, List.getElem_cons_succ])
        refine wpAnyH_take (i := 24) (v := ?va36) rfl (by kernel_rfl) (by kernel_rfl) (by kernel_rfl) (fun _ _ _ h => h) (Or.inl ⟨by rfl, ?ha36⟩) (by assumption) ?ra36
        case ha36 => (intro wS hSw; (try dsimp only at hSw); (try clear hSw); go_simp <;> (with_reducible rfl))
        (try simp only [Act.put, List.setIfInBounds_toArray, List.set_cons_zero, List.set_cons_succ, List.getElem_toArray, List.getElem_cons_zero, List.getElem_cons_succ])
        refine wpAnyH_done (by kernel_rfl) ?_ _
        clear hHeld
        go_wp2_with fail
        go_meet
        exact ⟨_, _, _, _, _, _, _, rfl, rfl, rfl, rfl, rfl, Y5.out.bel, Y5.out.h1, Y5.out.h0, O5.out, Z5.out, HT.out⟩
      exact AllReadyH.nil
    refine AllReadyH.cons rfl (fun K hK => ?_) ?_
    · go_simp
      have Y1 := Lib.hid (Y0.out.push #[.int .i64 0, .int .i64 0, .slice none 0 0, .int .i64 0, .int .i64 0] 70)
      generalize V0.alloc (.cells #[.int .i64 0, .int .i64 0, .slice none 0 0, .int .i64 0, .int .i64 0] 70) = V1 at Y1 ⊢
      refine hK.out _ _ (QC.out _ Y1.out.bel) (fun hHeld => ?_)
      (try clear hK K)
      (try simp only [Act.put, List.setIfInBounds_toArray, List.set_cons_zero, List.set_cons_succ, List.getElem_toArray, List.getElem_cons_zero, List.getElem_cons_succ])
      refine wpAnyH_ready (rs := [13, 19]) (by kernel_rfl) (by simp) ?_
      refine AllReadyH.cons rfl (fun K hK => ?_) ?_
      · go_simp
        refine (CD.out _ (X2.out.low Y1.out.bel).gl (X2.out.low Y1.out.bel).bel.size (HXV.out ▸ (X2.out.low Y1.out.bel).ds x (mid_mem (.inl rfl)))).mono ?_; rintro r V2 ⟨ao2, cap2, v2, l2, rfl, ho2, hz2, ht2, hb2⟩
        obtain ⟨vo2, vc2, rfl⟩ := own_shape hz2
        have Y2 := Lib.hid (Y1.out.low hb2)
        have O2 := Lib.hid ho2
        have Z2 := Lib.hid hz2
        have HT := Lib.hid ht2
        clear ho2 hz2 ht2 hb2
        refine hK.out _ _ (QC.out _ Y2.out.bel) (fun hHeld => ?_)
        (try clear hK K)
        (try simp only [Act.put, List.setIfInBounds_toArray, List.set_cons_zero, List.set_cons_succ, List.getElem_toArray, List.getElem_cons_zero, List.getElem_cons_succ])
        refine wpAnyH_take (i := 14) (v := ?va37) rfl (by kernel_rfl) (by kernel_rfl) (by kernel_rfl) (fun _ _ _ h => h) (Or.inl ⟨by rfl, ?ha37⟩) (by assumption) ?ra37
        case ha37 => (intro wS hSw; (try dsimp only at hSw); (try clear hSw); go_simp <;> (with_reducible rfl))
        (try simp only [Act.put, List.setIfInBounds_toArray, List.set_cons_zero, List.set_cons_succ, List.getElem_toArray, List.getElem_cons_zero, List.getElem_cons_succ])
        refine wpAnyH_take (i := 15) (v := ?va38) rfl (by kernel_rfl) (by kernel_rfl) (by kernel_rfl) (fun _ _ _ h => h) (Or.inl ⟨by rfl, ?ha38⟩) (by assumption) ?ra38
        case ha38 => (intro wS hSw; (try dsimp only at hSw); (try clear hSw); go_simp <;> (with_reducible rfl))
        (try simp only [Act.put, List.setIfInBounds_toArray, List.set_cons_zero, List.set_cons_succ, List.getElem_toArray, List.getElem_cons_zero, List.getElem_cons_succ])
        refine wpAnyH_take (i := 16) (v := ?va39) rfl (by kernel_rfl) (by kernel_rfl) (by kernel_rfl) (fun _ _ _ h => h) (Or.inl ⟨by rfl, ?ha39⟩) (by assumption) ?ra39
        case ha39 => (intro wS hSw; (try dsimp only at hSw); (try clear hSw); go_simp <;> (with_reducible rfl))
        (try simp only [Act.put, List.setIfInBounds_toArray, List.set_cons_zero, List.set_cons_succ, List.getElem_toArray, List.getElem_cons_zero, List.getElem_cons_succ])
        refine wpAnyH_take (i := 17) (v := ?va40) rfl (by kernel_rfl) (by kernel_rfl) (by kernel_rfl) (fun _ _ _ h => h) (Or.inl ⟨by rfl, ?ha40⟩) (by assumption) ?ra40
        case ha40 => (intro wS hSw; (try dsimp only at hSw); (try clear hSw); go_simp <;> (with_reducible rfl))
        (try simp only [Act.put, List.setIfInBounds_toArray, List.set_cons_zero, List.set_cons_succ, List.getElem_toArray, List.getElem_cons_zero, List.getElem_cons_succ])
        refine wpAnyH_take (i := 18) (v := ?va41) rfl (by kernel_rfl) (by kernel_rfl) (by kernel_rfl) (fun _ _ _ h => h) (Or.inl ⟨by rfl, ?ha41⟩) (by assumption) ?ra41
        case ha41 => (intro wS hSw; (try dsimp only at hSw); (try clear hSw); go_simp <;> (with_reducible rfl))
        (try simp only [Act.put, List.setIfInBounds_toArray, List.set_cons_zero, List.set_cons_succ, List.getElem_toArray, List.getElem_cons_zero, List.getElem_cons_succ])
        refine wpAnyH_ready (rs := [19]) (by kernel_rfl) (by simp) ?_
        refine AllReadyH.cons rfl (fun K hK => ?_) AllReadyH.nil
        go_simp
        have Y3 := Lib.hid (Y2.out.push #[.int .i64 0, .slice none 0 0] 43)
        have O3 := Lib.hid (own_below O2.out ((Below.refl V2.heap.size V2).alloc (Nat.le_refl _) (.cells #[.int .i64 0, .slice none 0 0] 43)))
        have Z3 := Lib.hid (ws_low Z2.out ((Below.refl V2.heap.size V2).alloc (Nat.le_refl _) (.cells #[.int .i64 0, .slice none 0 0] 43)))
        clear O2 Z2
        generalize V2.alloc (.cells #[.int .i64 0, .slice none 0 0] 43) = V3 at Y3 O3 Z3 ⊢
        refine hK.out _ _ (QC.out _ Y3.out.bel) (fun hHeld => ?_)
        (try clear hK K)
        (try simp only [Act.put, List.setIfInBounds_toArray, List.set_cons_zero, List.set_cons_succ, List.getElem_toArray, List.getElem_cons_zero, List.getElem_cons_succ])
        refine wpAnyH_ready (rs := [21]) (by kernel_rfl) (by simp) ?_
        refine AllReadyH.cons rfl (fun K hK => ?_) AllReadyH.nil
        have r9 := Y3.out.h0
        have f9 := froz r9
        obtain ⟨z0, z1⟩ := cell2 r9
        go_simp
        have Y4 := Lib.hid (BXs.put2 (A := []) Y3.out (a := .int .i64 (n : Int)) (c := .slice ao2 R.length cap2))
        have O4 := Lib.hid (own_put2 O3.out r9 (by decide) (.int .i64 (n : Int)) (.slice ao2 R.length cap2))
        have Z4 := Lib.hid (ws_put2 Z3.out r9 (by decide) (.int .i64 (n : Int)) (.slice ao2 R.length cap2))
        clear r9 f9 z0 z1 O3 Z3
        generalize World.setCell (World.setCell V3 _ _) _ _ = V4 at Y4 O4 Z4 ⊢
        refine hK.out _ _ (QC.out _ Y4.out.bel) (fun hHeld => ?_)
        (try clear hK K)
        (try simp only [Act.put, List.setIfInBounds_toArray, List.set_cons_zero, List.set_cons_succ, List.getElem_toArray, List.getElem_cons_zero, List.getElem_cons_succ])
        refine wpAnyH_ready (rs := [22]) (by kernel_rfl) (by simp) ?_
        refine AllReadyH.cons rfl (fun K hK => ?_) AllReadyH.nil
        have r9 := Y4.out.h1
        have f9 := froz r9
        obtain ⟨z0, z1, z2, z3, z4⟩ := cell5 r9
        go_simp
        have Y5 := Lib.hid (BXs.put5 (A := [(V2.heap.size, #[.int .i64 (n : Int), .slice ao2 R.length cap2], 43)]) Y4.out (c0 := .int .i64 y.s) (c1 := .int .i64 (y.n : Int)) (c2 := .slice vo2 l2.length vc2) (c3 := .int .i64 (y.f : Int)) (c4 := .int .i64 y.g))
        have O5 := Lib.hid (own_put5 O4.out r9 (by decide) (.int .i64 y.s) (.int .i64 (y.n : Int)) (.slice vo2 l2.length vc2) (.int .i64 (y.f : Int)) (.int .i64 y.g))
        have Z5 := Lib.hid (ws_put5 Z4.out r9 (by decide) (.int .i64 y.s) (.int .i64 (y.n : Int)) (.slice vo2 l2.length vc2) (.int .i64 (y.f : Int)) (.int .i64 y.g))
        clear r9 f9 z0 z1 z2 z3 z4 O4 Z4
        generalize World.setCell (World.setCell (World.setCell (World.setCell (World.setCell V4 _ _) _ _) _ _) _ _) _ _ = V5 at Y5 O5 Z5 ⊢
        refine hK.out _ _ (QC.out _ Y5.out.bel) (fun hHeld => ?_)
        (try clear hK K)
        (try simp only [Act.put, List.setIfInBounds_toArray, List.set_cons_zero, List.set_cons_succ, List.getElem_toArray, List.getElem_cons_zero, List.getElem_cons_succ])
        refine wpAnyH_take (i := 23) (v := ?va42) rfl (by kernel_rfl) (by kernel_rfl) (by kernel_rfl) (fun _ _ _ h => h) (Or.inl ⟨by rfl, ?ha42⟩) (by assumption) ?ra42
        case ha42 => (intro wS hSw; (try dsimp only at hSw); (try clear hSw); go_simp <;> (with_reducible rfl))
        (try simp only [Act.put, List.setIfInBounds_toArray, List.set_cons_zero, List.set_cons_succ, List.getElem_toArray, List.getElem_cons_zero, List.getElem_cons_succ])
        refine wpAnyH_take (i := 24) (v := ?va43) rfl (by kernel_rfl) (by kernel_rfl) (by kernel_rfl) (fun _ _ _ h => h) (Or.inl ⟨by rfl, ?ha43⟩) (by assumption) ?ra43
        case ha43 => (intro wS hSw; (try dsimp only at hSw); (try clear hSw); go_simp <;> (with_reducible rfl))
        (try simp only [Act.put, List.setIfInBounds_toArray, List.set_cons_zero, List.set_cons_succ, List.getElem_toArray, List.getElem_cons_zero, List.getElem_cons_succ])
        refine wpAnyH_done (by kernel_rfl) ?_ _
        clear hHeld
        go_wp2_with fail
        go_meet
        exact ⟨_, _, _, _, _, _, _, rfl, rfl, rfl, rfl, rfl, Y5.out.bel, Y5.out.h0, Y5.out.h1, O5.out, Z5.out, HT.out⟩
      refine AllReadyH.cons rfl (fun K hK => ?_) ?_
      · go_simp
        have Y2 := Lib.hid (Y1.out.push #[.int .i64 0, .slice none 0 0] 43)
        generalize V1.alloc (.cells #[.int .i64 0, .slice none 0 0] 43) = V2 at Y2 ⊢
        refine hK.out _ _ (QC.out _ Y2.out.bel) (fun hHeld => ?_)
        (try clear hK K)
        (try simp only [Act.put, List.setIfInBounds_toArray, List.set_cons_zero, List.set_cons_succ, List.getElem_toArray, List.getElem_cons_zero, List.getElem_cons_succ])
        refine wpAnyH_ready (rs := [13]) (by kernel_rfl) (by simp) ?_
        refine AllReadyH.cons rfl (fun K hK => ?_) AllReadyH.nil
        go_simp
        refine (CD.out _ (X2.out.low Y2.out.bel).gl (X2.out.low Y2.out.bel).bel.size (HXV.out ▸ (X2.out.low Y2.out.bel).ds x (mid_mem (.inl rfl)))).mono ?_; rintro r V3 ⟨ao2, cap2, v2, l2, rfl, ho3, hz3, ht3, hb3⟩
        obtain ⟨vo2, vc2, rfl⟩ := own_shape hz3
        have Y3 := Lib.hid (Y2.out.low hb3)
        have O3 := Lib.hid ho3
        have Z3 := Lib.hid hz3
        have HT := Lib.hid ht3
        clear ho3 hz3 ht3 hb3
        refine hK.out _ _ (QC.out _ Y3.out.bel) (fun hHeld => ?_)
        (try clear hK K)
        (try simp only [Act.put, List.setIfInBounds_toArray, List.set_cons_zero, List.set_cons_succ, List.getElem_toArray, List.getElem_cons_zero, List.getElem_cons_succ])
        refine wpAnyH_take (i := 14) (v := ?va44) rfl (by kernel_rfl) (by kernel_rfl) (by kernel_rfl) (fun _ _ _ h => h) (Or.inl ⟨by rfl, ?ha44⟩) (by assumption) ?ra44
        case ha44 => (intro wS hSw; (try dsimp only at hSw); (try clear hSw); go_simp <;> (with_reducible rfl))
        (try simp only [Act.put, List.setIfInBounds_toArray, List.set_cons_zero, List.set_cons_succ, List.getElem_toArray, List.getElem_cons_zero, List.getElem_cons_succ])
        refine wpAnyH_take (i := 15) (v := ?va45) rfl (by kernel_rfl) (by kernel_rfl) (by kernel_rfl) (fun _ _ _ h => h) (Or.inl ⟨by rfl, ?ha45⟩) (by assumption) ?ra45
        case ha45 => (intro wS hSw; (try dsimp only at hSw); (try clear hSw); go_simp <;> (with_reducible rfl))
        (try simp only [Act.put, List.setIfInBounds_toArray, List.set_cons_zero, List.set_cons_succ, List.getElem_toArray, List.getElem_cons_zero, List.getElem_cons_succ])
        refine wpAnyH_take (i := 16) (v := ?va46) rfl (by kernel_rfl) (by kernel_rfl) (by kernel_rfl) (fun _ _ _ h => h) (Or.inl ⟨by rfl, ?ha46⟩) (by assumption) ?ra46
        case ha46 => (intro wS hSw; (try dsimp only at hSw); (try clear hSw); go_simp <;> (with_reducible rfl))
        (try simp only [Act.put, List.setIfInBounds_toArray, List.set_cons_zero, List.set_cons_succ, List.getElem_toArray, List.getElem_cons_zero, List.getElem_cons_succ])
        refine wpAnyH_take (i := 17) (v := ?va47) rfl (by kernel_rfl) (by kernel_rfl) (by kernel_rfl) (fun _ _ _ h => h) (Or.inl ⟨by rfl, ?ha47⟩) (by assumption) ?ra47
        case ha47 => (intro wS hSw; (try dsimp only at hSw); (try clear hSw); go_simp <;> (with_reducible rfl))
        (try simp only [Act.put, List.setIfInBounds_toArray, List.set_cons_zero, List.set_cons_succ, List.getElem_toArray, List.getElem_cons_zero, List.getElem_cons_succ])
        refine wpAnyH_take (i := 18) (v := ?va48) rfl (by kernel_rfl) (by kernel_rfl) (by kernel_rfl) (fun _ _ _ h => h) (Or.inl ⟨by rfl, ?ha48⟩) (by assumption) ?ra48
        case ha48 => (intro wS hSw; (try dsimp only at hSw); (try clear hSw); go_simp <;> (with_reducible rfl))
        (try simp only [Act.put, List.setIfInBounds_toArray, List.set_cons_zero, List.set_cons_succ, List.getElem_toArray, List.getElem_cons_zero, List.getElem_cons_succ])
        refine wpAnyH_ready (rs := [21]) (by kernel_rfl) (by simp) ?_
        refine AllReadyH.cons rfl (fun K hK => ?_) AllReadyH.nil
        have r9 := Y3.out.h0
        have f9 := froz r9
        obtain ⟨z0, z1⟩ := cell2 r9
        go_simp
        have Y4 := Lib.hid (BXs.put2 (A := []) Y3.out (a := .int .i64 (n : Int)) (c := .slice ao2 R.length cap2))
        have O4 := Lib.hid (own_put2 O3.out r9 (by decide) (.int .i64 (n : Int)) (.slice ao2 R.length cap2))
        have Z4 := Lib.hid (ws_put2 Z3.out r9 (by decide) (.int .i64 (n : Int)) (.slice ao2 R.length cap2))
        clear r9 f9 z0 z1 O3 Z3
        generalize World.setCell (World.setCell V3 _ _) _ _ = V4 at Y4 O4 Z4 ⊢
        refine hK.out _ _ (QC.out _ Y4.out.bel) (fun hHeld => ?_)
        (try clear hK K)
        (try simp only [Act.put, List.setIfInBounds_toArray, List.set_cons_zero, List.set_cons_succ, List.getElem_toArray, List.getElem_cons_zero, List.getElem_cons_succ])
        refine wpAnyH_ready (rs := [22]) (by kernel_rfl) (by simp) ?_
        refine AllReadyH.cons rfl (fun K hK => ?_) AllReadyH.nil
        have r9 := Y4.out.h1
        have f9 := froz r9
        obtain ⟨z0, z1, z2, z3, z4⟩ := cell5 r9
        go_simp
        have Y5 := Lib.hid (BXs.put5 (A := [(V1.heap.size, #[.int .i64 (n : Int), .slice ao2 R.length cap2], 43)]) Y4.out (c0 := .int .i64 y.s) (c1 := .int .i64 (y.n : Int)) (c2 := .slice vo2 l2.length vc2) (c3 := .int .i64 (y.f : Int)) (c4 := .int .i64 y.g))
        have O5 := Lib.hid (own_put5 O4.out r9 (by decide) (.int .i64 y.s) (.int .i64 (y.n : Int)) (.slice vo2 l2.length vc2) (.int .i64 (y.f : Int)) (.int .i64 y.g))
        have Z5 := Lib.hid (ws_put5 Z4.out r9 (by decide) (.int .i64 y.s) (.int .i64 (y.n : Int)) (.slice vo2 l2.length vc2) (.int .i64 (y.f : Int)) (.int .i64 y.g))
        clear r9 f9 z0 z1 z2 z3 z4 O4 Z4
        generalize World.setCell (World.setCell (World.setCell (World.setCell (World.setCell V4 _ _) _ _) _ _) _ _) _ _ = V5 at Y5 O5 Z5 ⊢
        refine hK.out _ _ (QC.out _ Y5.out.bel) (fun hHeld => ?_)
        (try clear hK K)
        (try simp only [Act.put, List.setIfInBounds_toArray, List.set_cons_zero, List.set_cons_succ, List.getElem_toArray, List.getElem_cons_zero, List.getElem_cons_succ])
        refine wpAnyH_take (i := 23) (v := ?va49) rfl (by kernel_rfl) (by kernel_rfl) (by kernel_rfl) (fun _ _ _ h => h) (Or.inl ⟨by rfl, ?ha49⟩) (by assumption) ?ra49
        case ha49 => (intro wS hSw; (try dsimp only at hSw); (try clear hSw); go_simp <;> (with_reducible rfl))
        (try simp only [Act.put, List.setIfInBounds_toArray, List.set_cons_zero, List.set_cons_succ, List.getElem_toArray, List.getElem_cons_zero, List.getElem_cons_succ])
        refine wpAnyH_take (i := 24) (v := ?va50) rfl (by kernel_rfl) (by kernel_rfl) (by kernel_rfl) (fun _ _ _ h => h) (Or.inl ⟨by rfl, ?ha50⟩) (by assumption) ?ra50
        case ha50 => (intro wS hSw; (try dsimp only at hSw); (try clear hSw); go_simp <;> (with_reducible rfl))
        (try simp only [Act.put, List.setIfInBounds_toArray, List.set_cons_zero, List.set_cons_succ, List.getElem_toArray, List.getElem_cons_zero, List.getElem_cons_succ])
        refine wpAnyH_done (by kernel_rfl) ?_ _
        clear hHeld
        go_wp2_with fail
        go_meet
        exact ⟨_, _, _, _, _, _, _, rfl, rfl, rfl, rfl, rfl, Y5.out.bel, Y5.out.h0, Y5.out.h1, O5.out, Z5.out, HT.out⟩
      exact AllReadyH.nil
    exact AllReadyH.nil
  case rest =>
    obtain ⟨bF, bS, cap2, ao2, v2, l2', wy, hwy, rfl, rfl, rfl, rfl, B3, R3, S3, O3, Z3, HT⟩ := hcut
    subst hwy
    obtain ⟨vo2, vc2, rfl⟩ := own_shape Z3
    have X3 := Lib.hid (X2.out.low B3).drew
    have D3 := Lib.hid (D2.out.low B3).drew
    have R3 := Lib.hid (show wy.drew.heap[bF]? = some (.cells #[.int .i64 (n : Int), .slice ao2 R.length cap2] 43 (0, 0)) from R3)
    have S3 := Lib.hid (show wy.drew.heap[bS]? = some (.cells #[.int .i64 y.s, .int .i64 (y.n : Int), .slice vo2 l2'.length vc2, .int .i64 (y.f : Int), .int .i64 y.g] 70 (0, 0)) from S3)
    have O3 := Lib.hid (show OwnI wy.drew W.heap.size ao2 cap2 R from own_below O3 (drewN_low wy 1))
    have Z3 := Lib.hid (show WsAt wy.drew W.heap.size (.slice vo2 l2'.length vc2) l2' from ws_low Z3 (drewN_low wy 1))
    have HT := Lib.hid HT
    clear X2 D2 QC CD B3
    go_upto_region 24 with fail
    have CP1 := Lib.hid (CP.out _ X3.out.pa (X3.out.rows x (mid_mem (.inl rfl))))
    have hS : wy.drew.cell? ⟨wb, 0, none⟩ = some (.pointer (some ⟨sb, 0, none⟩)) ∧ wy.drew.cell? ⟨wb, 1, none⟩ = some (.pointer (some ⟨fb, 0, none⟩)) ∧ wy.drew.cell? ⟨wb, 2, none⟩ = some (.slice (some ⟨lg, 0, none⟩) ll lc) ∧ wy.drew.cell? ⟨lg, k, none⟩ = some (.pointer (some ⟨x.st, 0, none⟩)) ∧ wy.drew.cell? ⟨b, 3, none⟩ = some (.int .i64 y.g) := ⟨X3.out.cells.1, X3.out.cells.2.1, X3.out.cells.2.2.1, X3.out.ptrc hAB.out, D3.out.cells.2.2.2.1⟩
    refine wp_region_held_drew (S := fun wS => wS.cell? ⟨wb, 0, none⟩ = some (.pointer (some ⟨sb, 0, none⟩)) ∧ wS.cell? ⟨wb, 1, none⟩ = some (.pointer (some ⟨fb, 0, none⟩)) ∧ wS.cell? ⟨wb, 2, none⟩ = some (.slice (some ⟨lg, 0, none⟩) ll lc) ∧ wS.cell? ⟨lg, k, none⟩ = some (.pointer (some ⟨x.st, 0, none⟩)) ∧ wS.cell? ⟨b, 3, none⟩ = some (.int .i64 y.g)) (by kernel_rfl) hS (fun hHeld => ?_)
    clear hS CP
    generalize wy.drew = V0 at X3 D3 R3 S3 O3 Z3 CP1 hHeld ⊢
    refine wpAnyH_take (i := 0) (v := ?vu1) rfl (by kernel_rfl) (by kernel_rfl) (by kernel_rfl) (fun _ _ _ h => h) (Or.inl ⟨by rfl, ?hu1⟩) (by assumption) ?ru1
    case hu1 => (intro wS hSw; (try dsimp only at hSw); (try clear hSw); go_simp <;> (with_reducible rfl))
    (try simp only [Act.put, List.setIfInBounds_toArray, List.set_cons_zero, List.set_cons_succ, List.getElem_toArray, List.getElem_cons_zero])
    refine wpAnyH_take (i := 1) (v := ?vu2) rfl (by kernel_rfl) (by kernel_rfl) (by kernel_rfl) (fun _ _ _ h => h) (Or.inl ⟨by rfl, ?hu2⟩) (by assumption) ?ru2
    case hu2 => (intro wS hSw; (try dsimp only at hSw); (try clear hSw); go_simp <;> (with_reducible rfl))
    (try simp only [Act.put, List.setIfInBounds_toArray, List.set_cons_zero, List.set_cons_succ, List.getElem_toArray, List.getElem_cons_zero, List.getElem_cons_succ])
    refine wpAnyH_take (i := 2) (v := ?vu3) rfl (by kernel_rfl) (by kernel_rfl) (by kernel_rfl) (fun _ _ _ h => h) (Or.inl ⟨by rfl, ?hu3⟩) (by assumption) ?ru3
    case hu3 => (intro wS hSw; (try dsimp only at hSw); (try clear hSw); go_simp <;> (with_reducible rfl))
    (try simp only [Act.put, List.setIfInBounds_toArray, List.set_cons_zero, List.set_cons_succ, List.getElem_toArray, List.getElem_cons_zero, List.getElem_cons_succ])
    refine wpAnyH_take (i := 3) (v := ?vu4) rfl (by kernel_rfl) (by kernel_rfl) (by kernel_rfl) (fun _ _ _ h => h) (Or.inl ⟨by rfl, ?hu4⟩) (by assumption) ?ru4
    case hu4 => (intro wS hSw; (try dsimp only at hSw); obtain ⟨c0, c1, c2, p0, d3⟩ := hSw; (try clear hSw); go_simp <;> (with_reducible rfl))
    (try simp only [Act.put, List.setIfInBounds_toArray, List.set_cons_zero, List.set_cons_succ, List.getElem_toArray, List.getElem_cons_zero, List.getElem_cons_succ])
    refine wpAnyH_take (i := 4) (v := ?vu5) rfl (by kernel_rfl) (by kernel_rfl) (by kernel_rfl) (fun _ _ _ h => h) (Or.inl ⟨by rfl, ?hu5⟩) (by assumption) ?ru5
    case hu5 => (intro wS hSw; (try dsimp only at hSw); (try clear hSw); go_simp <;> (with_reducible rfl))
    (try simp only [Act.put, List.setIfInBounds_toArray, List.set_cons_zero, List.set_cons_succ, List.getElem_toArray, List.getElem_cons_zero, List.getElem_cons_succ])
    refine wpAnyH_take (i := 5) (v := ?vu6) rfl (by kernel_rfl) (by kernel_rfl) (by kernel_rfl) (fun _ _ _ h => h) (Or.inl ⟨by rfl, ?hu6⟩) (by assumption) ?ru6
    case hu6 => (intro wS hSw; (try dsimp only at hSw); (try clear hSw); go_simp <;> (with_reducible rfl))
    (try simp only [Act.put, List.setIfInBounds_toArray, List.set_cons_zero, List.set_cons_succ, List.getElem_toArray, List.getElem_cons_zero, List.getElem_cons_succ])
    refine wpAnyH_take (i := 6) (v := ?vu7) rfl (by kernel_rfl) (by kernel_rfl) (by kernel_rfl) (fun _ _ _ h => h) (Or.inl ⟨by rfl, ?hu7⟩) (by assumption) ?ru7
    case hu7 => (intro wS hSw; (try dsimp only at hSw); (try clear hSw); go_simp <;> (with_reducible rfl))
    (try simp only [Act.put, List.setIfInBounds_toArray, List.set_cons_zero, List.set_cons_succ, List.getElem_toArray, List.getElem_cons_zero, List.getElem_cons_succ])
    refine wpAnyH_take (i := 7) (v := ?vu8) rfl (by kernel_rfl) (by kernel_rfl) (by kernel_rfl) (fun _ _ _ h => h) (Or.inl ⟨by rfl, ?hu8⟩) (by assumption) ?ru8
    case hu8 => (intro wS hSw; (try dsimp only at hSw); obtain ⟨c0, c1, c2, p0, d3⟩ := hSw; (try clear hSw); go_simp <;> (with_reducible rfl))
    (try simp only [Act.put, List.setIfInBounds_toArray, List.set_cons_zero, List.set_cons_succ, List.getElem_toArray, List.getElem_cons_zero, List.getElem_cons_succ])
    refine wpAnyH_take (i := 8) (v := ?vu9) rfl (by kernel_rfl) (by kernel_rfl) (by kernel_rfl) (fun _ _ _ h => h) (Or.inl ⟨by rfl, ?hu9⟩) (by assumption) ?ru9
    case hu9 => (intro wS hSw; (try dsimp only at hSw); (try clear hSw); go_simp <;> (with_reducible rfl))
    (try simp only [Act.put, List.setIfInBounds_toArray, List.set_cons_zero, List.set_cons_succ, List.getElem_toArray, List.getElem_cons_zero, List.getElem_cons_succ])
    refine wpAnyH_take (i := 9) (v := ?vu10) rfl (by kernel_rfl) (by kernel_rfl) (by kernel_rfl) (fun _ _ _ h => h) (Or.inl ⟨by rfl, ?hu10⟩) (by assumption) ?ru10
    case hu10 => (intro wS hSw; (try dsimp only at hSw); (try clear hSw); go_simp <;> (with_reducible rfl))
    (try simp only [Act.put, List.setIfInBounds_toArray, List.set_cons_zero, List.set_cons_succ, List.getElem_toArray, List.getElem_cons_zero, List.getElem_cons_succ])
    refine wpAnyH_take (i := 10) (v := ?vu11) rfl (by kernel_rfl) (by kernel_rfl) (by kernel_rfl) (fun _ _ _ h => h) (Or.inl ⟨by rfl, ?hu11⟩) (by assumption) ?ru11
    case hu11 => (intro wS hSw; (try dsimp only at hSw); (try clear hSw); go_simp <;> (with_reducible rfl))
    (try simp only [Act.put, List.setIfInBounds_toArray, List.set_cons_zero, List.set_cons_succ, List.getElem_toArray, List.getElem_cons_zero, List.getElem_cons_succ])
    refine wpAnyH_take (i := 11) (v := ?vu12) rfl (by kernel_rfl) (by kernel_rfl) (by kernel_rfl) (fun _ _ _ h => h) (Or.inl ⟨by rfl, ?hu12⟩) (by assumption) ?ru12
    case hu12 => (intro wS hSw; (try dsimp only at hSw); obtain ⟨c0, c1, c2, p0, d3⟩ := hSw; (try clear hSw); go_simp <;> (with_reducible rfl))
    (try simp only [Act.put, List.setIfInBounds_toArray, List.set_cons_zero, List.set_cons_succ, List.getElem_toArray, List.getElem_cons_zero, List.getElem_cons_succ])
    refine wpAnyH_take (i := 12) (v := ?vu13) rfl (by kernel_rfl) (by kernel_rfl) (by kernel_rfl) (fun _ _ _ h => h) (Or.inl ⟨by rfl, ?hu13⟩) (by assumption) ?ru13
    case hu13 => (intro wS hSw; (try dsimp only at hSw); (try clear hSw); go_simp <;> (with_reducible rfl))
    (try simp only [Act.put, List.setIfInBounds_toArray, List.set_cons_zero, List.set_cons_succ, List.getElem_toArray, List.getElem_cons_zero, List.getElem_cons_succ])
    refine wpAnyH_take (i := 13) (v := ?vu14) rfl (by kernel_rfl) (by kernel_rfl) (by kernel_rfl) (fun _ _ _ h => h) (Or.inl ⟨by rfl, ?hu14⟩) (by assumption) ?ru14
    case hu14 => (intro wS hSw; (try dsimp only at hSw); (try clear hSw); go_simp <;> (with_reducible rfl))
    (try simp only [Act.put, List.setIfInBounds_toArray, List.set_cons_zero, List.set_cons_succ, List.getElem_toArray, List.getElem_cons_zero, List.getElem_cons_succ])
    refine wpAnyH_take (i := 14) (v := ?vu15) rfl (by kernel_rfl) (by kernel_rfl) (by kernel_rfl) (fun _ _ _ h => h) (Or.inl ⟨by rfl, ?hu15⟩) (by assumption) ?ru15
    case hu15 => (intro wS hSw; (try dsimp only at hSw); obtain ⟨c0, c1, c2, p0, d3⟩ := hSw; (try clear hSw); go_simp <;> (with_reducible rfl))
    (try simp only [Act.put, List.setIfInBounds_toArray, List.set_cons_zero, List.set_cons_succ, List.getElem_toArray, List.getElem_cons_zero, List.getElem_cons_succ])
    refine wpAnyH_take (i := 15) (v := ?vu16) rfl (by kernel_rfl) (by kernel_rfl) (by kernel_rfl) (fun _ _ _ h => h) (Or.inl ⟨by rfl, ?hu16⟩) (by assumption) ?ru16
    case hu16 => (intro wS hSw; (try dsimp only at hSw); (try clear hSw); go_simp <;> (with_reducible rfl))
    (try simp only [Act.put, List.setIfInBounds_toArray, List.set_cons_zero, List.set_cons_succ, List.getElem_toArray, List.getElem_cons_zero, List.getElem_cons_succ])
    refine wpAnyH_take (i := 16) (v := ?vu17) rfl (by kernel_rfl) (by kernel_rfl) (by kernel_rfl) (fun _ _ _ h => h) (Or.inl ⟨by rfl, ?hu17⟩) (by assumption) ?ru17
    case hu17 => (intro wS hSw; (try dsimp only at hSw); (try clear hSw); go_simp <;> (with_reducible rfl))
    (try simp only [Act.put, List.setIfInBounds_toArray, List.set_cons_zero, List.set_cons_succ, List.getElem_toArray, List.getElem_cons_zero, List.getElem_cons_succ])
    refine wpAnyH_take (i := 17) (v := ?vu18) rfl (by kernel_rfl) (by kernel_rfl) (by kernel_rfl) (fun _ _ _ h => h) (Or.inl ⟨by rfl, ?hu18⟩) (by assumption) ?ru18
    case hu18 => (intro wS hSw; (try dsimp only at hSw); obtain ⟨c0, c1, c2, p0, d3⟩ := hSw; (try clear hSw); go_simp <;> (with_reducible rfl))
    (try simp only [Act.put, List.setIfInBounds_toArray, List.set_cons_zero, List.set_cons_succ, List.getElem_toArray, List.getElem_cons_zero, List.getElem_cons_succ])
    refine wpAnyH_ready (rs := [18]) (by kernel_rfl) (by simp) ?_
    refine AllReadyH.cons rfl (fun K hK => ?_) AllReadyH.nil
    go_simp
    refine CP1.out.mono ?_; rintro r w9 ⟨st, g2, rfl, hst, ⟨bm9, P9, m9, t9⟩, p9, q9⟩
    have X9 := Lib.hid (X3.out.prog P9 m9 t9)
    have D9 := Lib.hid (DB13.mk (w := w9) ((t9.cells X3.out.pa D3.out.row okD2).trans D3.out.row))
    have R9 := Lib.hid ((t9.cells X3.out.pa R3.out okF).trans R3.out)
    have S9 := Lib.hid ((t9.cells X3.out.pa S3.out okS).trans S3.out)
    have O9 := Lib.hid (own_keepT O3.out fun _ cur _ hc => t9.cells X3.out.pa hc okI)
    have Z9 := Lib.hid (ws_same Z3.out fun _ cur _ hc => t9.cells X3.out.pa hc okW13)
    have T9 := Lib.hid q9
    have HP := Lib.hid p9
    clear P9 m9 t9 p9 q9 hst
    refine hK.out _ _ ⟨X9.out.cells.1, X9.out.cells.2.1, X9.out.cells.2.2.1, X9.out.ptrc hAB.out, D9.out.cells.2.2.2.1⟩ (fun hHeld => ?_)
    (try clear hK K)
    (try simp only [Act.put, List.setIfInBounds_toArray, List.set_cons_zero, List.set_cons_succ, List.getElem_toArray, List.getElem_cons_zero, List.getElem_cons_succ])
    refine wpAnyH_take (i := 19) (v := ?vu19) rfl (by kernel_rfl) (by kernel_rfl) (by kernel_rfl) (fun _ _ _ h => h) (Or.inl ⟨by rfl, ?hu19⟩) (by assumption) ?ru19
    case hu19 => (intro wS hSw; (try dsimp only at hSw); (try clear hSw); go_simp <;> (with_reducible rfl))
    (try simp only [Act.put, List.setIfInBounds_toArray, List.set_cons_zero, List.set_cons_succ, List.getElem_toArray, List.getElem_cons_zero, List.getElem_cons_succ])
    refine wpAnyH_take (i := 20) (v := ?vu20) rfl (by kernel_rfl) (by kernel_rfl) (by kernel_rfl) (fun _ _ _ h => h) (Or.inl ⟨by rfl, ?hu20⟩) (by assumption) ?ru20
    case hu20 => (intro wS hSw; (try dsimp only at hSw); (try clear hSw); go_simp <;> (with_reducible rfl))
    (try simp only [Act.put, List.setIfInBounds_toArray, List.set_cons_zero, List.set_cons_succ, List.getElem_toArray, List.getElem_cons_zero, List.getElem_cons_succ])
    refine wpAnyH_take (i := 21) (v := ?vu21) rfl (by kernel_rfl) (by kernel_rfl) (by kernel_rfl) (fun _ _ _ h => h) (Or.inl ⟨by rfl, ?hu21⟩) (by assumption) ?ru21
    case hu21 => (intro wS hSw; (try dsimp only at hSw); (try clear hSw); go_simp <;> (with_reducible rfl))
    (try simp only [Act.put, List.setIfInBounds_toArray, List.set_cons_zero, List.set_cons_succ, List.getElem_toArray, List.getElem_cons_zero, List.getElem_cons_succ])
    refine wpAnyH_take (i := 22) (v := ?vu22) rfl (by kernel_rfl) (by kernel_rfl) (by kernel_rfl) (fun _ _ _ h => h) (Or.inl ⟨by rfl, ?hu22⟩) (by assumption) ?ru22
    case hu22 => (intro wS hSw; (try dsimp only at hSw); (try clear hSw); go_simp <;> (with_reducible rfl))
    (try simp only [Act.put, List.setIfInBounds_toArray, List.set_cons_zero, List.set_cons_succ, List.getElem_toArray, List.getElem_cons_zero, List.getElem_cons_succ])
    refine wpAnyH_take (i := 23) (v := ?vu23) rfl (by kernel_rfl) (by kernel_rfl) (by kernel_rfl) (fun _ _ _ h => h) (Or.inl ⟨by rfl, ?hu23⟩) (by assumption) ?ru23
    case hu23 => (intro wS hSw; (try dsimp only at hSw); (try clear hSw); go_simp <;> (with_reducible rfl))
    (try simp only [Act.put, List.setIfInBounds_toArray, List.set_cons_zero, List.set_cons_succ, List.getElem_toArray, List.getElem_cons_zero, List.getElem_cons_succ])
    refine wpAnyH_take (i := 24) (v := ?vu24) rfl (by kernel_rfl) (by kernel_rfl) (by kernel_rfl) (fun _ _ _ h => h) (Or.inl ⟨by rfl, ?hu24⟩) (by assumption) ?ru24
    case hu24 => (intro wS hSw; (try dsimp only at hSw); (try clear hSw); go_simp <;> (with_reducible rfl))
    (try simp only [Act.put, List.setIfInBounds_toArray, List.set_cons_zero, List.set_cons_succ, List.getElem_toArray, List.getElem_cons_zero, List.getElem_cons_succ])
    refine wpAnyH_take (i := 25) (v := ?vu25) rfl (by kernel_rfl) (by kernel_rfl) (by kernel_rfl) (fun _ _ _ h => h) (Or.inl ⟨by rfl, ?hu25⟩) (by assumption) ?ru25
    case hu25 => (intro wS hSw; (try dsimp only at hSw); (try clear hSw); go_simp <;> (with_reducible rfl))
    (try simp only [Act.put, List.setIfInBounds_toArray, List.set_cons_zero, List.set_cons_succ, List.getElem_toArray, List.getElem_cons_zero, List.getElem_cons_succ])
    refine wpAnyH_done (by kernel_rfl) ?_ _
    clear hHeld X3 D3 R3 S3 O3 Z3 CP1 D9
    obtain ⟨c0, c1, c2, c3, c4, c5, cf⟩ := X9.out.cells
    obtain ⟨e1, e2⟩ := cell2 R9.out
    go_upto_region 28 with fail
    have q0 := X9.out.put 3 (.int .i64 (n : Int)) (.slice (some ⟨lg, 0, none⟩) ll lc) (.slice ao Q.length cap) (.slice (some ⟨sg, 0, none⟩) ll sc) rfl
    have q1 := q0.put 4 (.slice ao2 R.length cap2) (.slice (some ⟨lg, 0, none⟩) ll lc) (.slice ao2 R.length cap2) (.slice (some ⟨sg, 0, none⟩) ll sc) rfl
    have O5 := own_putT (own_putT O9.out X9.out.box (by decide) 3 (.int .i64 (n : Int))) q0.box (by decide) 4 (.slice ao2 R.length cap2)
    have X10 := Lib.hid (q1.newG O5)
    have S10 := Lib.hid (row_set (o := 4) (u := .slice ao2 R.length cap2) (row_set (o := 3) (u := .int .i64 (n : Int)) S9.out X9.out.box (by decide)) q0.box (by decide))
    have T10 := Lib.hid (rowP_set (o := 4) (u := .slice ao2 R.length cap2) (rowP_set (o := 3) (u := .int .i64 (n : Int)) T9.out X9.out.box (by decide)) q0.box (by decide))
    have Z10 := Lib.hid (ws_put (ws_put Z9.out X9.out.box (by decide) 3 (.int .i64 (n : Int))) q0.box (by decide) 4 (.slice ao2 R.length cap2))
    clear q0 q1 O5 X9 R9 S9 O9 Z9 T9 c0 c1 c2 c3 c4 c5 cf e1 e2
    generalize World.setCell (World.setCell w9 _ _) _ _ = W10 at *
    obtain ⟨c0, c1, c2, c3, c4, c5, cf⟩ := X10.out.cells
    obtain ⟨p0, s0, s1, s2, s3, s4, fl, fs⟩ := X10.out.rowc hAB.out ho
    go_upto_region 30 with fail
    have OT := X10.out.otherL k (.pointer (some ⟨st, 0, none⟩))
    have X11 := Lib.hid (X10.out.ptr_set (y := ⟨st, y.f, y.s, y.g, y.T, .slice vo2 l2'.length vc2, l2'⟩) hAB.out HLL.out (row_q T10.out))
    have S11 := Lib.hid (OT _ _ S10.out (fun c f hh => by injection hh with _ hh _; exact absurd hh (by decide)))
    have Z11 := Lib.hid (ws_other Z10.out (by decide) OT)
    clear OT X10 S10 Z10 T10 c0 c1 c2 c3 c4 c5 cf p0 s0 s1 s2 s3 s4 fl fs
    generalize World.setCell W10 _ _ = W11 at *
    have X12 := Lib.hid X11.out.drew
    have S12 := Lib.hid (show W11.drew.heap[bS]? = some (.cells #[.int .i64 y.s, .int .i64 (y.n : Int), .slice vo2 l2'.length vc2, .int .i64 (y.f : Int), .int .i64 y.g] 70 (0, 0)) from S11.out)
    have Z12 := Lib.hid (show WsAt W11.drew W.heap.size (.slice vo2 l2'.length vc2) l2' from ws_low Z11.out (drewN_low W11 1))
    have hS := X12.out.cells.2.2.2.2.2.1
    clear X11 S11 Z11
    refine wp_region_held_drew (S := fun wS => wS.cell? ⟨wb, 5, none⟩ = some (.slice (some ⟨sg, 0, none⟩) ll sc)) (by kernel_rfl) hS (fun hHeld => ?_)
    clear hS
    generalize W11.drew = Y0 at X12 S12 Z12 hHeld ⊢
    refine wpAnyH_take (i := 0) (v := ?vz1) rfl (by kernel_rfl) (by kernel_rfl) (by kernel_rfl) (fun _ _ _ h => h) (Or.inl ⟨by rfl, ?hz1⟩) (by assumption) ?rz1
    case hz1 => (intro wS hSw; (try dsimp only at hSw); (try clear hSw); go_simp <;> (with_reducible rfl))
    (try simp only [Act.put, List.setIfInBounds_toArray, List.set_cons_zero, List.set_cons_succ, List.getElem_toArray, List.getElem_cons_zero])
    refine wpAnyH_take (i := 1) (v := ?vz2) rfl (by kernel_rfl) (by kernel_rfl) (by kernel_rfl) (fun _ _ _ h => h) (Or.inl ⟨by rfl, ?hz2⟩) (by assumption) ?rz2
    case hz2 => (intro wS hSw; (try dsimp only at hSw); (try clear hSw); go_simp <;> (with_reducible rfl))
    (try simp only [Act.put, List.setIfInBounds_toArray, List.set_cons_zero, List.set_cons_succ, List.getElem_toArray, List.getElem_cons_zero, List.getElem_cons_succ])
    refine wpAnyH_take (i := 2) (v := ?vz3) rfl (by kernel_rfl) (by kernel_rfl) (by kernel_rfl) (fun _ _ _ h => h) (Or.inl ⟨by rfl, ?hz3⟩) (by assumption) ?rz3
    case hz3 => (intro wS hSw; (try dsimp only at hSw); (try clear hSw); go_simp <;> (with_reducible rfl))
    (try simp only [Act.put, List.setIfInBounds_toArray, List.set_cons_zero, List.set_cons_succ, List.getElem_toArray, List.getElem_cons_zero, List.getElem_cons_succ])
    refine wpAnyH_take (i := 3) (v := ?vz4) rfl (by kernel_rfl) (by kernel_rfl) (by kernel_rfl) (fun _ _ _ h => h) (Or.inl ⟨by rfl, ?hz4⟩) (by assumption) ?rz4
    case hz4 => (intro wS hSw; (try dsimp only at hSw); have c5 := hSw; (try clear hSw); go_simp <;> (with_reducible rfl))
    (try simp only [Act.put, List.setIfInBounds_toArray, List.set_cons_zero, List.set_cons_succ, List.getElem_toArray, List.getElem_cons_zero, List.getElem_cons_succ])
    refine wpAnyH_take (i := 4) (v := ?vz5) rfl (by kernel_rfl) (by kernel_rfl) (by kernel_rfl) (fun _ _ _ h => h) (Or.inl ⟨by rfl, ?hz5⟩) (by assumption) ?rz5
    case hz5 => (intro wS hSw; (try dsimp only at hSw); (try clear hSw); go_simp <;> (with_reducible rfl))
    (try simp only [Act.put, List.setIfInBounds_toArray, List.set_cons_zero, List.set_cons_succ, List.getElem_toArray, List.getElem_cons_zero, List.getElem_cons_succ])
    refine wpAnyH_ready (rs := [5]) (by kernel_rfl) (by simp) ?_
    refine AllReadyH.cons rfl (fun K hK => ?_) AllReadyH.nil
    obtain ⟨e0, e1, e2, e3, e4⟩ := cell5 S12.out
    go_simp
    clear e0 e1 e2 e3 e4
    refine hK.out _ _ X12.out.cells.2.2.2.2.2.1 (fun hHeld => ?_)
    (try clear hK K)
    (try simp only [Act.put, List.setIfInBounds_toArray, List.set_cons_zero, List.set_cons_succ, List.getElem_toArray, List.getElem_cons_zero, List.getElem_cons_succ])
    refine wpAnyH_take (i := 6) (v := ?vz6) rfl (by kernel_rfl) (by kernel_rfl) (by kernel_rfl) (fun _ _ _ h => h) (Or.inl ⟨by rfl, ?hz6⟩) (by assumption) ?rz6
    case hz6 => (intro wS hSw; (try dsimp only at hSw); (try clear hSw); go_simp <;> (with_reducible rfl))
    (try simp only [Act.put, List.setIfInBounds_toArray, List.set_cons_zero, List.set_cons_succ, List.getElem_toArray, List.getElem_cons_zero, List.getElem_cons_succ])
    refine wpAnyH_ready (rs := [7]) (by kernel_rfl) (by simp) ?_
    refine AllReadyH.cons rfl (fun K hK => ?_) AllReadyH.nil
    obtain ⟨s0, s1, s2, s3, s4, fs⟩ := X12.out.rowcS hAB.out ho
    go_simp
    have X13 := Lib.hid (show WX W (((((Y0.setCell ⟨sg, o, none⟩ (.int .i64 y.s)).setCell ⟨sg, o + 1, none⟩ (.int .i64 (y.n : Int))).setCell ⟨sg, o + 2, none⟩ (.slice vo2 l2'.length vc2)).setCell ⟨sg, o + 3, none⟩ (.int .i64 (y.f : Int))).setCell ⟨sg, o + 4, none⟩ (.int .i64 y.g)) wb sb bm9 fb bb n _ F2 _ R _ _ _ _ _ _ _ from X12.out.fill5 (y := ⟨st, y.f, y.s, y.g, y.T, .slice vo2 l2'.length vc2, l2'⟩) hAB.out ho HLL.out Z12.out)
    clear X12 S12 Z12 s0 s1 s2 s3 s4 fs
    generalize World.setCell (World.setCell (World.setCell (World.setCell (World.setCell Y0 _ _) _ _) _ _) _ _) _ _ = W13 at X13 ⊢
    refine hK.out _ _ X13.out.cells.2.2.2.2.2.1 (fun hHeld => ?_)
    (try clear hK K)
    (try simp only [Act.put, List.setIfInBounds_toArray, List.set_cons_zero, List.set_cons_succ, List.getElem_toArray, List.getElem_cons_zero, List.getElem_cons_succ])
    refine wpAnyH_done (by kernel_rfl) ?_ _
    clear hHeld
    go_wp2_with fail
    go_ret
    refine ⟨rfl, _, bm9, _, F2, .slice ao2 R.length cap2, .slice (some ⟨lg, 0, none⟩) ll lc, .slice (some ⟨sg, 0, none⟩) ll sc, ?_, HFit.out g2 st (.slice vo2 l2'.length vc2) l2' HP.out HT.out⟩
    rw [HR.out]
    exact X13.out
end
end Go.Proofs.YtnbdoemnepfhdaaGreat.Sw

namespace Go.Proofs.YtnbdoemnepfhdaaGreat.Sw
open Fld Ts
open Tl (eleven trod_ent)
open Go.ChangeShapes Go.WideShapes Go.ChangeAt Go.RowKit Go.Deep
set_option maxHeartbeats 1000000
set_option maxRecDepth 100000
/-- A deed. -/
structure DeedW where
  kind : Int
  n : Int
  s : Int
  g : Int
  e : Ent
structure DeedW.wf (d : DeedW) : Prop where
  k0 : -9223372036854775808 ≤ d.kind
  k1 : d.kind ≤ 9223372036854775807
  n0 : -9223372036854775808 ≤ d.n
  n1 : d.n ≤ 9223372036854775807
  s0 : -9223372036854775808 ≤ d.s
  s1 : d.s ≤ 9223372036854775807
  g0 : -9223372036854775808 ≤ d.g
  g1 : d.g ≤ 9223372036854775807
  he : d.e.wf
def deedL (d : DeedW) : List Value := [.int .i64 d.kind, .int .i64 d.n, .int .i64 d.s, .int .i64 d.g] ++ eleven d.e
/-- What the walk is told of deeds that came in. -/
def IsDeeds (w : World) (a : Option Addr) (len cap : Nat) : Prop :=
  (a = none ∧ len = 0) ∨
  ∃ x : Addr, a = some x ∧ len ≤ cap ∧ cap ≤ maxLen ∧ ∀ i, i < len → ∃ d : DeedW, d.wf ∧ ∀ k v, (deedL d)[k]? = some v → w.cell? (x.add (i * 15 + k)) = some v
theorem cells_deed : Tryz.prog.cellsOf 32 = 15 := by kernel_rfl
theorem trod_deed {H : Type} {enc : TypeId × Value → H} {w : World} {base : Nat} {spare : Nat → Bool} {held : Bool} {n : Nat} {cs : List Value} {y : DataW H × List MemPlace} (hl : cs.length = 15) (h : DataW.trod enc Tryz.prog w base spare held n 32 cs = some y) : ∃ d : DeedW, cs = deedL d ∧ d.wf := by
  match cs, hl with
  | [c0, c1, c2, c3, d0, d1, d2, d3, d4, d5, d6, d7, d8, d9, d10], _ =>
    obtain ⟨xs, n, _, hx, _, hlen, hg⟩ := DataW.trod_struct Tryz.underlying32 h
    match xs, hlen with
    | [y0, y1, y2, y3, y4], _ =>
      have g0 : DataW.trod enc Tryz.prog w base spare held n 3 [c0] = some y0 := by simpa [cells_int] using hg 0 _ rfl
      have g1 : DataW.trod enc Tryz.prog w base spare held n 3 [c1] = some y1 := by simpa [cells_int] using hg 1 _ rfl
      have g2 : DataW.trod enc Tryz.prog w base spare held n 3 [c2] = some y2 := by simpa [cells_int] using hg 2 _ rfl
      have g3 : DataW.trod enc Tryz.prog w base spare held n 3 [c3] = some y3 := by simpa [cells_int] using hg 3 _ rfl
      have g4 : DataW.trod enc Tryz.prog w base spare held n 30 [d0, d1, d2, d3, d4, d5, d6, d7, d8, d9, d10] = some y4 := by simpa [cells_int, cells_entry] using hg 4 _ rfl
      obtain ⟨a0, q0, z0, w0⟩ := DataW.trod_int Tryz.underlying3 g0
      obtain ⟨a1, q1, z1, w1⟩ := DataW.trod_int Tryz.underlying3 g1
      obtain ⟨a2, q2, z2, w2⟩ := DataW.trod_int Tryz.underlying3 g2
      obtain ⟨a3, q3, z3, w3⟩ := DataW.trod_int Tryz.underlying3 g3
      obtain ⟨e, he, hw⟩ := trod_ent rfl g4
      simp only [List.cons.injEq, and_true] at q0 q1 q2 q3
      subst q0 q1 q2 q3
      refine ⟨⟨a0, a1, a2, a3, e⟩, ?_, ⟨(bounds_i64 w0).1, (bounds_i64 w0).2, (bounds_i64 w1).1, (bounds_i64 w1).2, (bounds_i64 w2).1, (bounds_i64 w2).2, (bounds_i64 w3).1, (bounds_i64 w3).2, Ent.lits_wf hw⟩⟩
      unfold deedL
      rw [← he]; rfl
theorem open_deeds {H : Type} {enc : TypeId × Value → H} {w : World} {base : Nat} {fuel : Nat} {ao : Option Addr} {len cap : Nat} {x : DataW H × List MemPlace} (h : DataW.trod enc Tryz.prog w base (fun _ => true) true fuel 22 [.slice ao len cap] = some x) : IsDeeds w ao len cap := by
  rcases open_slice Tryz.underlying22 h with ⟨hcs, _⟩ | ⟨a, l, c, m, n, D, Pl, hcs, hb, hl, hm, hmm, hx, hi⟩
  · simp at hcs; exact .inl ⟨hcs.1, hcs.2.1⟩
  · simp at hcs
    obtain ⟨rfl, rfl, rfl⟩ := hcs
    refine .inr ⟨a, rfl, hl, hm, fun i him => ?_⟩
    obtain ⟨cs', hc, ht'⟩ := hi i (by simp at hmm; omega)
    rw [cells_deed] at hc
    obtain ⟨_, hcl, hat⟩ := World.cells?_some hc
    obtain ⟨e, rfl, he⟩ := trod_deed hcl ht'
    refine ⟨e, he, fun k v hv => ?_⟩
    have hk : k < 15 := (List.getElem?_eq_some_iff.1 hv).1
    have := hat k hk
    rw [Go.Deep.add_add] at this
    rw [this]; exact hv
theorem deeds_at {w : World} {a : Option Addr} {len cap : Nat} (h : IsDeeds w a len cap) (i : Nat) (hi : i < len) :
    ∃ b o, ∃ off, ∃ d : DeedW, a = some ⟨b, off, none⟩ ∧ off + i * 15 = o ∧ len ≤ cap ∧ cap ≤ maxLen ∧ d.wf ∧ w.cell? ⟨b, o, none⟩ = some (.int .i64 d.kind) ∧ w.cell? ⟨b, o + 1, none⟩ = some (.int .i64 d.n) ∧ w.cell? ⟨b, o + 2, none⟩ = some (.int .i64 d.s) ∧ w.cell? ⟨b, o + 3, none⟩ = some (.int .i64 d.g) ∧ w.cell? ⟨b, o + 4, none⟩ = some (.int .i64 d.e.size) ∧ w.cell? ⟨b, o + 5, none⟩ = some (.int .i64 d.e.ctx) ∧ w.cell? ⟨b, o + 6, none⟩ = some (.int .u64 d.e.va) ∧ w.cell? ⟨b, o + 7, none⟩ = some (.int .u64 d.e.pa) ∧ w.cell? ⟨b, o + 8, none⟩ = some (.bool d.e.att.write) ∧ w.cell? ⟨b, o + 9, none⟩ = some (.bool d.e.att.priv) ∧ w.cell? ⟨b, o + 10, none⟩ = some (.bool d.e.att.exec) ∧ w.cell? ⟨b, o + 11, none⟩ = some (.bool d.e.att.lock) ∧ w.cell? ⟨b, o + 12, none⟩ = some (.bool d.e.att.global) ∧ w.cell? ⟨b, o + 13, none⟩ = some (.bool d.e.att.quiet) ∧ w.cell? ⟨b, o + 14, none⟩ = some (.bool d.e.valid) := by
  rcases h with ⟨_, h0⟩ | ⟨x, rfl, h1, h2, h3⟩
  · omega
  · obtain ⟨d, hd, hc⟩ := h3 i hi
    obtain ⟨b, off, spot⟩ := x
    have hs : spot = none := by
      obtain ⟨e0, _, hc0⟩ := h3 0 (by omega)
      have z0 := hc0 0 _ rfl
      simpa [Addr.add] using World.cell?_spot z0
    subst hs
    have ad : ∀ j, (⟨b, off, none⟩ : Addr).add j = ⟨b, off + j, none⟩ := fun j => by simp [Addr.add]
    have hc' : ∀ k v, (deedL d)[k]? = some v → w.cell? ⟨b, off + i * 15 + k, none⟩ = some v := fun k v hv => by
      have := hc k v hv; rwa [ad, ← Nat.add_assoc] at this
    exact ⟨b, _, off, d, rfl, rfl, h1, h2, hd, hc' 0 _ rfl, hc' 1 _ rfl, hc' 2 _ rfl, hc' 3 _ rfl, hc' 4 _ rfl, hc' 5 _ rfl, hc' 6 _ rfl, hc' 7 _ rfl, hc' 8 _ rfl, hc' 9 _ rfl, hc' 10 _ rfl, hc' 11 _ rfl, hc' 12 _ rfl, hc' 13 _ rfl, hc' 14 _ rfl⟩
end Go.Proofs.YtnbdoemnepfhdaaGreat.Sw

namespace Go.Proofs.YtnbdoemnepfhdaaGreat.Sw
open Fld Ts
open Frm (OwnI IsD setT manyE manyI manyT lst cnt)
open Pt (arI)
open Go.ChangeShapes Go.WideShapes Go.ChangeAt Go.RowKit Go.Shelf Go.Deep
set_option maxHeartbeats 1000000
set_option maxRecDepth 100000
section
variable {W w : World} {wb sb fb bb n c : Nat}
theorem does_chg (nn ss gg : Int) (n0 : -9223372036854775808 ≤ nn) (n1 : nn ≤ 9223372036854775807) (E : Ent) {bm : Nat} {g : Nat → Nat} {F : Nat → Bool} {lv gv sv : Value} {L : List Tb} (hL : 0 < L.length) (hL2 : L.length ≤ 1000) (hf : Fit n g F L) (h : WX W w wb sb bm fb bb n g F L (lst F n) L lv gv sv lv gv sv) :
    Calls Tryz.prog 7 #[.pointer (some ⟨wb, 0, none⟩), .agg #[.int .i64 1, .int .i64 nn, .int .i64 ss, .int .i64 gg, .int .i64 E.size, .int .i64 E.ctx, .int .u64 E.va, .int .u64 E.pa, .bool E.att.write, .bool E.att.priv, .bool E.att.exec, .bool E.att.lock, .bool E.att.global, .bool E.att.quiet, .bool E.valid]] w fun e w' => e = .returned (.bool true) ∧ St W w' wb sb fb bb n L.length := by
  obtain ⟨k, hk, hkl⟩ := ar_nat nn hL
  obtain ⟨A, x, B, rfl, hA⟩ := at_mid hkl
  have hx : x ∈ A ++ x :: B := mid_mem (.inl rfl)
  by_cases he : manyE F n (frI x.s gg) = 0
  · obtain ⟨y, hy, hs, hg, hyT, hyG, hfree, hi, hT⟩ := chg_y hf hx he
    rw [← hg]
    refine (does_chg_yes nn ss n0 n1 E hk hA hL2 hf hy hs hyT hyG hfree (by rw [hs, hg]; exact he) hi hT h).mono ?_
    rintro e w' ⟨rfl, z, bm', g', F', gv', lv', sv', X, hf'⟩
    exact ⟨rfl, _, bm', g', F', lv', gv', sv', X, hf', by simp⟩
  · refine (does_chg_no nn ss gg n0 n1 E hk hA hL2 hf he h).mono ?_
    rintro e w' ⟨rfl, bm', X⟩
    exact ⟨rfl, _, bm', g, F, lv, gv, sv, X, hf, Nat.le_refl _⟩
theorem does_any (d : DeedW) (hd : d.wf) (hc : c ≤ 1000) (h : St W w wb sb fb bb n c) :
    Calls Tryz.prog 7 #[.pointer (some ⟨wb, 0, none⟩), .agg #[.int .i64 d.kind, .int .i64 d.n, .int .i64 d.s, .int .i64 d.g, .int .i64 d.e.size, .int .i64 d.e.ctx, .int .u64 d.e.va, .int .u64 d.e.pa, .bool d.e.att.write, .bool d.e.att.priv, .bool d.e.att.exec, .bool d.e.att.lock, .bool d.e.att.global, .bool d.e.att.quiet, .bool d.e.valid]] w fun e w' => e = .returned (.bool true) ∧ St W w' wb sb fb bb n (c + 1) := by
  by_cases k0 : d.kind = 0
  · rw [k0]; exact does_make d.n d.s d.g d.e hc h
  · obtain ⟨L, bm, g, F, lv, gv, sv, h1, h2, h3⟩ := h
    by_cases k4 : 3 < d.kind ∨ d.kind < 0
    · refine (does_frame d.kind d.n d.s d.g k4 d.e h2 h1).mono ?_
      rintro e w' ⟨rfl, F', gv', X, hf⟩
      exact ⟨rfl, L, bm, g, F', lv, gv', sv, X, hf, by omega⟩
    · have k : d.kind = 1 ∨ d.kind = 2 ∨ d.kind = 3 := by omega
      rcases Nat.eq_zero_or_pos L.length with h0 | hL
      · have hl : L = [] := List.length_eq_zero_iff.1 h0
        subst hl
        refine (does_nil d.kind d.n d.s d.g k d.e h1).mono ?_
        rintro e w' ⟨rfl, X⟩
        exact ⟨rfl, [], bm, g, F, lv, gv, sv, X, h2, Nat.zero_le _⟩
      · rcases k with k | k | k
        · rw [k]
          refine (does_chg d.n d.s d.g hd.n0 hd.n1 d.e hL (by omega) h2 h1).mono ?_
          rintro e w' ⟨rfl, hS⟩
          exact ⟨rfl, hS.up (by omega)⟩
        · rw [k]
          refine (does_drop d.n d.s d.g hd.n0 hd.n1 d.e hL (by omega) h2 h1).mono ?_
          rintro e w' ⟨rfl, bm', g', F', L', lv', gv', sv', X, hf, hl⟩
          exact ⟨rfl, L', bm', g', F', lv', gv', sv', X, hf, by omega⟩
        · rw [k]
          refine (does_ins d.n d.s d.g hd.n0 hd.n1 d.e hd.he hL (by omega) h2 h1).mono ?_
          rintro e w' ⟨rfl, bm', g', L', sv', X, hf, hl⟩
          have := congrArg List.length hl
          simp only [List.length_map] at this
          exact ⟨rfl, L', bm', g', F, lv, gv, sv', X, hf, by omega⟩
end
end Go.Proofs.YtnbdoemnepfhdaaGreat.Sw

