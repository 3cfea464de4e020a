/-
  YtffpfceclhogoaaGreatGT: the contracts and plain facts of several texts, laid together. Conditions: those that each theorem names.
-/
import Derived.Test.YtffpfceclhogoaaGreatGQ
namespace Go.Proofs.YtffpfceclhogoaaGreat.Hp
open Fld Hs
open Go.ChangeShapes Go.WideShapes Go.ChangeAt Go.RowKit Go.Maps
set_option maxHeartbeats 8000000
set_option maxRecDepth 100000
section
variable {w0 w : World} {hb sb n : Nat} {ns bl : Int} {L : Nat → List Bk} {F : Nat → Prop} {v t : Value} {l : List SPg} {LT : Nat → List Hs.Bk} {U : Nat → Value}
theorem TC.tn {w0 w W : World} {hb sb wb nb : Nat} {ns bl : Int} {L : Nat → List Bk} {F : Nat → Prop} {v : Value} {l : List SPg} {t : Value} {n : Nat} {LT : Nat → List Hs.Bk} {U : Nat → Value} {d : DeedV} {p : Pg} {v' : Value} {l' : List SPg} (h : TC w W wb nb ns bl v l t n LT U d p v' l') (K : KY w0 w hb sb ns bl n L F) (h1 : w.heap.size + 3 ≤ nb) : TN w0 w W hb sb ns bl L F v l t n LT U d nb W.heap.size v' l' t n LT U :=
  ⟨h.x, K.add h.x.lo (fun _ hk => hk), h.nx, h.nd, fun _ hk => K.lt hk, K.hbl, K.low.size, h1, (Array.getElem?_eq_some_iff.1 h.nx).1, Nat.le_refl _⟩
theorem turns_any (d : DeedV) (hd : d.wf) (K : KY w0 w hb sb ns bl n L F) (hF : ∀ k, DB v t n U k → F k) (D : DH w v l t n LT U) (T : HT ns bl n L l LT) :
    Calls Tryz.prog 39 #[.pointer (some ⟨hb, 0, none⟩), .agg #[.int .i64 ns, v, .int .i64 bl, t], .agg #[.int .i64 d.kind, .int .i64 d.sp, .int .i64 d.n, .int .u64 d.p.va, .int .i64 d.p.sz, .int .u64 d.p.pa, .bool d.p.att.write, .bool d.p.att.priv, .bool d.p.att.exec, .bool d.p.att.lock, .bool d.p.att.global, .bool d.p.att.quiet, .bool d.p.ref, .bool d.p.mod, .int .u64 d.va, .bool d.att.write, .bool d.att.priv, .bool d.att.exec, .bool d.att.lock, .bool d.att.global, .bool d.att.quiet, .bool d.mod, .bool d.raw, .bool d.near]] w fun e w' => DoneX w0 w w' hb sb ns bl F l d.sp e := by
  obtain ⟨⟨ao, cap, rfl⟩, g2, cap2, rfl⟩ := D.shape
  have X0 := TX.new D ns bl d
  have hat := Lib.hid (show 0 ≤ atD d l ∧ atD d l ≤ 18446744073709551615 from atD_bd hd T.val)
  have CA := Lib.hid (fun (W : World) (h : TX w W ns bl (.slice ao l.length cap) l (.slice (some ⟨g2, 0, none⟩) n cap2) n LT U d) => ldat_any ns bl d hd T.val W h.dh)
  have CW := Lib.hid (fun (W : World) (h : TX w W ns bl (.slice ao l.length cap) l (.slice (some ⟨g2, 0, none⟩) n cap2) n LT U d) => dwhy_any ns bl d.sp (atD d l) hat.out.1 hat.out.2 W h.dh)
  have HK := Lib.hid K
  have HD := Lib.hid D
  have HTT := Lib.hid T
  clear K D T
  go_enter Tryz.func39, Tryz.ntmps39
  have hP := Lib.hid (show dunV ns l d.sp (atD d l) = if whyE ns l d.sp (atD d l) = 0 then (sat l (posS l d.sp (atD d l))).p else Pg.zero from rfl)
  have hL := Lib.hid (show chL ns l d.sp (atD d l) (chF d) = if whyE ns l d.sp (atD d l) = 0 then l.set (posS l d.sp (atD d l)) ⟨d.sp, chF d (sat l (posS l d.sp (atD d l))).p⟩ else l from rfl)
  generalize atD d l = va at *
  go_upto_region 1 with fail
  generalize World.alloc (World.alloc (World.alloc w _) _) _ = W0 at *
  obtain ⟨x0, x1, x2, x3, xf⟩ := four_H X0.hx
  have HX0 := Lib.hid X0
  clear X0
  go_wp2_with (refine wpList_load_row rfl 40 (.tmp 5) rfl (w.heap.size + 1) rfl 40 #[.int .i64 d.kind, .int .i64 d.sp, .int .i64 d.n, .int .u64 d.p.va, .int .i64 d.p.sz, .int .u64 d.p.pa, .bool d.p.att.write, .bool d.p.att.priv, .bool d.p.att.exec, .bool d.p.att.lock, .bool d.p.att.global, .bool d.p.att.quiet, .bool d.p.ref, .bool d.p.mod, .int .u64 d.va, .bool d.att.write, .bool d.att.priv, .bool d.att.exec, .bool d.att.lock, .bool d.att.global, .bool d.att.quiet, .bool d.mod, .bool d.raw, .bool d.near] (0, 0) _ HX0.out.dx Tryz.underlying40 rfl (by kernel_rfl) ?_)
  refine (CA.out _ HX0.out).mono ?_; rintro e w1 ⟨rfl, hb1⟩
  have X1 := HX0.out.low hb1
  clear HX0 CA hb1 x0 x1 x2 x3 xf
  obtain ⟨x0, x1, x2, x3, xf⟩ := four_H X1.hx
  have d1 := X1.dcells.2.1
  go_wp2_with fail
  refine (CW.out _ X1).mono ?_; rintro e w2 ⟨rfl, hb2⟩
  have X2 := X1.low hb2
  clear X1 CW hb2 x0 x1 x2 x3 xf d1
  obtain ⟨x0, x1, x2, x3, xf⟩ := four_H X2.hx
  obtain ⟨E, hE⟩ : ∃ E, E = whyE ns l d.sp va := ⟨_, rfl⟩
  rw [← hE]
  have HE := Lib.hid hE
  clear hE
  have HX2 := Lib.hid X2
  have HSZ := Lib.hid (show w.heap.size + 3 ≤ w2.heap.size by have := (Array.getElem?_eq_some_iff.1 X2.rx).1; omega)
  clear X2
  obtain ⟨a0, a1, a2, a3, af⟩ := four_H (HX2.out.low (Below.alloc (Below.refl _ _) (Nat.le_refl _) (.cells #[.int .u64 0, .int .i64 0, .int .u64 0, .bool false, .bool false, .bool false, .bool false, .bool false, .bool false, .bool false, .bool false] 38))).hx
  go_upto_if 27 with (fail)
  go_cut [] (fun wx => ∃ v', TC w wx w2.heap.size (w2.heap.size + 1) ns bl (.slice ao l.length cap) l (.slice (some ⟨g2, 0, none⟩) n cap2) n LT U d (dunV ns l d.sp va) v' (chL ns l d.sp va (chF d)))
  case first =>
    have y1 := heap_alloc_new w2 (.cells #[.int .u64 0, .int .i64 0, .int .u64 0, .bool false, .bool false, .bool false, .bool false, .bool false, .bool false, .bool false, .bool false] 38)
    have B1 : Below w2.heap.size w2 ((w2.alloc (.cells #[.int .u64 0, .int .i64 0, .int .u64 0, .bool false, .bool false, .bool false, .bool false, .bool false, .bool false, .bool false, .bool false] 38)).alloc (.cells #[.int .i64 ns, .slice ao l.length cap, .int .i64 bl, .slice (some ⟨g2, 0, none⟩) n cap2] 30)) := by (repeat (first | (with_reducible assumption) | (with_reducible exact Below.refl _ _) | (with_reducible refine lo_step ?_ (by assumption)) | (with_reducible refine lo_drew ?_) | (with_reducible refine lo_drewN ?_ _) | (with_reducible refine lo_alloc ?_ _))) 
    have y2 := heap_alloc_new (w2.alloc (.cells #[.int .u64 0, .int .i64 0, .int .u64 0, .bool false, .bool false, .bool false, .bool false, .bool false, .bool false, .bool false, .bool false] 38)) (.cells #[.int .i64 ns, .slice ao l.length cap, .int .i64 bl, .slice (some ⟨g2, 0, none⟩) n cap2] 30)
    rw [World.size_alloc] at y2
    have C0 : TC w ((w2.alloc (.cells #[.int .u64 0, .int .i64 0, .int .u64 0, .bool false, .bool false, .bool false, .bool false, .bool false, .bool false, .bool false, .bool false] 38)).alloc (.cells #[.int .i64 ns, .slice ao l.length cap, .int .i64 bl, .slice (some ⟨g2, 0, none⟩) n cap2] 30)) w2.heap.size (w2.heap.size + 1) ns bl (.slice ao l.length cap) l (.slice (some ⟨g2, 0, none⟩) n cap2) n LT U d Pg.zero (.slice ao l.length cap) l := ⟨HX2.out.low B1, ⟨blk_low y1 ((Below.refl _ _).alloc (Nat.le_refl _) _)⟩, y2, HX2.out.dh.low B1⟩
    have HC := Lib.hid C0
    clear y1 y2 B1 C0 x0 x1 x2 x3 xf a0 a1 a2 a3 af
    generalize World.alloc (World.alloc w2 _) _ = W3 at *
    by_cases h0 : E = 0
    · subst h0
      have hp := why_pos HE.out.symm
      rw [← HE.out, if_pos rfl] at hP hL
      have hwf := HC.out.x.dh.wf _ (sat_mem hp)
      have hsp : (sat l (posS l d.sp va)).sp = d.sp := (isAt_iff.1 (first_yes _ _ hp)).1
      have hA : atI l d.sp va = (posS l d.sp va : Int) := by unfold atI; rw [if_pos hp]
      have CT := Lib.hid (fun (W : World) (h : TC w W w2.heap.size (w2.heap.size + 1) ns bl (.slice ao l.length cap) l (.slice (some ⟨g2, 0, none⟩) n cap2) n LT U d Pg.zero (.slice ao l.length cap) l) => dat_any ns bl d.sp va hat.out.1 hat.out.2 W h.x.dh)
      rw [hA] at CT
      clear hA
      have CS := Lib.hid (fun (W : World) (q : Pg) (hq : q.wf) (h : DH W (.slice ao l.length cap) l (.slice (some ⟨g2, 0, none⟩) n cap2) n LT U) => dset_any ns bl d.sp va hat.out.1 hat.out.2 q hq hp W h)
      rw [hsp] at CS
      have HQ := Lib.hid (show sat l (posS l d.sp va) = sat l (posS l d.sp va) from rfl)
      rcases own_form HC.out.x.dh.own with ⟨_, h0⟩ | ⟨g, cap3, hv, hgb, hnc, hcm⟩
      · omega
      obtain ⟨y0, y1, y2, y3, y4, y5, y6, y7, y8, y9, y10, y11⟩ := own_sp HC.out.x.dh.own hgb hp
      simp only [Value.slice.injEq, true_and] at hv
      obtain ⟨rfl, rfl⟩ := hv
      unfold maxLen at hcm
      obtain ⟨x0, x1, x2, x3, xf⟩ := four_H HC.out.x.hx
      have d1 := HC.out.x.dcells.2.1
      obtain ⟨s0', s1', s2', s3', s4', s5', s6', s7', s8', s9', s10'⟩ := HC.out.px.cells
      have zf := set_one_page HC.out.px
      generalize posS l d.sp va = j at *
      have hjl : (j : Int) < (l.length : Int) := by omega
      have hj0 : (0 : Int) ≤ (j : Int) := by omega
      obtain ⟨q, hq⟩ : ∃ q, q = (sat l j).p := ⟨_, rfl⟩
      rw [← hq] at y1 y2 y3 y4 y5 y6 y7 y8 y9 y10 y11 hP hL
      have HJ := Lib.hid (show j < l.length ∧ q = (sat l j).p from ⟨hp, hq⟩)
      have HW := Lib.hid (show w.heap.size + 3 ≤ w2.heap.size from HSZ.out)
      have hS := HC.out.reads HJ
      clear hq
      go_wp2_with fail
      go_region_held3 (fun w1 => ((w1.cell? ⟨w.heap.size, 0, none⟩ = some (.int .i64 ns) ∧ w1.cell? ⟨w.heap.size, 1, none⟩ = some (.slice (some ⟨g, 0, none⟩) l.length cap) ∧ w1.cell? ⟨w.heap.size, 2, none⟩ = some (.int .i64 bl) ∧ w1.cell? ⟨w.heap.size, 3, none⟩ = some (.slice (some ⟨g2, 0, none⟩) n cap2)) ∧ w1.cell? ⟨w.heap.size + 1, 1, none⟩ = some (.int .i64 d.sp)) ∧ w1.cell? ⟨g, j * 12 + 1, none⟩ = some (.int .u64 q.va) ∧ w1.cell? ⟨g, j * 12 + 1 + 1, none⟩ = some (.int .i64 q.sz) ∧ w1.cell? ⟨g, j * 12 + 1 + 2, none⟩ = some (.int .u64 q.pa) ∧ w1.cell? ⟨g, j * 12 + 1 + 3, none⟩ = some (.bool q.att.write) ∧ w1.cell? ⟨g, j * 12 + 1 + 4, none⟩ = some (.bool q.att.priv) ∧ w1.cell? ⟨g, j * 12 + 1 + 5, none⟩ = some (.bool q.att.exec) ∧ w1.cell? ⟨g, j * 12 + 1 + 6, none⟩ = some (.bool q.att.lock) ∧ w1.cell? ⟨g, j * 12 + 1 + 7, none⟩ = some (.bool q.att.global) ∧ w1.cell? ⟨g, j * 12 + 1 + 8, none⟩ = some (.bool q.att.quiet) ∧ w1.cell? ⟨g, j * 12 + 1 + 9, none⟩ = some (.bool q.ref) ∧ w1.cell? ⟨g, j * 12 + 1 + 10, none⟩ = some (.bool q.mod))
        (first
          | ((with_reducible refine (TC.reads (TC.set (TC.low HC.out ?_) HW.out (Nat.ne_of_lt (Nat.lt_succ_self _)) q) HJ)); (repeat (first | (with_reducible assumption) | (with_reducible exact Below.refl _ _) | (with_reducible refine lo_step ?_ (by assumption)) | (with_reducible refine lo_drew ?_) | (with_reducible refine lo_drewN ?_ _) | (with_reducible refine lo_alloc ?_ _) | (with_reducible refine lo_set ?_ ?_ _) | (exact Nat.le_refl _) | (exact Nat.le_succ _) | (exact hs2 _ (Nat.le_refl _)) | (exact hb'.size))) )
          | ((refine (TC.reads (TC.low HC.out ?_) HJ)); (repeat (first | (with_reducible assumption) | (with_reducible exact Below.refl _ _) | (with_reducible refine lo_step ?_ (by assumption)) | (with_reducible refine lo_drew ?_) | (with_reducible refine lo_drewN ?_ _) | (with_reducible refine lo_alloc ?_ _) | (with_reducible refine lo_set ?_ ?_ _) | (exact Nat.le_refl _) | (exact Nat.le_succ _) | (exact hs2 _ (Nat.le_refl _)) | (exact hb'.size))) ))
        (first
          | (go_at_call 19; (with_reducible refine (CT.out _ (TC.low HC.out (by (repeat (first | (with_reducible assumption) | (with_reducible exact Below.refl _ _) | (with_reducible refine lo_step ?_ (by assumption)) | (with_reducible refine lo_drew ?_) | (with_reducible refine lo_drewN ?_ _) | (with_reducible refine lo_alloc ?_ _) | (with_reducible refine lo_set ?_ ?_ _) | (exact Nat.le_refl _) | (exact Nat.le_succ _) | (exact hs2 _ (Nat.le_refl _)) | (exact hb'.size))) ))).mono ?_); rintro e w' ⟨rfl, hb'⟩; obtain ⟨hc, hf, hs1, hs2⟩ := bfacts hb'; have C' := TC.low HC.out (show Below W3.heap.size W3 w' by (repeat (first | (with_reducible assumption) | (with_reducible exact Below.refl _ _) | (with_reducible refine lo_step ?_ (by assumption)) | (with_reducible refine lo_drew ?_) | (with_reducible refine lo_drewN ?_ _) | (with_reducible refine lo_alloc ?_ _) | (with_reducible refine lo_set ?_ ?_ _) | (exact Nat.le_refl _) | (exact Nat.le_succ _) | (exact hs2 _ (Nat.le_refl _)) | (exact hb'.size))) ); obtain ⟨u0, u1, u2, u3, u4, u5, u6, u7, u8, u9, u10⟩ := C'.px.cells; have uf := set_one_page C'.px))
      have C5 := C'.set HW.out (Nat.ne_of_lt (Nat.lt_succ_self _)) q
      have qwf : q.wf := by rw [HJ.out.2]; exact hwf.p
      clear C' u0 u1 u2 u3 u4 u5 u6 u7 u8 u9 u10 uf hc hf hs1 hs2 hb' hS CT y0 y1 y2 y3 y4 y5 y6 y7 y8 y9 y10 y11 x0 x1 x2 x3 xf d1 s0' s1' s2' s3' s4' s5' s6' s7' s8' s9' s10' zf HC HX2
      generalize World.setCell _ ⟨w2.heap.size, 10, none⟩ _ = W5 at *
      have B6 : Below W5.heap.size W5 (W5.alloc (.cells #[.int .u64 q.va, .int .i64 q.sz, .int .u64 q.pa, .bool q.att.write, .bool q.att.priv, .bool q.att.exec, .bool q.att.lock, .bool q.att.global, .bool q.att.quiet, .bool q.ref, .bool q.mod] 38)) := (Below.refl _ _).alloc (Nat.le_refl _) _
      have C6 := C5.low B6
      have P6 := RowP.new W5 q
      obtain ⟨e0, e1, e2, e3, e4, e5, e6, e7, e8, e9, e10⟩ := C5.px.cells
      obtain ⟨n0, n1, n2, n3, n4, n5, n6, n7, n8, n9, n10⟩ := P6.cells
      have nf := set_one_page P6
      obtain ⟨d0, d1, d2, d3, d4, d5, d6, d7, d8, d9, d10, d11, d12, d13, d14, d15, d16, d17, d18, d19, d20, d21, d22, d23⟩ := C6.x.dcells
      have hlt5 := (Array.getElem?_eq_some_iff.1 C5.nx).1
      have HB := Lib.hid B6
      go_upto_region 8 with fail
      clear B6 C6 e0 e1 e2 e3 e4 e5 e6 e7 e8 e9 e10
      generalize World.alloc W5 _ = W6 at *
      obtain ⟨mb, hmb⟩ : ∃ mb, mb = W5.heap.size := ⟨_, rfl⟩
      have HMB := Lib.hid hmb
      rw [← hmb] at P6 n0 n1 n2 n3 n4 n5 n6 n7 n8 n9 n10 nf hlt5 ⊢
      clear hmb
      by_cases k2 : d.kind = 2
      · have HF := Lib.hid (show chF d q = { q with att := d.att } by unfold chF; rw [if_pos k2])
        rw [k2] at d0
        clear k2
        have P7 := P6.setAtt d.att
        have C7 := C5.low (below_att HB.out (Nat.le_of_eq HMB.out.symm) d.att)
        have HC7 := Lib.hid C7
        have hwf7 : ({ q with att := d.att } : Pg).wf := ⟨qwf.v0, qwf.v1, qwf.z0, qwf.z1, qwf.p0, qwf.p1⟩
        obtain ⟨x0, x1, x2, x3, xf⟩ := four_H C7.x.hx
        have b1 := C7.x.dcells.2.1
        obtain ⟨m0, m1, m2, m3, m4, m5, m6, m7, m8, m9, m10⟩ := P7.cells
        clear C5 P6 P7 C7 qwf
        go_wp2_with fail
        refine (CS.out _ _ hwf7 HC7.out.x.dh).mono ?_; rintro e w8 ⟨v8, rfl, D8, hb8⟩
        obtain ⟨⟨ao8, cp8, hv8⟩, _⟩ := D8.shape
        rw [List.length_set] at hv8
        subst hv8
        have C8 := HC7.out.low hb8
        obtain ⟨y0, y1, y2, y3, yf⟩ := four_H C8.nx
        have C9 := Lib.hid (C8.next HW.out rfl D8)
        clear C8 D8 hb8 HC7 x0 x1 x2 x3 xf b1 m0 m1 m2 m3 m4 m5 m6 m7 m8 m9 m10
        go_wp2_with fail
        go_meet
        exact ⟨_, by rw [hP.out, hL.out, HF.out]; exact C9.out⟩
      · by_cases k3 : d.kind = 3
        · rw [k3] at d0
          by_cases hm : q.mod = true
          · have HF := Lib.hid (show chF d q = { q with ref := true, mod := true } by unfold chF; rw [if_neg k2, if_pos k3, hm]; rfl)
            rw [hm] at n10
            clear k2 k3 hm
            have P7 := P6.rm true true
            have C7 := C5.low (below_rm HB.out (Nat.le_of_eq HMB.out.symm) true true)
            have HC7 := Lib.hid C7
            have hwf7 : ({ q with ref := true, mod := true } : Pg).wf := ⟨qwf.v0, qwf.v1, qwf.z0, qwf.z1, qwf.p0, qwf.p1⟩
            obtain ⟨x0, x1, x2, x3, xf⟩ := four_H C7.x.hx
            have b1 := C7.x.dcells.2.1
            obtain ⟨m0, m1, m2, m3, m4, m5, m6, m7, m8, m9, m10⟩ := P7.cells
            clear C5 P6 P7 C7 qwf
            go_wp2_with fail
            refine (CS.out _ _ hwf7 HC7.out.x.dh).mono ?_; rintro e w8 ⟨v8, rfl, D8, hb8⟩
            obtain ⟨⟨ao8, cp8, hv8⟩, _⟩ := D8.shape
            rw [List.length_set] at hv8
            subst hv8
            have C8 := HC7.out.low hb8
            obtain ⟨y0, y1, y2, y3, yf⟩ := four_H C8.nx
            have C9 := Lib.hid (C8.next HW.out rfl D8)
            clear C8 D8 hb8 HC7 x0 x1 x2 x3 xf b1 m0 m1 m2 m3 m4 m5 m6 m7 m8 m9 m10
            go_wp2_with fail
            go_meet
            exact ⟨_, by rw [hP.out, hL.out, HF.out]; exact C9.out⟩
          · have HF := Lib.hid (show chF d q = { q with ref := true, mod := d.mod } by unfold chF; rw [if_neg k2, if_pos k3, Bool.eq_false_iff.2 hm]; rfl)
            rw [Bool.eq_false_iff.2 hm] at n10
            clear k2 k3 hm
            have P7 := P6.rm true d.mod
            have C7 := C5.low (below_rm HB.out (Nat.le_of_eq HMB.out.symm) true d.mod)
            have HC7 := Lib.hid C7
            have hwf7 : ({ q with ref := true, mod := d.mod } : Pg).wf := ⟨qwf.v0, qwf.v1, qwf.z0, qwf.z1, qwf.p0, qwf.p1⟩
            obtain ⟨x0, x1, x2, x3, xf⟩ := four_H C7.x.hx
            have b1 := C7.x.dcells.2.1
            obtain ⟨m0, m1, m2, m3, m4, m5, m6, m7, m8, m9, m10⟩ := P7.cells
            clear C5 P6 P7 C7 qwf
            go_wp2_with fail
            refine (CS.out _ _ hwf7 HC7.out.x.dh).mono ?_; rintro e w8 ⟨v8, rfl, D8, hb8⟩
            obtain ⟨⟨ao8, cp8, hv8⟩, _⟩ := D8.shape
            rw [List.length_set] at hv8
            subst hv8
            have C8 := HC7.out.low hb8
            obtain ⟨y0, y1, y2, y3, yf⟩ := four_H C8.nx
            have C9 := Lib.hid (C8.next HW.out rfl D8)
            clear C8 D8 hb8 HC7 x0 x1 x2 x3 xf b1 m0 m1 m2 m3 m4 m5 m6 m7 m8 m9 m10
            go_wp2_with fail
            go_meet
            exact ⟨_, by rw [hP.out, hL.out, HF.out]; exact C9.out⟩
        · have HF := Lib.hid (show chF d q = { q with ref := false, mod := false } by unfold chF; rw [if_neg k2, if_neg k3])
          have P7 := P6.rm false false
          have C7 := C5.low (below_rm HB.out (Nat.le_of_eq HMB.out.symm) false false)
          have HC7 := Lib.hid C7
          have hwf7 : ({ q with ref := false, mod := false } : Pg).wf := ⟨qwf.v0, qwf.v1, qwf.z0, qwf.z1, qwf.p0, qwf.p1⟩
          obtain ⟨x0, x1, x2, x3, xf⟩ := four_H C7.x.hx
          have b1 := C7.x.dcells.2.1
          obtain ⟨m0, m1, m2, m3, m4, m5, m6, m7, m8, m9, m10⟩ := P7.cells
          clear C5 P6 P7 C7 qwf
          go_wp2_with fail
          refine (CS.out _ _ hwf7 HC7.out.x.dh).mono ?_; rintro e w8 ⟨v8, rfl, D8, hb8⟩
          obtain ⟨⟨ao8, cp8, hv8⟩, _⟩ := D8.shape
          rw [List.length_set] at hv8
          subst hv8
          have C8 := HC7.out.low hb8
          obtain ⟨y0, y1, y2, y3, yf⟩ := four_H C8.nx
          have C9 := Lib.hid (C8.next HW.out rfl D8)
          clear C8 D8 hb8 HC7 x0 x1 x2 x3 xf b1 m0 m1 m2 m3 m4 m5 m6 m7 m8 m9 m10
          go_wp2_with fail
          go_meet
          exact ⟨_, by rw [hP.out, hL.out, HF.out]; exact C9.out⟩
    · have hne := HE.out
      rw [← HE.out, if_neg h0] at hP hL
      have h0' : (E == 0) = false := by simpa using h0
      go_wp2_with fail
      go_meet
      exact ⟨_, by rw [hP.out, hL.out]; exact HC.out⟩
  case rest =>
    obtain ⟨v3, C3⟩ := hcut
    obtain ⟨⟨ao3, cp3, rfl⟩, _⟩ := C3.nd.shape
    have hdun := HTT.out.dunV d.sp va
    have hwf0 := HTT.out.wfV d.sp va
    have HCH := Lib.hid (HTT.out.change d.sp va (chF d) (chF_val d))
    obtain ⟨D0, hD0⟩ : ∃ D0, D0 = dunV ns l d.sp va := ⟨_, rfl⟩
    rw [← hD0] at C3 hdun
    clear hD0 hP hL
    have HC := Lib.hid (And.intro (C3.tn HK.out (by have := HSZ.out; omega)) (And.intro C3.px HSZ.out))
    obtain ⟨d0, d1, d2, d3, d4, d5, d6, d7, d8, d9, d10, d11, d12, d13, d14, d15, d16, d17, d18, d19, d20, d21, d22, d23⟩ := C3.x.dcells
    clear C3 HX2 HSZ HK HD
    generalize w2.heap.size = wb at *
    by_cases k2 : d.kind = 2
    · rw [k2] at d0
      have hf : (fun y : Pg => { y with att := d.att }) = chF d := by funext y; unfold chF; rw [if_pos k2]
      have C6 := HC.out.1.kyd.prot d.sp va hd.s0 hd.s1 hat.out.1 hat.out.2 hwf0 d.att
      rw [hf, hdun, HCH.out.1, ← HE.out] at C6
      have C6 := Lib.hid C6
      clear hf k2 hdun hwf0
      go_wp2_with fail
      refine C6.out.mono ?_; rintro e w6 ⟨rfl, K6, kp6⟩
      have Z6 := HC.out.1.done (fun k hk => hk) K6 kp6
      have hwl := HC.out.2.2
      have hwb := (Array.getElem?_eq_some_iff.1 HC.out.2.1.row).1
      have P6 : RowP w6 wb D0 := HC.out.2.1.kept (kp6.1 wb (.inl (.inr ⟨by omega, hwb⟩)))
      have bA : Below w6.heap.size w6 (w6.alloc (.cells #[.int .u64 D0.va, .int .i64 D0.sz, .int .u64 D0.pa, .bool D0.att.write, .bool D0.att.priv, .bool D0.att.exec, .bool D0.att.lock, .bool D0.att.global, .bool D0.att.quiet, .bool D0.ref, .bool D0.mod] 38)) := (Below.refl _ _).alloc (Nat.le_refl _) _
      have Q7 := RowP.new w6 D0
      have Z7 := Lib.hid (Z6.low bA)
      have P7 := P6.low bA
      clear K6 kp6 C6 Z6 P6 bA d0 d1 d2 d3 d4 d5 d6 d7 d8 d9 d10 d11 d12 d13 d14 d15 d16 d17 d18 d19 d20 d21 d22 d23
      go_upto_region 20 with fail
      generalize w6.alloc _ = W7 at Q7 Z7 P7 ⊢
      generalize w6.heap.size = pc at *
      have HZ := Lib.hid (Z7.out.low (Below.refl _ _).drew)
      have hS : _ ∧ _ ∧ _ := ⟨HZ.out.nx, P7.low (Below.refl _ _).drew, Q7.low (Below.refl _ _).drew⟩
      clear Z7 P7 Q7
      refine wp_region_held_drew (S := fun wS => wS.heap[wb + 1]? = some (.cells #[.int .i64 ns, .slice ao3 (chL ns l d.sp va (chF d)).length cp3, .int .i64 bl, .slice (some ⟨g2, 0, none⟩) n cap2] 30 (0, 0)) ∧ RowP wS wb D0 ∧ RowP wS pc D0) (by kernel_rfl) hS (fun hHeld => ?_)
      clear hS
      generalize W7.drew = W8 at HZ hHeld ⊢
      refine wpAnyH_take (i := 0) (v := ?vq201) rfl (by kernel_rfl) (by kernel_rfl) (by kernel_rfl) (fun _ _ _ h => h) (Or.inl ⟨by rfl, ?hq201⟩) (by assumption) ?rq201
      case hq201 => (intro wS hSw; (try dsimp only at hSw); obtain ⟨x0, x1, x2, x3, _⟩ := four_H hSw.1; obtain ⟨y0, y1, y2, y3, y4, y5, y6, y7, y8, y9, y10⟩ := hSw.2.1.cells; obtain ⟨z0, z1, z2, z3, z4, z5, z6, z7, z8, z9, z10⟩ := hSw.2.2.cells; (try clear hSw); go_simp <;> (with_reducible rfl))
      (try simp only [Act.put, List.setIfInBounds_toArray, List.set_cons_zero, List.set_cons_succ, List.getElem_toArray, List.getElem_cons_zero])
      refine wpAnyH_take (i := 1) (v := ?vq202) rfl (by kernel_rfl) (by kernel_rfl) (by kernel_rfl) (fun _ _ _ h => h) (Or.inl ⟨by rfl, ?hq202⟩) (by assumption) ?rq202
      case hq202 => (intro wS hSw; (try dsimp only at hSw); obtain ⟨x0, x1, x2, x3, _⟩ := four_H hSw.1; obtain ⟨y0, y1, y2, y3, y4, y5, y6, y7, y8, y9, y10⟩ := hSw.2.1.cells; obtain ⟨z0, z1, z2, z3, z4, z5, z6, z7, z8, z9, z10⟩ := hSw.2.2.cells; (try clear hSw); go_simp <;> (with_reducible rfl))
      (try simp only [Act.put, List.setIfInBounds_toArray, List.set_cons_zero, List.set_cons_succ, List.getElem_toArray, List.getElem_cons_zero, List.getElem_cons_succ])
      refine wpAnyH_take (i := 2) (v := ?vq203) rfl (by kernel_rfl) (by kernel_rfl) (by kernel_rfl) (fun _ _ _ h => h) (Or.inl ⟨by rfl, ?hq203⟩) (by assumption) ?rq203
      case hq203 => (intro wS hSw; (try dsimp only at hSw); obtain ⟨x0, x1, x2, x3, _⟩ := four_H hSw.1; obtain ⟨y0, y1, y2, y3, y4, y5, y6, y7, y8, y9, y10⟩ := hSw.2.1.cells; obtain ⟨z0, z1, z2, z3, z4, z5, z6, z7, z8, z9, z10⟩ := hSw.2.2.cells; (try clear hSw); go_simp <;> (with_reducible rfl))
      (try simp only [Act.put, List.setIfInBounds_toArray, List.set_cons_zero, List.set_cons_succ, List.getElem_toArray, List.getElem_cons_zero, List.getElem_cons_succ])
      refine wpAnyH_take (i := 3) (v := .bool true) rfl (by kernel_rfl) (by kernel_rfl) (by kernel_rfl) (fun _ _ _ h => h) (Or.inl ⟨by rfl, ?hq204⟩) (by assumption) ?rq204
      case hq204 => (intro wS hSw; (try dsimp only at hSw); (try clear hSw); go_simp)
      (try simp only [Act.put, List.setIfInBounds_toArray, List.set_cons_zero, List.set_cons_succ, List.getElem_toArray, List.getElem_cons_zero, List.getElem_cons_succ])
      refine wpAnyH_take (i := 4) (v := ?vq205) rfl (by kernel_rfl) (by kernel_rfl) (by kernel_rfl) (fun _ _ _ h => h) (Or.inl ⟨by rfl, ?hq205⟩) (by assumption) ?rq205
      case hq205 => (intro wS hSw; (try dsimp only at hSw); (try clear hSw); go_simp <;> (with_reducible rfl))
      (try simp only [Act.put, List.setIfInBounds_toArray, List.set_cons_zero, List.set_cons_succ, List.getElem_toArray, List.getElem_cons_zero, List.getElem_cons_succ])
      refine wpAnyH_take (i := 5) (v := ?vq206) rfl (by kernel_rfl) (by kernel_rfl) (by kernel_rfl) (fun _ _ _ h => h) (Or.inl ⟨by rfl, ?hq206⟩) (by assumption) ?rq206
      case hq206 => (intro wS hSw; (try dsimp only at hSw); (try clear hSw); go_simp <;> (with_reducible rfl))
      (try simp only [Act.put, List.setIfInBounds_toArray, List.set_cons_zero, List.set_cons_succ, List.getElem_toArray, List.getElem_cons_zero, List.getElem_cons_succ])
      refine wpAnyH_take (i := 6) (v := ?vq207) rfl (by kernel_rfl) (by kernel_rfl) (by kernel_rfl) (fun _ _ _ h => h) (Or.inl ⟨by rfl, ?hq207⟩) (by assumption) ?rq207
      case hq207 => (intro wS hSw; (try dsimp only at hSw); (try clear hSw); go_simp <;> (with_reducible rfl))
      (try simp only [Act.put, List.setIfInBounds_toArray, List.set_cons_zero, List.set_cons_succ, List.getElem_toArray, List.getElem_cons_zero, List.getElem_cons_succ])
      refine wpAnyH_take (i := 7) (v := .bool true) rfl (by kernel_rfl) (by kernel_rfl) (by kernel_rfl) (fun _ _ _ h => h) (Or.inl ⟨by rfl, ?hq208⟩) (by assumption) ?rq208
      case hq208 => (intro wS hSw; (try dsimp only at hSw); (try clear hSw); go_simp)
      (try simp only [Act.put, List.setIfInBounds_toArray, List.set_cons_zero, List.set_cons_succ, List.getElem_toArray, List.getElem_cons_zero, List.getElem_cons_succ])
      refine wpAnyH_take (i := 8) (v := ?vq209) rfl (by kernel_rfl) (by kernel_rfl) (by kernel_rfl) (fun _ _ _ h => h) (Or.inl ⟨by rfl, ?hq209⟩) (by assumption) ?rq209
      case hq209 => (intro wS hSw; (try dsimp only at hSw); (try clear hSw); go_simp <;> (with_reducible rfl))
      (try simp only [Act.put, List.setIfInBounds_toArray, List.set_cons_zero, List.set_cons_succ, List.getElem_toArray, List.getElem_cons_zero, List.getElem_cons_succ])
      refine wpAnyH_ready (rs := [9]) (by kernel_rfl) (by simp) ?_
      refine AllReadyH.cons rfl (fun K hK => ?_) AllReadyH.nil
      obtain ⟨r0, r1, r2, r3, rf⟩ := four_H HZ.out.rx
      have hp1 := ne_HP HZ.out.rx hHeld.2.1.row
      have hp2 := ne_HP HZ.out.rx hHeld.2.2.row
      have hwl := HC.out.2.2
      go_simp
      have FZ := Lib.hid HZ.out.fin
      refine hK.out _ _ ⟨(HZ.out.after _ _ _ _ (by omega)).trans HZ.out.nx, hHeld.2.1.kept (HZ.out.after _ _ _ _ (fun e => hp1 e.symm)), hHeld.2.2.kept (HZ.out.after _ _ _ _ (fun e => hp2 e.symm))⟩ (fun hHeld => ?_)
      (try clear hK K)
      (try simp only [Act.put, List.setIfInBounds_toArray, List.set_cons_zero, List.set_cons_succ, List.getElem_toArray, List.getElem_cons_zero, List.getElem_cons_succ])
      refine wpAnyH_take (i := 10) (v := ?vq2010) rfl (by kernel_rfl) (by kernel_rfl) (by kernel_rfl) (fun _ _ _ h => h) (Or.inl ⟨by rfl, ?hq2010⟩) (by assumption) ?rq2010
      case hq2010 => (intro wS hSw; (try dsimp only at hSw); (try clear hSw); go_simp <;> (with_reducible rfl))
      (try simp only [Act.put, List.setIfInBounds_toArray, List.set_cons_zero, List.set_cons_succ, List.getElem_toArray, List.getElem_cons_zero, List.getElem_cons_succ])
      refine wpAnyH_done (by kernel_rfl) ?_ _
      clear hHeld
      go_wp2_with fail
      exact bodyPost_ret (res_HE rfl _ _ _ _ rfl FZ.out.1 rfl) rfl ⟨_, _, _, _, _, _, _, rfl, FZ.out.2.1, FZ.out.2.2.1, HCH.out.2, FZ.out.2.2.2, fun x hx => chL_other hx⟩
    · by_cases k3 : d.kind = 3
      · rw [k3] at d0
        have hf : (fun y : Pg => { y with ref := true, mod := y.mod || d.mod }) = chF d := by funext y; unfold chF; rw [if_neg k2, if_pos k3]
        have HN := Lib.hid (HC.out.1.low (Below.refl _ _).drew)
        have C6 := HN.out.kyd.mark d.sp va hd.s0 hd.s1 hat.out.1 hat.out.2 hwf0 d.mod
        rw [hf, HCH.out.1, ← HE.out] at C6
        have C6 := Lib.hid C6
        clear hf hdun hwf0 k3 k2
        go_upto_region 22 with fail
        have hS : _ ∧ _ := ⟨HN.out.nx, HN.out.deed⟩
        clear d0 d1 d2 d3 d4 d5 d6 d7 d8 d9 d10 d11 d12 d13 d14 d15 d16 d17 d18 d19 d20 d21 d22 d23
        refine wp_region_held_drew (S := fun wS => wS.heap[wb + 1]? = some (.cells #[.int .i64 ns, .slice ao3 (chL ns l d.sp va (chF d)).length cp3, .int .i64 bl, .slice (some ⟨g2, 0, none⟩) n cap2] 30 (0, 0)) ∧ DeedB wS (w.heap.size + 1) d) (by kernel_rfl) hS (fun hHeld => ?_)
        clear hS
        refine wpAnyH_take (i := 0) (v := ?vq221) rfl (by kernel_rfl) (by kernel_rfl) (by kernel_rfl) (fun _ _ _ h => h) (Or.inl ⟨by rfl, ?hq221⟩) (by assumption) ?rq221
        case hq221 => (intro wS hSw; (try dsimp only at hSw); obtain ⟨x0, x1, x2, x3, _⟩ := four_H hSw.1; obtain ⟨d0, d1, d2, d3, d4, d5, d6, d7, d8, d9, d10, d11, d12, d13, d14, d15, d16, d17, d18, d19, d20, d21, d22, d23⟩ := hSw.2.all; (try clear hSw); go_simp <;> (with_reducible rfl))
        (try simp only [Act.put, List.setIfInBounds_toArray, List.set_cons_zero, List.set_cons_succ, List.getElem_toArray, List.getElem_cons_zero])
        refine wpAnyH_take (i := 1) (v := ?vq222) rfl (by kernel_rfl) (by kernel_rfl) (by kernel_rfl) (fun _ _ _ h => h) (Or.inl ⟨by rfl, ?hq222⟩) (by assumption) ?rq222
        case hq222 => (intro wS hSw; (try dsimp only at hSw); (try clear hSw); go_simp <;> (with_reducible rfl))
        (try simp only [Act.put, List.setIfInBounds_toArray, List.set_cons_zero, List.set_cons_succ, List.getElem_toArray, List.getElem_cons_zero, List.getElem_cons_succ])
        refine wpAnyH_take (i := 2) (v := ?vq223) rfl (by kernel_rfl) (by kernel_rfl) (by kernel_rfl) (fun _ _ _ h => h) (Or.inl ⟨by rfl, ?hq223⟩) (by assumption) ?rq223
        case hq223 => (intro wS hSw; (try dsimp only at hSw); (try clear hSw); go_simp <;> (with_reducible rfl))
        (try simp only [Act.put, List.setIfInBounds_toArray, List.set_cons_zero, List.set_cons_succ, List.getElem_toArray, List.getElem_cons_zero, List.getElem_cons_succ])
        refine wpAnyH_take (i := 3) (v := ?vq224) rfl (by kernel_rfl) (by kernel_rfl) (by kernel_rfl) (fun _ _ _ h => h) (Or.inl ⟨by rfl, ?hq224⟩) (by assumption) ?rq224
        case hq224 => (intro wS hSw; (try dsimp only at hSw); obtain ⟨x0, x1, x2, x3, _⟩ := four_H hSw.1; obtain ⟨d0, d1, d2, d3, d4, d5, d6, d7, d8, d9, d10, d11, d12, d13, d14, d15, d16, d17, d18, d19, d20, d21, d22, d23⟩ := hSw.2.all; (try clear hSw); go_simp <;> (with_reducible rfl))
        (try simp only [Act.put, List.setIfInBounds_toArray, List.set_cons_zero, List.set_cons_succ, List.getElem_toArray, List.getElem_cons_zero, List.getElem_cons_succ])
        refine wpAnyH_take (i := 4) (v := ?vq225) rfl (by kernel_rfl) (by kernel_rfl) (by kernel_rfl) (fun _ _ _ h => h) (Or.inl ⟨by rfl, ?hq225⟩) (by assumption) ?rq225
        case hq225 => (intro wS hSw; (try dsimp only at hSw); (try clear hSw); go_simp <;> (with_reducible rfl))
        (try simp only [Act.put, List.setIfInBounds_toArray, List.set_cons_zero, List.set_cons_succ, List.getElem_toArray, List.getElem_cons_zero, List.getElem_cons_succ])
        refine wpAnyH_take (i := 5) (v := ?vq226) rfl (by kernel_rfl) (by kernel_rfl) (by kernel_rfl) (fun _ _ _ h => h) (Or.inl ⟨by rfl, ?hq226⟩) (by assumption) ?rq226
        case hq226 => (intro wS hSw; (try dsimp only at hSw); (try clear hSw); go_simp <;> (with_reducible rfl))
        (try simp only [Act.put, List.setIfInBounds_toArray, List.set_cons_zero, List.set_cons_succ, List.getElem_toArray, List.getElem_cons_zero, List.getElem_cons_succ])
        refine wpAnyH_take (i := 6) (v := ?vq227) rfl (by kernel_rfl) (by kernel_rfl) (by kernel_rfl) (fun _ _ _ h => h) (Or.inl ⟨by rfl, ?hq227⟩) (by assumption) ?rq227
        case hq227 => (intro wS hSw; (try dsimp only at hSw); obtain ⟨x0, x1, x2, x3, _⟩ := four_H hSw.1; obtain ⟨d0, d1, d2, d3, d4, d5, d6, d7, d8, d9, d10, d11, d12, d13, d14, d15, d16, d17, d18, d19, d20, d21, d22, d23⟩ := hSw.2.all; (try clear hSw); go_simp <;> (with_reducible rfl))
        (try simp only [Act.put, List.setIfInBounds_toArray, List.set_cons_zero, List.set_cons_succ, List.getElem_toArray, List.getElem_cons_zero, List.getElem_cons_succ])
        refine wpAnyH_take (i := 8) (v := ?vq228) rfl (by kernel_rfl) (by kernel_rfl) (by kernel_rfl) (fun _ _ _ h => h) (Or.inl ⟨by rfl, ?hq228⟩) (by assumption) ?rq228
        case hq228 => (intro wS hSw; (try dsimp only at hSw); (try clear hSw); go_simp <;> (with_reducible rfl))
        (try simp only [Act.put, List.setIfInBounds_toArray, List.set_cons_zero, List.set_cons_succ, List.getElem_toArray, List.getElem_cons_zero, List.getElem_cons_succ])
        refine wpAnyH_ready (rs := [7]) (by kernel_rfl) (by simp) ?_
        refine AllReadyH.cons rfl (fun K hK => ?_) AllReadyH.nil
        go_simp
        refine C6.out.mono ?_; rintro r w8 ⟨rfl, K8, kp8⟩
        have Z8 := Lib.hid (HN.out.done (fun k hk => hk) K8 kp8)
        clear K8 kp8
        refine hK.out _ _ ⟨Z8.out.nx, ⟨Z8.out.dx⟩⟩ (fun hHeld => ?_)
        (try clear hK K)
        (try simp only [Act.put, List.setIfInBounds_toArray, List.set_cons_zero, List.set_cons_succ, List.getElem_toArray, List.getElem_cons_zero, List.getElem_cons_succ])
        refine wpAnyH_take (i := 9) (v := .bool true) rfl (by kernel_rfl) (by kernel_rfl) (by kernel_rfl) (fun _ _ _ h => h) (Or.inl ⟨by rfl, ?hq229⟩) (by assumption) ?rq229
        case hq229 => (intro wS hSw; (try dsimp only at hSw); (try clear hSw); go_simp)
        (try simp only [Act.put, List.setIfInBounds_toArray, List.set_cons_zero, List.set_cons_succ, List.getElem_toArray, List.getElem_cons_zero, List.getElem_cons_succ])
        refine wpAnyH_ready (rs := [10]) (by kernel_rfl) (by simp) ?_
        refine AllReadyH.cons rfl (fun K hK => ?_) AllReadyH.nil
        obtain ⟨r0, r1, r2, r3, rf⟩ := four_H Z8.out.rx
        have hwl := HC.out.2.2
        go_simp
        have FZ := Lib.hid Z8.out.fin
        refine hK.out _ _ ⟨(Z8.out.after _ _ _ _ (by omega)).trans Z8.out.nx, ⟨(Z8.out.after _ _ _ _ (by omega)).trans Z8.out.dx⟩⟩ (fun hHeld => ?_)
        (try clear hK K)
        (try simp only [Act.put, List.setIfInBounds_toArray, List.set_cons_zero, List.set_cons_succ, List.getElem_toArray, List.getElem_cons_zero, List.getElem_cons_succ])
        refine wpAnyH_take (i := 11) (v := ?vq2210) rfl (by kernel_rfl) (by kernel_rfl) (by kernel_rfl) (fun _ _ _ h => h) (Or.inl ⟨by rfl, ?hq2210⟩) (by assumption) ?rq2210
        case hq2210 => (intro wS hSw; (try dsimp only at hSw); (try clear hSw); go_simp <;> (with_reducible rfl))
        (try simp only [Act.put, List.setIfInBounds_toArray, List.set_cons_zero, List.set_cons_succ, List.getElem_toArray, List.getElem_cons_zero, List.getElem_cons_succ])
        refine wpAnyH_done (by kernel_rfl) ?_ _
        clear hHeld C6
        go_wp2_with fail
        exact bodyPost_ret (res_HE rfl _ _ _ _ rfl FZ.out.1 rfl) rfl ⟨_, _, _, _, _, _, _, rfl, FZ.out.2.1, FZ.out.2.2.1, HCH.out.2, FZ.out.2.2.2, fun x hx => chL_other hx⟩
      · have k2' : (d.kind == 2) = false := by simpa using k2
        have k3' : (d.kind == 3) = false := by simpa using k3
        have hf : (fun y : Pg => { y with ref := false, mod := false }) = chF d := by funext y; unfold chF; rw [if_neg k2, if_neg k3]
        have C6 := HC.out.1.kyd.clear d.sp va hd.s0 hd.s1 hat.out.1 hat.out.2 hwf0
        rw [hf, hdun, HCH.out.1, ← HE.out] at C6
        have C6 := Lib.hid C6
        clear hf k2 k3 hdun hwf0
        go_wp2_with fail
        refine C6.out.mono ?_; rintro e w6 ⟨rfl, K6, kp6⟩
        have Z6 := HC.out.1.done (fun k hk => hk) K6 kp6
        have hwl := HC.out.2.2
        have hwb := (Array.getElem?_eq_some_iff.1 HC.out.2.1.row).1
        have P6 : RowP w6 wb D0 := HC.out.2.1.kept (kp6.1 wb (.inl (.inr ⟨by omega, hwb⟩)))
        have bA : Below w6.heap.size w6 (w6.alloc (.cells #[.int .u64 D0.va, .int .i64 D0.sz, .int .u64 D0.pa, .bool D0.att.write, .bool D0.att.priv, .bool D0.att.exec, .bool D0.att.lock, .bool D0.att.global, .bool D0.att.quiet, .bool D0.ref, .bool D0.mod] 38)) := (Below.refl _ _).alloc (Nat.le_refl _) _
        have Q7 := RowP.new w6 D0
        have Z7 := Lib.hid (Z6.low bA)
        have P7 := P6.low bA
        clear K6 kp6 C6 Z6 P6 bA d0 d1 d2 d3 d4 d5 d6 d7 d8 d9 d10 d11 d12 d13 d14 d15 d16 d17 d18 d19 d20 d21 d22 d23
        go_upto_region 24 with fail
        generalize w6.alloc _ = W7 at Q7 Z7 P7 ⊢
        generalize w6.heap.size = pc at *
        have HZ := Lib.hid (Z7.out.low (Below.refl _ _).drew)
        have hS : _ ∧ _ ∧ _ := ⟨HZ.out.nx, P7.low (Below.refl _ _).drew, Q7.low (Below.refl _ _).drew⟩
        clear Z7 P7 Q7
        refine wp_region_held_drew (S := fun wS => wS.heap[wb + 1]? = some (.cells #[.int .i64 ns, .slice ao3 (chL ns l d.sp va (chF d)).length cp3, .int .i64 bl, .slice (some ⟨g2, 0, none⟩) n cap2] 30 (0, 0)) ∧ RowP wS wb D0 ∧ RowP wS pc D0) (by kernel_rfl) hS (fun hHeld => ?_)
        clear hS
        generalize W7.drew = W8 at HZ hHeld ⊢
        refine wpAnyH_take (i := 0) (v := ?vq241) rfl (by kernel_rfl) (by kernel_rfl) (by kernel_rfl) (fun _ _ _ h => h) (Or.inl ⟨by rfl, ?hq241⟩) (by assumption) ?rq241
        case hq241 => (intro wS hSw; (try dsimp only at hSw); obtain ⟨x0, x1, x2, x3, _⟩ := four_H hSw.1; obtain ⟨y0, y1, y2, y3, y4, y5, y6, y7, y8, y9, y10⟩ := hSw.2.1.cells; obtain ⟨z0, z1, z2, z3, z4, z5, z6, z7, z8, z9, z10⟩ := hSw.2.2.cells; (try clear hSw); go_simp <;> (with_reducible rfl))
        (try simp only [Act.put, List.setIfInBounds_toArray, List.set_cons_zero, List.set_cons_succ, List.getElem_toArray, List.getElem_cons_zero])
        refine wpAnyH_take (i := 1) (v := ?vq242) rfl (by kernel_rfl) (by kernel_rfl) (by kernel_rfl) (fun _ _ _ h => h) (Or.inl ⟨by rfl, ?hq242⟩) (by assumption) ?rq242
        case hq242 => (intro wS hSw; (try dsimp only at hSw); obtain ⟨x0, x1, x2, x3, _⟩ := four_H hSw.1; obtain ⟨y0, y1, y2, y3, y4, y5, y6, y7, y8, y9, y10⟩ := hSw.2.1.cells; obtain ⟨z0, z1, z2, z3, z4, z5, z6, z7, z8, z9, z10⟩ := hSw.2.2.cells; (try clear hSw); go_simp <;> (with_reducible rfl))
        (try simp only [Act.put, List.setIfInBounds_toArray, List.set_cons_zero, List.set_cons_succ, List.getElem_toArray, List.getElem_cons_zero, List.getElem_cons_succ])
        refine wpAnyH_take (i := 2) (v := ?vq243) rfl (by kernel_rfl) (by kernel_rfl) (by kernel_rfl) (fun _ _ _ h => h) (Or.inl ⟨by rfl, ?hq243⟩) (by assumption) ?rq243
        case hq243 => (intro wS hSw; (try dsimp only at hSw); obtain ⟨x0, x1, x2, x3, _⟩ := four_H hSw.1; obtain ⟨y0, y1, y2, y3, y4, y5, y6, y7, y8, y9, y10⟩ := hSw.2.1.cells; obtain ⟨z0, z1, z2, z3, z4, z5, z6, z7, z8, z9, z10⟩ := hSw.2.2.cells; (try clear hSw); go_simp <;> (with_reducible rfl))
        (try simp only [Act.put, List.setIfInBounds_toArray, List.set_cons_zero, List.set_cons_succ, List.getElem_toArray, List.getElem_cons_zero, List.getElem_cons_succ])
        refine wpAnyH_take (i := 3) (v := .bool true) rfl (by kernel_rfl) (by kernel_rfl) (by kernel_rfl) (fun _ _ _ h => h) (Or.inl ⟨by rfl, ?hq244⟩) (by assumption) ?rq244
        case hq244 => (intro wS hSw; (try dsimp only at hSw); (try clear hSw); go_simp)
        (try simp only [Act.put, List.setIfInBounds_toArray, List.set_cons_zero, List.set_cons_succ, List.getElem_toArray, List.getElem_cons_zero, List.getElem_cons_succ])
        refine wpAnyH_take (i := 4) (v := ?vq245) rfl (by kernel_rfl) (by kernel_rfl) (by kernel_rfl) (fun _ _ _ h => h) (Or.inl ⟨by rfl, ?hq245⟩) (by assumption) ?rq245
        case hq245 => (intro wS hSw; (try dsimp only at hSw); (try clear hSw); go_simp <;> (with_reducible rfl))
        (try simp only [Act.put, List.setIfInBounds_toArray, List.set_cons_zero, List.set_cons_succ, List.getElem_toArray, List.getElem_cons_zero, List.getElem_cons_succ])
        refine wpAnyH_take (i := 5) (v := ?vq246) rfl (by kernel_rfl) (by kernel_rfl) (by kernel_rfl) (fun _ _ _ h => h) (Or.inl ⟨by rfl, ?hq246⟩) (by assumption) ?rq246
        case hq246 => (intro wS hSw; (try dsimp only at hSw); (try clear hSw); go_simp <;> (with_reducible rfl))
        (try simp only [Act.put, List.setIfInBounds_toArray, List.set_cons_zero, List.set_cons_succ, List.getElem_toArray, List.getElem_cons_zero, List.getElem_cons_succ])
        refine wpAnyH_take (i := 6) (v := ?vq247) rfl (by kernel_rfl) (by kernel_rfl) (by kernel_rfl) (fun _ _ _ h => h) (Or.inl ⟨by rfl, ?hq247⟩) (by assumption) ?rq247
        case hq247 => (intro wS hSw; (try dsimp only at hSw); (try clear hSw); go_simp <;> (with_reducible rfl))
        (try simp only [Act.put, List.setIfInBounds_toArray, List.set_cons_zero, List.set_cons_succ, List.getElem_toArray, List.getElem_cons_zero, List.getElem_cons_succ])
        refine wpAnyH_take (i := 7) (v := .bool true) rfl (by kernel_rfl) (by kernel_rfl) (by kernel_rfl) (fun _ _ _ h => h) (Or.inl ⟨by rfl, ?hq248⟩) (by assumption) ?rq248
        case hq248 => (intro wS hSw; (try dsimp only at hSw); (try clear hSw); go_simp)
        (try simp only [Act.put, List.setIfInBounds_toArray, List.set_cons_zero, List.set_cons_succ, List.getElem_toArray, List.getElem_cons_zero, List.getElem_cons_succ])
        refine wpAnyH_take (i := 8) (v := ?vq249) rfl (by kernel_rfl) (by kernel_rfl) (by kernel_rfl) (fun _ _ _ h => h) (Or.inl ⟨by rfl, ?hq249⟩) (by assumption) ?rq249
        case hq249 => (intro wS hSw; (try dsimp only at hSw); (try clear hSw); go_simp <;> (with_reducible rfl))
        (try simp only [Act.put, List.setIfInBounds_toArray, List.set_cons_zero, List.set_cons_succ, List.getElem_toArray, List.getElem_cons_zero, List.getElem_cons_succ])
        refine wpAnyH_ready (rs := [9]) (by kernel_rfl) (by simp) ?_
        refine AllReadyH.cons rfl (fun K hK => ?_) AllReadyH.nil
        obtain ⟨r0, r1, r2, r3, rf⟩ := four_H HZ.out.rx
        have hp1 := ne_HP HZ.out.rx hHeld.2.1.row
        have hp2 := ne_HP HZ.out.rx hHeld.2.2.row
        have hwl := HC.out.2.2
        go_simp
        have FZ := Lib.hid HZ.out.fin
        refine hK.out _ _ ⟨(HZ.out.after _ _ _ _ (by omega)).trans HZ.out.nx, hHeld.2.1.kept (HZ.out.after _ _ _ _ (fun e => hp1 e.symm)), hHeld.2.2.kept (HZ.out.after _ _ _ _ (fun e => hp2 e.symm))⟩ (fun hHeld => ?_)
        (try clear hK K)
        (try simp only [Act.put, List.setIfInBounds_toArray, List.set_cons_zero, List.set_cons_succ, List.getElem_toArray, List.getElem_cons_zero, List.getElem_cons_succ])
        refine wpAnyH_take (i := 10) (v := ?vq2410) rfl (by kernel_rfl) (by kernel_rfl) (by kernel_rfl) (fun _ _ _ h => h) (Or.inl ⟨by rfl, ?hq2410⟩) (by assumption) ?rq2410
        case hq2410 => (intro wS hSw; (try dsimp only at hSw); (try clear hSw); go_simp <;> (with_reducible rfl))
        (try simp only [Act.put, List.setIfInBounds_toArray, List.set_cons_zero, List.set_cons_succ, List.getElem_toArray, List.getElem_cons_zero, List.getElem_cons_succ])
        refine wpAnyH_done (by kernel_rfl) ?_ _
        clear hHeld
        go_wp2_with fail
        exact bodyPost_ret (res_HE rfl _ _ _ _ rfl FZ.out.1 rfl) rfl ⟨_, _, _, _, _, _, _, rfl, FZ.out.2.1, FZ.out.2.2.1, HCH.out.2, FZ.out.2.2.2, fun x hx => chL_other hx⟩
end
end Go.Proofs.YtffpfceclhogoaaGreat.Hp
