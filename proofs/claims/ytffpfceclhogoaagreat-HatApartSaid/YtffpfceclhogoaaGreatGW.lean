/-
  YtffpfceclhogoaaGreatGW: the contracts and plain facts of several texts, laid together. Conditions: those that each theorem names.
-/
import Derived.Test.YtffpfceclhogoaaGreatGU
import Derived.Test.YtffpfceclhogoaaGreatGS
import Derived.Test.YtffpfceclhogoaaGreatGT
import Derived.Test.YtffpfceclhogoaaGreatGV
import Derived.Test.YtffpfceclhogoaaGreatGQ
import Derived.Test.YtffpfceclhogoaaGreatGH
namespace Go.Proofs.YtffpfceclhogoaaGreat.Hp
open Fld Hs
open Go.ChangeShapes Go.WideShapes Go.ChangeAt Go.RowKit Go.Maps
set_option maxHeartbeats 8000000
set_option maxRecDepth 100000
section
variable {w0 w : World} {hb sb n : Nat} {ns bl : Int} {L : Nat → List Bk} {F : Nat → Prop} {v t : Value} {l : List SPg} {LT : Nat → List Hs.Bk} {U : Nat → Value}
theorem does_turns (d : DeedV) (hd : d.wf) (k0 : d.kind ≠ 0 ∧ d.kind ≠ 1 ∧ d.kind ≠ 5 ∧ d.kind ≠ 6 ∧ d.kind ≠ 7) (K : KY w0 w hb sb ns bl n L F) (D : DH w v l t n LT U) (T : HT ns bl n L l LT) :
    Calls Tryz.prog 11 #[.pointer (some ⟨hb, 0, none⟩), .agg #[.int .i64 ns, v, .int .i64 bl, t], .agg #[.int .i64 d.kind, .int .i64 d.sp, .int .i64 d.n, .int .u64 d.p.va, .int .i64 d.p.sz, .int .u64 d.p.pa, .bool d.p.att.write, .bool d.p.att.priv, .bool d.p.att.exec, .bool d.p.att.lock, .bool d.p.att.global, .bool d.p.att.quiet, .bool d.p.ref, .bool d.p.mod, .int .u64 d.va, .bool d.att.write, .bool d.att.priv, .bool d.att.exec, .bool d.att.lock, .bool d.att.global, .bool d.att.quiet, .bool d.mod, .bool d.raw, .bool d.near]] w fun e w' => DoneX w0 w w' hb sb ns bl F l d.sp e := by
  obtain ⟨⟨ao, cap, rfl⟩, g2, cap2, rfl⟩ := D.shape
  have X0 := TE.of K (TX.new D ns bl d)
  have HTT := Lib.hid T
  obtain ⟨q0, q1, q5, q6, q7⟩ := k0
  have e0 : (d.kind == 0) = false := by simpa using q0
  have e1 : (d.kind == 1) = false := by simpa using q1
  have e5 : (d.kind == 5) = false := by simpa using q5
  have e6 : (d.kind == 6) = false := by simpa using q6
  have e7 : (d.kind == 7) = false := by simpa using q7
  clear q0 q1 q5 q6 q7
  clear K D T
  go_enter Tryz.func11, Tryz.ntmps11
  go_upto_region 1 with fail
  generalize World.alloc (World.alloc (World.alloc w _) _) _ = W0 at *
  have HX0 := Lib.hid X0
  obtain ⟨b0, b1, b2⟩ := X0.deed.cells
  obtain ⟨x0, x1, x2, x3, _⟩ := four_H X0.x.hx
  have HD := Lib.hid X0
  clear X0
  go_wp2_with (refine wpList_load_row rfl 40 (.tmp 5) rfl (w.heap.size + 1) rfl 40 #[.int .i64 d.kind, .int .i64 d.sp, .int .i64 d.n, .int .u64 d.p.va, .int .i64 d.p.sz, .int .u64 d.p.pa, .bool d.p.att.write, .bool d.p.att.priv, .bool d.p.att.exec, .bool d.p.att.lock, .bool d.p.att.global, .bool d.p.att.quiet, .bool d.p.ref, .bool d.p.mod, .int .u64 d.va, .bool d.att.write, .bool d.att.priv, .bool d.att.exec, .bool d.att.lock, .bool d.att.global, .bool d.att.quiet, .bool d.mod, .bool d.raw, .bool d.near] (0, 0) _ HD.out.x.dx Tryz.underlying40 rfl (by kernel_rfl) ?_)
  refine (turns_any d hd (HD.out.ky.doc HD.out.x.dh) (fun k hk => .inr hk) HD.out.x.dh HTT.out).mono ?_; rintro e w1 ⟨n', L', v', l', t', LT', U', rfl, K1, D1, T1, kp1, hot⟩
  obtain ⟨⟨ao5, cp5, rfl⟩, g5, cp6, rfl⟩ := D1.shape
  have hsz := HD.out.size
  have rx := (kp1.1 (w.heap.size + 1 + 1) (.inl (.inr ⟨by omega, by omega⟩))).trans HD.out.x.rx
  have FZ := Lib.hid (fin_G (F := F) K1 D1 rx ⟨fun k hk => (kp1.1 k (.inl (.inl hk))).trans (HD.out.x.lo.block k (HD.out.fl k hk)), Nat.le_trans HD.out.x.lo.size kp1.2⟩ (fun k hk => .inl (.inl hk)) (.inl (.inr ⟨by omega, by omega⟩)) HD.out.fl HD.out.hl HD.out.w0l)
  have HT1 := Lib.hid (And.intro T1 hot)
  obtain ⟨r0, r1, r2, r3, rf⟩ := four_H rx
  clear K1 D1 T1 kp1 hot rx HD x0 x1 x2 x3 b0 b1 b2 e0 e1 e5 e6 e7
  go_wp2_with fail
  exact bodyPost_ret (res_HE rfl _ _ _ _ rfl FZ.out.1 rfl) rfl ⟨_, _, _, _, _, _, _, rfl, FZ.out.2.1, FZ.out.2.2.1, HT1.out.1, FZ.out.2.2.2, HT1.out.2⟩
theorem does_any (d : DeedV) (hd : d.wf) (K : KY w0 w hb sb ns bl n L F) (D : DH w v l t n LT U) (T : HT ns bl n L l LT) :
    Calls Tryz.prog 11 #[.pointer (some ⟨hb, 0, none⟩), .agg #[.int .i64 ns, v, .int .i64 bl, t], .agg #[.int .i64 d.kind, .int .i64 d.sp, .int .i64 d.n, .int .u64 d.p.va, .int .i64 d.p.sz, .int .u64 d.p.pa, .bool d.p.att.write, .bool d.p.att.priv, .bool d.p.att.exec, .bool d.p.att.lock, .bool d.p.att.global, .bool d.p.att.quiet, .bool d.p.ref, .bool d.p.mod, .int .u64 d.va, .bool d.att.write, .bool d.att.priv, .bool d.att.exec, .bool d.att.lock, .bool d.att.global, .bool d.att.quiet, .bool d.mod, .bool d.raw, .bool d.near]] w fun e w' => DoneX w0 w w' hb sb ns bl F l d.sp e := by
  by_cases k0 : d.kind = 0
  · exact does_map d hd k0 K D T
  by_cases k1 : d.kind = 1
  · exact does_unmap d hd k1 K D T
  by_cases k5 : d.kind = 5
  · exact does_destroy d hd k5 K D T
  by_cases k6 : d.kind = 6
  · exact does_resize d hd k6 K D T
  by_cases k7 : d.kind = 7
  · exact does_find d hd k7 K D T
  exact does_turns d hd ⟨k0, k1, k5, k6, k7⟩ K D T
end
end Go.Proofs.YtffpfceclhogoaaGreat.Hp
namespace Go.Proofs.YtffpfceclhogoaaGreat.Hp
open Fld Hs
open Go.ChangeShapes Go.WideShapes Go.ChangeAt Go.RowKit Go.Maps
set_option maxHeartbeats 4000000
set_option maxRecDepth 100000
theorem sameP_self (a : List Pg) : sameP a a = true := (same_iff a a).2 rfl
theorem row_low {w w' : World} {B e z n : Nat} {v : Value} {xs : List Value} (h : w.ownsRow B e z v n xs) (hb : Below w.heap.size w w') : w'.ownsRow B e z v n xs := own_same h (fun g hg => hb.block g (h.lt g hg).2)
/-- What like reads. -/
structure LK (w0 W : World) (hb sb : Nat) (ns bl : Int) (n : Nat) (L : Nat → List Bk) (F : Nat → Prop) (v : Value) (l : List SPg) (t : Value) (LT : Nat → List Hs.Bk) (U : Nat → Value) (b : Nat) : Prop where
  ky : KY w0 W hb sb ns bl n L F
  dh : DH W v l t n LT U
  bx : W.heap[b]? = some (.cells #[.int .i64 ns, v, .int .i64 bl, t] 30 (0, 0))
section
variable {w0 w w' : World} {hb sb n b : Nat} {ns bl : Int} {L : Nat → List Bk} {F : Nat → Prop} {v t : Value} {l : List SPg} {LT : Nat → List Hs.Bk} {U : Nat → Value}
theorem LK.low (h : LK w0 w hb sb ns bl n L F v l t LT U b) (hb' : Below w.heap.size w w') : LK w0 w' hb sb ns bl n L F v l t LT U b := ⟨h.ky.below hb', h.dh.low hb', blk_low h.bx hb'⟩
theorem LK.cs (h : LK w0 w hb sb ns bl n L F v l t LT U b) : w.cell? ⟨b, 0, none⟩ = some (.int .i64 ns) ∧ w.cell? ⟨b, 1, none⟩ = some v ∧ w.cell? ⟨b, 2, none⟩ = some (.int .i64 bl) ∧ w.cell? ⟨b, 3, none⟩ = some t := by
  obtain ⟨x0, x1, x2, x3, _⟩ := four_H h.bx
  exact ⟨x0, x1, x2, x3⟩
theorem like_any (K : KY w0 w hb sb ns bl n L F) (D : DH w v l t n LT U) (T : HT ns bl n L l LT) :
    Calls Tryz.prog 12 #[.pointer (some ⟨hb, 0, none⟩), .agg #[.int .i64 ns, v, .int .i64 bl, t]] w fun e w' => e = .returned (.bool true) ∧ Below w.heap.size w w' := by
  obtain ⟨⟨ao, cap, rfl⟩, g2, cap2, rfl⟩ := D.shape
  obtain ⟨s0, s1, n1, n2, few, b1⟩ := K.facts
  have b0 : Below w.heap.size w (w.alloc (.cells #[.int .i64 ns, .slice ao l.length cap, .int .i64 bl, .slice (some ⟨g2, 0, none⟩) n cap2] 30)) := by (repeat (first | (with_reducible assumption) | (with_reducible exact Below.refl _ _) | (with_reducible refine lo_step ?_ (by assumption)) | (with_reducible refine lo_drew ?_) | (with_reducible refine lo_drewN ?_ _) | (with_reducible refine lo_alloc ?_ _))) 
  have X0 : LK w0 (w.alloc (.cells #[.int .i64 ns, .slice ao l.length cap, .int .i64 bl, .slice (some ⟨g2, 0, none⟩) n cap2] 30)) hb sb ns bl n L F (.slice ao l.length cap) l (.slice (some ⟨g2, 0, none⟩) n cap2) LT U w.heap.size := ⟨K.below b0, D.low b0, heap_alloc_new w _⟩
  have hln := T.len
  have hfew := D.few
  have hlng := T.lng
  have CP := Lib.hid (fun (W : World) (s : Int) (h : LK w0 W hb sb ns bl n L F (.slice ao l.length cap) l (.slice (some ⟨g2, 0, none⟩) n cap2) LT U w.heap.size) => h.ky.pages T s)
  have CD := Lib.hid (fun (W : World) (s : Int) (h : LK w0 W hb sb ns bl n L F (.slice ao l.length cap) l (.slice (some ⟨g2, 0, none⟩) n cap2) LT U w.heap.size) => dpages_any ns bl s W h.dh)
  have CS := Lib.hid (fun (s : Int) (W : World) (va vb : Value) (B1 B2 : Nat) (ha : W.ownsRow B1 38 11 va (dpgs l s).length (pgL (dpgs l s))) (hb : W.ownsRow B2 38 11 vb (dpgs l s).length (pgL (dpgs l s))) => dsame_any W ha hb (by have := dpgs_len l s l.length (Nat.le_refl _); rw [List.take_length] at this; omega))
  have CF := Lib.hid (fun (W : World) (h : LK w0 W hb sb ns bl n L F (.slice ao l.length cap) l (.slice (some ⟨g2, 0, none⟩) n cap2) LT U w.heap.size) => (show (Calls Tryz.prog 41 #[.pointer (some ⟨hb, 0, none⟩)] W fun e w' => e = .returned (.int .i64 ns) ∧ w' = W) ∧ (Calls Tryz.prog 42 #[.pointer (some ⟨hb, 0, none⟩)] W fun e w' => e = .returned (.int .i64 (l.length : Int)) ∧ w' = W) ∧ (Calls Tryz.prog 43 #[.pointer (some ⟨hb, 0, none⟩)] W fun e w' => e = .returned (.int .i64 (bl - (l.length : Int))) ∧ ∃ m, w' = W.drewN m) ∧ (Calls Tryz.prog 18 #[.pointer (some ⟨hb, 0, none⟩)] W fun e w' => e = .returned (.int .i64 (lngL L n : Int)) ∧ Below W.heap.size W w') from by
    obtain ⟨bm, V, hr⟩ := h.ky.read
    have e1 := hlen_any W hr
    have e2 := hfree_any W hr
    rw [hln] at e1 e2
    exact ⟨spaces_any W hr, e1, e2, hlongest_any W hr⟩))
  have CT := Lib.hid (fun (W : World) (h : LK w0 W hb sb ns bl n L F (.slice ao l.length cap) l (.slice (some ⟨g2, 0, none⟩) n cap2) LT U w.heap.size) => Hs.tlong_any bl W h.dh.ch)
  rw [hlng] at CT
  have hfw : (l.length : Int) ≤ bl := T.few
  have HLO := Lib.hid b0
  generalize lngL L n = lng at *
  clear K D T b0 hln hlng few
  go_enter Tryz.func12, Tryz.ntmps12
  go_wp2_with fail
  generalize World.alloc w _ = W0 at *
  have H0 := Lib.hid (And.intro X0 HLO.out)
  clear X0 HLO
  go_loopw [5] (fun q wr => ∃ (s : Int), q = .int .i64 s ∧ -1 ≤ s ∧ s ≤ ns + 1 ∧ LK w0 wr hb sb ns bl n L F (.slice ao l.length cap) l (.slice (some ⟨g2, 0, none⟩) n cap2) LT U w.heap.size ∧ Below w.heap.size w wr) (fun q _ => (ns - RowKit.intOf q + 1).toNat)
  case atStart => exact ⟨-1, rfl, by omega, by omega, H0.out.1, H0.out.2⟩
  case round =>
    clear H0
    obtain ⟨s, rfl, hs0, hs1, X, hB⟩ := hrel
    have hwr : IntKind.i64.wrap (s + 1) = s + 1 := by rw [IntKind.wrap_i64]; omega
    obtain ⟨x0, x1, x2, x3⟩ := X.cs
    by_cases hlt : s ≤ ns
    · have hsm : sameP (dpgs l s) (dpgs l s) = true := sameP_self _
      have CS' := Lib.hid (CS.out s)
      rw [hsm] at CS'
      have HB := Lib.hid (And.intro hB X)
      have hS := X.cs
      clear hB X hsm CS CF CT
      go_wp2_with fail
      go_region_held3 (fun w1 => w1.cell? ⟨w.heap.size, 0, none⟩ = some (.int .i64 ns) ∧ w1.cell? ⟨w.heap.size, 1, none⟩ = some (.slice ao l.length cap) ∧ w1.cell? ⟨w.heap.size, 2, none⟩ = some (.int .i64 bl) ∧ w1.cell? ⟨w.heap.size, 3, none⟩ = some (.slice (some ⟨g2, 0, none⟩) n cap2))
        ((refine (LK.cs (LK.low HB.out.2 ?_)); (repeat (first | (with_reducible assumption) | (with_reducible exact Below.refl _ _) | (with_reducible refine lo_step ?_ (by assumption)) | (with_reducible refine lo_drew ?_) | (with_reducible refine lo_drewN ?_ _) | (with_reducible refine lo_alloc ?_ _))) ))
        (first
          | (go_at_call 14; (with_reducible refine (CP.out _ s (LK.low HB.out.2 (by (repeat (first | (with_reducible assumption) | (with_reducible exact Below.refl _ _) | (with_reducible refine lo_step ?_ (by assumption)) | (with_reducible refine lo_drew ?_) | (with_reducible refine lo_drewN ?_ _) | (with_reducible refine lo_alloc ?_ _))) ))).mono ?_); rintro e w' ⟨o1, rfl, ho1, hb1⟩; obtain ⟨oa1, oc1, rfl⟩ := own_shape3 ho1)
          | (go_at_call 40; (with_reducible refine (CD.out _ s (LK.low HB.out.2 (by (repeat (first | (with_reducible assumption) | (with_reducible exact Below.refl _ _) | (with_reducible refine lo_step ?_ (by assumption)) | (with_reducible refine lo_drew ?_) | (with_reducible refine lo_drewN ?_ _) | (with_reducible refine lo_alloc ?_ _))) ))).mono ?_); rintro e w' ⟨o2, rfl, ho2, hb2⟩; obtain ⟨oa2, oc2, rfl⟩ := own_shape3 ho2)
          | (go_at_call 15; (with_reducible refine (CS'.out _ _ _ _ _ (row_low ho1 (by (repeat (first | (with_reducible assumption) | (with_reducible exact Below.refl _ _) | (with_reducible refine lo_step ?_ (by assumption)) | (with_reducible refine lo_drew ?_) | (with_reducible refine lo_drewN ?_ _) | (with_reducible refine lo_alloc ?_ _))) )) (row_low ho2 (by (repeat (first | (with_reducible assumption) | (with_reducible exact Below.refl _ _) | (with_reducible refine lo_step ?_ (by assumption)) | (with_reducible refine lo_drew ?_) | (with_reducible refine lo_drewN ?_ _) | (with_reducible refine lo_alloc ?_ _))) ))).mono ?_); rintro e w' ⟨rfl, hb3⟩))
      have X2 := Lib.hid (LK.low HB.out.2 (show Below wr.heap.size wr w' by (repeat (first | (with_reducible assumption) | (with_reducible exact Below.refl _ _) | (with_reducible refine lo_step ?_ (by assumption)) | (with_reducible refine lo_drew ?_) | (with_reducible refine lo_drewN ?_ _) | (with_reducible refine lo_alloc ?_ _))) ))
      have B2 := Lib.hid (lo_step HB.out.1 (show Below wr.heap.size wr w' by (repeat (first | (with_reducible assumption) | (with_reducible exact Below.refl _ _) | (with_reducible refine lo_step ?_ (by assumption)) | (with_reducible refine lo_drew ?_) | (with_reducible refine lo_drewN ?_ _) | (with_reducible refine lo_alloc ?_ _))) ))
      clear hb1 hb2 hb3 ho1 ho2 x0 x1 x2 x3 hS HB CP CD CS'
      go_wp2_with fail
      go_roundw
      case rel => exact ⟨s + 1, rfl, by omega, by omega, X2.out, B2.out⟩
      case measure => (simp [RowKit.intOf] <;> omega)
    · have hgt : ¬ s ≤ ns := hlt
      have hdec : decide (s ≤ ns) = false := decide_eq_false hlt
      have hsub : IntKind.i64.wrap (bl - (l.length : Int)) = bl - (l.length : Int) := by rw [IntKind.wrap_i64]; omega
      have HB := Lib.hid (And.intro hB X)
      have hS := X.cs
      clear hB X CS CP CD hs0 hs1 hwr
      go_wp2_with fail
      go_region_held3 (fun w1 => w1.cell? ⟨w.heap.size, 0, none⟩ = some (.int .i64 ns) ∧ w1.cell? ⟨w.heap.size, 1, none⟩ = some (.slice ao l.length cap) ∧ w1.cell? ⟨w.heap.size, 2, none⟩ = some (.int .i64 bl) ∧ w1.cell? ⟨w.heap.size, 3, none⟩ = some (.slice (some ⟨g2, 0, none⟩) n cap2))
        ((refine (LK.cs (LK.low HB.out.2 ?_)); (repeat (first | (with_reducible assumption) | (with_reducible exact Below.refl _ _) | (with_reducible refine lo_step ?_ (by assumption)) | (with_reducible refine lo_drew ?_) | (with_reducible refine lo_drewN ?_ _) | (with_reducible refine lo_alloc ?_ _))) ))
        (first
          | (go_at_call 41; (with_reducible refine ((CF.out _ (LK.low HB.out.2 (by (repeat (first | (with_reducible assumption) | (with_reducible exact Below.refl _ _) | (with_reducible refine lo_step ?_ (by assumption)) | (with_reducible refine lo_drew ?_) | (with_reducible refine lo_drewN ?_ _) | (with_reducible refine lo_alloc ?_ _))) ))).1).mono ?_); rintro e w' ⟨rfl, rfl⟩)
          | (go_at_call 42; (with_reducible refine ((CF.out _ (LK.low HB.out.2 (by (repeat (first | (with_reducible assumption) | (with_reducible exact Below.refl _ _) | (with_reducible refine lo_step ?_ (by assumption)) | (with_reducible refine lo_drew ?_) | (with_reducible refine lo_drewN ?_ _) | (with_reducible refine lo_alloc ?_ _))) ))).2.1).mono ?_); rintro e w' ⟨rfl, rfl⟩)
          | (go_at_call 43; (with_reducible refine ((CF.out _ (LK.low HB.out.2 (by (repeat (first | (with_reducible assumption) | (with_reducible exact Below.refl _ _) | (with_reducible refine lo_step ?_ (by assumption)) | (with_reducible refine lo_drew ?_) | (with_reducible refine lo_drewN ?_ _) | (with_reducible refine lo_alloc ?_ _))) ))).2.2.1).mono ?_); rintro e w' ⟨rfl, m, rfl⟩)
          | (go_at_call 18; (with_reducible refine ((CF.out _ (LK.low HB.out.2 (by (repeat (first | (with_reducible assumption) | (with_reducible exact Below.refl _ _) | (with_reducible refine lo_step ?_ (by assumption)) | (with_reducible refine lo_drew ?_) | (with_reducible refine lo_drewN ?_ _) | (with_reducible refine lo_alloc ?_ _))) ))).2.2.2).mono ?_); rintro e w' ⟨rfl, hb4⟩)
          | (go_at_call 44; (with_reducible refine (CT.out _ (LK.low HB.out.2 (by (repeat (first | (with_reducible assumption) | (with_reducible exact Below.refl _ _) | (with_reducible refine lo_step ?_ (by assumption)) | (with_reducible refine lo_drew ?_) | (with_reducible refine lo_drewN ?_ _) | (with_reducible refine lo_alloc ?_ _))) ))).mono ?_); rintro e w' ⟨rfl, hb5⟩))
      have B2 := Lib.hid (lo_step HB.out.1 (show Below wr.heap.size wr w' by (repeat (first | (with_reducible assumption) | (with_reducible exact Below.refl _ _) | (with_reducible refine lo_step ?_ (by assumption)) | (with_reducible refine lo_drew ?_) | (with_reducible refine lo_drewN ?_ _) | (with_reducible refine lo_alloc ?_ _))) ))
      clear hS HB CF CT
      go_wp2_with fail
      go_ret
      exact ⟨rfl, B2.out⟩
end
end Go.Proofs.YtffpfceclhogoaaGreat.Hp
namespace Go.Proofs.YtffpfceclhogoaaGreat.Hp
open Fld Hs
open Go.ChangeShapes Go.WideShapes Go.ChangeAt Go.RowKit Go.Maps
set_option maxHeartbeats 4000000
set_option maxRecDepth 100000
theorem KY.new {w w' : World} {hb sb n : Nat} {ns bl : Int} (h : NewHat w w' hb sb n ns bl) : KY w w' hb sb ns bl n (fun _ => []) (fun _ => False) := by
  obtain ⟨O, h1, h2, h3, _⟩ := h
  exact ⟨⟨O, h1, h3, fun _ hk => hk.elim⟩, h2⟩
def exP : Pg := ⟨8192, 0, 0, ⟨false, false, false, false, false, false⟩, false, false⟩
theorem klives_any (w : World) : Calls Tryz.prog 13 #[] w fun e w' => e = .returned (.bool true) ∧ Below w.heap.size w w' := by
  have CN := Lib.hid (fun w => hnew_any 1 4 4 (by decide) (by decide) (by decide) (by decide) (by decide) (by decide) w)
  have pwf : exP.wf := ⟨by decide, by decide, by decide, by decide, by decide, by decide⟩
  have T0 : HT 1 4 4 (fun _ => []) [] (fun _ => []) := HT.new 1 4 4 (by decide) (by decide) (by decide)
  obtain ⟨e1, T1⟩ := T0.map 0 pwf
  have q1 : dmayE 1 4 [] 0 exP = 0 := by decide
  have q2 : dmapL 1 4 [] 0 exP = [⟨0, exP⟩] := by unfold dmapL; rw [if_pos q1]; rfl
  rw [q1] at e1
  rw [q2] at T1
  have f1 := T1.findV 0 8200
  have f2 := T1.findN 0 8200
  have f3 := T1.findB 0 8200
  have g1 := T1.dunV 0 16000
  have q3 : dfV 1 [⟨0, exP⟩] 0 8200 = exP := by kernel_rfl
  have q4 : dfB 1 [⟨0, exP⟩] 0 8200 = true := by decide
  have q5 : dunV 1 [⟨0, exP⟩] 0 16000 = exP := by kernel_rfl
  have q6 : whyE 1 [⟨0, exP⟩] 0 16000 = 0 := by decide
  have q7 : dunL 1 [⟨0, exP⟩] 0 16000 = [] := by decide
  have q8 : dfN 1 [⟨0, exP⟩] 4 (dmapT 1 4 [] 4 (fun _ => []) 0 exP) 0 8200 = 1 := by decide
  obtain ⟨e2, T2⟩ := T1.unmap 0 16000
  rw [q3] at f1
  rw [q4] at f3
  rw [q5] at g1
  rw [q6] at e2
  rw [q7] at T2
  rw [q8] at f2
  have e3 := T2.len
  have hw2 := pwf
  have CM := Lib.hid (fun (hb sb : Nat) (W : World) (h : KY w W hb sb 1 4 4 (fun _ => []) (fun _ => False)) => h.map 0 exP (by decide) (by decide) pwf)
  rw [e1] at CM
  have CFi := Lib.hid (fun (hb sb : Nat) (W : World) (h : KY w W hb sb 1 4 4 (mapT 1 4 4 (fun _ => []) 0 exP) (fun _ => False)) => h.find 0 8200 (by decide) (by decide) (by decide) (by decide))
  rw [f1, f2, f3] at CFi
  have CU := Lib.hid (fun (hb sb : Nat) (W : World) (F : Nat → Prop) (h : KY w W hb sb 1 4 4 (mapT 1 4 4 (fun _ => []) 0 exP) F) => h.unmap 0 16000 (by decide) (by decide) (by decide) (by decide) (by rw [g1]; exact pwf))
  rw [g1, e2] at CU
  have CL := Lib.hid (fun (hb sb : Nat) (W : World) (F : Nat → Prop) (h : KY w W hb sb 1 4 4 (unmT 1 4 (mapT 1 4 4 (fun _ => []) 0 exP) 0 16000) F) => (show (Calls Tryz.prog 42 #[.pointer (some ⟨hb, 0, none⟩)] W fun e w' => e = .returned (.int .i64 0) ∧ w' = W) from by
    obtain ⟨bm, V, hr⟩ := h.read
    have q := hlen_any W hr
    rw [e3] at q
    exact q))
  clear T0 T1 T2 e1 e2 e3 f1 f2 f3 g1 q1 q2 q3 q4 q5 q6 q7 q8 hw2 pwf
  unfold exP at CM CFi CU CL
  dsimp only at CM CFi CU CL
  generalize mapT 1 4 4 (fun _ => []) 0 _ = L1 at *
  generalize unmT 1 4 L1 0 16000 = L2 at *
  go_enter Tryz.func13, Tryz.ntmps13
  go_wp2_with fail
  refine (CN.out _).mono ?_; rintro e w1 ⟨hb, sb, rfl, hN⟩
  have K0 : KY w w1 hb sb 1 4 4 (fun _ => []) (fun _ => False) := KY.new hN
  clear CN hN
  go_wp2_with fail
  refine (CM.out _ _ _ K0).mono ?_; rintro e w2 ⟨rfl, K1, _⟩
  clear K0 CM
  go_wp2_with fail
  refine (CFi.out _ _ _ K1).mono ?_; rintro e w3 ⟨rfl, hb3⟩
  have K2 := K1.below hb3
  have B2 : Below w3.heap.size w3 (w3.alloc (.cells #[.int .u64 8192, .int .i64 0, .int .u64 0, .bool false, .bool false, .bool false, .bool false, .bool false, .bool false, .bool false, .bool false] 38)) := (Below.refl _ _).alloc (Nat.le_refl _) _
  have K3 : KY w (w3.alloc (.cells #[.int .u64 8192, .int .i64 0, .int .u64 0, .bool false, .bool false, .bool false, .bool false, .bool false, .bool false, .bool false, .bool false] 38)) hb sb 1 4 4 L1 (fun k => k = w3.heap.size) := K2.add B2 (fun k hk => .inr (by subst hk; simp))
  have r3 := heap_alloc_new w3 (.cells #[.int .u64 8192, .int .i64 0, .int .u64 0, .bool false, .bool false, .bool false, .bool false, .bool false, .bool false, .bool false, .bool false] 38)
  clear K1 CFi hb3 B2 K2
  go_wp2_with fail
  generalize w3.alloc _ = W4 at *
  refine (CU.out _ _ _ _ K3).mono ?_; rintro e w4 ⟨rfl, K4, kp⟩
  have r4 := (kp.1 _ rfl).trans r3
  have hne := (Array.getElem?_eq_some_iff.1 r4).1
  clear K3 r3 kp CU
  have B4 : Below w4.heap.size w4 (w4.alloc (.cells #[.int .u64 8192, .int .i64 0, .int .u64 0, .bool false, .bool false, .bool false, .bool false, .bool false, .bool false, .bool false, .bool false] 38)) := (Below.refl _ _).alloc (Nat.le_refl _) _
  have Z4 := RowP.mk (w := w4.alloc (.cells #[.int .u64 8192, .int .i64 0, .int .u64 0, .bool false, .bool false, .bool false, .bool false, .bool false, .bool false, .bool false, .bool false] 38)) (b := w3.heap.size) (p := exP) (blk_low r4 B4)
  have Z5 := RowP.mk (w := w4.alloc (.cells #[.int .u64 8192, .int .i64 0, .int .u64 0, .bool false, .bool false, .bool false, .bool false, .bool false, .bool false, .bool false, .bool false] 38)) (b := w4.heap.size) (p := exP) (heap_alloc_new w4 _)
  have K5 := Lib.hid (K4.below B4)
  obtain ⟨a0, a1, a2, a3, a4, a5, a6, a7, a8, a9, a10⟩ := Z4.cells
  obtain ⟨c0, c1, c2, c3, c4, c5, c6, c7, c8, c9, c10⟩ := Z5.cells
  clear Z4 Z5 r4 B4 K4
  unfold exP at a0 a1 a2 a3 a4 a5 a6 a7 a8 a9 a10 c0 c1 c2 c3 c4 c5 c6 c7 c8 c9 c10
  dsimp only at a0 a1 a2 a3 a4 a5 a6 a7 a8 a9 a10 c0 c1 c2 c3 c4 c5 c6 c7 c8 c9 c10
  go_upto_region 7 with fail
  generalize w4.alloc _ = W5 at *
  go_wp2_with fail
  refine (CL.out _ _ _ _ K5.out).mono ?_; rintro e w6 ⟨rfl, rfl⟩
  go_wp2_with fail
  go_ret
  exact ⟨rfl, K5.out.low⟩
end Go.Proofs.YtffpfceclhogoaaGreat.Hp
namespace Go.Proofs.YtffpfceclhogoaaGreat.Hp
open Fld Hs
open Go.ChangeShapes Go.WideShapes Go.ChangeAt Go.RowKit Go.Maps
set_option maxHeartbeats 2000000
set_option maxRecDepth 100000
theorem range_low {w w' : World} {b o : Nat} {cs : List Value} (h : w.rangeAt b o cs) (hb : Below w.heap.size w w') : w'.rangeAt b o cs := fun j v hv => cell_low (h j v hv) hb
theorem deed_at {w : World} {a : Option Addr} {len cap : Nat} (h : IsDeeds w a len cap) (i : Nat) (hi : i < len) :
    ∃ b off, ∃ d : DeedV, a = some ⟨b, off, none⟩ ∧ len ≤ cap ∧ cap ≤ maxLen ∧ d.wf ∧ w.rangeAt b (off + i * 24) [.int .i64 d.kind, .int .i64 d.sp, .int .i64 d.n, .int .u64 d.p.va, .int .i64 d.p.sz, .int .u64 d.p.pa, .bool d.p.att.write, .bool d.p.att.priv, .bool d.p.att.exec, .bool d.p.att.lock, .bool d.p.att.global, .bool d.p.att.quiet, .bool d.p.ref, .bool d.p.mod, .int .u64 d.va, .bool d.att.write, .bool d.att.priv, .bool d.att.exec, .bool d.att.lock, .bool d.att.global, .bool d.att.quiet, .bool d.mod, .bool d.raw, .bool d.near] := by
  rcases h with ⟨_, h0⟩ | ⟨x, rfl, h1, h2, h3⟩
  · omega
  · obtain ⟨d, hd, hc⟩ := h3 i hi
    obtain ⟨b, off, spot⟩ := x
    have hs : spot = none := by
      obtain ⟨e0, _, hc0⟩ := h3 0 (by omega)
      have z0 := hc0 0 _ rfl
      simpa [Addr.add] using World.cell?_spot z0
    subst hs
    have ad : ∀ j, (⟨b, off, none⟩ : Addr).add j = ⟨b, off + j, none⟩ := fun j => by simp [Addr.add]
    exact ⟨b, off, d, rfl, h1, h2, hd, fun k v hv => by have := hc k v hv; rwa [ad, ← Nat.add_assoc] at this⟩
section
variable {w W W' : World} {hb sb n : Nat} {ns bl : Int} {L : Nat → List Bk} {G : Nat → Prop} {v t : Value} {l : List SPg} {LT : Nat → List Hs.Bk} {U : Nat → Value} {rb : Nat}
theorem KY.ne_H (h : KY w W hb sb ns bl n L G) {b : Nat} {cs : Array Value} (hx : W.heap[b]? = some (.cells cs 30 (0, 0))) : b ≠ hb := by
  obtain ⟨O, h1, _, _⟩ := h.ex
  rintro rfl
  have h2 := h1.row
  rw [hx] at h2
  injection h2 with h2; injection h2 with _ h2 _; exact absurd h2 (by decide)
/-- Both hats, and the box of the document's. -/
structure PL (w W : World) (hb sb : Nat) (ns bl : Int) (n : Nat) (L : Nat → List Bk) (G : Nat → Prop) (v : Value) (l : List SPg) (t : Value) (LT : Nat → List Hs.Bk) (U : Nat → Value) (rb : Nat) : Prop where
  ky : KY w W hb sb ns bl n L G
  dh : DH W v l t n LT U
  ht : HT ns bl n L l LT
  bx : W.heap[rb]? = some (.cells #[.int .i64 ns, v, .int .i64 bl, t] 30 (0, 0))
  gb : G rb
  lo : w.heap.size ≤ rb
theorem PL.low (h : PL w W hb sb ns bl n L G v l t LT U rb) (b : Below W.heap.size W W') : PL w W' hb sb ns bl n L G v l t LT U rb := ⟨h.ky.below b, h.dh.low b, h.ht, blk_low h.bx b, h.gb, h.lo⟩
theorem PL.add (h : PL w W hb sb ns bl n L G v l t LT U rb) (b : Below W.heap.size W W') {G' : Nat → Prop} (h1 : G' rb) (h2 : ∀ k, G' k → G k ∨ (W.heap.size ≤ k ∧ k < W'.heap.size)) : PL w W' hb sb ns bl n L G' v l t LT U rb := ⟨h.ky.add b h2, h.dh.low b, h.ht, blk_low h.bx b, h1, h.lo⟩
theorem PL.cs (h : PL w W hb sb ns bl n L G v l t LT U rb) : W.cell? ⟨rb, 0, none⟩ = some (.int .i64 ns) ∧ W.cell? ⟨rb, 1, none⟩ = some v ∧ W.cell? ⟨rb, 2, none⟩ = some (.int .i64 bl) ∧ W.cell? ⟨rb, 3, none⟩ = some t := by
  obtain ⟨x0, x1, x2, x3, _⟩ := four_H h.bx
  exact ⟨x0, x1, x2, x3⟩
/-- A deed done: the document's hat that is next lies in a box of its own. -/
structure PM (w W : World) (hb sb : Nat) (ns bl : Int) (n : Nat) (L : Nat → List Bk) (G : Nat → Prop) (v : Value) (l : List SPg) (t : Value) (LT : Nat → List Hs.Bk) (U : Nat → Value) (rb nb : Nat) (a0 a1 a2 a3 : Value) : Prop where
  ky : KY w W hb sb ns bl n L G
  dh : DH W v l t n LT U
  ht : HT ns bl n L l LT
  bx : W.heap[rb]? = some (.cells #[a0, a1, a2, a3] 30 (0, 0))
  nx : W.heap[nb]? = some (.cells #[.int .i64 ns, v, .int .i64 bl, t] 30 (0, 0))
  gb : G rb
  lo : w.heap.size ≤ rb
theorem PM.of {G' : Nat → Prop} {nb : Nat} {a0 a1 a2 a3 z0 z1 z2 z3 : Value} (ky : KY w W hb sb ns bl n L G') (dh : DH W v l t n LT U) (ht : HT ns bl n L l LT) (bx : W.heap[rb]? = some (.cells #[a0, a1, a2, a3] 30 (0, 0))) (zx : W.heap[nb]? = some (.cells #[z0, z1, z2, z3] 30 (0, 0))) (hn : G' nb) (sub : ∀ k, G k → G' k) (gb : G rb) (lo : w.heap.size ≤ rb) (ln : w.heap.size ≤ nb) (ne : nb ≠ rb) :
    PM w ((((W.setCell ⟨nb, 0, none⟩ (.int .i64 ns)).setCell ⟨nb, 1, none⟩ v).setCell ⟨nb, 2, none⟩ (.int .i64 bl)).setCell ⟨nb, 3, none⟩ t) hb sb ns bl n L G v l t LT U rb nb a0 a1 a2 a3 := by
  have f := fill_H (ns := ns) (bl := bl) dh ky.low ln zx rfl
  have hk : ∀ k, k ≠ nb → ((((W.setCell ⟨nb, 0, none⟩ (.int .i64 ns)).setCell ⟨nb, 1, none⟩ v).setCell ⟨nb, 2, none⟩ (.int .i64 bl)).setCell ⟨nb, 3, none⟩ t).heap[k]? = W.heap[k]? := fun k hk => after4 _ _ _ _ hk
  exact ⟨(ky.far hn (ky.ne_H zx) f.2.2 (by simp only [setCell_size]) hk).sub sub, f.2.1, ht, (hk rb (fun e => ne e.symm)).trans bx, f.1, gb, lo⟩
theorem PM.low {nb : Nat} {a0 a1 a2 a3 : Value} (h : PM w W hb sb ns bl n L G v l t LT U rb nb a0 a1 a2 a3) (b : Below W.heap.size W W') : PM w W' hb sb ns bl n L G v l t LT U rb nb a0 a1 a2 a3 := ⟨h.ky.below b, h.dh.low b, h.ht, blk_low h.bx b, blk_low h.nx b, h.gb, h.lo⟩
/-- .. and is laid into the box of the one before. -/
theorem PM.copy {nb : Nat} {a0 a1 a2 a3 : Value} (h : PM w W hb sb ns bl n L G v l t LT U rb nb a0 a1 a2 a3) :
    PL w ((((W.setCell ⟨rb, 0, none⟩ (.int .i64 ns)).setCell ⟨rb, 1, none⟩ v).setCell ⟨rb, 2, none⟩ (.int .i64 bl)).setCell ⟨rb, 3, none⟩ t) hb sb ns bl n L G v l t LT U rb := by
  have f := fill_H (ns := ns) (bl := bl) h.dh h.ky.low h.lo h.bx rfl
  have hk : ∀ k, k ≠ rb → ((((W.setCell ⟨rb, 0, none⟩ (.int .i64 ns)).setCell ⟨rb, 1, none⟩ v).setCell ⟨rb, 2, none⟩ (.int .i64 bl)).setCell ⟨rb, 3, none⟩ t).heap[k]? = W.heap[k]? := fun k hk => after4 _ _ _ _ hk
  exact ⟨h.ky.far h.gb (h.ky.ne_H h.bx) f.2.2 (by simp only [setCell_size]) hk, f.2.1, h.ht, f.1, h.gb, h.lo⟩
end
/-- The hats as a law makes them. -/
theorem PL.begin {w w1 w2 : World} {hb sb n : Nat} {ns bl : Int} {s : Value} {U : Nat → Value} (hN : NewHat w w1 hb sb n ns bl) (hb2 : Below w1.heap.size w1 w2) (hD : DH w2 (.slice none 0 0) [] s n (fun _ => []) U) (h0 : 0 ≤ bl) (h1 : ns ≤ 64) (hn : 1 ≤ n) :
    PL w (w2.alloc (.cells #[.int .i64 ns, .slice none 0 0, .int .i64 bl, s] 30)) hb sb ns bl n (fun _ => []) (fun k => k = w2.heap.size) (.slice none 0 0) [] s (fun _ => []) U w2.heap.size := by
  have b : Below w2.heap.size w2 (w2.alloc (.cells #[.int .i64 ns, .slice none 0 0, .int .i64 bl, s] 30)) := (Below.refl _ _).alloc (Nat.le_refl _) _
  have K := (KY.new hN).below hb2
  exact ⟨K.add b (fun k hk => .inr (by subst hk; simp)), hD.low b, HT.new ns bl n hn h0 h1, heap_alloc_new w2 _, rfl, K.low.size⟩
end Go.Proofs.YtffpfceclhogoaaGreat.Hp
