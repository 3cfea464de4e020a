/-
  YtffpfceclhogoaaGreatGF: the contracts and plain facts of several texts, laid together. Conditions: those that each theorem names.
-/
import Derived.Test.YtffpfceclhogoaaGreatGB
import Derived.Test.YtffpfceclhogoaaGreatGE
namespace Go.Proofs.YtffpfceclhogoaaGreat.Hp
open Fld Hs
open Go.ChangeShapes Go.WideShapes Go.ChangeAt Go.RowKit Go.Maps
set_option maxHeartbeats 1000000
set_option maxRecDepth 100000
/-- A hat that is there: its block, its table. -/
structure HR (w : World) (hb sb bm n : Nat) (ns bl : Int) (L : Nat → List Bk) (V : Nat → Value) : Prop where
  tab : TabAt w sb bm n bl L V
  row : w.heap[hb]? = some (.cells #[.int .i64 ns, .pointer (some ⟨sb, 0, none⟩)] 67 (0, 0))
  s0 : 0 ≤ ns
  s1 : ns ≤ 64
section
variable {w w' : World} {hb sb bm n : Nat} {ns bl : Int} {L : Nat → List Bk} {V : Nat → Value}
theorem HR.low (h : HR w hb sb bm n ns bl L V) (hb' : Below w.heap.size w w') : HR w' hb sb bm n ns bl L V := ⟨h.tab.below hb' (Nat.le_refl _), blk_low h.row hb', h.s0, h.s1⟩
theorem HR.drew (h : HR w hb sb bm n ns bl L V) : HR w.drew hb sb bm n ns bl L V := h.low (Below.refl _ w).drew
theorem HR.drewN (h : HR w hb sb bm n ns bl L V) (m : Nat) : HR (w.drewN m) hb sb bm n ns bl L V := h.low (below_drewN (Below.refl _ w) m)
theorem HR.alloc (h : HR w hb sb bm n ns bl L V) (o : Obj) : HR (w.alloc o) hb sb bm n ns bl L V := h.low ((Below.refl _ w).alloc (Nat.le_refl _) o)
theorem HR.cells (h : HR w hb sb bm n ns bl L V) : w.cell? ⟨hb, 0, none⟩ = some (.int .i64 ns) ∧ w.cell? ⟨hb, 1, none⟩ = some (.pointer (some ⟨sb, 0, none⟩)) := by
  have := h.row
  exact ⟨by simp [World.cell?, this], by simp [World.cell?, this]⟩
end
section
variable {hb sb bm n : Nat} {ns bl : Int} {L : Nat → List Bk} {V : Nat → Value}
theorem spaces_any (w : World) (h : HR w hb sb bm n ns bl L V) : Calls Tryz.prog 41 #[.pointer (some ⟨hb, 0, none⟩)] w fun e w' => e = .returned (.int .i64 ns) ∧ w' = w := by
  obtain ⟨c0, c1⟩ := h.cells
  clear h
  go_enter Tryz.func41, Tryz.ntmps41
  go_wp2
  go_ret
  exact ⟨rfl, rfl⟩
theorem hlen_any (w : World) (h : HR w hb sb bm n ns bl L V) : Calls Tryz.prog 42 #[.pointer (some ⟨hb, 0, none⟩)] w fun e w' => e = .returned (.int .i64 (lenL L n : Int)) ∧ w' = w := by
  obtain ⟨c0, c1⟩ := h.cells
  have T := h.tab
  clear h
  go_enter Tryz.func42, Tryz.ntmps42
  go_wp2_with fail
  refine (len_any _ T).mono ?_; rintro e w1 ⟨rfl, rfl⟩
  go_wp2_with fail
  go_ret
  exact ⟨rfl, rfl⟩
theorem hfree_any (w : World) (h : HR w hb sb bm n ns bl L V) : Calls Tryz.prog 43 #[.pointer (some ⟨hb, 0, none⟩)] w fun e w' => e = .returned (.int .i64 (bl - (lenL L n : Int))) ∧ ∃ m, w' = w.drewN m := by
  obtain ⟨c0, c1⟩ := h.cells
  have T := h.tab
  clear h
  go_enter Tryz.func43, Tryz.ntmps43
  go_wp2_with fail
  refine (free_any _ T).mono ?_; rintro e w1 ⟨rfl, m, rfl⟩
  go_wp2_with fail
  go_ret
  exact ⟨rfl, m, rfl⟩
theorem hlongest_any (w : World) (h : HR w hb sb bm n ns bl L V) : Calls Tryz.prog 18 #[.pointer (some ⟨hb, 0, none⟩)] w fun e w' => e = .returned (.int .i64 (lngL L n : Int)) ∧ Below w.heap.size w w' := by
  obtain ⟨c0, c1⟩ := h.cells
  have T := h.tab
  clear h
  go_enter Tryz.func18, Tryz.ntmps18
  go_wp2_with fail
  refine (longest_any _ T).mono ?_; rintro e w1 ⟨rfl, hb1⟩
  go_wp2_with fail
  go_ret
  exact ⟨rfl, hb1⟩
theorem has_any (s : Int) (w : World) (h : HR w hb sb bm n ns bl L V) : Calls Tryz.prog 49 #[.pointer (some ⟨hb, 0, none⟩), .int .i64 s] w fun e w' => e = .returned (.bool (isB ns s)) ∧ w' = w := by
  obtain ⟨c0, c1⟩ := h.cells
  clear h
  by_cases h0 : 0 ≤ s
  · by_cases h1 : s < ns
    · have H := Lib.hid (show isB ns s = true by unfold isB; rw [decide_eq_true h0, decide_eq_true h1]; rfl)
      go_enter Tryz.func49, Tryz.ntmps49
      go_wp2
      go_ret
      exact ⟨ret_bool H.out.symm, rfl⟩
    · have H := Lib.hid (show isB ns s = false by unfold isB; rw [decide_eq_false h1]; simp)
      go_enter Tryz.func49, Tryz.ntmps49
      go_wp2
      go_ret
      exact ⟨ret_bool H.out.symm, rfl⟩
  · have H := Lib.hid (show isB ns s = false by unfold isB; rw [decide_eq_false h0]; rfl)
    go_enter Tryz.func49, Tryz.ntmps49
    go_wp2
    go_ret
    exact ⟨ret_bool H.out.symm, rfl⟩
end
theorem maypa_any (p : Pg) (hp : p.wf) (w : World) : Calls Tryz.prog 60 #[.agg #[.int .u64 p.va, .int .i64 p.sz, .int .u64 p.pa, .bool p.att.write, .bool p.att.priv, .bool p.att.exec, .bool p.att.lock, .bool p.att.global, .bool p.att.quiet, .bool p.ref, .bool p.mod]] w fun e w' => e = .returned (.bool (mayPaB p)) ∧ Below w.heap.size w w' := by
  obtain ⟨v0, v1, z0, z1, p0, p1⟩ := hp
  have B1 : Below w.heap.size w (w.alloc (.cells #[.int .u64 p.va, .int .i64 p.sz, .int .u64 p.pa, .bool p.att.write, .bool p.att.priv, .bool p.att.exec, .bool p.att.lock, .bool p.att.global, .bool p.att.quiet, .bool p.ref, .bool p.mod] 38)) := (Below.refl _ _).alloc (Nat.le_refl _) _
  by_cases h0 : p.pa < 2199023255552
  · have H := Lib.hid (show mayPaB p = startsB p.pa p.sz by unfold mayPaB; rw [decide_eq_true h0]; rfl)
    go_enter Tryz.func60, Tryz.ntmps60
    go_wp2_with (first | (go_at_call 62; refine (starts_any _ _ p0 p1 _).mono ?_; rintro e w' ⟨rfl, m, rfl⟩))
    go_ret
    exact ⟨ret_bool H.out.symm, below_drewN B1 _⟩
  · have H := Lib.hid (show mayPaB p = false by unfold mayPaB; rw [decide_eq_false h0]; rfl)
    go_enter Tryz.func60, Tryz.ntmps60
    go_wp2_with (first | (go_at_call 62; refine (starts_any _ _ p0 p1 _).mono ?_; rintro e w' ⟨rfl, m, rfl⟩))
    go_ret
    exact ⟨ret_bool H.out.symm, B1⟩
theorem hkey_any (s : Int) (p : Pg) (w : World) : Calls Tryz.prog 65 #[.int .i64 s, .agg #[.int .u64 p.va, .int .i64 p.sz, .int .u64 p.pa, .bool p.att.write, .bool p.att.priv, .bool p.att.exec, .bool p.att.lock, .bool p.att.global, .bool p.att.quiet, .bool p.ref, .bool p.mod]] w fun e w' => e = .returned (.agg #[.int .i64 (keyP s p).sp, .int .u64 (keyP s p).va, .int .i64 (keyP s p).sz]) ∧ Below w.heap.size w w' := by
  have b1 : Below w.heap.size w ((w.alloc (.cells #[.int .u64 p.va, .int .i64 p.sz, .int .u64 p.pa, .bool p.att.write, .bool p.att.priv, .bool p.att.exec, .bool p.att.lock, .bool p.att.global, .bool p.att.quiet, .bool p.ref, .bool p.mod] 38)).alloc (.cells #[.int .i64 s, .int .u64 p.va, .int .i64 p.sz] 89)) := by (repeat (first | (with_reducible assumption) | (with_reducible exact Below.refl _ _) | (with_reducible refine lo_step ?_ (by assumption)) | (with_reducible refine lo_drew ?_) | (with_reducible refine lo_drewN ?_ _) | (with_reducible refine lo_alloc ?_ _))) 
  have x1 := heap_alloc_new (w.alloc (.cells #[.int .u64 p.va, .int .i64 p.sz, .int .u64 p.pa, .bool p.att.write, .bool p.att.priv, .bool p.att.exec, .bool p.att.lock, .bool p.att.global, .bool p.att.quiet, .bool p.ref, .bool p.mod] 38)) (.cells #[.int .i64 s, .int .u64 p.va, .int .i64 p.sz] 89)
  rw [World.size_alloc] at x1
  go_enter Tryz.func65, Tryz.ntmps65
  go_wp2_with fail
  refine bodyPost_ret (results_cell_row rfl _ _ _ _ _ (0, 0) _ rfl x1 Tryz.underlying89 (by kernel_rfl) (by kernel_rfl)) rfl ?_
  exact ⟨rfl, b1⟩
end Go.Proofs.YtffpfceclhogoaaGreat.Hp
namespace Go.Proofs.YtffpfceclhogoaaGreat.Hp
open Fld Hs
open Go.ChangeShapes Go.WideShapes Go.ChangeAt Go.RowKit Go.Maps
set_option maxHeartbeats 1000000
set_option maxRecDepth 100000
/-- A hat and a result's page. -/
structure HF (u w : World) (hb sb bm n : Nat) (ns bl : Int) (L : Nat → List Bk) (V : Nat → Value) (rb : Nat) : Prop where
  hr : HR w hb sb bm n ns bl L V
  r : RowP w rb Pg.zero
  lo : Below u.heap.size u w
  rl : u.heap.size ≤ rb
section
variable {u w w' : World} {hb sb bm n rb : Nat} {ns bl : Int} {L : Nat → List Bk} {V : Nat → Value}
theorem HF.low (h : HF u w hb sb bm n ns bl L V rb) (hb' : Below w.heap.size w w') : HF u w' hb sb bm n ns bl L V rb := ⟨h.hr.low hb', h.r.low hb', lo_step h.lo hb', h.rl⟩
theorem HF.drew (h : HF u w hb sb bm n ns bl L V rb) : HF u w.drew hb sb bm n ns bl L V rb := h.low (Below.refl _ w).drew
theorem HF.drewN (h : HF u w hb sb bm n ns bl L V rb) (m : Nat) : HF u (w.drewN m) hb sb bm n ns bl L V rb := h.low (below_drewN (Below.refl _ w) m)
theorem HF.alloc (h : HF u w hb sb bm n ns bl L V rb) (o : Obj) : HF u (w.alloc o) hb sb bm n ns bl L V rb := h.low ((Below.refl _ w).alloc (Nat.le_refl _) o)
theorem HF.cs (h : HF u w hb sb bm n ns bl L V rb) : w.cell? ⟨hb, 1, none⟩ = some (.pointer (some ⟨sb, 0, none⟩)) ∧ ∀ i, w.frozen? ⟨rb, i, none⟩ = false := ⟨h.hr.cells.2, set_one_page h.r⟩
theorem HF.fin (h : HF u w hb sb bm n ns bl L V rb) (x : Pg) : RowP (((((((((((w.setCell ⟨rb, 0, none⟩ (.int .u64 x.va)).setCell ⟨rb, 1, none⟩ (.int .i64 x.sz)).setCell ⟨rb, 2, none⟩ (.int .u64 x.pa)).setCell ⟨rb, 3, none⟩ (.bool x.att.write)).setCell ⟨rb, 4, none⟩ (.bool x.att.priv)).setCell ⟨rb, 5, none⟩ (.bool x.att.exec)).setCell ⟨rb, 6, none⟩ (.bool x.att.lock)).setCell ⟨rb, 7, none⟩ (.bool x.att.global)).setCell ⟨rb, 8, none⟩ (.bool x.att.quiet)).setCell ⟨rb, 9, none⟩ (.bool x.ref)).setCell ⟨rb, 10, none⟩ (.bool x.mod)) rb x ∧ Below u.heap.size u (((((((((((w.setCell ⟨rb, 0, none⟩ (.int .u64 x.va)).setCell ⟨rb, 1, none⟩ (.int .i64 x.sz)).setCell ⟨rb, 2, none⟩ (.int .u64 x.pa)).setCell ⟨rb, 3, none⟩ (.bool x.att.write)).setCell ⟨rb, 4, none⟩ (.bool x.att.priv)).setCell ⟨rb, 5, none⟩ (.bool x.att.exec)).setCell ⟨rb, 6, none⟩ (.bool x.att.lock)).setCell ⟨rb, 7, none⟩ (.bool x.att.global)).setCell ⟨rb, 8, none⟩ (.bool x.att.quiet)).setCell ⟨rb, 9, none⟩ (.bool x.ref)).setCell ⟨rb, 10, none⟩ (.bool x.mod)) := ⟨(h.r.setAll x).1, h.lo.trans ((h.r.setAll x).2 _ h.rl)⟩
end
theorem lo_set {a b : World} (h : Below a.heap.size a b) {p : Addr} (hp : a.heap.size ≤ p.block) (u : Value) : Below a.heap.size a (b.setCell p u) := h.setCell hp u
theorem bfacts {W w1 : World} (hb : Below W.heap.size W w1) : (∀ b o, b < W.heap.size → w1.cell? ⟨b, o, none⟩ = W.cell? ⟨b, o, none⟩) ∧ (∀ b o, b < W.heap.size → w1.frozen? ⟨b, o, none⟩ = W.frozen? ⟨b, o, none⟩) ∧ (∀ b, b < W.heap.size → b < w1.heap.size) ∧ (∀ b, b ≤ W.heap.size → b ≤ w1.heap.size) :=
  ⟨fun b o h => hb.cell (p := ⟨b, o, none⟩) h, fun b o h => hb.frozen (p := ⟨b, o, none⟩) h, fun _ h => Nat.lt_of_lt_of_le h hb.size, fun _ h => Nat.le_trans h hb.size⟩
theorem ret_fnd {a a' : Pg} {b b' : Int} {c c' : Bool} (h1 : a = a') (h2 : b = b') (h3 : c = c') : Ending.returned (.tuple #[.agg #[.int .u64 a'.va, .int .i64 a'.sz, .int .u64 a'.pa, .bool a'.att.write, .bool a'.att.priv, .bool a'.att.exec, .bool a'.att.lock, .bool a'.att.global, .bool a'.att.quiet, .bool a'.ref, .bool a'.mod], .int .i64 b', .bool c']) = .returned (.tuple #[.agg #[.int .u64 a.va, .int .i64 a.sz, .int .u64 a.pa, .bool a.att.write, .bool a.att.priv, .bool a.att.exec, .bool a.att.lock, .bool a.att.global, .bool a.att.quiet, .bool a.ref, .bool a.mod], .int .i64 b, .bool c]) := by rw [h1, h2, h3]
theorem hfind_any {hb sb bm n : Nat} {ns bl : Int} {L : Nat → List Bk} {V : Nat → Value} (s va : Int) (s0 : -9223372036854775808 ≤ s) (s1 : s ≤ 9223372036854775807) (v0 : 0 ≤ va) (v1 : va ≤ 18446744073709551615) (w : World) (h : HR w hb sb bm n ns bl L V) :
    Calls Tryz.prog 16 #[.pointer (some ⟨hb, 0, none⟩), .int .i64 s, .int .u64 va] w fun e w' => e = .returned (.tuple #[.agg #[.int .u64 (findV ns n L s va).va, .int .i64 (findV ns n L s va).sz, .int .u64 (findV ns n L s va).pa, .bool (findV ns n L s va).att.write, .bool (findV ns n L s va).att.priv, .bool (findV ns n L s va).att.exec, .bool (findV ns n L s va).att.lock, .bool (findV ns n L s va).att.global, .bool (findV ns n L s va).att.quiet, .bool (findV ns n L s va).ref, .bool (findV ns n L s va).mod], .int .i64 (findN ns n L s va), .bool (findB ns n L s va)]) ∧ Below w.heap.size w w' := by
  have F : HF w (w.alloc (.cells #[.int .u64 Pg.zero.va, .int .i64 Pg.zero.sz, .int .u64 Pg.zero.pa, .bool Pg.zero.att.write, .bool Pg.zero.att.priv, .bool Pg.zero.att.exec, .bool Pg.zero.att.lock, .bool Pg.zero.att.global, .bool Pg.zero.att.quiet, .bool Pg.zero.ref, .bool Pg.zero.mod] 38)) hb sb bm n ns bl L V w.heap.size := ⟨h.alloc _, RowP.new w Pg.zero, by (repeat (first | (with_reducible assumption) | (with_reducible exact Below.refl _ _) | (with_reducible refine lo_step ?_ (by assumption)) | (with_reducible refine lo_drew ?_) | (with_reducible refine lo_drewN ?_ _) | (with_reducible refine lo_alloc ?_ _))) , Nat.le_refl _⟩
  cases hs : isB ns s
  · have eB := Lib.hid (show findB ns n L s va = false by unfold findB; rw [hs]; rfl)
    have eV := Lib.hid (find_not eB.out)
    have eN := Lib.hid (show findN ns n L s va = 0 by unfold findN; rw [hs]; rfl)
    have CH := Lib.hid (fun w h => has_any (hb := hb) (sb := sb) (bm := bm) (n := n) (ns := ns) (bl := bl) (L := L) (V := V) s w h)
    rw [hs] at CH
    unfold Pg.zero at F
    clear h
    go_enter Tryz.func16, Tryz.ntmps16
    go_wp2_with fail
    generalize World.alloc w _ = W at *
    refine (CH.out _ F.hr).mono ?_; rintro e w1 ⟨rfl, rfl⟩
    have TF := Lib.hid (F.fin Pg.zero)
    obtain ⟨r0, r1, r2, r3, r4, r5, r6, r7, r8, r9, r10⟩ := F.r.cells
    have fr := F.cs.2
    clear F CH
    go_wp2_with fail
    refine bodyPost_ret (res_P3 rfl _ _ _ _ rfl TF.out.1.row) rfl ?_
    exact ⟨ret_fnd eV.out eN.out eB.out, TF.out.2⟩
  · have CH := Lib.hid (fun w h => has_any (hb := hb) (sb := sb) (bm := bm) (n := n) (ns := ns) (bl := bl) (L := L) (V := V) s w h)
    rw [hs] at CH
    unfold Pg.zero at F
    clear h
    go_enter Tryz.func16, Tryz.ntmps16
    go_wp2_with fail
    generalize World.alloc w _ = W at *
    refine (CH.out _ F.hr).mono ?_; rintro e w1 ⟨rfl, rfl⟩
    go_wp2_with fail
    have CB := Lib.hid (fun (z : Nat) (w : World) => base_any va (z : Int) v0 v1 w)
    have CG := Lib.hid (fun (z : Nat) (hz : z < 4) (W : World) (h : HF w W hb sb bm n ns bl L V w.heap.size) => get_any (kz s va z) (kz_wf s0 s1 v0 v1 hz) W h.hr.tab)
    clear CH
    go_loopw [9, 19] (fun a i wr => ∃ j : Nat, a = .int .i64 (lookN n L s va j) ∧ i = .int .i64 (j : Int) ∧ j ≤ 4 ∧ (∀ i, i < j → getB n L (kz s va i) = false) ∧ HF w wr hb sb bm n ns bl L V w.heap.size) (fun _ i _ => 4 - (RowKit.intOf i).toNat)
    case atStart => exact ⟨0, rfl, rfl, by omega, fun i h => absurd h (Nat.not_lt_zero _), F⟩
    case round =>
      clear F
      obtain ⟨j, rfl, rfl, hj, hno, F⟩ := hrel
      by_cases hlt : j < 4
      · have hlt' : (j : Int) < 4 := by omega
        have CBj := Lib.hid (CB.out j)
        have CGj := Lib.hid (CG.out j hlt)
        have hL1 := Lib.hid (show lookN n L s va (j + 1) = lookN n L s va j + getN n L (kz s va j) from rfl)
        have hn0 := F.hr.tab.n0
        have hbd := look_bd n L hn0 s va j
        have hbd2 := getN_bd n L hn0 (kz s va j)
        have hlg : (lngL L n : Int) ≤ 1073741824 := by have h1 := lng_le L n; have h2 := F.hr.tab.few; have h3 := F.hr.tab.b1; omega
        have hm4 : (j : Int) * (lngL L n : Int) ≤ 4 * 1073741824 := Int.mul_le_mul (by omega) hlg (by omega) (by omega)
        have hkb : lookN n L s va j ≤ 4294967296 := by omega
        have hk0 : 0 ≤ lookN n L s va j := hbd.1
        clear hbd
        obtain ⟨x, hx⟩ : ∃ x, x = getV n L (kz s va j) := ⟨_, rfl⟩
        obtain ⟨N, hN⟩ : ∃ x, x = getN n L (kz s va j) := ⟨_, rfl⟩
        obtain ⟨B, hB⟩ : ∃ x, x = getB n L (kz s va j) := ⟨_, rfl⟩
        rw [← hx, ← hN, ← hB] at CGj
        rw [← hN] at hL1 hbd2
        unfold kz at CGj
        have hno' := Lib.hid hno
        have HX := Lib.hid (And.intro hx (And.intro hN hB))
        clear hno CB CG hx hN hB hm4
        generalize hlk : lookN n L s va j = K at *
        have HLK := Lib.hid hlk
        clear hlk
        go_wp2_with fail
        have hS := F.cs.1
        go_region_held3 (fun w1 => w1.cell? ⟨hb, 1, none⟩ = some (.pointer (some ⟨sb, 0, none⟩)))
          ((refine (HF.cs (HF.low F ?_)).1; (repeat (first | (with_reducible assumption) | (with_reducible exact Below.refl _ _) | (with_reducible refine lo_step ?_ (by assumption)) | (with_reducible refine lo_drew ?_) | (with_reducible refine lo_drewN ?_ _) | (with_reducible refine lo_alloc ?_ _) | (with_reducible refine lo_set ?_ ?_ _) | (exact Nat.le_refl _) | (exact hs2 _ (Nat.le_refl _)) | (exact hb'.size))) ))
          (first
            | (go_at_call 51; (with_reducible refine (CBj.out _).mono ?_); rintro e w' ⟨rfl, mB, rfl⟩)
            | (go_at_call 50; (with_reducible refine (CGj.out _ (HF.low F (by (repeat (first | (with_reducible assumption) | (with_reducible exact Below.refl _ _) | (with_reducible refine lo_step ?_ (by assumption)) | (with_reducible refine lo_drew ?_) | (with_reducible refine lo_drewN ?_ _) | (with_reducible refine lo_alloc ?_ _) | (with_reducible refine lo_set ?_ ?_ _) | (exact Nat.le_refl _) | (exact hs2 _ (Nat.le_refl _)) | (exact hb'.size))) ))).mono ?_); rintro e w' ⟨rfl, hb'⟩; obtain ⟨hc, hf, hs1, hs2⟩ := bfacts hb'))
        -- orders
        · skip
          have RW := RowP.new w' x
          have HW := HF.low F (show Below wr.heap.size wr (w'.alloc (.cells #[.int .u64 x.va, .int .i64 x.sz, .int .u64 x.pa, .bool x.att.write, .bool x.att.priv, .bool x.att.exec, .bool x.att.lock, .bool x.att.global, .bool x.att.quiet, .bool x.ref, .bool x.mod] 38)) by (repeat (first | (with_reducible assumption) | (with_reducible exact Below.refl _ _) | (with_reducible refine lo_step ?_ (by assumption)) | (with_reducible refine lo_drew ?_) | (with_reducible refine lo_drewN ?_ _) | (with_reducible refine lo_alloc ?_ _) | (with_reducible refine lo_set ?_ ?_ _) | (exact Nat.le_refl _) | (exact hs2 _ (Nat.le_refl _)) | (exact hb'.size))) )
          have hb2 : wr.heap.size ≤ w'.heap.size := hs2 _ (Nat.le_refl _)
          generalize World.alloc w' _ = Wf at *
          generalize w'.heap.size = pb at *
          have TF := Lib.hid (HW.fin x)
          obtain ⟨z0, z1, z2, z3, z4, z5, z6, z7, z8, z9, z10⟩ := RW.cells
          obtain ⟨r0, r1, r2, r3, r4, r5, r6, r7, r8, r9, r10⟩ := HW.r.cells
          have fr := HW.cs.2
          have HWh := Lib.hid HW
          clear RW HW F hS hb' hc hf hs1 hs2 hn0
          cases B
          · clear r0 r1 r2 r3 r4 r5 r6 r7 r8 r9 r10 z0 z1 z2 z3 z4 z5 z6 z7 z8 z9 z10 fr TF
            go_wp2_with fail
            go_roundw
            case rel => exact ⟨j + 1, by rw [hL1.out], by go_num, by omega, fun i hi => (by by_cases e : i = j; rw [e]; exact HX.out.2.2.symm; exact hno'.out i (by omega)), HWh.out⟩
            case measure => simp [RowKit.intOf]; omega
          · have eI : findI n L s va = j := first_here hlt hno'.out HX.out.2.2.symm
            have eB := Lib.hid (show findB ns n L s va = true by unfold findB; rw [hs, eI, decide_eq_true hlt]; rfl)
            have eV := Lib.hid (show findV ns n L s va = x by unfold findV; rw [eB.out, eI, HX.out.1]; rfl)
            have eN := Lib.hid (show findN ns n L s va = K + N by unfold findN; rw [hs, eI, if_pos rfl, if_pos hlt, hL1.out])
            clear eI
            go_wp2_with fail
            refine bodyPost_ret (res_P3 rfl _ _ _ _ rfl TF.out.1.row) rfl ?_
            exact ⟨ret_fnd eV.out eN.out eB.out, TF.out.2⟩
        · skip
          have R2 : RowP w' wr.heap.size Pg.zero := by first | exact RowP.low (RowP.new _ Pg.zero) hb' | exact RowP.low (RowP.drew (RowP.new _ Pg.zero)) hb'
          have BB : Below wr.heap.size wr w' := by (repeat (first | (with_reducible assumption) | (with_reducible exact Below.refl _ _) | (with_reducible refine lo_step ?_ (by assumption)) | (with_reducible refine lo_drew ?_) | (with_reducible refine lo_drewN ?_ _) | (with_reducible refine lo_alloc ?_ _) | (with_reducible refine lo_set ?_ ?_ _) | (exact Nat.le_refl _) | (exact hs2 _ (Nat.le_refl _)) | (exact hb'.size))) 
          have HW := HF.low F (BB.trans ((R2.setAll x).2 _ (Nat.le_refl _)))
          have RW := (R2.setAll x).1
          clear R2 BB
          generalize World.setCell _ _ _ = Wf at *
          generalize wr.heap.size = pb at *
          have TF := Lib.hid (HW.fin x)
          obtain ⟨z0, z1, z2, z3, z4, z5, z6, z7, z8, z9, z10⟩ := RW.cells
          obtain ⟨r0, r1, r2, r3, r4, r5, r6, r7, r8, r9, r10⟩ := HW.r.cells
          have fr := HW.cs.2
          have HWh := Lib.hid HW
          clear RW HW F hS hb' hc hf hs1 hs2 hn0
          cases B
          · clear r0 r1 r2 r3 r4 r5 r6 r7 r8 r9 r10 z0 z1 z2 z3 z4 z5 z6 z7 z8 z9 z10 fr TF
            go_wp2_with fail
            go_roundw
            case rel => exact ⟨j + 1, by rw [hL1.out], by go_num, by omega, fun i hi => (by by_cases e : i = j; rw [e]; exact HX.out.2.2.symm; exact hno'.out i (by omega)), HWh.out⟩
            case measure => simp [RowKit.intOf]; omega
          · have eI : findI n L s va = j := first_here hlt hno'.out HX.out.2.2.symm
            have eB := Lib.hid (show findB ns n L s va = true by unfold findB; rw [hs, eI, decide_eq_true hlt]; rfl)
            have eV := Lib.hid (show findV ns n L s va = x by unfold findV; rw [eB.out, eI, HX.out.1]; rfl)
            have eN := Lib.hid (show findN ns n L s va = K + N by unfold findN; rw [hs, eI, if_pos rfl, if_pos hlt, hL1.out])
            clear eI
            go_wp2_with fail
            refine bodyPost_ret (res_P3 rfl _ _ _ _ rfl TF.out.1.row) rfl ?_
            exact ⟨ret_fnd eV.out eN.out eB.out, TF.out.2⟩
        · skip
          have R2 : RowP w' wr.heap.size Pg.zero := by first | exact RowP.low (RowP.new _ Pg.zero) hb' | exact RowP.low (RowP.drew (RowP.new _ Pg.zero)) hb'
          have BB : Below wr.heap.size wr w' := by (repeat (first | (with_reducible assumption) | (with_reducible exact Below.refl _ _) | (with_reducible refine lo_step ?_ (by assumption)) | (with_reducible refine lo_drew ?_) | (with_reducible refine lo_drewN ?_ _) | (with_reducible refine lo_alloc ?_ _) | (with_reducible refine lo_set ?_ ?_ _) | (exact Nat.le_refl _) | (exact hs2 _ (Nat.le_refl _)) | (exact hb'.size))) 
          have HW := HF.low F (BB.trans ((R2.setAll x).2 _ (Nat.le_refl _)))
          have RW := (R2.setAll x).1
          clear R2 BB
          generalize World.setCell _ _ _ = Wf at *
          generalize wr.heap.size = pb at *
          have TF := Lib.hid (HW.fin x)
          obtain ⟨z0, z1, z2, z3, z4, z5, z6, z7, z8, z9, z10⟩ := RW.cells
          obtain ⟨r0, r1, r2, r3, r4, r5, r6, r7, r8, r9, r10⟩ := HW.r.cells
          have fr := HW.cs.2
          have HWh := Lib.hid HW
          clear RW HW F hS hb' hc hf hs1 hs2 hn0
          cases B
          · clear r0 r1 r2 r3 r4 r5 r6 r7 r8 r9 r10 z0 z1 z2 z3 z4 z5 z6 z7 z8 z9 z10 fr TF
            go_wp2_with fail
            go_roundw
            case rel => exact ⟨j + 1, by rw [hL1.out], by go_num, by omega, fun i hi => (by by_cases e : i = j; rw [e]; exact HX.out.2.2.symm; exact hno'.out i (by omega)), HWh.out⟩
            case measure => simp [RowKit.intOf]; omega
          · have eI : findI n L s va = j := first_here hlt hno'.out HX.out.2.2.symm
            have eB := Lib.hid (show findB ns n L s va = true by unfold findB; rw [hs, eI, decide_eq_true hlt]; rfl)
            have eV := Lib.hid (show findV ns n L s va = x by unfold findV; rw [eB.out, eI, HX.out.1]; rfl)
            have eN := Lib.hid (show findN ns n L s va = K + N by unfold findN; rw [hs, eI, if_pos rfl, if_pos hlt, hL1.out])
            clear eI
            go_wp2_with fail
            refine bodyPost_ret (res_P3 rfl _ _ _ _ rfl TF.out.1.row) rfl ?_
            exact ⟨ret_fnd eV.out eN.out eB.out, TF.out.2⟩
      · obtain rfl : j = 4 := by omega
        have eI : findI n L s va = 4 := first_none (fun i hi => hno i hi)
        have eB := Lib.hid (show findB ns n L s va = false by unfold findB; rw [hs, eI]; rfl)
        have eV := Lib.hid (find_not eB.out)
        have eN := Lib.hid (show findN ns n L s va = lookN n L s va 4 by unfold findN; rw [hs, eI, if_pos rfl, if_neg (by omega)])
        have TF := Lib.hid (F.fin Pg.zero)
        obtain ⟨r0, r1, r2, r3, r4, r5, r6, r7, r8, r9, r10⟩ := F.r.cells
        have fr := F.cs.2
        clear F eI CB CG hno
        generalize lookN n L s va 4 = K at *
        go_wp2_with fail
        refine bodyPost_ret (res_P3 rfl _ _ _ _ rfl TF.out.1.row) rfl ?_
        exact ⟨ret_fnd eV.out eN.out eB.out, TF.out.2⟩
end Go.Proofs.YtffpfceclhogoaaGreat.Hp
namespace Go.Proofs.YtffpfceclhogoaaGreat.Hp
open Fld Hs
open Go.ChangeShapes Go.WideShapes Go.ChangeAt Go.RowKit Go.Maps
set_option maxHeartbeats 1000000
set_option maxRecDepth 100000
/-- A hat and a page in a box. -/
structure HG (u w : World) (hb sb bm n : Nat) (ns bl : Int) (L : Nat → List Bk) (V : Nat → Value) (pb : Nat) (p : Pg) : Prop where
  hr : HR w hb sb bm n ns bl L V
  pg : RowP w pb p
  lo : Below u.heap.size u w
section
variable {u w w' : World} {hb sb bm n pb : Nat} {p : Pg} {ns bl : Int} {L : Nat → List Bk} {V : Nat → Value}
theorem HG.low (h : HG u w hb sb bm n ns bl L V pb p) (hb' : Below w.heap.size w w') : HG u w' hb sb bm n ns bl L V pb p := ⟨h.hr.low hb', h.pg.low hb', lo_step h.lo hb'⟩
theorem HG.drew (h : HG u w hb sb bm n ns bl L V pb p) : HG u w.drew hb sb bm n ns bl L V pb p := h.low (Below.refl _ w).drew
theorem HG.drewN (h : HG u w hb sb bm n ns bl L V pb p) (m : Nat) : HG u (w.drewN m) hb sb bm n ns bl L V pb p := h.low (below_drewN (Below.refl _ w) m)
theorem HG.alloc (h : HG u w hb sb bm n ns bl L V pb p) (o : Obj) : HG u (w.alloc o) hb sb bm n ns bl L V pb p := h.low ((Below.refl _ w).alloc (Nat.le_refl _) o)
theorem HG.cs (h : HG u w hb sb bm n ns bl L V pb p) : w.cell? ⟨hb, 1, none⟩ = some (.pointer (some ⟨sb, 0, none⟩)) ∧ w.cell? ⟨pb, 0, none⟩ = some (.int .u64 p.va) ∧ w.cell? ⟨pb, 1, none⟩ = some (.int .i64 p.sz) ∧ w.cell? ⟨pb, 2, none⟩ = some (.int .u64 p.pa) ∧ w.cell? ⟨pb, 3, none⟩ = some (.bool p.att.write) ∧ w.cell? ⟨pb, 4, none⟩ = some (.bool p.att.priv) ∧ w.cell? ⟨pb, 5, none⟩ = some (.bool p.att.exec) ∧ w.cell? ⟨pb, 6, none⟩ = some (.bool p.att.lock) ∧ w.cell? ⟨pb, 7, none⟩ = some (.bool p.att.global) ∧ w.cell? ⟨pb, 8, none⟩ = some (.bool p.att.quiet) ∧ w.cell? ⟨pb, 9, none⟩ = some (.bool p.ref) ∧ w.cell? ⟨pb, 10, none⟩ = some (.bool p.mod) := ⟨h.hr.cells.2, h.pg.cells⟩
theorem HG.c2 (h : HG u w hb sb bm n ns bl L V pb p) : w.cell? ⟨hb, 1, none⟩ = some (.pointer (some ⟨sb, 0, none⟩)) ∧ w.cell? ⟨pb, 0, none⟩ = some (.int .u64 p.va) := ⟨h.cs.1, h.cs.2.1⟩
end
theorem holds_any {hb sb bm n : Nat} {ns bl : Int} {L : Nat → List Bk} {V : Nat → Value} (s : Int) (p : Pg) (s0 : -9223372036854775808 ≤ s) (s1 : s ≤ 9223372036854775807) (hp : p.wf) (hz : sizeB p.sz = true) (ha : startsB p.va p.sz = true) (w : World) (h : HR w hb sb bm n ns bl L V) :
    Calls Tryz.prog 96 #[.pointer (some ⟨hb, 0, none⟩), .int .i64 s, .agg #[.int .u64 p.va, .int .i64 p.sz, .int .u64 p.pa, .bool p.att.write, .bool p.att.priv, .bool p.att.exec, .bool p.att.lock, .bool p.att.global, .bool p.att.quiet, .bool p.ref, .bool p.mod]] w fun e w' => e = .returned (.bool (holdB n L s p)) ∧ Below w.heap.size w w' := by
  have G : HG w (w.alloc (.cells #[.int .u64 p.va, .int .i64 p.sz, .int .u64 p.pa, .bool p.att.write, .bool p.att.priv, .bool p.att.exec, .bool p.att.lock, .bool p.att.global, .bool p.att.quiet, .bool p.ref, .bool p.mod] 38)) hb sb bm n ns bl L V w.heap.size p := ⟨h.alloc _, RowP.new w p, by (repeat (first | (with_reducible assumption) | (with_reducible exact Below.refl _ _) | (with_reducible refine lo_step ?_ (by assumption)) | (with_reducible refine lo_drew ?_) | (with_reducible refine lo_drewN ?_ _) | (with_reducible refine lo_alloc ?_ _))) ⟩
  obtain ⟨v0, v1, z0, z1, p0, p1⟩ := hp
  have hz3 := sizeB_true hz
  obtain ⟨t, ht⟩ : ∃ t : Nat, p.sz = (t : Int) := ⟨p.sz.toNat, by omega⟩
  have ht4 : t < 4 := by omega
  have htn : p.sz.toNat = t := by omega
  have htop : p.va + bytesI (t : Int) ≤ 18446744073709551616 := by
    have h1 := base_top p.va p.sz v0 v1
    have h2 : baseI p.va p.sz = p.va := by
      unfold startsB at ha; simp only [Bool.and_eq_true, decide_eq_true_eq] at ha
      unfold baseI; rw [if_pos hz]
      have := Int.mul_ediv_add_emod p.va (bytesI p.sz)
      rw [ha.2] at this; rw [Int.mul_comm]; omega
    rw [h2, ht] at h1; exact h1
  have CB := Lib.hid (fun (z : Nat) (w : World) => bytes_any (z : Int) w)
  have CG := Lib.hid (fun (z j : Nat) (hk : (⟨s, p.va + (j : Int) * bytesI (z : Int), (z : Int)⟩ : Ky).wf) (W : World) (h : HG w W hb sb bm n ns bl L V w.heap.size p) => get_any _ hk W h.hr.tab)
  have HPT := Lib.hid ht
  have HTN := Lib.hid htn
  clear h ha ht htn hz3
  go_enter Tryz.func96, Tryz.ntmps96
  go_wp2_with fail
  generalize World.alloc w _ = W at *
  -- holds' walk
  have cmp0 : ∀ wr, HG w wr hb sb bm n ns bl L V w.heap.size p → wr.cell? ⟨w.heap.size, 1, none⟩ = some (.int .i64 (t : Int)) := fun wr h => by rw [← HPT.out]; exact h.cs.2.2.1
  have CS := Lib.hid cmp0
  have y1 := cmp0 _ G
  clear cmp0
  go_wp2_with fail
  go_loopg [14] t (fun gk i wr => ∃ z : Nat, z + gk = t ∧ i = .int .i64 (z : Int) ∧ (∀ i, i < z → holdZ n L s p i = false) ∧ HG w wr hb sb bm n ns bl L V w.heap.size p)
  case atStart => exact ⟨0, by omega, rfl, fun i h => absurd h (Nat.not_lt_zero _), G⟩
  case round =>
    clear G y1
    obtain ⟨z, hz0, rfl, hno, G⟩ := hrel
    by_cases hzt : z < t
    · have hzt' : (z : Int) < p.sz := by rw [HPT.out]; omega
      have hnz := Lib.hid hno
      clear hno
      have hsl := slots_eq ht4 (Nat.le_of_lt hzt)
      have hbz : 8192 ≤ bytesI (z : Int) := bytes_pos (sizeB_mk (by omega))
      have hbt : bytesI (t : Int) ≤ 4194304 := (bytes_bd _).2
      have CBz := Lib.hid (CB.out z)
      have CBt := Lib.hid (CB.out t)
      have CGz := Lib.hid (CG.out z)
      have hB0 : ∃ Bz, Bz = bytesI (z : Int) := ⟨_, rfl⟩
      obtain ⟨Bz, hBz⟩ := hB0
      obtain ⟨Bt, hBt⟩ : ∃ Bt, Bt = bytesI (t : Int) := ⟨_, rfl⟩
      rw [← hBz] at hsl hbz CBz CGz
      rw [← hBt] at hsl hbt CBt htop
      have HBz := Lib.hid hBz
      clear hBz hBt CB CG
      have HMUL := Lib.hid (show ∀ j : Nat, j < slots t z → (j : Int) * Bz + Bz ≤ Bt ∧ 0 ≤ (j : Int) * Bz ∧ ((j + 1 : Nat) : Int) * Bz = (j : Int) * Bz + Bz from fun j hj => by
        have e1 : ((j + 1 : Nat) : Int) * Bz = (j : Int) * Bz + Bz := by rw [Int.natCast_add, Int.add_mul]; simp
        have e2 : ((j + 1 : Nat) : Int) * Bz ≤ (slots t z : Int) * Bz := Int.mul_le_mul_of_nonneg_right (by omega) (by omega)
        have e3 : 0 ≤ (j : Int) * Bz := Int.mul_nonneg (by omega) (by omega)
        exact ⟨by omega, e3, e1⟩)
      have HSL := Lib.hid hsl
      clear hsl
      have y1 := CS.out _ G
      go_wp2_with fail
      go_loopg [8] (slots t z) (fun gj f wr => ∃ j : Nat, j + gj = slots t z ∧ f = .int .u64 ((j : Int) * Bz) ∧ (∀ i, i < j → slotB n L s p z i = false) ∧ HG w wr hb sb bm n ns bl L V w.heap.size p)
      case atStart => exact ⟨0, by omega, by simp, fun i h => absurd h (Nat.not_lt_zero _), G⟩
      case round =>
        clear G y1
        obtain ⟨j, hj, rfl, hno, G⟩ := hrel
        have y1 := CS.out _ G
        by_cases hlt : j < slots t z
        · obtain ⟨m1, m2, m3⟩ := HMUL.out j hlt
          have hJ1 := Lib.hid m3
          have hno' := Lib.hid hno
          have hkw : (⟨s, p.va + (j : Int) * Bz, (z : Int)⟩ : Ky).wf := ⟨s0, s1, by show 0 ≤ p.va + (j : Int) * Bz; omega, by show p.va + (j : Int) * Bz ≤ _; omega, by show -9223372036854775808 ≤ (z : Int); omega, by show (z : Int) ≤ _; omega⟩
          have CGj := Lib.hid (CGz.out j hkw)
          obtain ⟨B, hB⟩ : ∃ B, B = getB n L ⟨s, p.va + (j : Int) * Bz, (z : Int)⟩ := ⟨_, rfl⟩
          obtain ⟨x, hx⟩ : ∃ B, B = getV n L ⟨s, p.va + (j : Int) * Bz, (z : Int)⟩ := ⟨_, rfl⟩
          rw [← hB, ← hx] at CGj
          have HX := Lib.hid (show B = slotB n L s p z j by rw [hB, HBz.out]; rfl)
          clear hno m3 hB hx hkw
          generalize hF : (j : Int) * Bz = F at *
          have hF' := Lib.hid hF
          have hlt' : F < Bt := by omega
          have HWR := Lib.hid (show IntKind.u64.wrap (p.va + F) = p.va + F by rw [IntKind.wrap_u64]; omega)
          clear hF
          go_wp2_with (first | (go_at_call 123; refine (CBt.out _).mono ?_; rintro e w9 ⟨rfl, rfl⟩))
          have hS := G.c2
          go_region_held3 (fun w1 => w1.cell? ⟨hb, 1, none⟩ = some (.pointer (some ⟨sb, 0, none⟩)) ∧ w1.cell? ⟨w.heap.size, 0, none⟩ = some (.int .u64 p.va))
            ((refine (HG.c2 (HG.low G ?_)); (repeat (first | (with_reducible assumption) | (with_reducible exact Below.refl _ _) | (with_reducible refine lo_step ?_ (by assumption)) | (with_reducible refine lo_drew ?_) | (with_reducible refine lo_drewN ?_ _) | (with_reducible refine lo_alloc ?_ _) | (with_reducible refine lo_set ?_ ?_ _) | (exact Nat.le_refl _) | (exact hs2 _ (Nat.le_refl _)) | (exact hb'.size))) ))
            (first
              | (go_at_call 50; rw [HWR.out]; (with_reducible refine (CGj.out _ (HG.low G (by (repeat (first | (with_reducible assumption) | (with_reducible exact Below.refl _ _) | (with_reducible refine lo_step ?_ (by assumption)) | (with_reducible refine lo_drew ?_) | (with_reducible refine lo_drewN ?_ _) | (with_reducible refine lo_alloc ?_ _) | (with_reducible refine lo_set ?_ ?_ _) | (exact Nat.le_refl _) | (exact hs2 _ (Nat.le_refl _)) | (exact hb'.size))) ))).mono ?_); rintro e w' ⟨rfl, hb'⟩; obtain ⟨hc, hf, hs1, hs2⟩ := bfacts hb'))
          · have HW := HG.low G (show Below wr.heap.size wr (w'.alloc (.cells #[.int .u64 x.va, .int .i64 x.sz, .int .u64 x.pa, .bool x.att.write, .bool x.att.priv, .bool x.att.exec, .bool x.att.lock, .bool x.att.global, .bool x.att.quiet, .bool x.ref, .bool x.mod] 38)) by (repeat (first | (with_reducible assumption) | (with_reducible exact Below.refl _ _) | (with_reducible refine lo_step ?_ (by assumption)) | (with_reducible refine lo_drew ?_) | (with_reducible refine lo_drewN ?_ _) | (with_reducible refine lo_alloc ?_ _) | (with_reducible refine lo_set ?_ ?_ _) | (exact Nat.le_refl _) | (exact hs2 _ (Nat.le_refl _)) | (exact hb'.size))) )
            generalize World.alloc w' _ = Wf at *
            have HW' := Lib.hid HW
            cases B
            · clear HW hb' hc hf hs1 hs2
              go_wp2_with (first | (go_at_call 123; refine (CBz.out _).mono ?_; rintro e w9 ⟨rfl, rfl⟩))
              go_roundg (slots t z - j - 1)
              case measure => omega
              case rel => exact ⟨j + 1, by omega, by rw [hJ1.out], fun i hi => (by by_cases e : i = j; rw [e]; exact HX.out.symm; exact hno'.out i (by omega)), HW'.out⟩
            · have eS : firstN (slotB n L s p z) (slots t z) = j := first_here hlt hno'.out HX.out.symm
              have eZ : holdZ n L s p z = true := by unfold holdZ; rw [HTN.out, eS, decide_eq_true hlt]
              have eH : firstN (holdZ n L s p) t = z := first_here hzt hnz.out eZ
              have eB := Lib.hid (show holdB n L s p = true by unfold holdB; rw [HTN.out, eH, decide_eq_true hzt])
              clear eS eZ eH HW hb' hc hf hs1 hs2
              go_wp2_with fail
              go_ret
              exact ⟨ret_bool eB.out.symm, HW'.out.lo⟩

          · have R2 : RowP w' wr.heap.size Pg.zero := by first | exact RowP.low (RowP.new _ Pg.zero) hb' | exact RowP.low (RowP.drew (RowP.new _ Pg.zero)) hb'
            have BB : Below wr.heap.size wr w' := by (repeat (first | (with_reducible assumption) | (with_reducible exact Below.refl _ _) | (with_reducible refine lo_step ?_ (by assumption)) | (with_reducible refine lo_drew ?_) | (with_reducible refine lo_drewN ?_ _) | (with_reducible refine lo_alloc ?_ _) | (with_reducible refine lo_set ?_ ?_ _) | (exact Nat.le_refl _) | (exact hs2 _ (Nat.le_refl _)) | (exact hb'.size))) 
            have HW := HG.low G (BB.trans ((R2.setAll x).2 _ (Nat.le_refl _)))
            clear R2 BB
            generalize World.setCell _ _ _ = Wf at *
            have HW' := Lib.hid HW
            cases B
            · clear HW hb' hc hf hs1 hs2
              go_wp2_with (first | (go_at_call 123; refine (CBz.out _).mono ?_; rintro e w9 ⟨rfl, rfl⟩))
              go_roundg (slots t z - j - 1)
              case measure => omega
              case rel => exact ⟨j + 1, by omega, by rw [hJ1.out], fun i hi => (by by_cases e : i = j; rw [e]; exact HX.out.symm; exact hno'.out i (by omega)), HW'.out⟩
            · have eS : firstN (slotB n L s p z) (slots t z) = j := first_here hlt hno'.out HX.out.symm
              have eZ : holdZ n L s p z = true := by unfold holdZ; rw [HTN.out, eS, decide_eq_true hlt]
              have eH : firstN (holdZ n L s p) t = z := first_here hzt hnz.out eZ
              have eB := Lib.hid (show holdB n L s p = true by unfold holdB; rw [HTN.out, eH, decide_eq_true hzt])
              clear eS eZ eH HW hb' hc hf hs1 hs2
              go_wp2_with fail
              go_ret
              exact ⟨ret_bool eB.out.symm, HW'.out.lo⟩

        · obtain rfl : j = slots t z := by omega
          have eS : firstN (slotB n L s p z) (slots t z) = slots t z := first_none hno
          have eZ : holdZ n L s p z = false := by unfold holdZ; rw [HTN.out, eS]; simp
          have hcmp : ¬ ((slots t z : Nat) : Int) * Bz < Bt := by rw [HSL.out]; omega
          have HH := Lib.hid (show ∀ i, i < z + 1 → holdZ n L s p i = false from fun i hi => by by_cases e : i = z; rw [e]; exact eZ; exact hnz.out i (by omega))
          clear eS eZ hno
          generalize ((slots t z : Nat) : Int) * Bz = F at *
          go_wp2_with (first | (go_at_call 123; refine (CBt.out _).mono ?_; rintro e w9 ⟨rfl, rfl⟩))
          go_roundg (t - z - 1)
          case measure => omega
          case rel => exact ⟨z + 1, by omega, by go_num, HH.out, G⟩
    · obtain rfl : z = t := by omega
      have eH : firstN (holdZ n L s p) z = z := first_none hno
      have eB := Lib.hid (show holdB n L s p = false by unfold holdB; rw [HTN.out, eH]; simp)
      have hlo := G.lo
      have hge : ¬ (z : Int) < p.sz := by rw [HPT.out]; omega
      clear eH hno G
      go_wp2_with fail
      go_ret
      exact ⟨ret_bool eB.out.symm, hlo⟩
-- holds' end
end Go.Proofs.YtffpfceclhogoaaGreat.Hp
namespace Go.Proofs.YtffpfceclhogoaaGreat.Hp
open Fld Hs
open Go.ChangeShapes Go.WideShapes Go.ChangeAt Go.RowKit Go.Maps
set_option maxHeartbeats 1000000
set_option maxRecDepth 100000
theorem meets_any {hb sb bm n : Nat} {ns bl : Int} {L : Nat → List Bk} {V : Nat → Value} (s : Int) (p : Pg) (s0 : -9223372036854775808 ≤ s) (s1 : s ≤ 9223372036854775807) (hp : p.wf) (hz : sizeB p.sz = true) (ha : startsB p.va p.sz = true) (w : World) (h : HR w hb sb bm n ns bl L V) :
    Calls Tryz.prog 63 #[.pointer (some ⟨hb, 0, none⟩), .int .i64 s, .agg #[.int .u64 p.va, .int .i64 p.sz, .int .u64 p.pa, .bool p.att.write, .bool p.att.priv, .bool p.att.exec, .bool p.att.lock, .bool p.att.global, .bool p.att.quiet, .bool p.ref, .bool p.mod]] w fun e w' => e = .returned (.bool (meetsB ns n L s p)) ∧ Below w.heap.size w w' := by
  have G : HG w (w.alloc (.cells #[.int .u64 p.va, .int .i64 p.sz, .int .u64 p.pa, .bool p.att.write, .bool p.att.priv, .bool p.att.exec, .bool p.att.lock, .bool p.att.global, .bool p.att.quiet, .bool p.ref, .bool p.mod] 38)) hb sb bm n ns bl L V w.heap.size p := ⟨h.alloc _, RowP.new w p, by (repeat (first | (with_reducible assumption) | (with_reducible exact Below.refl _ _) | (with_reducible refine lo_step ?_ (by assumption)) | (with_reducible refine lo_drew ?_) | (with_reducible refine lo_drewN ?_ _) | (with_reducible refine lo_alloc ?_ _))) ⟩
  have v0 := hp.v0
  have v1 := hp.v1
  have CF := Lib.hid (fun (W : World) (h : HG w W hb sb bm n ns bl L V w.heap.size p) => hfind_any s p.va s0 s1 v0 v1 W h.hr)
  have CH := Lib.hid (fun (W : World) (h : HG w W hb sb bm n ns bl L V w.heap.size p) => holds_any s p s0 s1 hp hz ha W h.hr)
  have hM := Lib.hid (show meetsB ns n L s p = (findB ns n L s p.va || holdB n L s p) from rfl)
  generalize findV ns n L s p.va = x at *
  generalize findN ns n L s p.va = N at *
  generalize findB ns n L s p.va = B at *
  generalize holdB n L s p = D at *
  clear h hz ha hp
  go_enter Tryz.func63, Tryz.ntmps63
  go_wp2_with fail
  generalize World.alloc w _ = W at *
  obtain ⟨c1, y0, y1, y2, y3, y4, y5, y6, y7, y8, y9, y10⟩ := G.cs
  refine (CF.out _ G).mono ?_; rintro e w1 ⟨rfl, hb1⟩
  have G1 := G.low hb1
  have hlo := G1.lo
  have G2 := G1.low (w' := w1.alloc (.cells #[.int .u64 x.va, .int .i64 x.sz, .int .u64 x.pa, .bool x.att.write, .bool x.att.priv, .bool x.att.exec, .bool x.att.lock, .bool x.att.global, .bool x.att.quiet, .bool x.ref, .bool x.mod] 38)) (by (repeat (first | (with_reducible assumption) | (with_reducible exact Below.refl _ _) | (with_reducible refine lo_step ?_ (by assumption)) | (with_reducible refine lo_drew ?_) | (with_reducible refine lo_drewN ?_ _) | (with_reducible refine lo_alloc ?_ _))) )
  have hlo2 := G2.lo
  clear c1 y0 y1 y2 y3 y4 y5 y6 y7 y8 y9 y10
  obtain ⟨c1, y0, y1, y2, y3, y4, y5, y6, y7, y8, y9, y10⟩ := G2.cs
  cases B
  · clear G G1 hb1
    go_wp2_with fail
    refine (CH.out _ G2).mono ?_; rintro e w3 ⟨rfl, hb3⟩
    go_wp2_with fail
    go_ret
    exact ⟨ret_bool (by rw [hM.out]; rfl), lo_step hlo2 hb3⟩
  · clear G G1 hb1 c1
    go_wp2_with fail
    go_ret
    exact ⟨ret_bool (by rw [hM.out]; rfl), hlo2⟩
/-- A hat and a page in a box: what May reads. -/
theorem hmay_any {hb sb bm n : Nat} {ns bl : Int} {L : Nat → List Bk} {V : Nat → Value} (s : Int) (p : Pg) (s0 : -9223372036854775808 ≤ s) (s1 : s ≤ 9223372036854775807) (hp : p.wf) (w : World) (h : HR w hb sb bm n ns bl L V) :
    Calls Tryz.prog 24 #[.pointer (some ⟨hb, 0, none⟩), .int .i64 s, .agg #[.int .u64 p.va, .int .i64 p.sz, .int .u64 p.pa, .bool p.att.write, .bool p.att.priv, .bool p.att.exec, .bool p.att.lock, .bool p.att.global, .bool p.att.quiet, .bool p.ref, .bool p.mod]] w fun e w' => e = .returned (.int .i64 (mayE ns bl n L s p)) ∧ Below w.heap.size w w' := by
  have G : HG w (w.alloc (.cells #[.int .u64 p.va, .int .i64 p.sz, .int .u64 p.pa, .bool p.att.write, .bool p.att.priv, .bool p.att.exec, .bool p.att.lock, .bool p.att.global, .bool p.att.quiet, .bool p.ref, .bool p.mod] 38)) hb sb bm n ns bl L V w.heap.size p := ⟨h.alloc _, RowP.new w p, by (repeat (first | (with_reducible assumption) | (with_reducible exact Below.refl _ _) | (with_reducible refine lo_step ?_ (by assumption)) | (with_reducible refine lo_drew ?_) | (with_reducible refine lo_drewN ?_ _) | (with_reducible refine lo_alloc ?_ _))) ⟩
  have v0 := hp.v0
  have v1 := hp.v1
  have hfew := h.tab.few
  have hb1 := h.tab.b1
  have C1 := Lib.hid (fun (W : World) (h : HG w W hb sb bm n ns bl L V w.heap.size p) => has_any s W h.hr)
  have C2 := Lib.hid (fun (W : World) => pmay_any p.sz W)
  have C3 := Lib.hid (fun (W : World) => maypa_any p hp W)
  have C4 := Lib.hid (fun (W : World) => hole_any p.va v0 v1 W)
  have C5 := Lib.hid (fun (W : World) => starts_any p.va p.sz v0 v1 W)
  have C6 := Lib.hid (fun (hz : sizeB p.sz = true) (ha : startsB p.va p.sz = true) (W : World) (h : HG w W hb sb bm n ns bl L V w.heap.size p) => meets_any s p s0 s1 hp hz ha W h.hr)
  have C7 := Lib.hid (fun (W : World) (h : HG w W hb sb bm n ns bl L V w.heap.size p) => hfree_any W h.hr)
  have hM := Lib.hid (show mayE ns bl n L s p = if (isB ns s && sizeB p.sz && mayPaB p) = false then 1 else if holeB p.va then 3 else if startsB p.va p.sz = false then 4 else if meetsB ns n L s p then 9 else if bl - (lenL L n : Int) = 0 then 6 else 0 from rfl)
  obtain ⟨E, hE⟩ : ∃ E, E = mayE ns bl n L s p := ⟨_, rfl⟩
  rw [← hE] at hM ⊢
  clear hE h hp
  cases b1 : isB ns s
  · rw [b1] at C1 hM
    go_enter Tryz.func24, Tryz.ntmps24
    go_wp2_with fail
    generalize World.alloc w _ = W at *
    refine (C1.out _ G).mono ?_; rintro e w1 ⟨rfl, rfl⟩
    have hlo := G.lo
    clear G
    go_wp2_with fail
    go_ret
    exact ⟨ret_int hM.out.symm, hlo⟩
  rw [b1] at C1 hM
  cases b2 : sizeB p.sz
  · rw [b2] at C2 hM
    go_enter Tryz.func24, Tryz.ntmps24
    go_wp2_with fail
    generalize World.alloc w _ = W at *
    refine (C1.out _ G).mono ?_; rintro e w1 ⟨rfl, rfl⟩
    have hlo := G.lo
    obtain ⟨c1, y0, y1, y2, y3, y4, y5, y6, y7, y8, y9, y10⟩ := G.cs
    clear G
    go_wp2_with fail
    refine (C2.out _).mono ?_; rintro e w2 ⟨rfl, rfl⟩
    go_wp2_with fail
    go_ret
    exact ⟨ret_int hM.out.symm, hlo⟩
  have C6' := Lib.hid (C6.out b2)
  rw [b2] at C2 hM
  cases b3 : mayPaB p
  · rw [b3] at C3 hM
    go_enter Tryz.func24, Tryz.ntmps24
    go_wp2_with fail
    generalize World.alloc w _ = W at *
    refine (C1.out _ G).mono ?_; rintro e w1 ⟨rfl, rfl⟩
    obtain ⟨c1, y0, y1, y2, y3, y4, y5, y6, y7, y8, y9, y10⟩ := G.cs
    go_wp2_with fail
    refine (C2.out _).mono ?_; rintro e w2 ⟨rfl, rfl⟩
    go_wp2_with fail
    refine (C3.out _).mono ?_; rintro e w3 ⟨rfl, hb3⟩
    have hlo := (G.low hb3).lo
    clear G
    go_wp2_with fail
    go_ret
    exact ⟨ret_int hM.out.symm, hlo⟩
  rw [b3] at C3 hM
  go_enter Tryz.func24, Tryz.ntmps24
  go_wp2_with fail
  generalize World.alloc w _ = W at *
  refine (C1.out _ G).mono ?_; rintro e w1 ⟨rfl, rfl⟩
  obtain ⟨c1, y0, y1, y2, y3, y4, y5, y6, y7, y8, y9, y10⟩ := G.cs
  go_wp2_with fail
  refine (C2.out _).mono ?_; rintro e w2 ⟨rfl, rfl⟩
  go_wp2_with fail
  refine (C3.out _).mono ?_; rintro e w3 ⟨rfl, hb3⟩
  have G3 := G.low hb3
  clear G hb3 c1 y0 y1 y2 y3 y4 y5 y6 y7 y8 y9 y10
  obtain ⟨c1, y0, y1, y2, y3, y4, y5, y6, y7, y8, y9, y10⟩ := G3.cs
  go_wp2_with fail
  refine (C4.out _).mono ?_; rintro e w4 ⟨rfl, m4, rfl⟩
  have G4 := G3.drewN m4
  clear G3 c1 y0 y1 y2 y3 y4 y5 y6 y7 y8 y9 y10
  generalize World.drewN _ _ = W4 at *
  obtain ⟨c1, y0, y1, y2, y3, y4, y5, y6, y7, y8, y9, y10⟩ := G4.cs
  cases b4 : holeB p.va
  · rw [b4] at hM
    cases b5 : startsB p.va p.sz
    · rw [b5] at C5 hM
      go_wp2_with fail
      refine (C5.out _).mono ?_; rintro e w5 ⟨rfl, m5, rfl⟩
      have hlo := (G4.drewN m5).lo
      clear G4
      go_wp2_with fail
      go_ret
      exact ⟨ret_int hM.out.symm, hlo⟩
    · have C6'' := Lib.hid (C6'.out b5)
      rw [b5] at C5 hM
      go_wp2_with fail
      refine (C5.out _).mono ?_; rintro e w5 ⟨rfl, m5, rfl⟩
      have G5 := G4.drewN m5
      clear G4 c1 y0 y1 y2 y3 y4 y5 y6 y7 y8 y9 y10
      generalize World.drewN _ _ = W5 at *
      obtain ⟨c1, y0, y1, y2, y3, y4, y5, y6, y7, y8, y9, y10⟩ := G5.cs
      go_wp2_with fail
      refine (C6''.out _ G5).mono ?_; rintro e w6 ⟨rfl, hb6⟩
      have G6 := G5.low hb6
      clear G5 hb6 c1 y0 y1 y2 y3 y4 y5 y6 y7 y8 y9 y10
      cases b6 : meetsB ns n L s p
      · rw [b6] at hM
        go_wp2_with fail
        refine (C7.out _ G6).mono ?_; rintro e w7 ⟨rfl, m7, rfl⟩
        have hlo := (G6.drewN m7).lo
        clear G6
        by_cases hf : bl - (lenL L n : Int) = 0
        · rw [if_pos hf] at hM
          rw [hf]
          go_wp2_with fail
          go_ret
          exact ⟨ret_int hM.out.symm, hlo⟩
        · rw [if_neg hf] at hM
          go_wp2_with fail
          go_ret
          exact ⟨ret_int hM.out.symm, hlo⟩
      · rw [b6] at hM
        have hlo := G6.lo
        clear G6
        go_wp2_with fail
        go_ret
        exact ⟨ret_int hM.out.symm, hlo⟩
  · rw [b4] at hM
    have hlo := G4.lo
    clear G4
    go_wp2_with fail
    go_ret
    exact ⟨ret_int hM.out.symm, hlo⟩
end Go.Proofs.YtffpfceclhogoaaGreat.Hp
namespace Go.Proofs.YtffpfceclhogoaaGreat.Hp
open Fld Hs
open Go.ChangeShapes Go.WideShapes Go.ChangeAt Go.RowKit Go.Maps
set_option maxHeartbeats 1000000
set_option maxRecDepth 100000
/-- A hat; its table's own blocks are O. -/
structure HX (w : World) (hb sb n : Nat) (O : Nat → Prop) (ns bl : Int) (L : Nat → List Bk) : Prop where
  tab : Tab w sb O n bl L
  row : w.heap[hb]? = some (.cells #[.int .i64 ns, .pointer (some ⟨sb, 0, none⟩)] 67 (0, 0))
  no : ¬ O hb
  s0 : 0 ≤ ns
  s1 : ns ≤ 64
section
variable {u w w' w1 : World} {hb sb n pb : Nat} {p : Pg} {O : Nat → Prop} {ns bl : Int} {L L' : Nat → List Bk}
theorem HX.low (h : HX w hb sb n O ns bl L) (hb' : Below w.heap.size w w') : HX w' hb sb n O ns bl L := ⟨h.tab.below hb' (Nat.le_refl _), blk_low h.row hb', h.no, h.s0, h.s1⟩
theorem HX.read (h : HX w hb sb n O ns bl L) : ∃ bm V, HR w hb sb bm n ns bl L V := by
  obtain ⟨bm, V, t, _⟩ := h.tab; exact ⟨bm, V, t, h.row, h.s0, h.s1⟩
theorem HX.facts (h : HX w hb sb n O ns bl L) : Good n L ∧ 1 ≤ n ∧ n ≤ 9223372036854775807 ∧ (lenL L n : Int) ≤ bl ∧ bl ≤ 1073741824 := by
  obtain ⟨bm, V, t, _⟩ := h.tab; exact ⟨t.good, t.n0, t.n1, t.few, t.b1⟩
theorem HX.cells (h : HX w hb sb n O ns bl L) : w.cell? ⟨hb, 0, none⟩ = some (.int .i64 ns) ∧ w.cell? ⟨hb, 1, none⟩ = some (.pointer (some ⟨sb, 0, none⟩)) := by
  obtain ⟨bm, V, t⟩ := h.read; exact t.cells
theorem TabTo.from_ {n' : Nat} (hb : Below w.heap.size w w1) (k : TabTo w1 w' sb O n' bl L') : TabTo w w' sb O n' bl L' := by
  obtain ⟨O', k1, k2, k3⟩ := k
  exact ⟨O', k1, (Turn.low O hb).trans k2 (fun k hk => .inl hk), fun k hk => (k3 k hk).imp id (Nat.le_trans hb.size)⟩
theorem TabTo.on {n' : Nat} (k : TabTo w w1 sb O n' bl L') (hb : Below w1.heap.size w1 w') : TabTo w w' sb O n' bl L' := by
  obtain ⟨O', k1, k2, k3⟩ := k
  exact ⟨O', k1.below hb (Nat.le_refl _), k2.below hb, k3⟩
/-- A hat behind what was done to its table. -/
theorem HX.turned {n' : Nat} (h : HX w hb sb n O ns bl L) (k : TabTo w w' sb O n' bl L') : ∃ O', HX w' hb sb n' O' ns bl L' ∧ Turn w w' O ∧ ∀ k, O' k → O k ∨ w.heap.size ≤ k := by
  obtain ⟨O', k1, k2, k3⟩ := k
  have hl := (Array.getElem?_eq_some_iff.1 h.row).1
  exact ⟨O', ⟨k1, (k2.block hb hl h.no).trans h.row, fun e => (k3 hb e).elim h.no (by omega), h.s0, h.s1⟩, k2, k3⟩
end
/-- A hat and a page in a box, before the table is turned. -/
structure HM (u w : World) (hb sb n : Nat) (O : Nat → Prop) (ns bl : Int) (L : Nat → List Bk) (pb : Nat) (p : Pg) : Prop where
  hx : HX w hb sb n O ns bl L
  pg : RowP w pb p
  lo : Below u.heap.size u w
  ul : ∀ k, O k → k < u.heap.size
  pl : u.heap.size ≤ pb
section
variable {u w w' : World} {hb sb n pb : Nat} {p : Pg} {O : Nat → Prop} {ns bl : Int} {L L' : Nat → List Bk}
theorem HM.low (h : HM u w hb sb n O ns bl L pb p) (hb' : Below w.heap.size w w') : HM u w' hb sb n O ns bl L pb p := ⟨h.hx.low hb', h.pg.low hb', lo_step h.lo hb', h.ul, h.pl⟩
theorem HM.cs (h : HM u w hb sb n O ns bl L pb p) : w.cell? ⟨hb, 1, none⟩ = some (.pointer (some ⟨sb, 0, none⟩)) ∧ w.cell? ⟨pb, 0, none⟩ = some (.int .u64 p.va) ∧ w.cell? ⟨pb, 1, none⟩ = some (.int .i64 p.sz) ∧ w.cell? ⟨pb, 2, none⟩ = some (.int .u64 p.pa) ∧ w.cell? ⟨pb, 3, none⟩ = some (.bool p.att.write) ∧ w.cell? ⟨pb, 4, none⟩ = some (.bool p.att.priv) ∧ w.cell? ⟨pb, 5, none⟩ = some (.bool p.att.exec) ∧ w.cell? ⟨pb, 6, none⟩ = some (.bool p.att.lock) ∧ w.cell? ⟨pb, 7, none⟩ = some (.bool p.att.global) ∧ w.cell? ⟨pb, 8, none⟩ = some (.bool p.att.quiet) ∧ w.cell? ⟨pb, 9, none⟩ = some (.bool p.ref) ∧ w.cell? ⟨pb, 10, none⟩ = some (.bool p.mod) := ⟨h.hx.cells.2, h.pg.cells⟩
theorem HM.keep {n' : Nat} (h : HM u w hb sb n O ns bl L pb p) (k : TabTo w w' sb O n' bl L') : w'.cell? ⟨hb, 1, none⟩ = some (.pointer (some ⟨sb, 0, none⟩)) ∧ w'.cell? ⟨pb, 0, none⟩ = some (.int .u64 p.va) ∧ w'.cell? ⟨pb, 1, none⟩ = some (.int .i64 p.sz) ∧ w'.cell? ⟨pb, 2, none⟩ = some (.int .u64 p.pa) ∧ w'.cell? ⟨pb, 3, none⟩ = some (.bool p.att.write) ∧ w'.cell? ⟨pb, 4, none⟩ = some (.bool p.att.priv) ∧ w'.cell? ⟨pb, 5, none⟩ = some (.bool p.att.exec) ∧ w'.cell? ⟨pb, 6, none⟩ = some (.bool p.att.lock) ∧ w'.cell? ⟨pb, 7, none⟩ = some (.bool p.att.global) ∧ w'.cell? ⟨pb, 8, none⟩ = some (.bool p.att.quiet) ∧ w'.cell? ⟨pb, 9, none⟩ = some (.bool p.ref) ∧ w'.cell? ⟨pb, 10, none⟩ = some (.bool p.mod) := by
  obtain ⟨O', hx', hT, _⟩ := h.hx.turned k
  have hl := (Array.getElem?_eq_some_iff.1 h.pg.row).1
  have hp : RowP w' pb p := ⟨(hT.block pb hl (fun e => by have := h.ul pb e; have := h.pl; omega)).trans h.pg.row⟩
  exact ⟨hx'.cells.2, hp.cells⟩
theorem HM.new (h : HX w hb sb n O ns bl L) (p : Pg) : HM w (w.alloc (.cells #[.int .u64 p.va, .int .i64 p.sz, .int .u64 p.pa, .bool p.att.write, .bool p.att.priv, .bool p.att.exec, .bool p.att.lock, .bool p.att.global, .bool p.att.quiet, .bool p.ref, .bool p.mod] 38)) hb sb n O ns bl L w.heap.size p :=
  ⟨h.low (by (repeat (first | (with_reducible assumption) | (with_reducible exact Below.refl _ _) | (with_reducible refine lo_step ?_ (by assumption)) | (with_reducible refine lo_drew ?_) | (with_reducible refine lo_drewN ?_ _) | (with_reducible refine lo_alloc ?_ _))) ), RowP.new w p, by (repeat (first | (with_reducible assumption) | (with_reducible exact Below.refl _ _) | (with_reducible refine lo_step ?_ (by assumption)) | (with_reducible refine lo_drew ?_) | (with_reducible refine lo_drewN ?_ _) | (with_reducible refine lo_alloc ?_ _))) , fun k hk => h.tab.lt hk, Nat.le_refl _⟩
end
def mapE (ns bl : Int) (n : Nat) (L : Nat → List Bk) (s : Int) (p : Pg) : Int := if mayE ns bl n L s p = 0 then putE bl n L (keyP s p) else mayE ns bl n L s p
def mapT (ns bl : Int) (n : Nat) (L : Nat → List Bk) (s : Int) (p : Pg) : Nat → List Bk := if mayE ns bl n L s p = 0 then putT bl n L (keyP s p) p else L
theorem map_any {hb sb n : Nat} {O : Nat → Prop} {ns bl : Int} {L : Nat → List Bk} (s : Int) (p : Pg) (s0 : -9223372036854775808 ≤ s) (s1 : s ≤ 9223372036854775807) (hp : p.wf) (w : World) (h : HX w hb sb n O ns bl L) :
    Calls Tryz.prog 25 #[.pointer (some ⟨hb, 0, none⟩), .int .i64 s, .agg #[.int .u64 p.va, .int .i64 p.sz, .int .u64 p.pa, .bool p.att.write, .bool p.att.priv, .bool p.att.exec, .bool p.att.lock, .bool p.att.global, .bool p.att.quiet, .bool p.ref, .bool p.mod]] w fun e w' => e = .returned (.int .i64 (mapE ns bl n L s p)) ∧ TabTo w w' sb O n bl (mapT ns bl n L s p) := by
  have M := HM.new h p
  have hx := h
  have C1 := Lib.hid (fun (W : World) (h : HM w W hb sb n O ns bl L w.heap.size p) => (by
    obtain ⟨bm, V, h1⟩ := h.hx.read
    exact hmay_any s p s0 s1 hp W h1 : Calls Tryz.prog 24 #[.pointer (some ⟨hb, 0, none⟩), .int .i64 s, .agg #[.int .u64 p.va, .int .i64 p.sz, .int .u64 p.pa, .bool p.att.write, .bool p.att.priv, .bool p.att.exec, .bool p.att.lock, .bool p.att.global, .bool p.att.quiet, .bool p.ref, .bool p.mod]] W fun e w' => e = .returned (.int .i64 (mayE ns bl n L s p)) ∧ Below W.heap.size W w'))
  have C2 := Lib.hid (fun (W : World) => hkey_any s p W)
  have C3 := Lib.hid (fun (W : World) (h : HM w W hb sb n O ns bl L w.heap.size p) => put_any (keyP s p) (keyP_wf s0 s1 hp) p W h.hx.tab)
  have hE := Lib.hid (show mapE ns bl n L s p = if mayE ns bl n L s p = 0 then putE bl n L (keyP s p) else mayE ns bl n L s p from rfl)
  have hT := Lib.hid (show mapT ns bl n L s p = if mayE ns bl n L s p = 0 then putT bl n L (keyP s p) p else L from rfl)
  generalize hq : mayE ns bl n L s p = E at *
  clear hq h hp
  by_cases h0 : E = 0
  · subst h0
    rw [if_pos rfl] at hE hT
    go_enter Tryz.func25, Tryz.ntmps25
    go_wp2_with fail
    generalize World.alloc w _ = W at *
    obtain ⟨c1, y0, y1, y2, y3, y4, y5, y6, y7, y8, y9, y10⟩ := M.cs
    refine (C1.out _ M).mono ?_; rintro e w1 ⟨rfl, hb1⟩
    have M1 := M.low hb1
    clear M hb1 c1 y0 y1 y2 y3 y4 y5 y6 y7 y8 y9 y10
    go_wp2_with fail
    have hS := M1.cs
    go_region_held3 (fun w1 => w1.cell? ⟨hb, 1, none⟩ = some (.pointer (some ⟨sb, 0, none⟩)) ∧ w1.cell? ⟨w.heap.size, 0, none⟩ = some (.int .u64 p.va) ∧ w1.cell? ⟨w.heap.size, 1, none⟩ = some (.int .i64 p.sz) ∧ w1.cell? ⟨w.heap.size, 2, none⟩ = some (.int .u64 p.pa) ∧ w1.cell? ⟨w.heap.size, 3, none⟩ = some (.bool p.att.write) ∧ w1.cell? ⟨w.heap.size, 4, none⟩ = some (.bool p.att.priv) ∧ w1.cell? ⟨w.heap.size, 5, none⟩ = some (.bool p.att.exec) ∧ w1.cell? ⟨w.heap.size, 6, none⟩ = some (.bool p.att.lock) ∧ w1.cell? ⟨w.heap.size, 7, none⟩ = some (.bool p.att.global) ∧ w1.cell? ⟨w.heap.size, 8, none⟩ = some (.bool p.att.quiet) ∧ w1.cell? ⟨w.heap.size, 9, none⟩ = some (.bool p.ref) ∧ w1.cell? ⟨w.heap.size, 10, none⟩ = some (.bool p.mod))
      (first | assumption | (refine (HM.cs (HM.low M1 ?_)); (repeat (first | (with_reducible assumption) | (with_reducible exact Below.refl _ _) | (with_reducible refine lo_step ?_ (by assumption)) | (with_reducible refine lo_drew ?_) | (with_reducible refine lo_drewN ?_ _) | (with_reducible refine lo_alloc ?_ _) | (with_reducible refine lo_set ?_ ?_ _) | (exact Nat.le_refl _) | (exact hs2 _ (Nat.le_refl _)) | (exact hb'.size))) ))
      (first
        | (go_at_call 65; (with_reducible refine (C2.out _).mono ?_); rintro e w' ⟨rfl, hb'⟩)
        | (go_at_call 64; (with_reducible refine (C3.out _ (HM.low M1 (by (repeat (first | (with_reducible assumption) | (with_reducible exact Below.refl _ _) | (with_reducible refine lo_step ?_ (by assumption)) | (with_reducible refine lo_drew ?_) | (with_reducible refine lo_drewN ?_ _) | (with_reducible refine lo_alloc ?_ _) | (with_reducible refine lo_set ?_ ?_ _) | (exact Nat.le_refl _) | (exact hs2 _ (Nat.le_refl _)) | (exact hb'.size))) ))).mono ?_); rintro e w5 ⟨rfl, hTT⟩; have Q5 := HM.keep (HM.low M1 (by (repeat (first | (with_reducible assumption) | (with_reducible exact Below.refl _ _) | (with_reducible refine lo_step ?_ (by assumption)) | (with_reducible refine lo_drew ?_) | (with_reducible refine lo_drewN ?_ _) | (with_reducible refine lo_alloc ?_ _) | (with_reducible refine lo_set ?_ ?_ _) | (exact Nat.le_refl _) | (exact hs2 _ (Nat.le_refl _)) | (exact hb'.size))) )) hTT; have TT := TabTo.from_ (HM.low M1 (by (repeat (first | (with_reducible assumption) | (with_reducible exact Below.refl _ _) | (with_reducible refine lo_step ?_ (by assumption)) | (with_reducible refine lo_drew ?_) | (with_reducible refine lo_drewN ?_ _) | (with_reducible refine lo_alloc ?_ _) | (with_reducible refine lo_set ?_ ?_ _) | (exact Nat.le_refl _) | (exact hs2 _ (Nat.le_refl _)) | (exact hb'.size))) )).lo hTT))
    clear Q5 hTT hS
    go_wp2_with fail
    go_ret
    exact ⟨ret_int hE.out.symm, by rw [hT.out]; exact TT⟩
  · rw [if_neg h0] at hE hT
    go_enter Tryz.func25, Tryz.ntmps25
    go_wp2_with fail
    generalize World.alloc w _ = W at *
    obtain ⟨c1, y0, y1, y2, y3, y4, y5, y6, y7, y8, y9, y10⟩ := M.cs
    refine (C1.out _ M).mono ?_; rintro e w1 ⟨rfl, hb1⟩
    have hlo := (M.low hb1).lo
    clear M hb1 c1 y0 y1 y2 y3 y4 y5 y6 y7 y8 y9 y10
    go_wp2_with fail
    go_ret
    exact ⟨ret_int hE.out.symm, by rw [hT.out]; exact TabTo.low hx.tab hlo⟩
theorem ret_pe {a a' : Pg} {b b' : Int} (h1 : a = a') (h2 : b = b') : Ending.returned (.tuple #[.agg #[.int .u64 a'.va, .int .i64 a'.sz, .int .u64 a'.pa, .bool a'.att.write, .bool a'.att.priv, .bool a'.att.exec, .bool a'.att.lock, .bool a'.att.global, .bool a'.att.quiet, .bool a'.ref, .bool a'.mod], .int .i64 b']) = .returned (.tuple #[.agg #[.int .u64 a.va, .int .i64 a.sz, .int .u64 a.pa, .bool a.att.write, .bool a.att.priv, .bool a.att.exec, .bool a.att.lock, .bool a.att.global, .bool a.att.quiet, .bool a.ref, .bool a.mod], .int .i64 b]) := by rw [h1, h2]
theorem at_any {hb sb bm n : Nat} {ns bl : Int} {L : Nat → List Bk} {V : Nat → Value} (s va : Int) (s0 : -9223372036854775808 ≤ s) (s1 : s ≤ 9223372036854775807) (v0 : 0 ≤ va) (v1 : va ≤ 18446744073709551615) (w : World) (h : HR w hb sb bm n ns bl L V) :
    Calls Tryz.prog 72 #[.pointer (some ⟨hb, 0, none⟩), .int .i64 s, .int .u64 va] w fun e w' => e = .returned (.tuple #[.agg #[.int .u64 (findV ns n L s va).va, .int .i64 (findV ns n L s va).sz, .int .u64 (findV ns n L s va).pa, .bool (findV ns n L s va).att.write, .bool (findV ns n L s va).att.priv, .bool (findV ns n L s va).att.exec, .bool (findV ns n L s va).att.lock, .bool (findV ns n L s va).att.global, .bool (findV ns n L s va).att.quiet, .bool (findV ns n L s va).ref, .bool (findV ns n L s va).mod], .int .i64 (atE ns n L s va)]) ∧ Below w.heap.size w w' := by
  have F : HF w (w.alloc (.cells #[.int .u64 Pg.zero.va, .int .i64 Pg.zero.sz, .int .u64 Pg.zero.pa, .bool Pg.zero.att.write, .bool Pg.zero.att.priv, .bool Pg.zero.att.exec, .bool Pg.zero.att.lock, .bool Pg.zero.att.global, .bool Pg.zero.att.quiet, .bool Pg.zero.ref, .bool Pg.zero.mod] 38)) hb sb bm n ns bl L V w.heap.size := ⟨h.alloc _, RowP.new w Pg.zero, by (repeat (first | (with_reducible assumption) | (with_reducible exact Below.refl _ _) | (with_reducible refine lo_step ?_ (by assumption)) | (with_reducible refine lo_drew ?_) | (with_reducible refine lo_drewN ?_ _) | (with_reducible refine lo_alloc ?_ _))) , Nat.le_refl _⟩
  have CH := Lib.hid (fun w h => has_any (hb := hb) (sb := sb) (bm := bm) (n := n) (ns := ns) (bl := bl) (L := L) (V := V) s w h)
  have CF := Lib.hid (fun (W : World) (h : HR W hb sb bm n ns bl L V) => hfind_any s va s0 s1 v0 v1 W h)
  have hE := Lib.hid (show atE ns n L s va = if isB ns s = false then 1 else if findB ns n L s va then 0 else 10 from rfl)
  have hZ := Lib.hid (show findB ns n L s va = false → findV ns n L s va = Pg.zero from find_not)
  have hI := Lib.hid (show isB ns s = false → findB ns n L s va = false from fun e => by unfold findB; rw [e]; rfl)
  generalize findV ns n L s va = x at *
  generalize findN ns n L s va = N at *
  generalize findB ns n L s va = B at *
  unfold Pg.zero at F
  clear h
  cases hs : isB ns s
  · have hB := hI.out hs
    have hx := Lib.hid (hZ.out hB)
    rw [hs] at CH hE
    go_enter Tryz.func72, Tryz.ntmps72
    go_wp2_with fail
    generalize World.alloc w _ = W at *
    refine (CH.out _ F.hr).mono ?_; rintro e w1 ⟨rfl, rfl⟩
    have TF := Lib.hid (F.fin Pg.zero)
    obtain ⟨r0, r1, r2, r3, r4, r5, r6, r7, r8, r9, r10⟩ := F.r.cells
    have fr := F.cs.2
    clear F CH CF hB
    go_wp2_with fail
    refine bodyPost_ret (res_P2 rfl _ _ _ _ rfl TF.out.1.row) rfl ?_
    exact ⟨ret_pe hx.out hE.out, TF.out.2⟩
  · rw [hs] at CH hE
    go_enter Tryz.func72, Tryz.ntmps72
    go_wp2_with fail
    generalize World.alloc w _ = W at *
    refine (CH.out _ F.hr).mono ?_; rintro e w1 ⟨rfl, rfl⟩
    go_wp2_with fail
    refine (CF.out _ F.hr).mono ?_; rintro e w2 ⟨rfl, hb2⟩
    have F2 := F.low hb2
    have F3 := F2.low (w' := w2.alloc (.cells #[.int .u64 x.va, .int .i64 x.sz, .int .u64 x.pa, .bool x.att.write, .bool x.att.priv, .bool x.att.exec, .bool x.att.lock, .bool x.att.global, .bool x.att.quiet, .bool x.ref, .bool x.mod] 38)) (by (repeat (first | (with_reducible assumption) | (with_reducible exact Below.refl _ _) | (with_reducible refine lo_step ?_ (by assumption)) | (with_reducible refine lo_drew ?_) | (with_reducible refine lo_drewN ?_ _) | (with_reducible refine lo_alloc ?_ _))) )
    obtain ⟨r0, r1, r2, r3, r4, r5, r6, r7, r8, r9, r10⟩ := F3.r.cells
    have fr := F3.cs.2
    obtain ⟨z0, z1, z2, z3, z4, z5, z6, z7, z8, z9, z10⟩ := (RowP.new w2 x).cells
    have TF := Lib.hid F3.fin
    clear F F2 F3 hb2 CH CF
    cases B
    · have hx := Lib.hid (hZ.out rfl)
      go_wp2_with fail
      refine bodyPost_ret (res_P2 rfl _ _ _ _ rfl (TF.out Pg.zero).1.row) rfl ?_
      exact ⟨ret_pe hx.out hE.out, (TF.out Pg.zero).2⟩
    · go_wp2_with fail
      refine bodyPost_ret (res_P2 rfl _ _ _ _ rfl (TF.out x).1.row) rfl ?_
      exact ⟨ret_pe rfl hE.out, (TF.out x).2⟩
end Go.Proofs.YtffpfceclhogoaaGreat.Hp
namespace Go.Proofs.YtffpfceclhogoaaGreat.Hp
open Fld Hs
open Go.ChangeShapes Go.WideShapes Go.ChangeAt Go.RowKit Go.Maps
set_option maxHeartbeats 1000000
set_option maxRecDepth 100000
theorem row_far {w : World} {g b : Nat} (x : Pg) (h : b ≠ g) : (((((((((((w.setCell ⟨g, 0, none⟩ (.int .u64 x.va)).setCell ⟨g, 1, none⟩ (.int .i64 x.sz)).setCell ⟨g, 2, none⟩ (.int .u64 x.pa)).setCell ⟨g, 3, none⟩ (.bool x.att.write)).setCell ⟨g, 4, none⟩ (.bool x.att.priv)).setCell ⟨g, 5, none⟩ (.bool x.att.exec)).setCell ⟨g, 6, none⟩ (.bool x.att.lock)).setCell ⟨g, 7, none⟩ (.bool x.att.global)).setCell ⟨g, 8, none⟩ (.bool x.att.quiet)).setCell ⟨g, 9, none⟩ (.bool x.ref)).setCell ⟨g, 10, none⟩ (.bool x.mod)).heap[b]? = w.heap[b]? := by
  rw [Below.heap_setCell _ _ _ _ h, Below.heap_setCell _ _ _ _ h, Below.heap_setCell _ _ _ _ h, Below.heap_setCell _ _ _ _ h, Below.heap_setCell _ _ _ _ h, Below.heap_setCell _ _ _ _ h, Below.heap_setCell _ _ _ _ h, Below.heap_setCell _ _ _ _ h, Below.heap_setCell _ _ _ _ h, Below.heap_setCell _ _ _ _ h, Below.heap_setCell _ _ _ _ h]
theorem TabTo.put11 {u w4 w5 : World} {sb n' rb : Nat} {O : Nat → Prop} {bl : Int} {L' : Nat → List Bk} {y : Pg} (hb : Below u.heap.size u w4) (k : TabTo w4 w5 sb O n' bl L') (h0 : u.heap.size ≤ rb) (h1 : rb < w4.heap.size) (ul : ∀ k, O k → k < u.heap.size) (hr : RowP w5 rb y) (x : Pg) :
    RowP (((((((((((w5.setCell ⟨rb, 0, none⟩ (.int .u64 x.va)).setCell ⟨rb, 1, none⟩ (.int .i64 x.sz)).setCell ⟨rb, 2, none⟩ (.int .u64 x.pa)).setCell ⟨rb, 3, none⟩ (.bool x.att.write)).setCell ⟨rb, 4, none⟩ (.bool x.att.priv)).setCell ⟨rb, 5, none⟩ (.bool x.att.exec)).setCell ⟨rb, 6, none⟩ (.bool x.att.lock)).setCell ⟨rb, 7, none⟩ (.bool x.att.global)).setCell ⟨rb, 8, none⟩ (.bool x.att.quiet)).setCell ⟨rb, 9, none⟩ (.bool x.ref)).setCell ⟨rb, 10, none⟩ (.bool x.mod)) rb x ∧ TabTo u (((((((((((w5.setCell ⟨rb, 0, none⟩ (.int .u64 x.va)).setCell ⟨rb, 1, none⟩ (.int .i64 x.sz)).setCell ⟨rb, 2, none⟩ (.int .u64 x.pa)).setCell ⟨rb, 3, none⟩ (.bool x.att.write)).setCell ⟨rb, 4, none⟩ (.bool x.att.priv)).setCell ⟨rb, 5, none⟩ (.bool x.att.exec)).setCell ⟨rb, 6, none⟩ (.bool x.att.lock)).setCell ⟨rb, 7, none⟩ (.bool x.att.global)).setCell ⟨rb, 8, none⟩ (.bool x.att.quiet)).setCell ⟨rb, 9, none⟩ (.bool x.ref)).setCell ⟨rb, 10, none⟩ (.bool x.mod)) sb O n' bl L' := by
  refine ⟨(hr.setAll x).1, ?_⟩
  obtain ⟨O', ⟨bm, V, t, hO⟩, k2, k3⟩ := k
  have hT : Turn u w5 O := (Turn.low O hb).trans k2 (fun k hk => .inl hk)
  refine ⟨O', ⟨bm, V, t.same (fun k hk => row_far x (fun e => ?_)), hO⟩, (((((((((((hT.setCell _ (.inr h0) _).setCell _ (.inr h0) _).setCell _ (.inr h0) _).setCell _ (.inr h0) _).setCell _ (.inr h0) _).setCell _ (.inr h0) _).setCell _ (.inr h0) _).setCell _ (.inr h0) _).setCell _ (.inr h0) _).setCell _ (.inr h0) _).setCell _ (.inr h0) _), fun k hk => (k3 k hk).imp id (Nat.le_trans hb.size)⟩
  subst e
  rcases k3 _ ((hO _).2 hk) with h | h
  · have := ul _ h; omega
  · omega
/-- A hat, a result's page, and a page in a box. -/
structure HU (u w : World) (hb sb n : Nat) (O : Nat → Prop) (ns bl : Int) (L : Nat → List Bk) (rb pb : Nat) (p : Pg) : Prop where
  hx : HX w hb sb n O ns bl L
  r : RowP w rb Pg.zero
  pg : RowP w pb p
  lo : Below u.heap.size u w
  ul : ∀ k, O k → k < u.heap.size
  rl : u.heap.size ≤ rb
  pl : u.heap.size ≤ pb
  ne : pb ≠ rb
  hl : hb < u.heap.size
section
variable {u w w' : World} {hb sb n rb pb : Nat} {p : Pg} {O : Nat → Prop} {ns bl : Int} {L L' : Nat → List Bk}
theorem HU.low (h : HU u w hb sb n O ns bl L rb pb p) (hb' : Below w.heap.size w w') : HU u w' hb sb n O ns bl L rb pb p := ⟨h.hx.low hb', h.r.low hb', h.pg.low hb', lo_step h.lo hb', h.ul, h.rl, h.pl, h.ne, h.hl⟩
theorem HU.cs (h : HU u w hb sb n O ns bl L rb pb p) : w.cell? ⟨hb, 1, none⟩ = some (.pointer (some ⟨sb, 0, none⟩)) ∧ w.cell? ⟨pb, 0, none⟩ = some (.int .u64 p.va) ∧ w.cell? ⟨pb, 1, none⟩ = some (.int .i64 p.sz) ∧ w.cell? ⟨pb, 2, none⟩ = some (.int .u64 p.pa) ∧ w.cell? ⟨pb, 3, none⟩ = some (.bool p.att.write) ∧ w.cell? ⟨pb, 4, none⟩ = some (.bool p.att.priv) ∧ w.cell? ⟨pb, 5, none⟩ = some (.bool p.att.exec) ∧ w.cell? ⟨pb, 6, none⟩ = some (.bool p.att.lock) ∧ w.cell? ⟨pb, 7, none⟩ = some (.bool p.att.global) ∧ w.cell? ⟨pb, 8, none⟩ = some (.bool p.att.quiet) ∧ w.cell? ⟨pb, 9, none⟩ = some (.bool p.ref) ∧ w.cell? ⟨pb, 10, none⟩ = some (.bool p.mod) := ⟨h.hx.cells.2, h.pg.cells⟩
theorem HU.keep {n' : Nat} (h : HU u w hb sb n O ns bl L rb pb p) (k : TabTo w w' sb O n' bl L') :
    (w'.cell? ⟨hb, 1, none⟩ = some (.pointer (some ⟨sb, 0, none⟩)) ∧ w'.cell? ⟨pb, 0, none⟩ = some (.int .u64 p.va) ∧ w'.cell? ⟨pb, 1, none⟩ = some (.int .i64 p.sz) ∧ w'.cell? ⟨pb, 2, none⟩ = some (.int .u64 p.pa) ∧ w'.cell? ⟨pb, 3, none⟩ = some (.bool p.att.write) ∧ w'.cell? ⟨pb, 4, none⟩ = some (.bool p.att.priv) ∧ w'.cell? ⟨pb, 5, none⟩ = some (.bool p.att.exec) ∧ w'.cell? ⟨pb, 6, none⟩ = some (.bool p.att.lock) ∧ w'.cell? ⟨pb, 7, none⟩ = some (.bool p.att.global) ∧ w'.cell? ⟨pb, 8, none⟩ = some (.bool p.att.quiet) ∧ w'.cell? ⟨pb, 9, none⟩ = some (.bool p.ref) ∧ w'.cell? ⟨pb, 10, none⟩ = some (.bool p.mod)) ∧ ((w'.cell? ⟨rb, 0, none⟩ = some (.int .u64 Pg.zero.va) ∧ w'.cell? ⟨rb, 1, none⟩ = some (.int .i64 Pg.zero.sz) ∧ w'.cell? ⟨rb, 2, none⟩ = some (.int .u64 Pg.zero.pa) ∧ w'.cell? ⟨rb, 3, none⟩ = some (.bool Pg.zero.att.write) ∧ w'.cell? ⟨rb, 4, none⟩ = some (.bool Pg.zero.att.priv) ∧ w'.cell? ⟨rb, 5, none⟩ = some (.bool Pg.zero.att.exec) ∧ w'.cell? ⟨rb, 6, none⟩ = some (.bool Pg.zero.att.lock) ∧ w'.cell? ⟨rb, 7, none⟩ = some (.bool Pg.zero.att.global) ∧ w'.cell? ⟨rb, 8, none⟩ = some (.bool Pg.zero.att.quiet) ∧ w'.cell? ⟨rb, 9, none⟩ = some (.bool Pg.zero.ref) ∧ w'.cell? ⟨rb, 10, none⟩ = some (.bool Pg.zero.mod)) ∧ ∀ i, w'.frozen? ⟨rb, i, none⟩ = false) ∧ ∀ x : Pg, RowP (((((((((((w'.setCell ⟨rb, 0, none⟩ (.int .u64 x.va)).setCell ⟨rb, 1, none⟩ (.int .i64 x.sz)).setCell ⟨rb, 2, none⟩ (.int .u64 x.pa)).setCell ⟨rb, 3, none⟩ (.bool x.att.write)).setCell ⟨rb, 4, none⟩ (.bool x.att.priv)).setCell ⟨rb, 5, none⟩ (.bool x.att.exec)).setCell ⟨rb, 6, none⟩ (.bool x.att.lock)).setCell ⟨rb, 7, none⟩ (.bool x.att.global)).setCell ⟨rb, 8, none⟩ (.bool x.att.quiet)).setCell ⟨rb, 9, none⟩ (.bool x.ref)).setCell ⟨rb, 10, none⟩ (.bool x.mod)) rb x ∧ TabTo u (((((((((((w'.setCell ⟨rb, 0, none⟩ (.int .u64 x.va)).setCell ⟨rb, 1, none⟩ (.int .i64 x.sz)).setCell ⟨rb, 2, none⟩ (.int .u64 x.pa)).setCell ⟨rb, 3, none⟩ (.bool x.att.write)).setCell ⟨rb, 4, none⟩ (.bool x.att.priv)).setCell ⟨rb, 5, none⟩ (.bool x.att.exec)).setCell ⟨rb, 6, none⟩ (.bool x.att.lock)).setCell ⟨rb, 7, none⟩ (.bool x.att.global)).setCell ⟨rb, 8, none⟩ (.bool x.att.quiet)).setCell ⟨rb, 9, none⟩ (.bool x.ref)).setCell ⟨rb, 10, none⟩ (.bool x.mod)) sb O n' bl L' ∧ ((((((((((((w'.setCell ⟨rb, 0, none⟩ (.int .u64 x.va)).setCell ⟨rb, 1, none⟩ (.int .i64 x.sz)).setCell ⟨rb, 2, none⟩ (.int .u64 x.pa)).setCell ⟨rb, 3, none⟩ (.bool x.att.write)).setCell ⟨rb, 4, none⟩ (.bool x.att.priv)).setCell ⟨rb, 5, none⟩ (.bool x.att.exec)).setCell ⟨rb, 6, none⟩ (.bool x.att.lock)).setCell ⟨rb, 7, none⟩ (.bool x.att.global)).setCell ⟨rb, 8, none⟩ (.bool x.att.quiet)).setCell ⟨rb, 9, none⟩ (.bool x.ref)).setCell ⟨rb, 10, none⟩ (.bool x.mod)).cell? ⟨hb, 1, none⟩ = some (.pointer (some ⟨sb, 0, none⟩)) ∧ (((((((((((w'.setCell ⟨rb, 0, none⟩ (.int .u64 x.va)).setCell ⟨rb, 1, none⟩ (.int .i64 x.sz)).setCell ⟨rb, 2, none⟩ (.int .u64 x.pa)).setCell ⟨rb, 3, none⟩ (.bool x.att.write)).setCell ⟨rb, 4, none⟩ (.bool x.att.priv)).setCell ⟨rb, 5, none⟩ (.bool x.att.exec)).setCell ⟨rb, 6, none⟩ (.bool x.att.lock)).setCell ⟨rb, 7, none⟩ (.bool x.att.global)).setCell ⟨rb, 8, none⟩ (.bool x.att.quiet)).setCell ⟨rb, 9, none⟩ (.bool x.ref)).setCell ⟨rb, 10, none⟩ (.bool x.mod)).cell? ⟨pb, 0, none⟩ = some (.int .u64 p.va) ∧ (((((((((((w'.setCell ⟨rb, 0, none⟩ (.int .u64 x.va)).setCell ⟨rb, 1, none⟩ (.int .i64 x.sz)).setCell ⟨rb, 2, none⟩ (.int .u64 x.pa)).setCell ⟨rb, 3, none⟩ (.bool x.att.write)).setCell ⟨rb, 4, none⟩ (.bool x.att.priv)).setCell ⟨rb, 5, none⟩ (.bool x.att.exec)).setCell ⟨rb, 6, none⟩ (.bool x.att.lock)).setCell ⟨rb, 7, none⟩ (.bool x.att.global)).setCell ⟨rb, 8, none⟩ (.bool x.att.quiet)).setCell ⟨rb, 9, none⟩ (.bool x.ref)).setCell ⟨rb, 10, none⟩ (.bool x.mod)).cell? ⟨pb, 1, none⟩ = some (.int .i64 p.sz) ∧ (((((((((((w'.setCell ⟨rb, 0, none⟩ (.int .u64 x.va)).setCell ⟨rb, 1, none⟩ (.int .i64 x.sz)).setCell ⟨rb, 2, none⟩ (.int .u64 x.pa)).setCell ⟨rb, 3, none⟩ (.bool x.att.write)).setCell ⟨rb, 4, none⟩ (.bool x.att.priv)).setCell ⟨rb, 5, none⟩ (.bool x.att.exec)).setCell ⟨rb, 6, none⟩ (.bool x.att.lock)).setCell ⟨rb, 7, none⟩ (.bool x.att.global)).setCell ⟨rb, 8, none⟩ (.bool x.att.quiet)).setCell ⟨rb, 9, none⟩ (.bool x.ref)).setCell ⟨rb, 10, none⟩ (.bool x.mod)).cell? ⟨pb, 2, none⟩ = some (.int .u64 p.pa) ∧ (((((((((((w'.setCell ⟨rb, 0, none⟩ (.int .u64 x.va)).setCell ⟨rb, 1, none⟩ (.int .i64 x.sz)).setCell ⟨rb, 2, none⟩ (.int .u64 x.pa)).setCell ⟨rb, 3, none⟩ (.bool x.att.write)).setCell ⟨rb, 4, none⟩ (.bool x.att.priv)).setCell ⟨rb, 5, none⟩ (.bool x.att.exec)).setCell ⟨rb, 6, none⟩ (.bool x.att.lock)).setCell ⟨rb, 7, none⟩ (.bool x.att.global)).setCell ⟨rb, 8, none⟩ (.bool x.att.quiet)).setCell ⟨rb, 9, none⟩ (.bool x.ref)).setCell ⟨rb, 10, none⟩ (.bool x.mod)).cell? ⟨pb, 3, none⟩ = some (.bool p.att.write) ∧ (((((((((((w'.setCell ⟨rb, 0, none⟩ (.int .u64 x.va)).setCell ⟨rb, 1, none⟩ (.int .i64 x.sz)).setCell ⟨rb, 2, none⟩ (.int .u64 x.pa)).setCell ⟨rb, 3, none⟩ (.bool x.att.write)).setCell ⟨rb, 4, none⟩ (.bool x.att.priv)).setCell ⟨rb, 5, none⟩ (.bool x.att.exec)).setCell ⟨rb, 6, none⟩ (.bool x.att.lock)).setCell ⟨rb, 7, none⟩ (.bool x.att.global)).setCell ⟨rb, 8, none⟩ (.bool x.att.quiet)).setCell ⟨rb, 9, none⟩ (.bool x.ref)).setCell ⟨rb, 10, none⟩ (.bool x.mod)).cell? ⟨pb, 4, none⟩ = some (.bool p.att.priv) ∧ (((((((((((w'.setCell ⟨rb, 0, none⟩ (.int .u64 x.va)).setCell ⟨rb, 1, none⟩ (.int .i64 x.sz)).setCell ⟨rb, 2, none⟩ (.int .u64 x.pa)).setCell ⟨rb, 3, none⟩ (.bool x.att.write)).setCell ⟨rb, 4, none⟩ (.bool x.att.priv)).setCell ⟨rb, 5, none⟩ (.bool x.att.exec)).setCell ⟨rb, 6, none⟩ (.bool x.att.lock)).setCell ⟨rb, 7, none⟩ (.bool x.att.global)).setCell ⟨rb, 8, none⟩ (.bool x.att.quiet)).setCell ⟨rb, 9, none⟩ (.bool x.ref)).setCell ⟨rb, 10, none⟩ (.bool x.mod)).cell? ⟨pb, 5, none⟩ = some (.bool p.att.exec) ∧ (((((((((((w'.setCell ⟨rb, 0, none⟩ (.int .u64 x.va)).setCell ⟨rb, 1, none⟩ (.int .i64 x.sz)).setCell ⟨rb, 2, none⟩ (.int .u64 x.pa)).setCell ⟨rb, 3, none⟩ (.bool x.att.write)).setCell ⟨rb, 4, none⟩ (.bool x.att.priv)).setCell ⟨rb, 5, none⟩ (.bool x.att.exec)).setCell ⟨rb, 6, none⟩ (.bool x.att.lock)).setCell ⟨rb, 7, none⟩ (.bool x.att.global)).setCell ⟨rb, 8, none⟩ (.bool x.att.quiet)).setCell ⟨rb, 9, none⟩ (.bool x.ref)).setCell ⟨rb, 10, none⟩ (.bool x.mod)).cell? ⟨pb, 6, none⟩ = some (.bool p.att.lock) ∧ (((((((((((w'.setCell ⟨rb, 0, none⟩ (.int .u64 x.va)).setCell ⟨rb, 1, none⟩ (.int .i64 x.sz)).setCell ⟨rb, 2, none⟩ (.int .u64 x.pa)).setCell ⟨rb, 3, none⟩ (.bool x.att.write)).setCell ⟨rb, 4, none⟩ (.bool x.att.priv)).setCell ⟨rb, 5, none⟩ (.bool x.att.exec)).setCell ⟨rb, 6, none⟩ (.bool x.att.lock)).setCell ⟨rb, 7, none⟩ (.bool x.att.global)).setCell ⟨rb, 8, none⟩ (.bool x.att.quiet)).setCell ⟨rb, 9, none⟩ (.bool x.ref)).setCell ⟨rb, 10, none⟩ (.bool x.mod)).cell? ⟨pb, 7, none⟩ = some (.bool p.att.global) ∧ (((((((((((w'.setCell ⟨rb, 0, none⟩ (.int .u64 x.va)).setCell ⟨rb, 1, none⟩ (.int .i64 x.sz)).setCell ⟨rb, 2, none⟩ (.int .u64 x.pa)).setCell ⟨rb, 3, none⟩ (.bool x.att.write)).setCell ⟨rb, 4, none⟩ (.bool x.att.priv)).setCell ⟨rb, 5, none⟩ (.bool x.att.exec)).setCell ⟨rb, 6, none⟩ (.bool x.att.lock)).setCell ⟨rb, 7, none⟩ (.bool x.att.global)).setCell ⟨rb, 8, none⟩ (.bool x.att.quiet)).setCell ⟨rb, 9, none⟩ (.bool x.ref)).setCell ⟨rb, 10, none⟩ (.bool x.mod)).cell? ⟨pb, 8, none⟩ = some (.bool p.att.quiet) ∧ (((((((((((w'.setCell ⟨rb, 0, none⟩ (.int .u64 x.va)).setCell ⟨rb, 1, none⟩ (.int .i64 x.sz)).setCell ⟨rb, 2, none⟩ (.int .u64 x.pa)).setCell ⟨rb, 3, none⟩ (.bool x.att.write)).setCell ⟨rb, 4, none⟩ (.bool x.att.priv)).setCell ⟨rb, 5, none⟩ (.bool x.att.exec)).setCell ⟨rb, 6, none⟩ (.bool x.att.lock)).setCell ⟨rb, 7, none⟩ (.bool x.att.global)).setCell ⟨rb, 8, none⟩ (.bool x.att.quiet)).setCell ⟨rb, 9, none⟩ (.bool x.ref)).setCell ⟨rb, 10, none⟩ (.bool x.mod)).cell? ⟨pb, 9, none⟩ = some (.bool p.ref) ∧ (((((((((((w'.setCell ⟨rb, 0, none⟩ (.int .u64 x.va)).setCell ⟨rb, 1, none⟩ (.int .i64 x.sz)).setCell ⟨rb, 2, none⟩ (.int .u64 x.pa)).setCell ⟨rb, 3, none⟩ (.bool x.att.write)).setCell ⟨rb, 4, none⟩ (.bool x.att.priv)).setCell ⟨rb, 5, none⟩ (.bool x.att.exec)).setCell ⟨rb, 6, none⟩ (.bool x.att.lock)).setCell ⟨rb, 7, none⟩ (.bool x.att.global)).setCell ⟨rb, 8, none⟩ (.bool x.att.quiet)).setCell ⟨rb, 9, none⟩ (.bool x.ref)).setCell ⟨rb, 10, none⟩ (.bool x.mod)).cell? ⟨pb, 10, none⟩ = some (.bool p.mod)) := by
  have k0 := k
  obtain ⟨O', hx', hT, _⟩ := h.hx.turned k
  have hl := (Array.getElem?_eq_some_iff.1 h.pg.row).1
  have hl2 := (Array.getElem?_eq_some_iff.1 h.r.row).1
  have hp : RowP w' pb p := ⟨(hT.block pb hl (fun e => by have := h.ul pb e; have := h.pl; omega)).trans h.pg.row⟩
  have hr : RowP w' rb Pg.zero := ⟨(hT.block rb hl2 (fun e => by have := h.ul rb e; have := h.rl; omega)).trans h.r.row⟩
  refine ⟨⟨hx'.cells.2, hp.cells⟩, ⟨hr.cells, set_one_page hr⟩, fun x => ?_⟩
  obtain ⟨q1, q2⟩ := TabTo.put11 h.lo k0 h.rl hl2 h.ul hr x
  have hn : hb ≠ rb := by have := h.rl; have := h.hl; omega
  have q3 : RowP (((((((((((w'.setCell ⟨rb, 0, none⟩ (.int .u64 x.va)).setCell ⟨rb, 1, none⟩ (.int .i64 x.sz)).setCell ⟨rb, 2, none⟩ (.int .u64 x.pa)).setCell ⟨rb, 3, none⟩ (.bool x.att.write)).setCell ⟨rb, 4, none⟩ (.bool x.att.priv)).setCell ⟨rb, 5, none⟩ (.bool x.att.exec)).setCell ⟨rb, 6, none⟩ (.bool x.att.lock)).setCell ⟨rb, 7, none⟩ (.bool x.att.global)).setCell ⟨rb, 8, none⟩ (.bool x.att.quiet)).setCell ⟨rb, 9, none⟩ (.bool x.ref)).setCell ⟨rb, 10, none⟩ (.bool x.mod)) pb p := ⟨(row_far x h.ne).trans hp.row⟩
  have q4 : (((((((((((w'.setCell ⟨rb, 0, none⟩ (.int .u64 x.va)).setCell ⟨rb, 1, none⟩ (.int .i64 x.sz)).setCell ⟨rb, 2, none⟩ (.int .u64 x.pa)).setCell ⟨rb, 3, none⟩ (.bool x.att.write)).setCell ⟨rb, 4, none⟩ (.bool x.att.priv)).setCell ⟨rb, 5, none⟩ (.bool x.att.exec)).setCell ⟨rb, 6, none⟩ (.bool x.att.lock)).setCell ⟨rb, 7, none⟩ (.bool x.att.global)).setCell ⟨rb, 8, none⟩ (.bool x.att.quiet)).setCell ⟨rb, 9, none⟩ (.bool x.ref)).setCell ⟨rb, 10, none⟩ (.bool x.mod)).heap[hb]? = some (.cells #[.int .i64 ns, .pointer (some ⟨sb, 0, none⟩)] 67 (0, 0)) := (row_far x hn).trans hx'.row
  exact ⟨q1, q2, by simp only [World.cell?, q4]; rfl, q3.cells⟩
end
def unmE (ns : Int) (n : Nat) (L : Nat → List Bk) (s va : Int) : Int := if atE ns n L s va = 0 then setE n L (keyP s (findV ns n L s va)) else atE ns n L s va
def unmT (ns : Int) (n : Nat) (L : Nat → List Bk) (s va : Int) : Nat → List Bk := if atE ns n L s va = 0 then cutT n L (keyP s (findV ns n L s va)) else L
theorem at_zero {ns : Int} {n : Nat} {L : Nat → List Bk} {s va : Int} (h : atE ns n L s va ≠ 0) : findV ns n L s va = Pg.zero := by
  apply find_not
  unfold atE at h
  cases e : isB ns s
  · unfold findB; rw [e]; rfl
  · rw [e] at h
    cases f : findB ns n L s va
    · rfl
    · rw [f] at h; simp at h
theorem unmap_any {hb sb n : Nat} {O : Nat → Prop} {ns bl : Int} {L : Nat → List Bk} (s va : Int) (s0 : -9223372036854775808 ≤ s) (s1 : s ≤ 9223372036854775807) (v0 : 0 ≤ va) (v1 : va ≤ 18446744073709551615) (hx : (findV ns n L s va).wf) (w : World) (h : HX w hb sb n O ns bl L) :
    Calls Tryz.prog 33 #[.pointer (some ⟨hb, 0, none⟩), .int .i64 s, .int .u64 va] w fun e w' => e = .returned (.tuple #[.agg #[.int .u64 (findV ns n L s va).va, .int .i64 (findV ns n L s va).sz, .int .u64 (findV ns n L s va).pa, .bool (findV ns n L s va).att.write, .bool (findV ns n L s va).att.priv, .bool (findV ns n L s va).att.exec, .bool (findV ns n L s va).att.lock, .bool (findV ns n L s va).att.global, .bool (findV ns n L s va).att.quiet, .bool (findV ns n L s va).ref, .bool (findV ns n L s va).mod], .int .i64 (unmE ns n L s va)]) ∧ TabTo w w' sb O n bl (unmT ns n L s va) := by
  have hul : ∀ k, O k → k < w.heap.size := fun k hk => h.tab.lt hk
  have H1 : HX (w.alloc (.cells #[.int .u64 Pg.zero.va, .int .i64 Pg.zero.sz, .int .u64 Pg.zero.pa, .bool Pg.zero.att.write, .bool Pg.zero.att.priv, .bool Pg.zero.att.exec, .bool Pg.zero.att.lock, .bool Pg.zero.att.global, .bool Pg.zero.att.quiet, .bool Pg.zero.ref, .bool Pg.zero.mod] 38)) hb sb n O ns bl L := h.low (by (repeat (first | (with_reducible assumption) | (with_reducible exact Below.refl _ _) | (with_reducible refine lo_step ?_ (by assumption)) | (with_reducible refine lo_drew ?_) | (with_reducible refine lo_drewN ?_ _) | (with_reducible refine lo_alloc ?_ _))) )
  have R1 := RowP.new w Pg.zero
  have B1 : Below w.heap.size w (w.alloc (.cells #[.int .u64 Pg.zero.va, .int .i64 Pg.zero.sz, .int .u64 Pg.zero.pa, .bool Pg.zero.att.write, .bool Pg.zero.att.priv, .bool Pg.zero.att.exec, .bool Pg.zero.att.lock, .bool Pg.zero.att.global, .bool Pg.zero.att.quiet, .bool Pg.zero.ref, .bool Pg.zero.mod] 38)) := by (repeat (first | (with_reducible assumption) | (with_reducible exact Below.refl _ _) | (with_reducible refine lo_step ?_ (by assumption)) | (with_reducible refine lo_drew ?_) | (with_reducible refine lo_drewN ?_ _) | (with_reducible refine lo_alloc ?_ _))) 
  have CA := Lib.hid (fun (W : World) (h : HX W hb sb n O ns bl L) => (by
    obtain ⟨bm, V, h1⟩ := h.read
    exact at_any s va s0 s1 v0 v1 W h1 : Calls Tryz.prog 72 #[.pointer (some ⟨hb, 0, none⟩), .int .i64 s, .int .u64 va] W fun e w' => e = .returned (.tuple #[.agg #[.int .u64 (findV ns n L s va).va, .int .i64 (findV ns n L s va).sz, .int .u64 (findV ns n L s va).pa, .bool (findV ns n L s va).att.write, .bool (findV ns n L s va).att.priv, .bool (findV ns n L s va).att.exec, .bool (findV ns n L s va).att.lock, .bool (findV ns n L s va).att.global, .bool (findV ns n L s va).att.quiet, .bool (findV ns n L s va).ref, .bool (findV ns n L s va).mod], .int .i64 (atE ns n L s va)]) ∧ Below W.heap.size W w'))
  have hE := Lib.hid (show unmE ns n L s va = if atE ns n L s va = 0 then setE n L (keyP s (findV ns n L s va)) else atE ns n L s va from rfl)
  have hT := Lib.hid (show unmT ns n L s va = if atE ns n L s va = 0 then cutT n L (keyP s (findV ns n L s va)) else L from rfl)
  have hZ := Lib.hid (show atE ns n L s va ≠ 0 → findV ns n L s va = Pg.zero from at_zero)
  generalize findV ns n L s va = x at *
  generalize atE ns n L s va = E at *
  have C2 := Lib.hid (fun (W : World) => hkey_any s x W)
  have C3 := Lib.hid (fun (W : World) (h : HX W hb sb n O ns bl L) => cut_any (keyP s x) (keyP_wf s0 s1 hx) W h.tab)
  have HB1 := Lib.hid (show (w.alloc (.cells #[.int .u64 Pg.zero.va, .int .i64 Pg.zero.sz, .int .u64 Pg.zero.pa, .bool Pg.zero.att.write, .bool Pg.zero.att.priv, .bool Pg.zero.att.exec, .bool Pg.zero.att.lock, .bool Pg.zero.att.global, .bool Pg.zero.att.quiet, .bool Pg.zero.ref, .bool Pg.zero.mod] 38)).heap.size = w.heap.size + 1 by simp)
  have HB0 := Lib.hid (Array.getElem?_eq_some_iff.1 h.row).1
  unfold Pg.zero at H1 R1 B1 HB1
  clear hx
  by_cases h0 : E = 0
  · subst h0
    rw [if_pos rfl] at hE hT
    go_enter Tryz.func33, Tryz.ntmps33
    go_wp2_with fail
    generalize World.alloc w _ = W at *
    refine (CA.out _ H1).mono ?_; rintro e w1 ⟨rfl, hb1⟩
    have NB : Below w1.heap.size w1 (w1.alloc (.cells #[.int .u64 x.va, .int .i64 x.sz, .int .u64 x.pa, .bool x.att.write, .bool x.att.priv, .bool x.att.exec, .bool x.att.lock, .bool x.att.global, .bool x.att.quiet, .bool x.ref, .bool x.mod] 38)) := (Below.refl _ _).alloc (Nat.le_refl _) _
    have U : HU w (w1.alloc (.cells #[.int .u64 x.va, .int .i64 x.sz, .int .u64 x.pa, .bool x.att.write, .bool x.att.priv, .bool x.att.exec, .bool x.att.lock, .bool x.att.global, .bool x.att.quiet, .bool x.ref, .bool x.mod] 38)) hb sb n O ns bl L w.heap.size w1.heap.size x := ⟨(H1.low hb1).low NB, (RowP.low R1 hb1).low NB, RowP.new w1 x, lo_step (lo_step B1 hb1) NB, hul, Nat.le_refl _, Nat.le_trans B1.size hb1.size, by have h6 := hb1.size; have h7 := HB1.out; omega, HB0.out⟩
    have hS := U.cs
    clear H1 R1 B1 hb1 CA
    go_wp2_with fail
    generalize World.alloc w1 _ = W2 at *
    generalize w1.heap.size = pb at *
    go_region_held3 (fun w1 => w1.cell? ⟨hb, 1, none⟩ = some (.pointer (some ⟨sb, 0, none⟩)) ∧ w1.cell? ⟨pb, 0, none⟩ = some (.int .u64 x.va) ∧ w1.cell? ⟨pb, 1, none⟩ = some (.int .i64 x.sz) ∧ w1.cell? ⟨pb, 2, none⟩ = some (.int .u64 x.pa) ∧ w1.cell? ⟨pb, 3, none⟩ = some (.bool x.att.write) ∧ w1.cell? ⟨pb, 4, none⟩ = some (.bool x.att.priv) ∧ w1.cell? ⟨pb, 5, none⟩ = some (.bool x.att.exec) ∧ w1.cell? ⟨pb, 6, none⟩ = some (.bool x.att.lock) ∧ w1.cell? ⟨pb, 7, none⟩ = some (.bool x.att.global) ∧ w1.cell? ⟨pb, 8, none⟩ = some (.bool x.att.quiet) ∧ w1.cell? ⟨pb, 9, none⟩ = some (.bool x.ref) ∧ w1.cell? ⟨pb, 10, none⟩ = some (.bool x.mod))
      (first | (with_reducible assumption) | (with_reducible exact (KK.out.2.2 _).2.2) | (refine (HU.cs (HU.low U ?_)); (repeat (first | (with_reducible assumption) | (with_reducible exact Below.refl _ _) | (with_reducible refine lo_step ?_ (by assumption)) | (with_reducible refine lo_drew ?_) | (with_reducible refine lo_drewN ?_ _) | (with_reducible refine lo_alloc ?_ _) | (with_reducible refine lo_set ?_ ?_ _) | (exact Nat.le_refl _) | (exact hs2 _ (Nat.le_refl _)) | (exact hb'.size))) ))
      (first
        | (go_at_call 65; (with_reducible refine (C2.out _).mono ?_); rintro e w' ⟨rfl, hb'⟩)
        | (go_at_call 73; (with_reducible refine (C3.out _ (HU.hx (HU.low U (by (repeat (first | (with_reducible assumption) | (with_reducible exact Below.refl _ _) | (with_reducible refine lo_step ?_ (by assumption)) | (with_reducible refine lo_drew ?_) | (with_reducible refine lo_drewN ?_ _) | (with_reducible refine lo_alloc ?_ _) | (with_reducible refine lo_set ?_ ?_ _) | (exact Nat.le_refl _) | (exact hs2 _ (Nat.le_refl _)) | (exact hb'.size))) )))).mono ?_); rintro e w5 ⟨rfl, hTT⟩; have KK := Lib.hid (HU.keep (HU.low U (by (repeat (first | (with_reducible assumption) | (with_reducible exact Below.refl _ _) | (with_reducible refine lo_step ?_ (by assumption)) | (with_reducible refine lo_drew ?_) | (with_reducible refine lo_drewN ?_ _) | (with_reducible refine lo_alloc ?_ _) | (with_reducible refine lo_set ?_ ?_ _) | (exact Nat.le_refl _) | (exact hs2 _ (Nat.le_refl _)) | (exact hb'.size))) )) hTT); have Q5 := KK.out.1; obtain ⟨⟨r0, r1, r2, r3, r4, r5, r6, r7, r8, r9, r10⟩, fr⟩ := KK.out.2.1))
    clear Q5 hTT hS
    go_wp2_with fail
    refine bodyPost_ret (res_P2 rfl _ _ _ _ rfl (KK.out.2.2 x).1.row) rfl ?_
    exact ⟨ret_pe rfl hE.out, by rw [hT.out]; exact (KK.out.2.2 x).2.1⟩
  · rw [if_neg h0] at hE hT
    have hxz := Lib.hid (hZ.out h0)
    go_enter Tryz.func33, Tryz.ntmps33
    go_wp2_with fail
    generalize World.alloc w _ = W at *
    refine (CA.out _ H1).mono ?_; rintro e w1 ⟨rfl, hb1⟩
    have NB : Below w1.heap.size w1 (w1.alloc (.cells #[.int .u64 x.va, .int .i64 x.sz, .int .u64 x.pa, .bool x.att.write, .bool x.att.priv, .bool x.att.exec, .bool x.att.lock, .bool x.att.global, .bool x.att.quiet, .bool x.ref, .bool x.mod] 38)) := (Below.refl _ _).alloc (Nat.le_refl _) _
    have R2 := (RowP.low R1 hb1).low NB
    have BL := lo_step (lo_step B1 hb1) NB
    obtain ⟨r0, r1, r2, r3, r4, r5, r6, r7, r8, r9, r10⟩ := R2.cells
    have fr := set_one_page R2
    have KK := Lib.hid (And.intro (R2.setAll Pg.zero).1 (BL.trans ((R2.setAll Pg.zero).2 _ (Nat.le_refl _))))
    clear R2 BL NB hb1 R1 B1 H1 CA HB1
    go_wp2_with fail
    refine bodyPost_ret (res_P2 rfl _ _ _ _ rfl KK.out.1.row) rfl ?_
    exact ⟨ret_pe hxz.out hE.out, by rw [hT.out]; exact TabTo.low h.tab KK.out.2⟩
end Go.Proofs.YtffpfceclhogoaaGreat.Hp
namespace Go.Proofs.YtffpfceclhogoaaGreat.Hp
open Fld Hs
open Go.ChangeShapes Go.WideShapes Go.ChangeAt Go.RowKit Go.Maps
set_option maxHeartbeats 1000000
set_option maxRecDepth 100000
theorem RowP.two {w : World} {pb : Nat} {y : Pg} (h : RowP w pb y) (r m : Bool) : RowP ((w.setCell ⟨pb, 9, none⟩ (.bool r)).setCell ⟨pb, 10, none⟩ (.bool m)) pb { y with ref := r, mod := m } ∧ w.grownBy ((w.setCell ⟨pb, 9, none⟩ (.bool r)).setCell ⟨pb, 10, none⟩ (.bool m)) (some pb) := by
  have h0 := set_row h.row 9 (.bool r)
  have h1 := set_row h0 10 (.bool m)
  clear h0
  simp only [List.setIfInBounds_toArray, List.set_cons_succ, List.set_cons_zero] at h1
  exact ⟨⟨h1⟩, ⟨rfl, rfl, rfl, by rw [setCell_size, setCell_size]; exact Nat.le_refl _, fun k hk hne => by
    have hn : k ≠ pb := fun e => hne (by rw [e])
    rw [Below.heap_setCell _ _ _ _ hn, Below.heap_setCell _ _ _ _ hn]⟩⟩
theorem RowP.six {w : World} {pb : Nat} {y : Pg} (h : RowP w pb y) (a : Att) : RowP ((((((w.setCell ⟨pb, 3, none⟩ (.bool a.write)).setCell ⟨pb, 4, none⟩ (.bool a.priv)).setCell ⟨pb, 5, none⟩ (.bool a.exec)).setCell ⟨pb, 6, none⟩ (.bool a.lock)).setCell ⟨pb, 7, none⟩ (.bool a.global)).setCell ⟨pb, 8, none⟩ (.bool a.quiet)) pb { y with att := a } ∧ w.grownBy ((((((w.setCell ⟨pb, 3, none⟩ (.bool a.write)).setCell ⟨pb, 4, none⟩ (.bool a.priv)).setCell ⟨pb, 5, none⟩ (.bool a.exec)).setCell ⟨pb, 6, none⟩ (.bool a.lock)).setCell ⟨pb, 7, none⟩ (.bool a.global)).setCell ⟨pb, 8, none⟩ (.bool a.quiet)) (some pb) := by
  have h0 := set_row h.row 3 (.bool a.write)
  have h1 := set_row h0 4 (.bool a.priv)
  have h2 := set_row h1 5 (.bool a.exec)
  have h3 := set_row h2 6 (.bool a.lock)
  have h4 := set_row h3 7 (.bool a.global)
  have h5 := set_row h4 8 (.bool a.quiet)
  clear h0 h1 h2 h3 h4
  simp only [List.setIfInBounds_toArray, List.set_cons_succ, List.set_cons_zero] at h5
  exact ⟨⟨h5⟩, ⟨by rw [(setCell_os _ _ _).1, (setCell_os _ _ _).1, (setCell_os _ _ _).1, (setCell_os _ _ _).1, (setCell_os _ _ _).1, (setCell_os _ _ _).1], by rw [(setCell_os _ _ _).2.1, (setCell_os _ _ _).2.1, (setCell_os _ _ _).2.1, (setCell_os _ _ _).2.1, (setCell_os _ _ _).2.1, (setCell_os _ _ _).2.1], by rw [(setCell_os _ _ _).2.2, (setCell_os _ _ _).2.2, (setCell_os _ _ _).2.2, (setCell_os _ _ _).2.2, (setCell_os _ _ _).2.2, (setCell_os _ _ _).2.2], by simp only [setCell_size]; exact Nat.le_refl _, fun k hk hne => by
    have hn : k ≠ pb := fun e => hne (by rw [e])
    rw [Below.heap_setCell _ _ _ _ hn, Below.heap_setCell _ _ _ _ hn, Below.heap_setCell _ _ _ _ hn, Below.heap_setCell _ _ _ _ hn, Below.heap_setCell _ _ _ _ hn, Below.heap_setCell _ _ _ _ hn]⟩⟩
theorem mark1_any (pb mb : Nat) (y : Pg) (md : Bool) (w : World) (h : RowP w pb y) (hm : w.heap[mb]? = some (.cells #[.bool md] 4 (0, 0))) :
    Calls Tryz.prog 56 #[.pointer (some ⟨pb, 0, none⟩), .pointer (some ⟨mb, 0, none⟩)] w fun e w' => e = .returned (.tuple #[]) ∧ RowP w' pb { y with ref := true, mod := y.mod || md } ∧ w.grownBy w' (some pb) := by
  obtain ⟨va, sz, pa, att, rf, mo⟩ := y
  obtain ⟨z0, z1, z2, z3, z4, z5, z6, z7, z8, z9, z10⟩ := h.cells
  have fr := set_one_page h
  have m0 : w.cell? ⟨mb, 0, none⟩ = some (.bool md) := by simp [World.cell?, hm]
  have hne : mb ≠ pb := by rintro rfl; rw [h.row] at hm; cases hm
  have K := Lib.hid h.two
  clear h hm
  cases mo
  · go_enter Tryz.func56, Tryz.ntmps56
    go_wp2_with fail
    go_end0
    exact ⟨rfl, K.out true md⟩
  · go_enter Tryz.func56, Tryz.ntmps56
    go_wp2_with fail
    go_end0
    exact ⟨rfl, K.out true true⟩
theorem clear1_any (pb : Nat) (y : Pg) (w : World) (h : RowP w pb y) :
    Calls Tryz.prog 57 #[.pointer (some ⟨pb, 0, none⟩)] w fun e w' => e = .returned (.tuple #[]) ∧ RowP w' pb { y with ref := false, mod := false } ∧ w.grownBy w' (some pb) := by
  obtain ⟨z0, z1, z2, z3, z4, z5, z6, z7, z8, z9, z10⟩ := h.cells
  have fr := set_one_page h
  have K := Lib.hid h.two
  clear h
  go_enter Tryz.func57, Tryz.ntmps57
  go_wp2_with fail
  go_end0
  exact ⟨rfl, K.out false false⟩
theorem prot1_any (pb ab : Nat) (y : Pg) (a : Att) (w : World) (h : RowP w pb y) (hm : w.heap[ab]? = some (.cells #[.bool a.write, .bool a.priv, .bool a.exec, .bool a.lock, .bool a.global, .bool a.quiet] 36 (0, 0))) :
    Calls Tryz.prog 107 #[.pointer (some ⟨pb, 0, none⟩), .pointer (some ⟨ab, 0, none⟩)] w fun e w' => e = .returned (.tuple #[]) ∧ RowP w' pb { y with att := a } ∧ w.grownBy w' (some pb) := by
  obtain ⟨z0, z1, z2, z3, z4, z5, z6, z7, z8, z9, z10⟩ := h.cells
  have fr := set_one_page h
  have m0 : w.cell? ⟨ab, 0, none⟩ = some (.bool a.write) := by simp [World.cell?, hm]
  have m1 : w.cell? ⟨ab, 1, none⟩ = some (.bool a.priv) := by simp [World.cell?, hm]
  have m2 : w.cell? ⟨ab, 2, none⟩ = some (.bool a.exec) := by simp [World.cell?, hm]
  have m3 : w.cell? ⟨ab, 3, none⟩ = some (.bool a.lock) := by simp [World.cell?, hm]
  have m4 : w.cell? ⟨ab, 4, none⟩ = some (.bool a.global) := by simp [World.cell?, hm]
  have m5 : w.cell? ⟨ab, 5, none⟩ = some (.bool a.quiet) := by simp [World.cell?, hm]
  have hne : ab ≠ pb := by rintro rfl; rw [h.row] at hm; cases hm
  have K := Lib.hid h.six
  clear h hm
  go_enter Tryz.func107, Tryz.ntmps107
  go_wp2_with fail
  go_end0
  exact ⟨rfl, K.out a⟩
end Go.Proofs.YtffpfceclhogoaaGreat.Hp
