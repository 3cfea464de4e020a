/-
  Contracts and plain facts: WDrop, WChange. Conditions: each says its own.
-/
import Derived.Test.YtnbdoemnepfhdaaGreatR41
import Derived.Defers
import Derived.Test.YtnbdoemnepfhdaaGreatR28
namespace Go.Proofs.YtnbdoemnepfhdaaGreat.Sw
open Fld Ts
open Mem (MemAt MemTo word)
open Frm (FrRow FrAt setT allB manyE manyI manyT manyO pick allB_mem giveE giveT)
open Go.ChangeShapes Go.WideShapes Go.ChangeAt Go.RowKit
set_option maxHeartbeats 2000000
set_option maxRecDepth 100000
theorem give_ok {x : Tb} {n : Nat} {F : Nat → Bool} (hx : x.In n) (ht : ∀ j, x.f ≤ j → j < x.f + x.k → F j = true) : giveE F n (x.f : Int) (x.k : Int) = 0 ∧ giveT F n (x.f : Int) (x.k : Int) = setT F x.f x.k false := by
  have b := hx.bd
  have h1 := hx.is
  have e : giveE F n (x.f : Int) (x.k : Int) = 0 := by
    unfold giveE
    rw [if_neg (by omega), if_neg (by omega), Int.toNat_natCast, Int.toNat_natCast, if_pos (allB_mem.2 fun j a c => ht j a c)]
  refine ⟨e, ?_⟩
  unfold giveT
  rw [if_pos e, Int.toNat_natCast, Int.toNat_natCast]
theorem clr_ok {x : Tb} {n : Nat} (hx : x.In n) (g : Nat → Nat) : Mem.mayI ((8192 * n : Nat) : Int) ((8192 * x.f : Nat) : Int) 1 ((8192 * x.k : Nat) : Int) = 0 ∧ Mem.clS (8192 * n) g ((8192 * x.f : Nat) : Int) ((8192 * x.k : Nat) : Int) = Mem.clr g (8192 * x.f) (8192 * x.k) := by
  have b := hx.bd
  have h1 := hx.is
  have e : Mem.mayI ((8192 * n : Nat) : Int) ((8192 * x.f : Nat) : Int) 1 ((8192 * x.k : Nat) : Int) = 0 := by
    unfold Mem.mayI
    rw [if_neg (by omega), if_neg (by omega)]
  refine ⟨e, ?_⟩
  unfold Mem.clS
  rw [if_pos e, Int.toNat_natCast, Int.toNat_natCast]
theorem pdrop_any {w : World} {sb bm fb bb n : Nat} {g o : Nat → Nat} {F : Nat → Bool} (x : Tb) (hn : n ≤ 1000) (hx : x.In n) (h : PAt w sb bm fb bb n g F) (hr : RowP w x.st sb (x.q n o)) (ht : ∀ j, x.f ≤ j → j < x.f + x.k → F j = true) :
    Calls Tryz.prog 19 #[.pointer (some ⟨sb, 0, none⟩), .pointer (some ⟨fb, 0, none⟩), .pointer (some ⟨x.st, 0, none⟩), .int .i64 x.s] w fun e w' => e = .returned (.int .i64 0) ∧ PTo w w' sb bm fb bb n (Mem.clr g (8192 * x.f) (8192 * x.k)) (setT F x.f x.k false) := by
  have CG := Lib.hid (grade_any w hr)
  have CF := Lib.hid (fun W => frames_any x.s x.g W)
  have CY := Lib.hid (fun W => frameBytes_any W)
  have CB := Lib.hid (base_any w hr)
  have CB2 := Lib.hid (fun (W : World) (hW : RowP W x.st sb (x.q n o)) => base_any W hW)
  have b := hx.bd
  have h1 := hx.is
  have hgv := give_ok hx ht
  have hcl := clr_ok hx g
  have CV := Lib.hid (Frm.give_any (x.f : Int) (x.k : Int) (by omega) (by omega) (by omega) (by omega) w h.fr)
  rw [hgv.1, hgv.2] at CV
  have CC := Lib.hid (fun (W : World) (hW : MemAt W sb bm (8192 * n) g) => Mem.clear_any sb bm (8192 * n) g ((8192 * x.f : Nat) : Int) ((8192 * x.k : Nat) : Int) W hW (by omega) (by omega) (by omega) (by omega))
  rw [hcl.1, hcl.2] at CC
  rw [← b.2.2.2.2.2.2] at CF
  rw [show ((x.q n o).b : Int) = ((8192 * x.f : Nat) : Int) from rfl] at CB CB2
  rw [show (x.q n o).g = x.g from rfl] at CG
  have E1 := Lib.hid (show (((8192 * x.f : Nat) : Int)) / 8192 = (x.f : Int) by omega)
  have E2 := Lib.hid (show ((x.k : Int) * 8192) = ((8192 * x.k : Nat) : Int) by omega)
  have B1 : (0 : Int) ≤ ((8192 * x.f : Nat) : Int) := by omega
  have B2 : ((8192 * x.f : Nat) : Int) ≤ 8192000 := by omega
  have B3 : (0 : Int) ≤ (x.k : Int) := by omega
  have B4 : (x.k : Int) ≤ 8 := by omega
  clear ht hgv hcl hx b h1
  generalize ((8192 * x.f : Nat) : Int) = bI at *
  go_enter Tryz.func19, Tryz.ntmps19
  go_wp2_with (first | (go_at_call 36; (with_reducible refine CG.out.mono ?_); rintro e w' ⟨rfl, rfl⟩) | (go_at_call 11; (with_reducible refine (CF.out _).mono ?_); rintro e w' ⟨rfl, rfl⟩) | (go_at_call 39; (with_reducible refine (CY.out _).mono ?_); rintro e w' ⟨rfl, rfl⟩) | (go_at_call 34; (with_reducible refine CB.out.mono ?_); rintro e w' ⟨rfl, rfl⟩))
  rw [E1.out]
  refine CV.out.mono ?_; rintro e w1 ⟨rfl, k1, k2⟩
  obtain ⟨a1, a2⟩ := h.fr_to k1 k2
  have r1 := a2.row h hr
  go_wp2_with (go_at_call 34; (with_reducible refine (CB2.out _ r1).mono ?_); rintro e w' ⟨rfl, rfl⟩)
  rw [E2.out]
  refine (CC.out _ a1.mem).mono ?_; rintro e w2 ⟨rfl, m⟩
  have M := PTo.trans (.inl rfl) a2 (a1.mem_to m)
  go_wp2_with fail
  go_ret
  exact ⟨rfl, M⟩
theorem pdrop_deferred {w : World} (u : FrameMode) {sb bm fb bb n : Nat} {g o : Nat → Nat} {F : Nat → Bool} (x : Tb) (hn : n ≤ 1000) (hx : x.In n) (h : PAt w sb bm fb bb n g F) (hr : RowP w x.st sb (x.q n o)) (ht : ∀ j, x.f ≤ j → j < x.f + x.k → F j = true) :
    CallsD Tryz.prog 19 #[.pointer (some ⟨sb, 0, none⟩), .pointer (some ⟨fb, 0, none⟩), .pointer (some ⟨x.st, 0, none⟩), .int .i64 x.s] u w fun e u' w' => u' = u ∧ e = .returned (.int .i64 0) ∧ PTo w w' sb bm fb bb n (Mem.clr g (8192 * x.f) (8192 * x.k)) (setT F x.f x.k false) := by
  have CG := Lib.hid (grade_any w hr)
  have CF := Lib.hid (fun W => frames_any x.s x.g W)
  have CY := Lib.hid (fun W => frameBytes_any W)
  have CB := Lib.hid (base_any w hr)
  have CB2 := Lib.hid (fun (W : World) (hW : RowP W x.st sb (x.q n o)) => base_any W hW)
  have b := hx.bd
  have h1 := hx.is
  have hgv := give_ok hx ht
  have hcl := clr_ok hx g
  have CV := Lib.hid (Frm.give_any (x.f : Int) (x.k : Int) (by omega) (by omega) (by omega) (by omega) w h.fr)
  rw [hgv.1, hgv.2] at CV
  have CC := Lib.hid (fun (W : World) (hW : MemAt W sb bm (8192 * n) g) => Mem.clear_any sb bm (8192 * n) g ((8192 * x.f : Nat) : Int) ((8192 * x.k : Nat) : Int) W hW (by omega) (by omega) (by omega) (by omega))
  rw [hcl.1, hcl.2] at CC
  rw [← b.2.2.2.2.2.2] at CF
  rw [show ((x.q n o).b : Int) = ((8192 * x.f : Nat) : Int) from rfl] at CB CB2
  rw [show (x.q n o).g = x.g from rfl] at CG
  have E1 := Lib.hid (show (((8192 * x.f : Nat) : Int)) / 8192 = (x.f : Int) by omega)
  have E2 := Lib.hid (show ((x.k : Int) * 8192) = ((8192 * x.k : Nat) : Int) by omega)
  have B1 : (0 : Int) ≤ ((8192 * x.f : Nat) : Int) := by omega
  have B2 : ((8192 * x.f : Nat) : Int) ≤ 8192000 := by omega
  have B3 : (0 : Int) ≤ (x.k : Int) := by omega
  have B4 : (x.k : Int) ≤ 8 := by omega
  clear ht hgv hcl hx b h1
  generalize ((8192 * x.f : Nat) : Int) = bI at *
  go_enter_d Tryz.func19, Tryz.ntmps19
  go_wp2_with (first | (go_at_call 36; (with_reducible refine CG.out.mono ?_); rintro e w' ⟨rfl, rfl⟩) | (go_at_call 11; (with_reducible refine (CF.out _).mono ?_); rintro e w' ⟨rfl, rfl⟩) | (go_at_call 39; (with_reducible refine (CY.out _).mono ?_); rintro e w' ⟨rfl, rfl⟩) | (go_at_call 34; (with_reducible refine CB.out.mono ?_); rintro e w' ⟨rfl, rfl⟩))
  rw [E1.out]
  refine CV.out.mono ?_; rintro e w1 ⟨rfl, k1, k2⟩
  obtain ⟨a1, a2⟩ := h.fr_to k1 k2
  have r1 := a2.row h hr
  go_wp2_with (go_at_call 34; (with_reducible refine (CB2.out _ r1).mono ?_); rintro e w' ⟨rfl, rfl⟩)
  rw [E2.out]
  refine (CC.out _ a1.mem).mono ?_; rintro e w2 ⟨rfl, m⟩
  have M := PTo.trans (.inl rfl) a2 (a1.mem_to m)
  go_wp2_with fail
  go_ret
  exact ⟨rfl, M⟩
end Go.Proofs.YtnbdoemnepfhdaaGreat.Sw

namespace Go.Proofs.YtnbdoemnepfhdaaGreat.Sw
open Fld Ts
open Mem (MemAt MemTo word)
open Frm (FrRow FrAt setT allB manyE manyI manyT manyO pick allB_mem giveE giveT)
open Go.ChangeShapes Go.WideShapes Go.ChangeAt Go.RowKit
set_option maxHeartbeats 2000000
set_option maxRecDepth 100000
theorem pchange_no {w : World} {sb bm fb bb n : Nat} {g0 : Nat → Nat} {F : Nat → Bool} (st : Nat) (s g : Int) (h : PAt w sb bm fb bb n g0 F) (he : manyE F n (frI s g) ≠ 0) :
    Calls Tryz.prog 14 #[.pointer (some ⟨sb, 0, none⟩), .pointer (some ⟨fb, 0, none⟩), .pointer (some ⟨st, 0, none⟩), .int .i64 s, .int .i64 g] w fun e w' => e = .returned (.tuple #[.pointer none, .int .i64 0, .int .i64 (manyE F n (frI s g))]) ∧ PTo w w' sb bm fb bb n g0 F := by
  have CM := Lib.hid (pmake_no s g h he)
  generalize manyE F n (frI s g) = E at *
  have he' : (E != 0) = true := by simpa using he
  clear he h
  go_enter_defers Tryz.func14, Tryz.ntmps14
  go_wp2_with fail
  refine CM.out.mono ?_; rintro e w1 ⟨rfl, k1⟩
  go_wp2_with fail
  exact ⟨_, results_tmp3 rfl _ _ _, rfl, k1⟩
/-- What a Change makes of two TSBs' words. -/
theorem change_pl {x y : Tb} {n : Nat} {g g1 g2 : Nat → Nat} (_hx : x.In n) (_hy : y.In n) (h1 : PlAt g1 (y.q n g) (fun _ => Pl.none)) (h2 : PlAt g2 (y.q n g1) y.T) : PlAt g2 (y.q n g) y.T := ⟨h2.pl, fun a ha => (h2.out a ha).trans (h1.out a ha)⟩
theorem pchange_yes {w : World} {sb bm fb bb n : Nat} {g0 : Nat → Nat} {F : Nat → Bool} (x y : Tb) (hn : n ≤ 1000) (hx : x.In n) (hy : y.In n) (hs : y.s = x.s) (h : PAt w sb bm fb bb n g0 F) (hr : RowP w x.st sb (x.q n g0)) (hp : PlAt g0 (x.q n g0) x.T) (hG : Gd (x.p n) x.T) (ht : ∀ j, x.f ≤ j → j < x.f + x.k → F j = true) (ha : Ap x y) (he : manyE F n (frI y.s y.g) = 0) (hi : manyI F n (frI y.s y.g) = (y.f : Int)) (hT : manyT F n (frI y.s y.g) = setT F y.f y.k true) (hyT : y.T = insAll (y.p n) (lstP (x.p n) x.T x.n)) :
    Calls Tryz.prog 14 #[.pointer (some ⟨sb, 0, none⟩), .pointer (some ⟨fb, 0, none⟩), .pointer (some ⟨x.st, 0, none⟩), .int .i64 x.s, .int .i64 y.g] w fun e w' => ∃ st g2, e = .returned (.tuple #[.pointer (some ⟨st, 0, none⟩), .int .i64 ((lstP (x.p n) x.T x.n).length : Int), .int .i64 0]) ∧ w.heap.size ≤ st ∧ PTo w w' sb bm fb bb n (Mem.clr g2 (8192 * x.f) (8192 * x.k)) (setT (setT F y.f y.k true) x.f x.k false) ∧ PlAt g2 (y.q n g0) y.T ∧ RowP w' st sb (y.q n g0) := by
  have CM := Lib.hid (pmake_yes y hn hy h he hi hT)
  rw [hs] at CM
  have hle : (lstP (x.p n) x.T x.n).length ≤ 4096 := by
    have e1 := lst_le (x.p n) x.T x.n
    have e2 := hx.bd
    omega
  go_enter_defers Tryz.func14, Tryz.ntmps14
  go_wp2_with fail
  refine CM.out.mono ?_; rintro e w1 ⟨st, g1, rfl, s1, ⟨b1, P1, n1, t1⟩, p1, r1⟩
  have rx1 := t1.row h hr
  have rx1' : RowP w1 x.st sb (x.q n g1) := row_q rx1
  have hout : ∀ a, 8192 * x.f ≤ a → a < 8192 * (x.f + x.k) → g1 a = g0 a := fun a a1 a2 => p1.out a (by
    have := hy.bd
    unfold Ap at ha
    show a < 8192 * y.f ∨ 8192 * y.f + 16 * y.n ≤ a
    omega)
  have T1 := P1.tsb hn hx rx1' ⟨pl_same hx hout hp.pl, fun _ _ => rfl⟩
  have O1 : TsbAt w1 st sb b1 (y.q n g1) (fun _ => Pl.none) := ⟨hy.ok hn g1, row_q r1, g1, P1.mem, p1.pl, fun _ _ => rfl⟩
  have CI := Lib.hid (pinto_any T1 O1 hG (show x.s = y.s from hs.symm))
  rw [show lstP (x.q n g1) x.T (x.q n g1).n = lstP (x.p n) x.T x.n from lst_q ..] at CI
  rw [show insAll (y.q n g1) (lstP (x.p n) x.T x.n) = y.T by rw [hyT]; exact ins_q ..] at CI
  clear CM T1 O1
  go_wp2_with fail
  refine CI.out.mono ?_; rintro e w2 ⟨rfl, k2⟩
  obtain ⟨g2, ⟨b2, P2, n2, t2⟩, p2, r2⟩ := P1.tsb_to rfl k2
  have CD := Lib.hid (fun u => pdrop_deferred u x hn hx P2 (t2.row P1 rx1) (F := setT F y.f y.k true) fun j a b => by
    by_cases c : y.f ≤ j ∧ j < y.f + y.k
    · exact Frm.setT_in c.1 c.2
    · rw [Frm.setT_out (by omega)]; exact ht j a b)
  clear CI
  go_wp2_with fail
  refine leaves_cons (f := 19) (args := #[.pointer (some ⟨sb, 0, none⟩), .pointer (some ⟨fb, 0, none⟩), .pointer (some ⟨x.st, 0, none⟩), .int .i64 x.s]) (by simp) (by simp [go_sem]) ?_
  refine (CD.out .returning).mono ?_
  rintro e u' w3 ⟨rfl, rfl, b3, P3, n3, t3⟩
  refine ⟨_, results_tmp3 rfl _ _ _, st, g2, rfl, s1, ?_, change_pl hx hy p1 p2, (t3.row P2 (row_q r2))⟩
  exact PTo.trans n1 t1 (PTo.trans n2 t2 ⟨b3, P3, n3, t3⟩)
end Go.Proofs.YtnbdoemnepfhdaaGreat.Sw

