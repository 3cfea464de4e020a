/-
  Contracts and plain facts: WDocD, WLaw, WCut, WMk, WBegin, WDoA, WDoB, WCut2, WDoC. Conditions: each says its own.
-/
import Derived.Test.YtnbdoemnepfhdaaGreatR40
import Derived.Test.YtnbdoemnepfhdaaGreatR42
import Derived.Test.YtnbdoemnepfhdaaGreatR38
import Derived.Test.YtnbdoemnepfhdaaGreatR39
import Derived.Test.YtnbdoemnepfhdaaGreatR32
namespace Go.Proofs.YtnbdoemnepfhdaaGreat.Sw
open Fld Ts
open Frm (OwnI IsD manyE manyI manyT lst giveE giveT setT)
open Go.ChangeShapes Go.WideShapes Go.ChangeAt Go.RowKit Go.Shelf
set_option maxHeartbeats 4000000
set_option maxRecDepth 100000
/-- The boxes of Change: what came in, the results. -/
abbrev chB (w : World) (N : Nat) (v : Value) (s n : Int) (u : Value) (f g : Int) : List Bx := [(w.heap.size + 1 + 1 + 1, sC 0 0 (.slice none 0 0) 0 0, 70), (w.heap.size + 1 + 1, #[.int .i64 0, .slice none 0 0], 43), (w.heap.size + 1, sC s n u f g, 70), (w.heap.size, #[.int .i64 (N : Int), v], 43)]
theorem chB_new (w : World) (N : Nat) (v : Value) (s n : Int) (u : Value) (f g : Int) : BXs w ((((w.alloc (.cells #[.int .i64 (N : Int), v] 43)).alloc (.cells #[.int .i64 s, .int .i64 n, u, .int .i64 f, .int .i64 g] 70)).alloc (.cells #[.int .i64 0, .slice none 0 0] 43)).alloc (.cells #[.int .i64 0, .int .i64 0, .slice none 0 0, .int .i64 0, .int .i64 0] 70)) (chB w N v s n u f g) := by
  have h := ((((BXs.start w).push #[.int .i64 (N : Int), v] 43).push (sC s n u f g) 70).push #[.int .i64 0, .slice none 0 0] 43).push (sC 0 0 (.slice none 0 0) 0 0) 70
  simp only [World.size_alloc] at h
  exact h
theorem own_put5 {wr : World} {B cap b : Nat} {ao : Option Addr} {Q : List Int} {x0 x1 x2 x3 x4 : Value} {t : TypeId} (ho : OwnI wr B ao cap Q) (hb : wr.heap[b]? = some (.cells #[x0, x1, x2, x3, x4] t (0, 0))) (ht : t ≠ 3) (c0 c1 c2 c3 c4 : Value) : OwnI (((((wr.setCell ⟨b, 0, none⟩ c0).setCell ⟨b, 1, none⟩ c1).setCell ⟨b, 2, none⟩ c2).setCell ⟨b, 3, none⟩ c3).setCell ⟨b, 4, none⟩ c4) B ao cap Q := by
  have r1 := Mem.heap_set (o := 0) hb c0
  have r2 := Mem.heap_set (o := 1) r1 c1
  have r3 := Mem.heap_set (o := 2) r2 c2
  have r4 := Mem.heap_set (o := 3) r3 c3
  exact own_put (own_put (own_put (own_put (own_put ho hb ht 0 c0) r1 ht 1 c1) r2 ht 2 c2) r3 ht 3 c3) r4 ht 4 c4
theorem rchange_no (N B cap : Nat) (ao : Option Addr) (T : Nat → Bool) (s n f g g2 : Int) (uo : Option Addr) (un uc : Nat) (w : World) (h : OwnI w B ao cap (lst T N)) (hB : B ≤ w.heap.size) (hN : N ≤ 65536) (he : manyE T N (frI s g2) ≠ 0) :
    Calls Tryz.prog 31 #[.agg #[.int .i64 (N : Int), .slice ao (lst T N).length cap], .agg (sC s n (.slice uo un uc) f g), .int .i64 g2] w fun e w' => e = .returned (.tuple #[.agg #[.int .i64 (N : Int), .slice ao (lst T N).length cap], .agg (sC s n (.slice uo un uc) f g), .int .i64 0, .int .i64 (manyE T N (frI s g2))]) ∧ OwnI w' B ao cap (lst T N) ∧ Below w.heap.size w w' := by
  have X0 := chB_new w N (.slice ao (lst T N).length cap) s n (.slice uo un uc) f g
  have h0 := own_below h X0.bel
  have CM := Lib.hid (fun (W : World) (hW : OwnI W B ao cap (lst T N)) (hB : B ≤ W.heap.size) => rmake_no N B cap ao T s g2 W hW hB hN he)
  generalize lst T N = Q at *
  generalize manyE T N (frI s g2) = E at *
  have hE : (E != 0) = true := by simpa using he
  go_enter Tryz.func31, Tryz.ntmps31
  go_upto_region 1 with fail
  generalize World.alloc (World.alloc (World.alloc (World.alloc w _) _) _) _ = W0 at *
  obtain ⟨c1, c2⟩ := cell2 X0.h3
  obtain ⟨d1, d2, d3, d4, d5⟩ := cell5 X0.h2
  go_wp2_with fail
  refine (CM.out _ h0 (Nat.le_trans hB X0.bel.size)).mono ?_; rintro e w1 ⟨rfl, h1, b1⟩
  have X1 := ((X0.low b1).push #[.int .i64 (N : Int), .slice ao Q.length cap] 43).push (sC 0 0 (.slice none 0 0) 0 0) 70
  have hh1 := own_below (own_below h1 ((Below.refl w1.heap.size w1).alloc (Nat.le_refl _) (.cells #[.int .i64 (N : Int), .slice ao Q.length cap] 43))) ((Below.refl _ _).alloc (Nat.le_refl _) (.cells (sC 0 0 (.slice none 0 0) 0 0) 70))
  clear X0 h0 CM b1 h1 c1 c2 d1 d2 d3 d4 d5
  simp only [World.size_alloc] at X1
  go_upto_region 3 with fail
  generalize World.alloc (World.alloc w1 _) _ = W2 at *
  have r6 := X1.h3
  have r7 := X1.h2
  have f6 := froz r6
  have f7 := froz r7
  obtain ⟨c1, c2⟩ := cell2 X1.h5
  obtain ⟨d1, d2, d3, d4, d5⟩ := cell5 X1.h4
  obtain ⟨e1, e2⟩ := cell2 r6
  obtain ⟨i1, i2, i3, i4, i5⟩ := cell5 r7
  go_region
  all_goals
    go_wp2_with fail
    have X5 := ((X1.p2_3 (c0 := .int .i64 (N : Int)) (c1 := .slice ao Q.length cap)).p5_2 (c0 := .int .i64 s) (c1 := .int .i64 n) (c2 := .slice uo un uc) (c3 := .int .i64 f) (c4 := .int .i64 g)).drew
    have h5 : OwnI (World.drew _) B ao cap Q := own_below (own_put5 (own_put2 hh1 r6 (by decide) (.int .i64 (N : Int)) (.slice ao Q.length cap)) (X1.p2_3 (c0 := .int .i64 (N : Int)) (c1 := .slice ao Q.length cap)).h2 (by decide) (.int .i64 s) (.int .i64 n) (.slice uo un uc) (.int .i64 f) (.int .i64 g)) (drewN_low _ 1)
    generalize World.drew (World.setCell (World.setCell (World.setCell (World.setCell (World.setCell (World.setCell (World.setCell W2 _ _) _ _) _ _) _ _) _ _) _ _) _ _) = W3 at *
    obtain ⟨x1, x2⟩ := cell2 X5.h3
    obtain ⟨y1, y2, y3, y4, y5⟩ := cell5 X5.h2
    refine bodyPost_ret (v := .tuple #[.agg #[.int .i64 (N : Int), .slice ao Q.length cap], .agg (sC s n (.slice uo un uc) f g), .int .i64 0, .int .i64 E]) (by simp [results, Tryz.results31, go_sem, x1, x2, y1, y2, y3, y4, y5]) rfl ⟨rfl, h5, X5.bel⟩
theorem ws_put {w : World} {C b : Nat} {v : Value} {l : List Wd} {c : Array Value} {t : TypeId} (h : WsAt w C v l) (hb : w.heap[b]? = some (.cells c t (0, 0))) (ht : t ≠ 139) (o : Nat) (u : Value) : WsAt (w.setCell ⟨b, o, none⟩ u) C v l :=
  ws_same h fun g cur _ hg => Below.heap_setCell _ _ _ _ (by
    show g ≠ b
    rintro rfl
    rw [hb] at hg
    simp only [Option.some.injEq, Obj.cells.injEq] at hg
    exact ht hg.2.1)
theorem ws_put2 {w : World} {C b : Nat} {v x y : Value} {l : List Wd} {t : TypeId} (h : WsAt w C v l) (hb : w.heap[b]? = some (.cells #[x, y] t (0, 0))) (ht : t ≠ 139) (a c : Value) : WsAt ((w.setCell ⟨b, 0, none⟩ a).setCell ⟨b, 1, none⟩ c) C v l := ws_put (ws_put h hb ht 0 a) (Mem.heap_set hb a) ht 1 c
theorem ws_put3 {w : World} {C b : Nat} {v : Value} {xs : Array Value} {l : List Wd} {t : TypeId} (h : WsAt w C v l) (hb : w.heap[b]? = some (.cells xs t (0, 0))) (ht : t ≠ 139) (c0 c1 c2 : Value) : WsAt (((w.setCell ⟨b, 0, none⟩ c0).setCell ⟨b, 1, none⟩ c1).setCell ⟨b, 2, none⟩ c2) C v l := by
  have r1 := Mem.heap_set (o := 0) hb c0
  have r2 := Mem.heap_set (o := 1) r1 c1
  exact ws_put (ws_put (ws_put h hb ht 0 c0) r1 ht 1 c1) r2 ht 2 c2
theorem own_put3 {wr : World} {B cap b : Nat} {ao : Option Addr} {Q : List Int} {xs : Array Value} {t : TypeId} (ho : OwnI wr B ao cap Q) (hb : wr.heap[b]? = some (.cells xs t (0, 0))) (ht : t ≠ 3) (c0 c1 c2 : Value) : OwnI (((wr.setCell ⟨b, 0, none⟩ c0).setCell ⟨b, 1, none⟩ c1).setCell ⟨b, 2, none⟩ c2) B ao cap Q := by
  have r1 := Mem.heap_set (o := 0) hb c0
  have r2 := Mem.heap_set (o := 1) r1 c1
  exact own_put (own_put (own_put ho hb ht 0 c0) r1 ht 1 c1) r2 ht 2 c2
theorem ws_put5 {w : World} {C b : Nat} {v : Value} {xs : Array Value} {l : List Wd} {t : TypeId} (h : WsAt w C v l) (hb : w.heap[b]? = some (.cells xs t (0, 0))) (ht : t ≠ 139) (c0 c1 c2 c3 c4 : Value) : WsAt (((((w.setCell ⟨b, 0, none⟩ c0).setCell ⟨b, 1, none⟩ c1).setCell ⟨b, 2, none⟩ c2).setCell ⟨b, 3, none⟩ c3).setCell ⟨b, 4, none⟩ c4) C v l := by
  have r1 := Mem.heap_set (o := 0) hb c0
  have r2 := Mem.heap_set (o := 1) r1 c1
  have r3 := Mem.heap_set (o := 2) r2 c2
  have r4 := Mem.heap_set (o := 3) r3 c3
  exact ws_put (ws_put (ws_put3 h hb ht c0 c1 c2) r3 ht 3 c3) r4 ht 4 c4
theorem cell3 {w : World} {b : Nat} {x y z : Value} {t : TypeId} (h : w.heap[b]? = some (.cells #[x, y, z] t (0, 0))) : w.cell? ⟨b, 0, none⟩ = some x ∧ w.cell? ⟨b, 1, none⟩ = some y ∧ w.cell? ⟨b, 2, none⟩ = some z := ⟨cell_row 0 h rfl, cell_row 1 h rfl, cell_row 2 h rfl⟩
theorem rchange_yes (B cap : Nat) (ao : Option Addr) {n : Nat} {F : Nat → Bool} (x y : Tb) (hn : n ≤ 1000) (hx : x.In n) (hy : y.In n) (hs : y.s = x.s) (w : World) (h : OwnI w B ao cap (lst F n)) (hB : B ≤ w.heap.size) (hw : WsAt w B x.v x.l) (ht : Tie (x.p n) x.l x.T) (hG : Gd (x.p n) x.T) (tk : ∀ j, x.f ≤ j → j < x.f + x.k → F j = true) (he : manyE F n (frI y.s y.g) = 0) (hi : manyI F n (frI y.s y.g) = (y.f : Int)) (hT : manyT F n (frI y.s y.g) = setT F y.f y.k true) :
    Calls Tryz.prog 31 #[.agg #[.int .i64 (n : Int), .slice ao (lst F n).length cap], .agg (sC x.s (x.n : Int) x.v (x.f : Int) x.g), .int .i64 y.g] w fun e w' => ∃ ao2 cap2 v' l', e = .returned (.tuple #[.agg #[.int .i64 (n : Int), .slice ao2 (lst (setT (setT F y.f y.k true) x.f x.k false) n).length cap2], .agg (sC y.s (y.n : Int) v' (y.f : Int) y.g), .int .i64 ((lstP (x.p n) x.T x.n).length : Int), .int .i64 0]) ∧ OwnI w' B ao2 cap2 (lst (setT (setT F y.f y.k true) x.f x.k false) n) ∧ WsAt w' B v' l' ∧ Tie (y.p n) l' (insAll (y.p n) (lstP (x.p n) x.T x.n)) ∧ Below w.heap.size w w' := by
  obtain ⟨uo, uc, hv⟩ := own_shape hw
  rw [hv] at hw ⊢
  have X0 := chB_new w n (.slice ao (lst F n).length cap) x.s (x.n : Int) (.slice uo x.l.length uc) (x.f : Int) x.g
  have h0 := own_below h X0.bel
  have w0 := ws_low hw X0.bel
  have bx := hx.bd
  have by' := hy.bd
  have CM := Lib.hid (fun (W : World) (hW : OwnI W B ao cap (lst F n)) (hB : B ≤ W.heap.size) => rmake_yes n B cap ao F y.s y.g W hW hB (by omega) he)
  rw [hi, hT, ← by'.2.2.2.2.2.1, hs] at CM
  have CI := Lib.hid (fun (W : World) (hW : WsAt W B (.slice uo x.l.length uc) x.l) (h2 : WsAt W B (.slice none 0 0) []) (hB : B ≤ W.heap.size) => ointo_any (hx.ok hn _) (hy.ok hn _) (show x.s = y.s from hs.symm) ht hG (tie_nil (y.p n)) W hW h2 hB)
  rw [show (x.q n fun _ => 0) = x.p n from rfl, show (y.q n fun _ => 0) = y.p n from rfl, show (x.p n).s = x.s from rfl, show (y.p n).s = y.s from rfl, show (x.p n).n = x.n from rfl, show (y.p n).n = y.n from rfl, hs] at CI
  have tk2 : ∀ j, x.f ≤ j → j < x.f + x.k → setT F y.f y.k true j = true := fun j a b => by
    by_cases c : y.f ≤ j ∧ j < y.f + y.k
    · exact Frm.setT_in c.1 c.2
    · rw [Frm.setT_out (by omega)]; exact tk j a b
  have hg := give_ok hx tk2
  have CD := Lib.hid (fun (W : World) (ao2 : Option Addr) (cap2 : Nat) (hW : OwnI W B ao2 cap2 (lst (setT F y.f y.k true) n)) (hB : B ≤ W.heap.size) => rdrop_any n B cap2 ao2 (setT F y.f y.k true) x.s (x.n : Int) (x.f : Int) x.g uo x.l.length uc (by omega) (by have := hx.is; omega) W hW hB (by omega))
  rw [← bx.2.2.2.2.2.2, hg.2] at CD
  rw [hs]
  have hle : (lstP (x.p n) x.T x.n).length ≤ 4096 := by
    have e1 := lst_le (x.p n) x.T x.n
    omega
  generalize lstP (x.p n) x.T x.n = es at *
  generalize lst F n = Q at *
  generalize lst (setT F y.f y.k true) n = R at *
  generalize lst (setT (setT F y.f y.k true) x.f x.k false) n = R2 at *
  generalize insAll (y.p n) es = U at *
  generalize y.p n = qy at *
  clear ht hG tk tk2 hg he hi hT bx by' hs hv hle hx hy
  generalize (x.n : Int) = xn at *
  generalize (y.n : Int) = yn at *
  generalize (x.f : Int) = xf at *
  generalize (y.f : Int) = yf at *
  go_enter Tryz.func31, Tryz.ntmps31
  go_upto_region 1 with fail
  generalize World.alloc (World.alloc (World.alloc (World.alloc w _) _) _) _ = W0 at *
  obtain ⟨c1, c2⟩ := cell2 X0.h3
  obtain ⟨d1, d2, d3, d4, d5⟩ := cell5 X0.h2
  go_wp2_with fail
  refine (CM.out _ h0 (Nat.le_trans hB X0.bel.size)).mono ?_; rintro e w1 ⟨ao1, cap1, rfl, h1, b1⟩
  have z1 : w.heap.size + 1 + 1 + 1 < w1.heap.size := (X0.low b1).lt _ (List.mem_cons_self ..)
  have X1 := ((X0.low b1).push #[.int .i64 (n : Int), .slice ao1 R.length cap1] 43).push (sC x.s yn (.slice none 0 0) yf y.g) 70
  have B2 : Below w1.heap.size w1 ((w1.alloc (.cells #[.int .i64 (n : Int), .slice ao1 R.length cap1] 43)).alloc (.cells (sC x.s yn (.slice none 0 0) yf y.g) 70)) := ((Below.refl _ _).alloc (Nat.le_refl _) _).alloc (by simp) _
  have h2 := own_below h1 B2
  have ws2 := ws_low (ws_low w0 b1) B2
  clear X0 h0 w0 CM b1 h1 B2 c1 c2 d1 d2 d3 d4 d5
  simp only [World.size_alloc] at X1
  go_upto_region 4 with fail
  generalize World.alloc (World.alloc w1 _) _ = W2 at *
  obtain ⟨d1, d2, d3, d4, d5⟩ := cell5 X1.h4
  obtain ⟨i1, i2, i3, i4, i5⟩ := cell5 X1.h0
  go_wp2_with fail
  refine (CI.out _ ws2 (ws_nil _ _) (Nat.le_trans hB X1.bel.size)).mono ?_; rintro e w3 ⟨v', l', rfl, ws3, ht3, b3⟩
  obtain ⟨vo, vc, rfl⟩ := own_shape ws3
  have X3 := (X1.low b3).push #[.int .i64 x.s, .int .i64 yn, .slice vo l'.length vc] 68
  have B4 : Below w3.heap.size w3 (w3.alloc (.cells #[.int .i64 x.s, .int .i64 yn, .slice vo l'.length vc] 68)) := (Below.refl _ _).alloc (Nat.le_refl _) _
  have h3 := own_below (own_below h2 b3) B4
  have ws4 := ws_low ws3 B4
  clear X1 h2 ws2 CI b3 ws3 B4 d1 d2 d3 d4 d5 i1 i2 i3 i4 i5
  go_upto_region 5 with fail
  generalize World.alloc w3 _ = W3 at *
  have r1 := X3.h1
  have f1 := froz r1
  obtain ⟨d1, d2, d3⟩ := cell3 X3.h0
  obtain ⟨i1, i2, i3, i4, i5⟩ := cell5 r1
  go_upto_region 6 with fail
  have X4 := X3.p53_1 (c0 := .int .i64 x.s) (c1 := .int .i64 yn) (c2 := .slice vo l'.length vc)
  have h4 := own_put3 h3 r1 (by decide) (.int .i64 x.s) (.int .i64 yn) (.slice vo l'.length vc)
  have ws5 := ws_put3 ws4 r1 (by decide) (.int .i64 x.s) (.int .i64 yn) (.slice vo l'.length vc)
  clear d1 d2 d3 i1 i2 i3 i4 i5 f1 r1 X3 h3 ws4
  generalize World.setCell (World.setCell (World.setCell W3 _ _) _ _) _ _ = W4 at *
  have HX := Lib.hid X4
  have HH := Lib.hid h4
  have HD := Lib.hid (show OwnI W4.drew B ao1 cap1 R from own_below HH.out (drewN_low W4 1))
  have HW := Lib.hid (show WsAt W4.drew B (.slice vo l'.length vc) l' from ws_low ws5 (drewN_low W4 1))
  obtain ⟨c1, c2⟩ := cell2 X4.h2
  obtain ⟨d1, d2, d3, d4, d5⟩ := cell5 X4.h5
  obtain ⟨i1, i2, i3, i4, i5⟩ := cell5 X4.h1
  have n1 : ¬ w1.heap.size + 1 = w.heap.size + 1 + 1 := by omega
  have n2 : ¬ w.heap.size + 1 + 1 = w1.heap.size + 1 := by omega
  have n3 : ¬ w1.heap.size = w.heap.size + 1 := by omega
  go_region_with ((go_at_call 29; (with_reducible refine (CD.out _ _ _ HD.out (Nat.le_trans hB HX.out.drew.bel.size)).mono ?_); rintro r w' ⟨ao2, cap2, rfl, ho2, hb⟩; have XW := HX.out.drew.low hb; have f6 := froz XW.h4; have f7 := froz XW.h3; obtain ⟨g1, g2⟩ := cell2 XW.h4; obtain ⟨e1, e2, e3, e4, e5⟩ := cell5 XW.h3; obtain ⟨i1, i2, i3, i4, i5⟩ := cell5 XW.h1))
  all_goals
    have hws := ws_low HW.out hb
    have r6 := XW.h4
    have r7 := XW.h3
    go_wp2_with fail
    have X5 := (XW.p2_4 (c0 := .int .i64 (n : Int)) (c1 := .slice ao2 R2.length cap2)).p5_3 (c0 := .int .i64 x.s) (c1 := .int .i64 yn) (c2 := .slice vo l'.length vc) (c3 := .int .i64 yf) (c4 := .int .i64 y.g)
    have r8 := (XW.p2_4 (c0 := .int .i64 (n : Int)) (c1 := .slice ao2 R2.length cap2)).h3
    have h5 := own_put5 (own_put2 ho2 r6 (by decide) (.int .i64 (n : Int)) (.slice ao2 R2.length cap2)) r8 (by decide) (.int .i64 x.s) (.int .i64 yn) (.slice vo l'.length vc) (.int .i64 yf) (.int .i64 y.g)
    have w5 := ws_put5 (ws_put2 hws r6 (by decide) (.int .i64 (n : Int)) (.slice ao2 R2.length cap2)) r8 (by decide) (.int .i64 x.s) (.int .i64 yn) (.slice vo l'.length vc) (.int .i64 yf) (.int .i64 y.g)
    clear r6 r7 r8
    generalize World.setCell (World.setCell (World.setCell (World.setCell (World.setCell (World.setCell (World.setCell w' _ _) _ _) _ _) _ _) _ _) _ _) _ _ = W5 at *
    obtain ⟨x1, x2⟩ := cell2 X5.h4
    obtain ⟨y1, y2, y3, y4, y5⟩ := cell5 X5.h3
    refine bodyPost_ret (v := .tuple #[.agg #[.int .i64 (n : Int), .slice ao2 R2.length cap2], .agg (sC x.s yn (.slice vo l'.length vc) yf y.g), .int .i64 (es.length : Int), .int .i64 0]) (by simp [results, Tryz.results31, go_sem, x1, x2, y1, y2, y3, y4, y5]) rfl ⟨_, _, _, _, rfl, h5, w5, ht3, X5.bel⟩
end Go.Proofs.YtnbdoemnepfhdaaGreat.Sw

namespace Go.Proofs.YtnbdoemnepfhdaaGreat.Sw
open Fld Ts
open Mem (MemAt MemTo word)
open Frm (FrRow FrAt OwnI IsD setT allB manyE manyI manyT lst)
open Go.ChangeShapes Go.WideShapes Go.ChangeAt Go.RowKit Go.Shelf
set_option maxHeartbeats 2000000
set_option maxRecDepth 100000
/-! ### Rows -/
theorem own_keepT {w w' : World} {B z n : Nat} {e : TypeId} {v : Value} {xs : List Value} (ho : w.ownsRow B e z v n xs) (hs : ∀ (g : Nat) (cur : Array Value), B ≤ g → w.heap[g]? = some (.cells cur e (0, 0)) → w'.heap[g]? = w.heap[g]?) : w'.ownsRow B e z v n xs := by
  refine ⟨ho.1, ?_⟩
  rcases ho.2 with hn | ⟨g, cap', cur, hv, hb2, hg, rest⟩
  · exact .inl hn
  · exact .inr ⟨g, cap', cur, hv, hb2, (hs g cur hb2 hg).trans hg, rest⟩
theorem own_putT {w : World} {B z n b : Nat} {e : TypeId} {v : Value} {xs : List Value} {c : Array Value} {t : TypeId} {f : Nat × Nat} (ho : w.ownsRow B e z v n xs) (hb : w.heap[b]? = some (.cells c t f)) (ht : t ≠ e) (o : Nat) (u : Value) : (w.setCell ⟨b, o, none⟩ u).ownsRow B e z v n xs :=
  own_keepT ho fun g cur _ hg => Below.heap_setCell _ _ _ _ (by
    show g ≠ b
    rintro rfl
    rw [hb] at hg
    simp only [Option.some.injEq, Obj.cells.injEq] at hg
    exact ht hg.2.1)
/-- A row's cells. -/
theorem own_at {w : World} {B z n : Nat} {e : TypeId} {v : Value} {xs : List Value} (ho : w.ownsRow B e z v n xs) (hn : 0 < n) :
    ∃ g cap, v = .slice (some ⟨g, 0, none⟩) n cap ∧ B ≤ g ∧ n ≤ cap ∧ cap ≤ maxLen ∧ (∃ cur, w.heap[g]? = some (.cells cur e (0, 0))) ∧ ∀ i u, xs[i]? = some u → w.cell? ⟨g, i, none⟩ = some u := by
  obtain ⟨hl, h2⟩ := ho
  rcases h2 with ⟨_, h0⟩ | ⟨g, cap, cur, rfl, hB, hg, h1, h2, hs, ht⟩
  · omega
  · refine ⟨g, cap, rfl, hB, h1, h2, ⟨cur, hg⟩, fun i u hu => ?_⟩
    have hi : i < n * z := by rw [← hl]; exact (List.getElem?_eq_some_iff.1 hu).1
    rw [← ht, List.getElem?_take] at hu
    rw [if_pos hi] at hu
    have : cur[i]? = some u := by rw [← Array.getElem?_toList]; exact hu
    exact cell_row i hg this
theorem own_set1 {w : World} {B z n g cap : Nat} {e : TypeId} {xs : List Value} (ho : w.ownsRow B e z (.slice (some ⟨g, 0, none⟩) n cap) n xs) (o : Nat) (u : Value) : (w.setCell ⟨g, o, none⟩ u).ownsRow B e z (.slice (some ⟨g, 0, none⟩) n cap) n (xs.set o u) := by
  obtain ⟨hl, h2⟩ := ho
  refine ⟨by rw [List.length_set]; exact hl, ?_⟩
  rcases h2 with ⟨h0, _⟩ | ⟨g', cap', cur, hv, hB, hg, h1, h2, hs, ht⟩
  · cases h0
  · injection hv with a b c
    injection a with a
    injection a with a
    subst a c
    refine .inr ⟨g, cap, cur.setIfInBounds o u, rfl, hB, Mem.heap_set hg u, h1, h2, by rw [Array.size_setIfInBounds]; exact hs, ?_⟩
    rw [Array.toList_setIfInBounds, List.take_set, ht]
def ptrV (x : Tb) : Value := .pointer (some ⟨x.st, 0, none⟩)
def cS (x : Tb) : List Value := [.int .i64 x.s, .int .i64 (x.n : Int), x.v, .int .i64 (x.f : Int), .int .i64 x.g]
def sRow (L : List Tb) : List Value := L.flatMap cS
theorem sRow_length (L : List Tb) : (sRow L).length = L.length * 5 := by
  induction L with
  | nil => rfl
  | cons x L ih =>
    show (cS x ++ sRow L).length = _
    rw [List.length_append, ih]
    show 5 + L.length * 5 = (L.length + 1) * 5
    omega
theorem sRow_app (A B : List Tb) : sRow (A ++ B) = sRow A ++ sRow B := by simp [sRow]
theorem sRow_cons (x : Tb) (B : List Tb) : sRow (x :: B) = cS x ++ sRow B := rfl
theorem sRow_get {A B : List Tb} {x : Tb} {j o : Nat} {u : Value} (hj : (cS x)[j]? = some u) (ho : A.length * 5 + j = o) : (sRow (A ++ x :: B))[o]? = some u := by
  subst ho
  rw [sRow_app, sRow_cons, ← sRow_length, List.getElem?_append_right (by omega), Nat.add_sub_cancel_left, List.getElem?_append_left (List.getElem?_eq_some_iff.1 hj).1]
  exact hj
theorem set_mid {P R : List Value} {cs : List Value} {j o : Nat} (hj : j < cs.length) (ho : P.length + j = o) (u : Value) : (P ++ (cs ++ R)).set o u = P ++ (cs.set j u ++ R) := by
  subst ho
  rw [List.set_append_right _ _ (by omega), Nat.add_sub_cancel_left, List.set_append_left _ _ hj]
/-- The TSB at a place has other words. -/
theorem sRow_set3 (A B : List Tb) (x : Tb) (o : Nat) (ho : A.length * 5 = o) (c0 c1 c2 : Value) : (((sRow (A ++ x :: B)).set o c0).set (o + 1) c1).set (o + 2) c2 = sRow A ++ ([c0, c1, c2, .int .i64 (x.f : Int), .int .i64 x.g] ++ sRow B) := by
  have hl := sRow_length A
  rw [sRow_app, sRow_cons, set_mid (by first | (simp; done) | (simp [cS]; done)) (show (sRow A).length + 0 = o by omega), set_mid (by first | (simp; done) | (simp [cS]; done)) (show (sRow A).length + 1 = o + 1 by omega), set_mid (by first | (simp; done) | (simp [cS]; done)) (show (sRow A).length + 2 = o + 2 by omega)]
  rfl
theorem sRow_set5 (A B : List Tb) (x : Tb) (o : Nat) (ho : A.length * 5 = o) (c0 c1 c2 c3 c4 : Value) : (((((sRow (A ++ x :: B)).set o c0).set (o + 1) c1).set (o + 2) c2).set (o + 3) c3).set (o + 4) c4 = sRow A ++ ([c0, c1, c2, c3, c4] ++ sRow B) := by
  have hl := sRow_length A
  rw [sRow_set3 A B x o ho, set_mid (by first | (simp; done) | (simp [cS]; done)) (show (sRow A).length + 3 = o + 3 by omega), set_mid (by first | (simp; done) | (simp [cS]; done)) (show (sRow A).length + 4 = o + 4 by omega)]
  rfl
/-! ### The law's world -/
/-- What the law's world W' holds since W: bl, bg, bs what its struct says of the TSBs, of the frames that are taken, of the document's TSBs; lv, gv, sv where these rows lie. -/
structure WX (W w : World) (wb sb bm fb bb n : Nat) (g : Nat → Nat) (F : Nat → Bool) (Lp : List Tb) (Q : List Int) (Ls : List Tb) (bl bg bs lv gv sv : Value) : Prop where
  bel : Below W.heap.size W w
  b1 : W.heap.size ≤ wb
  b2 : W.heap.size ≤ sb
  b3 : W.heap.size ≤ bm
  b4 : W.heap.size ≤ fb
  b5 : W.heap.size ≤ bb
  pa : PAt w sb bm fb bb n g F
  box : w.heap[wb]? = some (.cells #[.pointer (some ⟨sb, 0, none⟩), .pointer (some ⟨fb, 0, none⟩), bl, .int .i64 (n : Int), bg, bs] 46 (0, 0))
  rows : ∀ x ∈ Lp, RowP w x.st sb (x.p n)
  ll : w.ownsRow W.heap.size 47 1 lv Lp.length (Lp.map ptrV)
  gl : w.ownsRow W.heap.size 3 1 gv Q.length (intsV Q)
  sl : w.ownsRow W.heap.size 70 5 sv Ls.length (sRow Ls)
  ds : ∀ x ∈ Ls, WsAt w W.heap.size x.v x.l
section
variable {W w w' : World} {wb sb bm fb bb n : Nat} {g : Nat → Nat} {F : Nat → Bool} {Lp Ls : List Tb} {Q : List Int} {bl bg bs lv gv sv : Value}
theorem okWorld : okP 46 := ⟨by decide, by decide, by decide⟩
theorem WX.low (h : WX W w wb sb bm fb bb n g F Lp Q Ls bl bg bs lv gv sv) (hb : Below w.heap.size w w') : WX W w' wb sb bm fb bb n g F Lp Q Ls bl bg bs lv gv sv :=
  ⟨h.bel.trans (hb.mono h.bel.size), h.b1, h.b2, h.b3, h.b4, h.b5, h.pa.low hb, (hb.block _ (Array.getElem?_eq_some_iff.1 h.box).1).trans h.box, fun x hx => (h.rows x hx).low hb, own_below h.ll hb, own_below h.gl hb, own_below h.sl hb, fun x hx => ws_low (h.ds x hx) hb⟩
theorem WX.drewN (h : WX W w wb sb bm fb bb n g F Lp Q Ls bl bg bs lv gv sv) (m : Nat) : WX W (w.drewN m) wb sb bm fb bb n g F Lp Q Ls bl bg bs lv gv sv := h.low (drewN_low w m)
theorem WX.drew (h : WX W w wb sb bm fb bb n g F Lp Q Ls bl bg bs lv gv sv) : WX W w.drew wb sb bm fb bb n g F Lp Q Ls bl bg bs lv gv sv := h.drewN 1
theorem WX.alloc (h : WX W w wb sb bm fb bb n g F Lp Q Ls bl bg bs lv gv sv) (o : Obj) : WX W (w.alloc o) wb sb bm fb bb n g F Lp Q Ls bl bg bs lv gv sv := h.low ((Below.refl _ _).alloc (Nat.le_refl _) _)
/-- The program's call turns the memory and the frames. -/
theorem WX.prog (h : WX W w wb sb bm fb bb n g F Lp Q Ls bl bg bs lv gv sv) {bm' : Nat} {g' : Nat → Nat} {F' : Nat → Bool} (p : PAt w' sb bm' fb bb n g' F') (hm : bm' = bm ∨ w.heap.size ≤ bm') (k : PT w w' sb bm fb bb) : WX W w' wb sb bm' fb bb n g' F' Lp Q Ls bl bg bs lv gv sv := by
  have hs := h.bel.size
  have hb := k.to_below h.b2 h.b3 h.b4 h.b5 hs
  have hb3 := h.b3
  refine ⟨?_, h.b1, h.b2, by rcases hm with rfl | hm <;> omega, h.b4, h.b5, p, (k.cells h.pa h.box okWorld).trans h.box, fun x hx => k.row h.pa (h.rows x hx), own_keepT h.ll fun b cur _ hc => k.cells h.pa hc ⟨by decide, by decide, by decide⟩, own_keepT h.gl fun b cur _ hc => k.cells h.pa hc ⟨by decide, by decide, by decide⟩, own_keepT h.sl fun b cur _ hc => k.cells h.pa hc ⟨by decide, by decide, by decide⟩, fun x hx => ws_same (h.ds x hx) fun b cur _ hc => k.cells h.pa hc ⟨by decide, by decide, by decide⟩⟩
  exact h.bel.trans hb
/-- A cell of the struct turns. -/
theorem WX.put (h : WX W w wb sb bm fb bb n g F Lp Q Ls bl bg bs lv gv sv) (o : Nat) (u bl' bg' bs' : Value) (he : (#[.pointer (some ⟨sb, 0, none⟩), .pointer (some ⟨fb, 0, none⟩), bl, .int .i64 (n : Int), bg, bs] : Array Value).setIfInBounds o u = #[.pointer (some ⟨sb, 0, none⟩), .pointer (some ⟨fb, 0, none⟩), bl', .int .i64 (n : Int), bg', bs']) : WX W (w.setCell ⟨wb, o, none⟩ u) wb sb bm fb bb n g F Lp Q Ls bl' bg' bs' lv gv sv := by
  have hr : ∀ x ∈ Lp, RowP (w.setCell ⟨wb, o, none⟩ u) x.st sb (x.p n) := fun x hx => ⟨(Below.heap_setCell _ _ _ _ (by
    show x.st ≠ wb
    rintro e
    have := (h.rows x hx).row
    rw [e, h.box] at this
    simp at this)).trans (h.rows x hx).row⟩
  have hbx := Mem.heap_set h.box (o := o) u
  rw [he] at hbx
  exact ⟨h.bel.setCell h.b1 _, h.b1, h.b2, h.b3, h.b4, h.b5, h.pa.set h.box okWorld o u, hbx, hr, own_putT h.ll h.box (by decide) o u, own_putT h.gl h.box (by decide) o u, own_putT h.sl h.box (by decide) o u, fun x hx => ws_put (h.ds x hx) h.box (by decide) o u⟩
theorem WX.cells (h : WX W w wb sb bm fb bb n g F Lp Q Ls bl bg bs lv gv sv) : w.cell? ⟨wb, 0, none⟩ = some (.pointer (some ⟨sb, 0, none⟩)) ∧ w.cell? ⟨wb, 1, none⟩ = some (.pointer (some ⟨fb, 0, none⟩)) ∧ w.cell? ⟨wb, 2, none⟩ = some bl ∧ w.cell? ⟨wb, 3, none⟩ = some (.int .i64 (n : Int)) ∧ w.cell? ⟨wb, 4, none⟩ = some bg ∧ w.cell? ⟨wb, 5, none⟩ = some bs ∧ ∀ i, w.frozen? ⟨wb, i, none⟩ = false :=
  ⟨cell_row 0 h.box rfl, cell_row 1 h.box rfl, cell_row 2 h.box rfl, cell_row 3 h.box rfl, cell_row 4 h.box rfl, cell_row 5 h.box rfl, froz h.box⟩
/-- All but blocks of the type e stays. -/
def Other (w w' : World) (e : TypeId) : Prop := ∀ (k : Nat) (o : Obj), w.heap[k]? = some o → (∀ (c : Array Value) (f : Nat × Nat), o ≠ .cells c e f) → w'.heap[k]? = some o
/-- What is no row of the type e stays, where a row of that type grows. -/
theorem grown_other {B z m : Nat} {e : TypeId} {v : Value} {xs : List Value} (r : w.ownsRow B e z v m xs) (hg : w.grownBy w' v.ownBlock) : Other w w' e := fun k o hk ho => by
  refine (hg.block k (Array.getElem?_eq_some_iff.1 hk).1 fun e1 => ?_).trans hk
  rcases r.2 with ⟨rfl, _⟩ | ⟨g, cap, cur, rfl, _, hc, _⟩
  · cases e1
  · injection e1 with e1
    have e2 : k = g := e1
    subst e2
    rw [hk] at hc
    injection hc with hc
    exact ho _ _ hc
theorem PAt.other (p : PAt w sb bm fb bb n g F) {e : TypeId} (he : okP e) (hs : Other w w' e) : PAt w' sb bm fb bb n g F := by
  obtain ⟨m, hm, h1⟩ := p.mem.row
  obtain ⟨D, ⟨es, clk, h2, r2⟩, r3⟩ := p.mem.words
  have h3 := p.fr.s
  have h4 := p.fr.b
  refine ⟨p.mem.same ?_ ?_, p.fr.same ?_ ?_⟩
  · rw [hs _ _ h1 (fun c f hh => by injection hh with _ hh _; exact he.1 hh.symm), h1]
  · rw [hs _ _ h2 (fun c f hh => by cases hh), h2]
  · rw [hs _ _ h3 (fun c f hh => by injection hh with _ hh _; exact he.2.1 hh.symm), h3]
  · rw [hs _ _ h4 (fun c f hh => by injection hh with _ hh _; exact he.2.2 hh.symm), h4]
theorem grown_below {B z m : Nat} {e : TypeId} {v : Value} {xs : List Value} (hb : Below W.heap.size W w) (r : w.ownsRow B e z v m xs) (hB : W.heap.size ≤ B) (hg : w.grownBy w' v.ownBlock) : Below W.heap.size W w' :=
  ⟨hg.os.trans hb.os, hg.tape.trans hb.tape, hg.output.trans hb.output, Nat.le_trans hb.size hg.size, fun k hk => (hg.block k (Nat.lt_of_lt_of_le hk hb.size) fun e1 => by
    have := r.lt k e1.symm
    omega).trans (hb.block k hk)⟩
theorem ws_other {C : Nat} {v : Value} {l : List Wd} (h : WsAt w C v l) {e : TypeId} (he : e ≠ 139) (hs : Other w w' e) : WsAt w' C v l :=
  ws_same h fun b cur _ hc => (hs _ _ hc fun c f hh => by injection hh with _ hh _; exact he hh.symm).trans hc.symm
theorem own_other {B z m : Nat} {e t : TypeId} {v : Value} {xs : List Value} (h : w.ownsRow B t z v m xs) (he : e ≠ t) (hs : Other w w' e) : w'.ownsRow B t z v m xs :=
  own_keepT h fun b cur _ hc => (hs _ _ hc fun c f hh => by injection hh with _ hh _; exact he hh.symm).trans hc.symm
theorem row_other {st : Nat} {p : Par} (h : RowP w st sb p) {e : TypeId} (he : e ≠ 111) (hs : Other w w' e) : RowP w' st sb p :=
  ⟨hs _ _ h.row fun c f hh => by injection hh with _ hh _; exact he hh.symm⟩
/-- A row of TSBs grows. -/
theorem WX.growL (h : WX W w wb sb bm fb bb n g F Lp Q Ls bl bg bs lv gv sv) {B m : Nat} {v v' : Value} {xs : List Value} {Lp' : List Tb} (r : w.ownsRow B 47 1 v m xs) (hB : W.heap.size ≤ B) (hg : w.grownBy w' v.ownBlock) (ho : w'.ownsRow W.heap.size 47 1 v' Lp'.length (Lp'.map ptrV)) (hr : ∀ x ∈ Lp', RowP w x.st sb (x.p n)) : WX W w' wb sb bm fb bb n g F Lp' Q Ls bl bg bs v' gv sv := by
  have hs := grown_other r hg
  exact ⟨grown_below h.bel r hB hg, h.b1, h.b2, h.b3, h.b4, h.b5, h.pa.other ⟨by decide, by decide, by decide⟩ hs, hs _ _ h.box (fun c f hh => by injection hh with _ hh _; exact absurd hh (by decide)), fun x hx => row_other (hr x hx) (by decide) hs, ho, own_other h.gl (by decide) hs, own_other h.sl (by decide) hs, fun x hx => ws_other (h.ds x hx) (by decide) hs⟩
/-- A row of the document's TSBs grows. -/
theorem WX.growS (h : WX W w wb sb bm fb bb n g F Lp Q Ls bl bg bs lv gv sv) {B m : Nat} {v v' : Value} {xs : List Value} {Ls' : List Tb} (r : w.ownsRow B 70 5 v m xs) (hB : W.heap.size ≤ B) (hg : w.grownBy w' v.ownBlock) (ho : w'.ownsRow W.heap.size 70 5 v' Ls'.length (sRow Ls')) (hd : ∀ x ∈ Ls', WsAt w W.heap.size x.v x.l) : WX W w' wb sb bm fb bb n g F Lp Q Ls' bl bg bs lv gv v' := by
  have hs := grown_other r hg
  exact ⟨grown_below h.bel r hB hg, h.b1, h.b2, h.b3, h.b4, h.b5, h.pa.other ⟨by decide, by decide, by decide⟩ hs, hs _ _ h.box (fun c f hh => by injection hh with _ hh _; exact absurd hh (by decide)), fun x hx => row_other (h.rows x hx) (by decide) hs, own_other h.ll (by decide) hs, own_other h.gl (by decide) hs, ho, fun x hx => ws_other (hd x hx) (by decide) hs⟩
/-- Frames of the document's, new. -/
theorem WX.newG (h : WX W w wb sb bm fb bb n g F Lp Q Ls bl bg bs lv gv sv) {v' : Value} {Q' : List Int} (ho : w.ownsRow W.heap.size 3 1 v' Q'.length (intsV Q')) : WX W w wb sb bm fb bb n g F Lp Q' Ls bl bg bs lv v' sv :=
  ⟨h.bel, h.b1, h.b2, h.b3, h.b4, h.b5, h.pa, h.box, h.rows, h.ll, ho, h.sl, h.ds⟩
/-- A cell of the row of the TSBs turns. -/
theorem WX.setL (h : WX W w wb sb bm fb bb n g F Lp Q Ls bl bg bs lv gv sv) {lg cap m : Nat} (hl : lv = .slice (some ⟨lg, 0, none⟩) m cap) (hm : Lp.length = m) {Lp' : List Tb} (o : Nat) (u : Value) (he : (Lp.map ptrV).set o u = Lp'.map ptrV) (hr : ∀ x ∈ Lp', RowP w x.st sb (x.p n)) : WX W (w.setCell ⟨lg, o, none⟩ u) wb sb bm fb bb n g F Lp' Q Ls bl bg bs lv gv sv := by
  subst hl hm
  have h0 := h.ll
  have hlen : Lp'.length = Lp.length := by have := congrArg List.length he; simpa using this.symm
  have h1 := own_set1 h0 o u
  rw [he] at h1
  rcases h0.2 with ⟨e0, _⟩ | ⟨b, c', cur, hv, hB, hc, _⟩
  · cases e0
  · injection hv with a _ _
    injection a with a
    injection a with a
    subst a
    have hs : Other w (w.setCell ⟨lg, o, none⟩ u) 47 := fun k o' hk hh => (Below.heap_setCell _ _ _ _ (by
      show k ≠ lg
      rintro rfl
      rw [hc] at hk
      injection hk with hk
      exact hh _ _ hk.symm)).trans hk
    exact ⟨h.bel.setCell hB _, h.b1, h.b2, h.b3, h.b4, h.b5, h.pa.other ⟨by decide, by decide, by decide⟩ hs, hs _ _ h.box (fun c f hh => by injection hh with _ hh _; exact absurd hh (by decide)), fun x hx => row_other (hr x hx) (by decide) hs, by rw [hlen]; exact h1, own_other h.gl (by decide) hs, own_other h.sl (by decide) hs, fun x hx => ws_other (h.ds x hx) (by decide) hs⟩
/-- A cell of the row of the document's TSBs turns: its row is told by its cells alone. -/
theorem WX.setS (h : WX W w wb sb bm fb bb n g F Lp Q Ls bl bg bs lv gv sv) {lg cap m : Nat} (hl : sv = .slice (some ⟨lg, 0, none⟩) m cap) (hm : Ls.length = m) {Ls' : List Tb} (w' : World) (hb : ∀ k, k < w.heap.size → k ≠ lg → w'.heap[k]? = w.heap[k]?) (hz : w'.os = w.os ∧ w'.tape = w.tape ∧ w'.output = w.output ∧ w'.heap.size = w.heap.size) (ho : w'.ownsRow W.heap.size 70 5 sv m (sRow Ls')) (hlen : Ls'.length = m) (hd : ∀ x ∈ Ls', WsAt w W.heap.size x.v x.l) : WX W w' wb sb bm fb bb n g F Lp Q Ls' bl bg bs lv gv sv := by
  subst hl hm
  have h0 := h.sl
  rcases h0.2 with ⟨e0, _⟩ | ⟨b, c', cur, hv, hB, hc, _⟩
  · cases e0
  · injection hv with a _ _
    injection a with a
    injection a with a
    subst a
    have hs : Other w w' 70 := fun k o' hk hh => (hb k (Array.getElem?_eq_some_iff.1 hk).1 (by
      rintro rfl
      rw [hc] at hk
      injection hk with hk
      exact hh _ _ hk.symm)).trans hk
    have hsz := h.bel.size
    refine ⟨⟨hz.1.trans h.bel.os, hz.2.1.trans h.bel.tape, hz.2.2.1.trans h.bel.output, by rw [hz.2.2.2]; exact hsz, fun k hk => (hb k (by omega) (by omega)).trans (h.bel.block k hk)⟩, h.b1, h.b2, h.b3, h.b4, h.b5, h.pa.other ⟨by decide, by decide, by decide⟩ hs, hs _ _ h.box (fun c f hh => by injection hh with _ hh _; exact absurd hh (by decide)), fun x hx => row_other (h.rows x hx) (by decide) hs, own_other h.ll (by decide) hs, own_other h.gl (by decide) hs, by rw [hlen]; exact ho, fun x hx => ws_other (hd x hx) (by decide) hs⟩
/-- A block of a type that is none of the law's world's turns. -/
def okW (t : TypeId) : Prop := okP t ∧ t ≠ 46 ∧ t ≠ 47 ∧ t ≠ 3 ∧ t ≠ 70 ∧ t ≠ 139 ∧ t ≠ 111
theorem WX.turn (h : WX W w wb sb bm fb bb n g F Lp Q Ls bl bg bs lv gv sv) {t : TypeId} (ht : okW t) (hs : Other w w' t) (hb : Below W.heap.size W w') : WX W w' wb sb bm fb bb n g F Lp Q Ls bl bg bs lv gv sv :=
  ⟨hb, h.b1, h.b2, h.b3, h.b4, h.b5, h.pa.other ht.1 hs, hs _ _ h.box (fun c f hh => by injection hh with _ hh _; exact ht.2.1 hh.symm), fun x hx => row_other (h.rows x hx) ht.2.2.2.2.2.2 hs, own_other h.ll ht.2.2.1 hs, own_other h.gl ht.2.2.2.1 hs, own_other h.sl ht.2.2.2.2.1 hs, fun x hx => ws_other (h.ds x hx) ht.2.2.2.2.2.1 hs⟩
/-- Other blocks' own rows and pointers: the program's list of TSBs under other names. -/
theorem WX.reL (h : WX W w wb sb bm fb bb n g F Lp Q Ls bl bg bs lv gv sv) {Lp' : List Tb} (hl : Lp'.map ptrV = Lp.map ptrV) (hr : ∀ x ∈ Lp', RowP w x.st sb (x.p n)) : WX W w wb sb bm fb bb n g F Lp' Q Ls bl bg bs lv gv sv := by
  have hlen : Lp'.length = Lp.length := by have := congrArg List.length hl; simpa using this
  exact ⟨h.bel, h.b1, h.b2, h.b3, h.b4, h.b5, h.pa, h.box, hr, by rw [hlen, hl]; exact h.ll, h.gl, h.sl, h.ds⟩
end
end Go.Proofs.YtnbdoemnepfhdaaGreat.Sw

namespace Go.Proofs.YtnbdoemnepfhdaaGreat.Sw
open Fld Ts
open Go.ChangeShapes Go.WideShapes Go.ChangeAt Go.RowKit Go.Shelf
set_option maxHeartbeats 4000000
set_option maxRecDepth 100000
theorem infoP : (Tryz.prog.info? 47).map (fun i => (i.zero, i.size, i.bytes)) = some (some (.pointer none), 1, 8) := by kernel_rfl
theorem infoS : (Tryz.prog.info? 70).map (fun i => (i.zero, i.size, i.bytes)) = some (some (.agg #[.int .i64 0, .int .i64 0, .slice none 0 0, .int .i64 0, .int .i64 0]), 5, 56) := by kernel_rfl
theorem ptr_one (L : List Tb) : ∀ u ∈ L.map ptrV, u.oneCell' = true := fun u hu => by
  obtain ⟨x, _, rfl⟩ := List.mem_map.1 hu; rfl
theorem sRow_one (w : World) (B : Nat) (L : List Tb) (h : ∀ x ∈ L, WsAt w B x.v x.l) : ∀ u ∈ sRow L, u.oneCell' = true := fun u hu => by
  obtain ⟨x, hx, hu⟩ := List.mem_flatMap.1 hu
  obtain ⟨ao, cap, hv⟩ := own_shape (h x hx)
  unfold cS at hu
  rw [hv] at hu
  simp only [List.mem_cons, List.not_mem_nil, or_false] at hu
  rcases hu with rfl | rfl | rfl | rfl | rfl <;> rfl
/-- The cells of a part of a row. -/
theorem news_of {w : World} {b : Nat} {xs : List Value} (h : ∀ i u, xs[i]? = some u → w.cell? ⟨b, i, none⟩ = some u) {P Y R : List Value} (he : xs = P ++ (Y ++ R)) {o : Nat} (ho : P.length = o) : ∀ j u, Y[j]? = some u → w.cell? ((⟨b, o, none⟩ : Addr).add j) = some u := fun j u hj => by
  subst ho he
  have e2 : ((⟨b, P.length, none⟩ : Addr).add j) = ⟨b, P.length + j, none⟩ := by cases j <;> simp [Addr.add]
  rw [e2]
  refine h _ _ ?_
  rw [List.getElem?_append_right (by omega), Nat.add_sub_cancel_left, List.getElem?_append_left (List.getElem?_eq_some_iff.1 hj).1]
  exact hj
theorem news_row {w : World} {B z n n' b cap : Nat} {e : TypeId} {xs : List Value} (h : w.ownsRow B e z (.slice (some ⟨b, 0, none⟩) n' cap) n xs) (hn : 0 < n) {P Y R : List Value} (he : xs = P ++ (Y ++ R)) {o : Nat} (ho : P.length = o) : ∀ j u, Y[j]? = some u → w.cell? ((⟨b, o, none⟩ : Addr).add j) = some u := by
  obtain ⟨g, cap', hv, _, _, _, _, hc⟩ := own_at h hn
  injection hv with a _ _
  injection a with a
  injection a with a
  subst a
  exact news_of hc he ho
theorem blk_putT {w : World} {b k : Nat} {c c' : Array Value} {t t' : TypeId} {f f' : Nat × Nat} (h : w.heap[b]? = some (.cells c t f)) (hk : w.heap[k]? = some (.cells c' t' f')) (ht : t ≠ t') (o : Nat) (u : Value) : (w.setCell ⟨k, o, none⟩ u).heap[b]? = some (.cells c t f) :=
  (Below.heap_setCell _ _ _ _ (by
    show b ≠ k
    rintro rfl
    rw [h] at hk
    simp only [Option.some.injEq, Obj.cells.injEq] at hk
    exact ht hk.2.1)).trans h
theorem blk_low' {w w' : World} {b : Nat} {o : Obj} (h : w.heap[b]? = some o) (hb : Below w.heap.size w w') : w'.heap[b]? = some o := (hb.block _ (Array.getElem?_eq_some_iff.1 h).1).trans h
theorem news_one (w : World) (v : Value) (t : TypeId) : ∀ (j : Nat) (u : Value), [v][j]? = some u → (w.alloc (.cells #[v] t)).cell? ((⟨w.heap.size, 0, none⟩ : Addr).add j) = some u := fun j u h => by
  cases j with
  | zero =>
    simp only [List.getElem?_cons_zero, Option.some.injEq] at h
    subst h
    exact cell_row 0 (World.alloc_heap_new w (.cells #[v] t)) rfl
  | succ j => simp at h
theorem news_nil {w : World} {ad : Addr} : ∀ (j : Nat) (u : Value), ([] : List Value)[j]? = some u → w.cell? (ad.add j) = some u := fun j u h => by simp at h
end Go.Proofs.YtnbdoemnepfhdaaGreat.Sw

namespace Go.Proofs.YtnbdoemnepfhdaaGreat.Sw
open Fld Ts
open Frm (OwnI IsD setT manyE manyI manyT lst)
open Go.ChangeShapes Go.WideShapes Go.ChangeAt Go.RowKit Go.Shelf Go.Deep
set_option maxHeartbeats 8000000
set_option maxRecDepth 100000
section
variable {W w : World} {wb sb bm fb bb n : Nat} {g : Nat → Nat} {F : Nat → Bool} {Lp : List Tb} {gv lv sv : Value}
theorem okF : okP 43 := ⟨by decide, by decide, by decide⟩
theorem okS : okP 70 := ⟨by decide, by decide, by decide⟩
theorem blk_grown {w w' : World} {b : Nat} {v : Value} {c : Array Value} {t : TypeId} (hv : ∀ k, v.ownBlock = some k → k ≠ b) (hg : w.grownBy w' v.ownBlock) (h : w.heap[b]? = some (.cells c t (0, 0))) : w'.heap[b]? = some (.cells c t (0, 0)) :=
  (hg.block b (Array.getElem?_eq_some_iff.1 h).1 fun e => hv b e.symm rfl).trans h
theorem news_cells {w : World} {b : Nat} {c : Array Value} {t : TypeId} {f : Nat × Nat} (h : w.heap[b]? = some (.cells c t f)) : ∀ (j : Nat) (u : Value), c.toList[j]? = some u → w.cell? ((⟨b, 0, none⟩ : Addr).add j) = some u := fun j u hj => by
  rw [add_at]
  exact cell_row j h (by rw [← Array.getElem?_toList]; exact hj)
theorem WX.cell01 {w' : World} {Lq Ls : List Tb} {Q : List Int} {bl bg bs : Value} (h : WX W w' wb sb bm fb bb n g F Lq Q Ls bl bg bs lv gv sv) : w'.cell? ⟨wb, 0, none⟩ = some (.pointer (some ⟨sb, 0, none⟩)) ∧ w'.cell? ⟨wb, 1, none⟩ = some (.pointer (some ⟨fb, 0, none⟩)) := ⟨h.cells.1, h.cells.2.1⟩
theorem lmake_no (s g2 : Int) (hn : n ≤ 1000) (he : manyE F n (frI s g2) ≠ 0) (h : WX W w wb sb bm fb bb n g F Lp (lst F n) Lp lv gv sv lv gv sv) :
    Calls Tryz.prog 12 #[.pointer (some ⟨wb, 0, none⟩), .int .i64 s, .int .i64 g2] w fun e w' => e = .returned (.bool true) ∧ ∃ bm', WX W w' wb sb bm' fb bb n g F Lp (lst F n) Lp lv gv sv lv gv sv := by
  obtain ⟨ao, cap, hgv⟩ := own_shape h.gl
  subst hgv
  have CM := Lib.hid (rmake_no n W.heap.size cap ao F s g2 w h.gl h.bel.size (by omega) he)
  have CP := Lib.hid (fun (Wz : World) (hW : PAt Wz sb bm fb bb n g F) => pmake_no s g2 hW he)
  generalize lst F n = Q at *
  generalize manyE F n (frI s g2) = E at *
  have hE : (E == 0) = false := by simpa using he
  obtain ⟨c0, c1, c2, c3, c4, c5, cf⟩ := h.cells
  have HX := Lib.hid h
  clear h he
  go_enter Tryz.func12, Tryz.ntmps12
  go_wp2_with fail
  refine CM.out.mono ?_; rintro e w1 ⟨rfl, h1, b1⟩
  have X0 := ((BXs.start w1).push #[.int .i64 (n : Int), .slice ao Q.length cap] 43).push (sC 0 0 (.slice none 0 0) 0 0) 70
  have X1 := ((HX.out.low b1).alloc (.cells #[.int .i64 (n : Int), .slice ao Q.length cap] 43)).alloc (.cells (sC 0 0 (.slice none 0 0) 0 0) 70)
  have R7 := X0.h1
  have R8 := X0.h0
  rw [World.size_alloc] at R8
  clear HX CM X0 h1 b1 c0 c1 c2 c3 c4 c5 cf
  go_upto_region 2 with fail
  generalize World.alloc (World.alloc w1 _) _ = W2 at *
  have X2 := Lib.hid X1.drew
  have r7 := Lib.hid R7
  have r8 := Lib.hid R8
  refine wp_region_held_drew (S := fun wS => wS.cell? ⟨wb, 0, none⟩ = some (.pointer (some ⟨sb, 0, none⟩)) ∧ wS.cell? ⟨wb, 1, none⟩ = some (.pointer (some ⟨fb, 0, none⟩))) (by kernel_rfl) X2.out.cell01 (fun hHeld => ?_)
  clear X1 R7 R8
  refine wpAnyH_take (i := 0) (v := ?va1) rfl (by kernel_rfl) (by kernel_rfl) (by kernel_rfl) (fun _ _ _ h => h) (Or.inl ⟨by rfl, ?ha1⟩) (by assumption) ?ra1
  case ha1 => (intro wS hSw; (try dsimp only at hSw); (try clear hSw); go_simp <;> (with_reducible rfl))
  (try simp only [Act.put, List.setIfInBounds_toArray, List.set_cons_zero, List.set_cons_succ, List.getElem_toArray, List.getElem_cons_zero])
  refine wpAnyH_take (i := 1) (v := ?va2) rfl (by kernel_rfl) (by kernel_rfl) (by kernel_rfl) (fun _ _ _ h => h) (Or.inl ⟨by rfl, ?ha2⟩) (by assumption) ?ra2
  case ha2 => (intro wS hSw; (try dsimp only at hSw); (try clear hSw); go_simp <;> (with_reducible rfl))
  (try simp only [Act.put, List.setIfInBounds_toArray, List.set_cons_zero, List.set_cons_succ, List.getElem_toArray, List.getElem_cons_zero, List.getElem_cons_succ])
  refine wpAnyH_take (i := 2) (v := ?va3) rfl (by kernel_rfl) (by kernel_rfl) (by kernel_rfl) (fun _ _ _ h => h) (Or.inl ⟨by rfl, ?ha3⟩) (by assumption) ?ra3
  case ha3 => (intro wS hSw; (try dsimp only at hSw); (try clear hSw); go_simp <;> (with_reducible rfl))
  (try simp only [Act.put, List.setIfInBounds_toArray, List.set_cons_zero, List.set_cons_succ, List.getElem_toArray, List.getElem_cons_zero, List.getElem_cons_succ])
  refine wpAnyH_take (i := 3) (v := ?va4) rfl (by kernel_rfl) (by kernel_rfl) (by kernel_rfl) (fun _ _ _ h => h) (Or.inl ⟨by rfl, ?ha4⟩) (by assumption) ?ra4
  case ha4 => (intro wS hSw; (try dsimp only at hSw); obtain ⟨c0, c1⟩ := hSw; (try clear hSw); go_simp <;> (with_reducible rfl))
  (try simp only [Act.put, List.setIfInBounds_toArray, List.set_cons_zero, List.set_cons_succ, List.getElem_toArray, List.getElem_cons_zero, List.getElem_cons_succ])
  refine wpAnyH_take (i := 4) (v := ?va5) rfl (by kernel_rfl) (by kernel_rfl) (by kernel_rfl) (fun _ _ _ h => h) (Or.inl ⟨by rfl, ?ha5⟩) (by assumption) ?ra5
  case ha5 => (intro wS hSw; (try dsimp only at hSw); (try clear hSw); go_simp <;> (with_reducible rfl))
  (try simp only [Act.put, List.setIfInBounds_toArray, List.set_cons_zero, List.set_cons_succ, List.getElem_toArray, List.getElem_cons_zero, List.getElem_cons_succ])
  refine wpAnyH_take (i := 5) (v := ?va6) rfl (by kernel_rfl) (by kernel_rfl) (by kernel_rfl) (fun _ _ _ h => h) (Or.inl ⟨by rfl, ?ha6⟩) (by assumption) ?ra6
  case ha6 => (intro wS hSw; (try dsimp only at hSw); (try clear hSw); go_simp <;> (with_reducible rfl))
  (try simp only [Act.put, List.setIfInBounds_toArray, List.set_cons_zero, List.set_cons_succ, List.getElem_toArray, List.getElem_cons_zero, List.getElem_cons_succ])
  refine wpAnyH_take (i := 6) (v := ?va7) rfl (by kernel_rfl) (by kernel_rfl) (by kernel_rfl) (fun _ _ _ h => h) (Or.inl ⟨by rfl, ?ha7⟩) (by assumption) ?ra7
  case ha7 => (intro wS hSw; (try dsimp only at hSw); (try clear hSw); go_simp <;> (with_reducible rfl))
  (try simp only [Act.put, List.setIfInBounds_toArray, List.set_cons_zero, List.set_cons_succ, List.getElem_toArray, List.getElem_cons_zero, List.getElem_cons_succ])
  refine wpAnyH_take (i := 7) (v := ?va8) rfl (by kernel_rfl) (by kernel_rfl) (by kernel_rfl) (fun _ _ _ h => h) (Or.inl ⟨by rfl, ?ha8⟩) (by assumption) ?ra8
  case ha8 => (intro wS hSw; (try dsimp only at hSw); obtain ⟨c0, c1⟩ := hSw; (try clear hSw); go_simp <;> (with_reducible rfl))
  (try simp only [Act.put, List.setIfInBounds_toArray, List.set_cons_zero, List.set_cons_succ, List.getElem_toArray, List.getElem_cons_zero, List.getElem_cons_succ])
  refine wpAnyH_take (i := 8) (v := ?va9) rfl (by kernel_rfl) (by kernel_rfl) (by kernel_rfl) (fun _ _ _ h => h) (Or.inl ⟨by rfl, ?ha9⟩) (by assumption) ?ra9
  case ha9 => (intro wS hSw; (try dsimp only at hSw); (try clear hSw); go_simp <;> (with_reducible rfl))
  (try simp only [Act.put, List.setIfInBounds_toArray, List.set_cons_zero, List.set_cons_succ, List.getElem_toArray, List.getElem_cons_zero, List.getElem_cons_succ])
  refine wpAnyH_take (i := 9) (v := ?va10) rfl (by kernel_rfl) (by kernel_rfl) (by kernel_rfl) (fun _ _ _ h => h) (Or.inl ⟨by rfl, ?ha10⟩) (by assumption) ?ra10
  case ha10 => (intro wS hSw; (try dsimp only at hSw); (try clear hSw); go_simp <;> (with_reducible rfl))
  (try simp only [Act.put, List.setIfInBounds_toArray, List.set_cons_zero, List.set_cons_succ, List.getElem_toArray, List.getElem_cons_zero, List.getElem_cons_succ])
  refine wpAnyH_ready (rs := [10]) (by kernel_rfl) (by simp) ?_
  refine AllReadyH.cons rfl (fun K hK => ?_) AllReadyH.nil
  go_simp
  refine (CP.out _ X2.out.pa).mono ?_; rintro r w3 ⟨rfl, bm3, p3, m3, k3⟩
  have X3 := Lib.hid (X2.out.prog p3 m3 k3)
  have R7 := Lib.hid ((k3.cells X2.out.pa r7.out okF).trans r7.out)
  have R8 := Lib.hid ((k3.cells X2.out.pa r8.out okS).trans r8.out)
  clear p3 m3 k3
  refine hK.out _ _ X3.out.cell01 (fun hHeld => ?_)
  (try clear hK K)
  (try simp only [Act.put, List.setIfInBounds_toArray, List.set_cons_zero, List.set_cons_succ, List.getElem_toArray, List.getElem_cons_zero, List.getElem_cons_succ])
  refine wpAnyH_take (i := 11) (v := ?va11) rfl (by kernel_rfl) (by kernel_rfl) (by kernel_rfl) (fun _ _ _ h => h) (Or.inl ⟨by rfl, ?ha11⟩) (by assumption) ?ra11
  case ha11 => (intro wS hSw; (try dsimp only at hSw); (try clear hSw); go_simp <;> (with_reducible rfl))
  (try simp only [Act.put, List.setIfInBounds_toArray, List.set_cons_zero, List.set_cons_succ, List.getElem_toArray, List.getElem_cons_zero, List.getElem_cons_succ])
  refine wpAnyH_take (i := 12) (v := ?va12) rfl (by kernel_rfl) (by kernel_rfl) (by kernel_rfl) (fun _ _ _ h => h) (Or.inl ⟨by rfl, ?ha12⟩) (by assumption) ?ra12
  case ha12 => (intro wS hSw; (try dsimp only at hSw); (try clear hSw); go_simp <;> (with_reducible rfl))
  (try simp only [Act.put, List.setIfInBounds_toArray, List.set_cons_zero, List.set_cons_succ, List.getElem_toArray, List.getElem_cons_zero, List.getElem_cons_succ])
  refine wpAnyH_take (i := 13) (v := ?va13) rfl (by kernel_rfl) (by kernel_rfl) (by kernel_rfl) (fun _ _ _ h => h) (Or.inl ⟨by rfl, ?ha13⟩) (by assumption) ?ra13
  case ha13 => (intro wS hSw; (try dsimp only at hSw); (try clear hSw); go_simp <;> (with_reducible rfl))
  (try simp only [Act.put, List.setIfInBounds_toArray, List.set_cons_zero, List.set_cons_succ, List.getElem_toArray, List.getElem_cons_zero, List.getElem_cons_succ])
  refine wpAnyH_take (i := 14) (v := ?va14) rfl (by kernel_rfl) (by kernel_rfl) (by kernel_rfl) (fun _ _ _ h => h) (Or.inl ⟨by rfl, ?ha14⟩) (by assumption) ?ra14
  case ha14 => (intro wS hSw; (try dsimp only at hSw); (try clear hSw); go_simp <;> (with_reducible rfl))
  (try simp only [Act.put, List.setIfInBounds_toArray, List.set_cons_zero, List.set_cons_succ, List.getElem_toArray, List.getElem_cons_zero, List.getElem_cons_succ])
  refine wpAnyH_take (i := 15) (v := ?va15) rfl (by kernel_rfl) (by kernel_rfl) (by kernel_rfl) (fun _ _ _ h => h) (Or.inl ⟨by rfl, ?ha15⟩) (by assumption) ?ra15
  case ha15 => (intro wS hSw; (try dsimp only at hSw); (try clear hSw); go_simp <;> (with_reducible rfl))
  (try simp only [Act.put, List.setIfInBounds_toArray, List.set_cons_zero, List.set_cons_succ, List.getElem_toArray, List.getElem_cons_zero, List.getElem_cons_succ])
  refine wpAnyH_done (by kernel_rfl) ?_ _
  clear hHeld
  have X4 := X3.out
  obtain ⟨c0, c1, c2, c3, c4, c5, cf⟩ := X4.cells
  obtain ⟨d1, d2⟩ := cell2 R7.out
  clear X2 X4
  go_wp2_with fail
  go_ret
  exact ⟨rfl, bm3, (X3.out.put 3 (.int .i64 (n : Int)) lv (.slice ao Q.length cap) sv rfl).put 4 (.slice ao Q.length cap) lv (.slice ao Q.length cap) sv rfl⟩
theorem lmake_yes (x : Tb) (hn : n ≤ 1000) (hx : x.In n) (hL : Lp.length ≤ 1000) (he : manyE F n (frI x.s x.g) = 0) (hi : manyI F n (frI x.s x.g) = (x.f : Int)) (hT : manyT F n (frI x.s x.g) = setT F x.f x.k true) (hv : x.v = .slice none 0 0) (hl : x.l = []) (h : WX W w wb sb bm fb bb n g F Lp (lst F n) Lp lv gv sv lv gv sv) :
    Calls Tryz.prog 12 #[.pointer (some ⟨wb, 0, none⟩), .int .i64 x.s, .int .i64 x.g] w fun e w' => e = .returned (.bool true) ∧ ∃ st bm' g' lv' gv' sv', WX W w' wb sb bm' fb bb n g' (setT F x.f x.k true) (Lp ++ [{ x with st := st }]) (lst (setT F x.f x.k true) n) (Lp ++ [{ x with st := st }]) lv' gv' sv' lv' gv' sv' ∧ PlAt g' (x.q n g) (fun _ => Pl.none) := by
  obtain ⟨iP, hiP, pz0, pz1, pz2⟩ := info_parts infoP
  obtain ⟨iS, hiS, sz0, sz1, sz2⟩ := info_parts infoS
  obtain ⟨ao, cap, hgv⟩ := own_shape h.gl
  subst hgv
  have CM := Lib.hid (rmake_yes n W.heap.size cap ao F x.s x.g w h.gl h.bel.size (by omega) he)
  rw [hi, hT, ← hx.bd.2.2.2.2.2.1] at CM
  have CP := Lib.hid (fun (Wz : World) (hW : PAt Wz sb bm fb bb n g F) => pmake_yes x hn hx hW he hi hT)
  have HV := Lib.hid hv
  have HL := Lib.hid hl
  obtain ⟨ll, hll⟩ : ∃ ll, Lp.length = ll := ⟨_, rfl⟩
  have hll1 : ll ≤ 1000 := by omega
  have HLL := Lib.hid hll
  clear hx he hi hT hv hl hL hll
  generalize lst (setT F x.f x.k true) n = R at *
  generalize lst F n = Q at *
  generalize setT F x.f x.k true = F2 at *
  obtain ⟨c0, c1, c2, c3, c4, c5, cf⟩ := h.cells
  have HB := Lib.hid h.sl.lt
  have HX := Lib.hid h
  clear h
  go_enter Tryz.func12, Tryz.ntmps12
  go_wp2_with fail
  refine CM.out.mono ?_; rintro e w1 ⟨ao2, cap2, rfl, h1, b1⟩
  have HB1 := Lib.hid (fun k (e : sv.ownBlock = some k) => (show k ≠ w1.heap.size + 1 by have := (HB.out k e).2; have := b1.size; omega))
  have X0 := ((BXs.start w1).push #[.int .i64 (n : Int), .slice ao2 R.length cap2] 43).push (sC x.s (x.n : Int) (.slice none 0 0) (x.f : Int) x.g) 70
  have X1 := ((HX.out.low b1).alloc (.cells #[.int .i64 (n : Int), .slice ao2 R.length cap2] 43)).alloc (.cells (sC x.s (x.n : Int) (.slice none 0 0) (x.f : Int) x.g) 70)
  have O1 := Lib.hid (own_below (own_below h1 ((Below.refl w1.heap.size w1).alloc (Nat.le_refl _) (.cells #[.int .i64 (n : Int), .slice ao2 R.length cap2] 43))) ((Below.refl _ _).alloc (Nat.le_refl _) (.cells (sC x.s (x.n : Int) (.slice none 0 0) (x.f : Int) x.g) 70)))
  have R7 := X0.h1
  have R8 := X0.h0
  rw [World.size_alloc] at R8
  clear HX CM X0 h1 b1 c0 c1 c2 c3 c4 c5 cf
  go_upto_region 2 with fail
  generalize World.alloc (World.alloc w1 _) _ = W2 at *
  have O2 := Lib.hid (show OwnI W2.drew W.heap.size ao2 cap2 R from own_below O1.out (drewN_low W2 1))
  have X2 := Lib.hid X1.drew
  have r7 := Lib.hid R7
  have r8 := Lib.hid R8
  refine wp_region_held_drew (S := fun wS => wS.cell? ⟨wb, 0, none⟩ = some (.pointer (some ⟨sb, 0, none⟩)) ∧ wS.cell? ⟨wb, 1, none⟩ = some (.pointer (some ⟨fb, 0, none⟩))) (by kernel_rfl) X2.out.cell01 (fun hHeld => ?_)
  clear X1 R7 R8
  refine wpAnyH_take (i := 0) (v := ?va1) rfl (by kernel_rfl) (by kernel_rfl) (by kernel_rfl) (fun _ _ _ h => h) (Or.inl ⟨by rfl, ?ha1⟩) (by assumption) ?ra1
  case ha1 => (intro wS hSw; (try dsimp only at hSw); (try clear hSw); go_simp <;> (with_reducible rfl))
  (try simp only [Act.put, List.setIfInBounds_toArray, List.set_cons_zero, List.set_cons_succ, List.getElem_toArray, List.getElem_cons_zero])
  refine wpAnyH_take (i := 1) (v := ?va2) rfl (by kernel_rfl) (by kernel_rfl) (by kernel_rfl) (fun _ _ _ h => h) (Or.inl ⟨by rfl, ?ha2⟩) (by assumption) ?ra2
  case ha2 => (intro wS hSw; (try dsimp only at hSw); (try clear hSw); go_simp <;> (with_reducible rfl))
  (try simp only [Act.put, List.setIfInBounds_toArray, List.set_cons_zero, List.set_cons_succ, List.getElem_toArray, List.getElem_cons_zero, List.getElem_cons_succ])
  refine wpAnyH_take (i := 2) (v := ?va3) rfl (by kernel_rfl) (by kernel_rfl) (by kernel_rfl) (fun _ _ _ h => h) (Or.inl ⟨by rfl, ?ha3⟩) (by assumption) ?ra3
  case ha3 => (intro wS hSw; (try dsimp only at hSw); (try clear hSw); go_simp <;> (with_reducible rfl))
  (try simp only [Act.put, List.setIfInBounds_toArray, List.set_cons_zero, List.set_cons_succ, List.getElem_toArray, List.getElem_cons_zero, List.getElem_cons_succ])
  refine wpAnyH_take (i := 3) (v := ?va4) rfl (by kernel_rfl) (by kernel_rfl) (by kernel_rfl) (fun _ _ _ h => h) (Or.inl ⟨by rfl, ?ha4⟩) (by assumption) ?ra4
  case ha4 => (intro wS hSw; (try dsimp only at hSw); obtain ⟨c0, c1⟩ := hSw; (try clear hSw); go_simp <;> (with_reducible rfl))
  (try simp only [Act.put, List.setIfInBounds_toArray, List.set_cons_zero, List.set_cons_succ, List.getElem_toArray, List.getElem_cons_zero, List.getElem_cons_succ])
  refine wpAnyH_take (i := 4) (v := ?va5) rfl (by kernel_rfl) (by kernel_rfl) (by kernel_rfl) (fun _ _ _ h => h) (Or.inl ⟨by rfl, ?ha5⟩) (by assumption) ?ra5
  case ha5 => (intro wS hSw; (try dsimp only at hSw); (try clear hSw); go_simp <;> (with_reducible rfl))
  (try simp only [Act.put, List.setIfInBounds_toArray, List.set_cons_zero, List.set_cons_succ, List.getElem_toArray, List.getElem_cons_zero, List.getElem_cons_succ])
  refine wpAnyH_take (i := 5) (v := ?va6) rfl (by kernel_rfl) (by kernel_rfl) (by kernel_rfl) (fun _ _ _ h => h) (Or.inl ⟨by rfl, ?ha6⟩) (by assumption) ?ra6
  case ha6 => (intro wS hSw; (try dsimp only at hSw); (try clear hSw); go_simp <;> (with_reducible rfl))
  (try simp only [Act.put, List.setIfInBounds_toArray, List.set_cons_zero, List.set_cons_succ, List.getElem_toArray, List.getElem_cons_zero, List.getElem_cons_succ])
  refine wpAnyH_take (i := 6) (v := ?va7) rfl (by kernel_rfl) (by kernel_rfl) (by kernel_rfl) (fun _ _ _ h => h) (Or.inl ⟨by rfl, ?ha7⟩) (by assumption) ?ra7
  case ha7 => (intro wS hSw; (try dsimp only at hSw); (try clear hSw); go_simp <;> (with_reducible rfl))
  (try simp only [Act.put, List.setIfInBounds_toArray, List.set_cons_zero, List.set_cons_succ, List.getElem_toArray, List.getElem_cons_zero, List.getElem_cons_succ])
  refine wpAnyH_take (i := 7) (v := ?va8) rfl (by kernel_rfl) (by kernel_rfl) (by kernel_rfl) (fun _ _ _ h => h) (Or.inl ⟨by rfl, ?ha8⟩) (by assumption) ?ra8
  case ha8 => (intro wS hSw; (try dsimp only at hSw); obtain ⟨c0, c1⟩ := hSw; (try clear hSw); go_simp <;> (with_reducible rfl))
  (try simp only [Act.put, List.setIfInBounds_toArray, List.set_cons_zero, List.set_cons_succ, List.getElem_toArray, List.getElem_cons_zero, List.getElem_cons_succ])
  refine wpAnyH_take (i := 8) (v := ?va9) rfl (by kernel_rfl) (by kernel_rfl) (by kernel_rfl) (fun _ _ _ h => h) (Or.inl ⟨by rfl, ?ha9⟩) (by assumption) ?ra9
  case ha9 => (intro wS hSw; (try dsimp only at hSw); (try clear hSw); go_simp <;> (with_reducible rfl))
  (try simp only [Act.put, List.setIfInBounds_toArray, List.set_cons_zero, List.set_cons_succ, List.getElem_toArray, List.getElem_cons_zero, List.getElem_cons_succ])
  refine wpAnyH_take (i := 9) (v := ?va10) rfl (by kernel_rfl) (by kernel_rfl) (by kernel_rfl) (fun _ _ _ h => h) (Or.inl ⟨by rfl, ?ha10⟩) (by assumption) ?ra10
  case ha10 => (intro wS hSw; (try dsimp only at hSw); (try clear hSw); go_simp <;> (with_reducible rfl))
  (try simp only [Act.put, List.setIfInBounds_toArray, List.set_cons_zero, List.set_cons_succ, List.getElem_toArray, List.getElem_cons_zero, List.getElem_cons_succ])
  refine wpAnyH_ready (rs := [10]) (by kernel_rfl) (by simp) ?_
  refine AllReadyH.cons rfl (fun K hK => ?_) AllReadyH.nil
  go_simp
  refine (CP.out _ X2.out.pa).mono ?_; rintro r w3 ⟨st, g3, rfl, s3, ⟨bm3, p3, m3, k3⟩, q3, r3⟩
  have X3 := Lib.hid (X2.out.prog p3 m3 k3)
  have R7 := Lib.hid ((k3.cells X2.out.pa r7.out okF).trans r7.out)
  have R8 := Lib.hid ((k3.cells X2.out.pa r8.out okS).trans r8.out)
  have O3 := Lib.hid (own_keep O2.out fun b cur hc => k3.cells X2.out.pa hc ⟨by decide, by decide, by decide⟩)
  have RW := Lib.hid (row_q (m := n) (u := fun _ => 0) r3)
  clear p3 m3 k3 s3 r3
  refine hK.out _ _ X3.out.cell01 (fun hHeld => ?_)
  (try clear hK K)
  (try simp only [Act.put, List.setIfInBounds_toArray, List.set_cons_zero, List.set_cons_succ, List.getElem_toArray, List.getElem_cons_zero, List.getElem_cons_succ])
  refine wpAnyH_take (i := 11) (v := ?va11) rfl (by kernel_rfl) (by kernel_rfl) (by kernel_rfl) (fun _ _ _ h => h) (Or.inl ⟨by rfl, ?ha11⟩) (by assumption) ?ra11
  case ha11 => (intro wS hSw; (try dsimp only at hSw); (try clear hSw); go_simp <;> (with_reducible rfl))
  (try simp only [Act.put, List.setIfInBounds_toArray, List.set_cons_zero, List.set_cons_succ, List.getElem_toArray, List.getElem_cons_zero, List.getElem_cons_succ])
  refine wpAnyH_take (i := 12) (v := ?va12) rfl (by kernel_rfl) (by kernel_rfl) (by kernel_rfl) (fun _ _ _ h => h) (Or.inl ⟨by rfl, ?ha12⟩) (by assumption) ?ra12
  case ha12 => (intro wS hSw; (try dsimp only at hSw); (try clear hSw); go_simp <;> (with_reducible rfl))
  (try simp only [Act.put, List.setIfInBounds_toArray, List.set_cons_zero, List.set_cons_succ, List.getElem_toArray, List.getElem_cons_zero, List.getElem_cons_succ])
  refine wpAnyH_take (i := 13) (v := ?va13) rfl (by kernel_rfl) (by kernel_rfl) (by kernel_rfl) (fun _ _ _ h => h) (Or.inl ⟨by rfl, ?ha13⟩) (by assumption) ?ra13
  case ha13 => (intro wS hSw; (try dsimp only at hSw); (try clear hSw); go_simp <;> (with_reducible rfl))
  (try simp only [Act.put, List.setIfInBounds_toArray, List.set_cons_zero, List.set_cons_succ, List.getElem_toArray, List.getElem_cons_zero, List.getElem_cons_succ])
  refine wpAnyH_take (i := 14) (v := ?va14) rfl (by kernel_rfl) (by kernel_rfl) (by kernel_rfl) (fun _ _ _ h => h) (Or.inl ⟨by rfl, ?ha14⟩) (by assumption) ?ra14
  case ha14 => (intro wS hSw; (try dsimp only at hSw); (try clear hSw); go_simp <;> (with_reducible rfl))
  (try simp only [Act.put, List.setIfInBounds_toArray, List.set_cons_zero, List.set_cons_succ, List.getElem_toArray, List.getElem_cons_zero, List.getElem_cons_succ])
  refine wpAnyH_take (i := 15) (v := ?va15) rfl (by kernel_rfl) (by kernel_rfl) (by kernel_rfl) (fun _ _ _ h => h) (Or.inl ⟨by rfl, ?ha15⟩) (by assumption) ?ra15
  case ha15 => (intro wS hSw; (try dsimp only at hSw); (try clear hSw); go_simp <;> (with_reducible rfl))
  (try simp only [Act.put, List.setIfInBounds_toArray, List.set_cons_zero, List.set_cons_succ, List.getElem_toArray, List.getElem_cons_zero, List.getElem_cons_succ])
  refine wpAnyH_done (by kernel_rfl) ?_ _
  clear hHeld
  have X4 := X3.out
  obtain ⟨c0, c1, c2, c3, c4, c5, cf⟩ := X4.cells
  obtain ⟨d1, d2⟩ := cell2 R7.out
  clear X2 X4 O1 O2
  go_upto_region 7 with fail
  have q0 := X3.out.put 3 (.int .i64 (n : Int)) lv (.slice ao Q.length cap) sv rfl
  have q1 := q0.put 4 (.slice ao2 R.length cap2) lv (.slice ao2 R.length cap2) sv rfl
  have O5 := own_putT (own_putT O3.out X3.out.box (by decide) 3 (.int .i64 (n : Int))) q0.box (by decide) 4 (.slice ao2 R.length cap2)
  have X6 := Lib.hid (q1.newG O5)
  have R6 := Lib.hid (blk_putT (blk_putT R8.out X3.out.box (by decide) 3 (.int .i64 (n : Int))) q0.box (by decide) 4 (.slice ao2 R.length cap2))
  have RW6 := Lib.hid (RowP.mk (p := x.p n) (blk_putT (blk_putT RW.out.row X3.out.box (by decide) 3 (.int .i64 (n : Int))) q0.box (by decide) 4 (.slice ao2 R.length cap2)))
  clear q0 q1 O5 O3 X3 R7 R8 RW c0 c1 c2 c3 c4 c5 cf d1 d2
  generalize World.setCell (World.setCell w3 _ _) _ _ = W6 at *
  obtain ⟨c0, c1, c2, c3, c4, c5, cf⟩ := X6.out.cells
  have hsz := X6.out.bel.size
  have XA := Lib.hid (X6.out.alloc (.cells #[.pointer (some ⟨st, 0, none⟩)] 47))
  have RWA := Lib.hid (RW6.out.low ((Below.refl W6.heap.size W6).alloc (Nat.le_refl _) (.cells #[.pointer (some ⟨st, 0, none⟩)] 47)))
  have R6A := Lib.hid (blk_low' R6.out ((Below.refl W6.heap.size W6).alloc (Nat.le_refl _) (.cells #[.pointer (some ⟨st, 0, none⟩)] 47)))
  go_upto_region 8 with (at_builtin; refine wpList_append_own _ rfl _ _ 40 rfl W.heap.size 47 iP (.pointer none) 1 8 Tryz.underlying40 hiP pz0 pz1 pz2 rfl (by decide) _ _ _ rfl XA.out.ll ⟨W6.heap.size, 0, none⟩ 1 1 [.pointer (some ⟨st, 0, none⟩)] rfl rfl (news_one _ _ _) (fun u hu => by rw [List.mem_singleton.1 hu]; rfl) (by unfold maxLen; rw [HLL.out]; omega) (by rw [HLL.out]; omega) (by simp; omega) ?_; intro v7 w7 ho7 hg7 _; simp only [HLL.out] at ho7; obtain ⟨vo7, vc7, rfl⟩ := own_shape ho7; have X7 := Lib.hid (XA.out.growL XA.out.ll (Nat.le_refl _) hg7 (Lp' := Lp ++ [{ x with st := st }]) (by rw [List.length_append, HLL.out, List.map_append]; exact ho7) (fun y hy => (List.mem_append.1 hy).elim (XA.out.rows y) (fun e => by rw [List.mem_singleton.1 e]; exact RWA.out))); have R7 := Lib.hid (grown_other XA.out.ll hg7 _ _ R6A.out (fun c f hh => by injection hh with _ hh _; exact absurd hh (by decide))); obtain ⟨c0, c1, c2, c3, c4, c5, cf⟩ := X7.out.cells)
  have X8 := Lib.hid (X7.out.put 2 (.slice vo7 (ll + 1) vc7) (.slice vo7 (ll + 1) vc7) (.slice ao2 R.length cap2) sv rfl)
  have R9 := Lib.hid (blk_putT R7.out X7.out.box (by decide) 2 (.slice vo7 (ll + 1) vc7))
  clear X7 R7 c0 c1 c2 c3 c4 c5 cf XA RWA R6A X6 R6 RW6
  generalize World.setCell w7 _ _ = W8 at *
  have X9 := Lib.hid X8.out.drew
  have R10 := Lib.hid (show W8.drew.heap[w1.heap.size + 1]? = some (.cells (sC x.s (x.n : Int) (.slice none 0 0) (x.f : Int) x.g) 70 (0, 0)) from R9.out)
  refine wp_region_held_drew (S := fun wS => wS.heap[w1.heap.size + 1]? = some (.cells (sC x.s (x.n : Int) (.slice none 0 0) (x.f : Int) x.g) 70 (0, 0))) (by kernel_rfl) R10.out (fun hHeld => ?_)
  generalize W8.drew = V0 at *
  clear X8 R9
  refine wpAnyH_take (i := 0) (v := ?vu1) rfl (by kernel_rfl) (by kernel_rfl) (by kernel_rfl) (fun _ _ _ h => h) (Or.inl ⟨by rfl, ?hu1⟩) (by assumption) ?ru1
  case hu1 => (intro wS hSw; (try dsimp only at hSw); (try clear hSw); go_simp <;> (with_reducible rfl))
  (try simp only [Act.put, List.setIfInBounds_toArray, List.set_cons_zero, List.set_cons_succ, List.getElem_toArray, List.getElem_cons_zero])
  refine wpAnyH_take (i := 1) (v := ?vu2) rfl (by kernel_rfl) (by kernel_rfl) (by kernel_rfl) (fun _ _ _ h => h) (Or.inl ⟨by rfl, ?hu2⟩) (by assumption) ?ru2
  case hu2 => (intro wS hSw; (try dsimp only at hSw); (try clear hSw); go_simp <;> (with_reducible rfl))
  (try simp only [Act.put, List.setIfInBounds_toArray, List.set_cons_zero, List.set_cons_succ, List.getElem_toArray, List.getElem_cons_zero, List.getElem_cons_succ])
  refine wpAnyH_take (i := 2) (v := ?vu3) rfl (by kernel_rfl) (by kernel_rfl) (by kernel_rfl) (fun _ _ _ h => h) (Or.inl ⟨by rfl, ?hu3⟩) (by assumption) ?ru3
  case hu3 => (intro wS hSw; (try dsimp only at hSw); (try clear hSw); go_simp <;> (with_reducible rfl))
  (try simp only [Act.put, List.setIfInBounds_toArray, List.set_cons_zero, List.set_cons_succ, List.getElem_toArray, List.getElem_cons_zero, List.getElem_cons_succ])
  refine wpAnyH_take (i := 3) (v := ?vu4) rfl (by kernel_rfl) (by kernel_rfl) (by kernel_rfl) (fun _ _ _ h => h) (Or.inl ⟨by rfl, ?hu4⟩) (by assumption) ?ru4
  case hu4 => (intro wS hSw; (try dsimp only at hSw); (try clear hSw); go_simp <;> (with_reducible rfl))
  (try simp only [Act.put, List.setIfInBounds_toArray, List.set_cons_zero, List.set_cons_succ, List.getElem_toArray, List.getElem_cons_zero, List.getElem_cons_succ])
  refine wpAnyH_take (i := 5) (v := ?vu5) rfl (by kernel_rfl) (by kernel_rfl) (by kernel_rfl) (fun _ _ _ h => h) (Or.inl ⟨by rfl, ?hu5⟩) (by assumption) ?ru5
  case hu5 => (intro wS hSw; (try dsimp only at hSw); obtain ⟨e1, e2, e3, e4, e5⟩ := cell5 hSw; (try clear hSw); go_simp <;> (with_reducible rfl))
  (try simp only [Act.put, List.setIfInBounds_toArray, List.set_cons_zero, List.set_cons_succ, List.getElem_toArray, List.getElem_cons_zero, List.getElem_cons_succ])
  refine wpAnyH_ready (rs := [4, 6]) (by kernel_rfl) (by simp) ?_
  refine AllReadyH.cons rfl (fun K hK => ?_) ?_
  · have c5 := X9.out.cells.2.2.2.2.2.1
    go_simp
    refine hK.out _ _ R10.out (fun hHeld => ?_)
    (try clear hK K)
    (try simp only [Act.put, List.setIfInBounds_toArray, List.set_cons_zero, List.set_cons_succ, List.getElem_toArray, List.getElem_cons_zero, List.getElem_cons_succ])
    refine wpAnyH_ready (rs := [6]) (by kernel_rfl) (by simp) ?_
    refine AllReadyH.cons rfl (fun K hK => ?_) AllReadyH.nil
    go_simp
    have XB2 := Lib.hid (X9.out.alloc (.cells #[.int .i64 x.s, .int .i64 (x.n : Int), .slice none 0 0, .int .i64 (x.f : Int), .int .i64 x.g] 70))
    have RB2 := Lib.hid (blk_low' R10.out ((Below.refl V0.heap.size V0).alloc (Nat.le_refl _) (.cells #[.int .i64 x.s, .int .i64 (x.n : Int), .slice none 0 0, .int .i64 (x.f : Int), .int .i64 x.g] 70)))
    have NB2 := Lib.hid (World.alloc_heap_new V0 (.cells #[.int .i64 x.s, .int .i64 (x.n : Int), .slice none 0 0, .int .i64 (x.f : Int), .int .i64 x.g] 70))
    have hb2 : V0.heap.size < (V0.alloc (.cells #[.int .i64 x.s, .int .i64 (x.n : Int), .slice none 0 0, .int .i64 (x.f : Int), .int .i64 x.g] 70)).heap.size := by simp
    generalize V0.alloc (.cells #[.int .i64 x.s, .int .i64 (x.n : Int), .slice none 0 0, .int .i64 (x.f : Int), .int .i64 x.g] 70) = V2 at *
    refine hK.out _ _ RB2.out (fun hHeld => ?_)
    (try clear hK K)
    (try simp only [Act.put, List.setIfInBounds_toArray, List.set_cons_zero, List.set_cons_succ, List.getElem_toArray, List.getElem_cons_zero, List.getElem_cons_succ])
    refine wpAnyH_ready (rs := [7]) (by kernel_rfl) (by simp) ?_
    refine AllReadyH.cons rfl (fun K hK => ?_) AllReadyH.nil
    rw [if_pos (by rfl)]
    refine wp_append_own _ _ _ 44 rfl W.heap.size 70 iS (.agg #[.int .i64 0, .int .i64 0, .slice none 0 0, .int .i64 0, .int .i64 0]) 5 56 Tryz.underlying44 hiS sz0 sz1 sz2 rfl (by decide) _ _ _ rfl XB2.out.sl ⟨V0.heap.size, 0, none⟩ 1 1 [.int .i64 x.s, .int .i64 (x.n : Int), .slice none 0 0, .int .i64 (x.f : Int), .int .i64 x.g] rfl rfl (news_cells NB2.out) (by simp [Value.oneCell']) (by unfold maxLen; rw [HLL.out]; omega) (by rw [HLL.out]; omega) XB2.out.bel.size ?_
    intro v9 V3 ho9 hg9 _
    simp only [HLL.out] at ho9
    obtain ⟨vo9, vc9, rfl⟩ := own_shape ho9
    have XC3 := Lib.hid (XB2.out.growS XB2.out.sl (Nat.le_refl _) hg9 (Ls' := Lp ++ [{ x with st := st }]) (by rw [List.length_append, HLL.out, sRow_app]; show World.ownsRow _ _ _ _ _ _ (sRow Lp ++ [.int .i64 x.s, .int .i64 (x.n : Int), x.v, .int .i64 (x.f : Int), .int .i64 x.g]); rw [HV.out]; exact ho9) (fun y hy => (List.mem_append.1 hy).elim (XB2.out.ds y) (fun e => by rw [List.mem_singleton.1 e]; show WsAt _ _ x.v x.l; rw [HV.out, HL.out]; exact ws_nil _ _)))
    have RC3 := Lib.hid (blk_grown HB1.out hg9 RB2.out)
    refine hK.out _ _ RC3.out (fun hHeld => ?_)
    (try clear hK K)
    (try simp only [Act.put, List.setIfInBounds_toArray, List.set_cons_zero, List.set_cons_succ, List.getElem_toArray, List.getElem_cons_zero, List.getElem_cons_succ])
    refine wpAnyH_take (i := 8) (v := ?vu6) rfl (by kernel_rfl) (by kernel_rfl) (by kernel_rfl) (fun _ _ _ h => h) (Or.inl ⟨by rfl, ?hu6⟩) (by assumption) ?ru6
    case hu6 => (intro wS hSw; (try dsimp only at hSw); (try clear hSw); go_simp <;> (with_reducible rfl))
    (try simp only [Act.put, List.setIfInBounds_toArray, List.set_cons_zero, List.set_cons_succ, List.getElem_toArray, List.getElem_cons_zero, List.getElem_cons_succ])
    refine wpAnyH_take (i := 9) (v := ?vu7) rfl (by kernel_rfl) (by kernel_rfl) (by kernel_rfl) (fun _ _ _ h => h) (Or.inl ⟨by rfl, ?hu7⟩) (by assumption) ?ru7
    case hu7 => (intro wS hSw; (try dsimp only at hSw); (try clear hSw); go_simp <;> (with_reducible rfl))
    (try simp only [Act.put, List.setIfInBounds_toArray, List.set_cons_zero, List.set_cons_succ, List.getElem_toArray, List.getElem_cons_zero, List.getElem_cons_succ])
    refine wpAnyH_ready (rs := [10]) (by kernel_rfl) (by simp) ?_
    refine AllReadyH.cons rfl (fun K hK => ?_) AllReadyH.nil
    obtain ⟨c0, c1, c2, c3, c4, c5, cf⟩ := XC3.out.cells
    go_simp
    have XD := Lib.hid (XC3.out.put 5 (.slice vo9 (ll + 1) vc9) (.slice vo7 (ll + 1) vc7) (.slice ao2 R.length cap2) (.slice vo9 (ll + 1) vc9) rfl)
    refine hK.out _ _ (blk_putT RC3.out XC3.out.box (by decide) 5 _) (fun hHeld => ?_)
    (try clear hK K)
    (try simp only [Act.put, List.setIfInBounds_toArray, List.set_cons_zero, List.set_cons_succ, List.getElem_toArray, List.getElem_cons_zero, List.getElem_cons_succ])
    refine wpAnyH_done (by kernel_rfl) ?_ _
    clear hHeld
    go_wp2_with fail
    go_ret
    exact ⟨rfl, st, bm3, g3, _, _, _, XD.out, q3⟩
  refine AllReadyH.cons rfl (fun K hK => ?_) ?_
  · go_simp
    have XB1 := Lib.hid (X9.out.alloc (.cells #[.int .i64 x.s, .int .i64 (x.n : Int), .slice none 0 0, .int .i64 (x.f : Int), .int .i64 x.g] 70))
    have RB1 := Lib.hid (blk_low' R10.out ((Below.refl V0.heap.size V0).alloc (Nat.le_refl _) (.cells #[.int .i64 x.s, .int .i64 (x.n : Int), .slice none 0 0, .int .i64 (x.f : Int), .int .i64 x.g] 70)))
    have NB1 := Lib.hid (World.alloc_heap_new V0 (.cells #[.int .i64 x.s, .int .i64 (x.n : Int), .slice none 0 0, .int .i64 (x.f : Int), .int .i64 x.g] 70))
    have hb1 : V0.heap.size < (V0.alloc (.cells #[.int .i64 x.s, .int .i64 (x.n : Int), .slice none 0 0, .int .i64 (x.f : Int), .int .i64 x.g] 70)).heap.size := by simp
    generalize V0.alloc (.cells #[.int .i64 x.s, .int .i64 (x.n : Int), .slice none 0 0, .int .i64 (x.f : Int), .int .i64 x.g] 70) = V1 at *
    refine hK.out _ _ RB1.out (fun hHeld => ?_)
    (try clear hK K)
    (try simp only [Act.put, List.setIfInBounds_toArray, List.set_cons_zero, List.set_cons_succ, List.getElem_toArray, List.getElem_cons_zero, List.getElem_cons_succ])
    refine wpAnyH_ready (rs := [4]) (by kernel_rfl) (by simp) ?_
    refine AllReadyH.cons rfl (fun K hK => ?_) AllReadyH.nil
    have c5 := XB1.out.cells.2.2.2.2.2.1
    go_simp
    refine hK.out _ _ RB1.out (fun hHeld => ?_)
    (try clear hK K)
    (try simp only [Act.put, List.setIfInBounds_toArray, List.set_cons_zero, List.set_cons_succ, List.getElem_toArray, List.getElem_cons_zero, List.getElem_cons_succ])
    refine wpAnyH_ready (rs := [7]) (by kernel_rfl) (by simp) ?_
    refine AllReadyH.cons rfl (fun K hK => ?_) AllReadyH.nil
    rw [if_pos (by rfl)]
    refine wp_append_own _ _ _ 44 rfl W.heap.size 70 iS (.agg #[.int .i64 0, .int .i64 0, .slice none 0 0, .int .i64 0, .int .i64 0]) 5 56 Tryz.underlying44 hiS sz0 sz1 sz2 rfl (by decide) _ _ _ rfl XB1.out.sl ⟨V0.heap.size, 0, none⟩ 1 1 [.int .i64 x.s, .int .i64 (x.n : Int), .slice none 0 0, .int .i64 (x.f : Int), .int .i64 x.g] rfl rfl (news_cells NB1.out) (by simp [Value.oneCell']) (by unfold maxLen; rw [HLL.out]; omega) (by rw [HLL.out]; omega) XB1.out.bel.size ?_
    intro v9 V3 ho9 hg9 _
    simp only [HLL.out] at ho9
    obtain ⟨vo9, vc9, rfl⟩ := own_shape ho9
    have XC3 := Lib.hid (XB1.out.growS XB1.out.sl (Nat.le_refl _) hg9 (Ls' := Lp ++ [{ x with st := st }]) (by rw [List.length_append, HLL.out, sRow_app]; show World.ownsRow _ _ _ _ _ _ (sRow Lp ++ [.int .i64 x.s, .int .i64 (x.n : Int), x.v, .int .i64 (x.f : Int), .int .i64 x.g]); rw [HV.out]; exact ho9) (fun y hy => (List.mem_append.1 hy).elim (XB1.out.ds y) (fun e => by rw [List.mem_singleton.1 e]; show WsAt _ _ x.v x.l; rw [HV.out, HL.out]; exact ws_nil _ _)))
    have RC3 := Lib.hid (blk_grown HB1.out hg9 RB1.out)
    refine hK.out _ _ RC3.out (fun hHeld => ?_)
    (try clear hK K)
    (try simp only [Act.put, List.setIfInBounds_toArray, List.set_cons_zero, List.set_cons_succ, List.getElem_toArray, List.getElem_cons_zero, List.getElem_cons_succ])
    refine wpAnyH_take (i := 8) (v := ?vu8) rfl (by kernel_rfl) (by kernel_rfl) (by kernel_rfl) (fun _ _ _ h => h) (Or.inl ⟨by rfl, ?hu8⟩) (by assumption) ?ru8
    case hu8 => (intro wS hSw; (try dsimp only at hSw); (try clear hSw); go_simp <;> (with_reducible rfl))
    (try simp only [Act.put, List.setIfInBounds_toArray, List.set_cons_zero, List.set_cons_succ, List.getElem_toArray, List.getElem_cons_zero, List.getElem_cons_succ])
    refine wpAnyH_take (i := 9) (v := ?vu9) rfl (by kernel_rfl) (by kernel_rfl) (by kernel_rfl) (fun _ _ _ h => h) (Or.inl ⟨by rfl, ?hu9⟩) (by assumption) ?ru9
    case hu9 => (intro wS hSw; (try dsimp only at hSw); (try clear hSw); go_simp <;> (with_reducible rfl))
    (try simp only [Act.put, List.setIfInBounds_toArray, List.set_cons_zero, List.set_cons_succ, List.getElem_toArray, List.getElem_cons_zero, List.getElem_cons_succ])
    refine wpAnyH_ready (rs := [10]) (by kernel_rfl) (by simp) ?_
    refine AllReadyH.cons rfl (fun K hK => ?_) AllReadyH.nil
    obtain ⟨c0, c1, c2, c3, c4, c5, cf⟩ := XC3.out.cells
    go_simp
    have XD := Lib.hid (XC3.out.put 5 (.slice vo9 (ll + 1) vc9) (.slice vo7 (ll + 1) vc7) (.slice ao2 R.length cap2) (.slice vo9 (ll + 1) vc9) rfl)
    refine hK.out _ _ (blk_putT RC3.out XC3.out.box (by decide) 5 _) (fun hHeld => ?_)
    (try clear hK K)
    (try simp only [Act.put, List.setIfInBounds_toArray, List.set_cons_zero, List.set_cons_succ, List.getElem_toArray, List.getElem_cons_zero, List.getElem_cons_succ])
    refine wpAnyH_done (by kernel_rfl) ?_ _
    clear hHeld
    go_wp2_with fail
    go_ret
    exact ⟨rfl, st, bm3, g3, _, _, _, XD.out, q3⟩
  exact AllReadyH.nil
end
end Go.Proofs.YtnbdoemnepfhdaaGreat.Sw

namespace Go.Proofs.YtnbdoemnepfhdaaGreat.Sw
open Fld Ts
open Frm (OwnI IsD setT manyE manyI manyT lst cnt)
open Go.ChangeShapes Go.WideShapes Go.ChangeAt Go.RowKit Go.Shelf Go.Deep
set_option maxHeartbeats 4000000
set_option maxRecDepth 100000
theorem lst_none (n : Nat) : lst (fun _ => false) n = [] := by simp [lst]
/-- A new memory and new frames. -/
theorem two_new {w w1 w2 : World} {k : Nat} (m : Mem.MemAt w1 (w.heap.size + 1) w.heap.size (8192 * k) (fun _ => 0)) (_b1 : Below w.heap.size w w1) (f : Frm.FrAt w2 (w1.heap.size + 1) w1.heap.size k (fun _ => false)) (b2 : Below w1.heap.size w1 w2) : PAt w2 (w.heap.size + 1) w.heap.size (w1.heap.size + 1) w1.heap.size k (fun _ => 0) (fun _ => false) :=
  ⟨m.same (b2.block _ m.lt.1) (b2.block _ m.lt.2), f⟩
theorem lbegin_any (k : Nat) (hk : k ≤ 1000) (w : World) :
    Calls Tryz.prog 6 #[.int .i64 (k : Int)] w fun e w' => ∃ wb sb bm fb bb, e = .returned (.pointer (some ⟨wb, 0, none⟩)) ∧ WX w w' wb sb bm fb bb k (fun _ => 0) (fun _ => false) [] (lst (fun _ => false) k) [] (.slice none 0 0) (.slice none 0 0) (.slice none 0 0) (.slice none 0 0) (.slice none 0 0) (.slice none 0 0) ∧ Fit k (fun _ => 0) (fun _ => false) [] := by
  have CM := Lib.hid (fun W => Mem.new_any ((k : Int) * 8192) (by omega) (by omega) W)
  rw [show (min ((k : Int) * 8192) 2199023255552).toNat = 8192 * k by omega] at CM
  have CF := Lib.hid (fun W => Frm.new_any (k : Int) W)
  rw [show Frm.newN (k : Int) = k by unfold Frm.newN; omega] at CF
  have CR := Lib.hid (fun W => Frm.rnew_any (k : Int) W)
  rw [show Frm.newN (k : Int) = k by unfold Frm.newN; omega] at CR
  rw [lst_none]
  have hk1 : (k : Int) ≤ 1000 := by omega
  have HF := Lib.hid (Fit.new k hk)
  go_enter Tryz.func6, Tryz.ntmps6
  go_wp2_with fail
  refine (CM.out _).mono ?_; rintro e w1 ⟨rfl, m1, b1⟩
  go_wp2_with fail
  refine (CF.out _).mono ?_; rintro e w2 ⟨rfl, f2, b2⟩
  have P2 := two_new m1 b1 f2 b2
  have z1 := b1.size
  have z2 := b2.size
  have B2 := b1.trans (b2.mono b1.size)
  go_wp2_with fail
  refine (CR.out _).mono ?_; rintro e w3 ⟨rfl, b3⟩
  have z3 := b3.size
  have P3 := P2.low b3
  have B3 := B2.trans (b3.mono B2.size)
  go_wp2_with fail
  go_ret
  exact ⟨w3.heap.size, w.heap.size + 1, w.heap.size, w1.heap.size + 1, w1.heap.size, rfl, ⟨B3.alloc (by omega) _, by omega, by omega, by omega, by omega, by omega, P3.alloc _, World.alloc_heap_new _ _, by simp, World.ownsRow_nil _ _ _ _, World.ownsRow_nil _ _ _ _, World.ownsRow_nil _ _ _ _, by simp⟩, HF.out⟩
theorem lives_any (w : World) :
    Calls Tryz.prog 9 #[] w fun e w' => e = .returned (.bool true) ∧ Below w.heap.size w w' := by
  have CM := Lib.hid (fun W => Mem.new_any 81920 (by decide) (by decide) W)
  rw [show (min (81920 : Int) 2199023255552).toNat = 8192 * 10 from rfl] at CM
  have CF := Lib.hid (fun W => Frm.new_any 10 W)
  rw [show Frm.newN 10 = 10 from rfl] at CF
  have hx : Tb.In ⟨0, 0, 0, 0, fun _ => Pl.none, .slice none 0 0, []⟩ 10 := ⟨rfl, by decide, by decide, by decide⟩
  have CP := Lib.hid (fun (Wz : World) (sb bm fb bb : Nat) (hW : PAt Wz sb bm fb bb 10 (fun _ => 0) (fun _ => false)) => pmake_yes ⟨0, 0, 0, 0, fun _ => Pl.none, .slice none 0 0, []⟩ (by decide) hx hW (by kernel_rfl) (by kernel_rfl) (by kernel_rfl))
  have C1 := Lib.hid (fun W => frames_any 0 3 W)
  have C2 := Lib.hid (fun W => frames_any 3 0 W)
  rw [show frI 0 3 = 8 from by kernel_rfl] at C1
  rw [show frI 3 0 = 1 from by kernel_rfl] at C2
  have HC := Lib.hid (show (cnt (setT (fun _ => false) 0 (Tb.k ⟨0, 0, 0, 0, fun _ => Pl.none, .slice none 0 0, []⟩) true) 10 : Int) = 9 from by kernel_rfl)
  generalize setT (fun _ => false) 0 (Tb.k ⟨0, 0, 0, 0, fun _ => Pl.none, .slice none 0 0, []⟩) true = F2 at *
  clear hx
  go_enter Tryz.func9, Tryz.ntmps9
  go_wp2_with fail
  refine (CM.out _).mono ?_; rintro e w1 ⟨rfl, m1, b1⟩
  go_wp2_with fail
  refine (CF.out _).mono ?_; rintro e w2 ⟨rfl, f2, b2⟩
  have P2 := two_new m1 b1 f2 b2
  have z1 := b1.size
  have z2 := b2.size
  have B2 := b1.trans (b2.mono b1.size)
  go_wp2_with fail
  refine (CP.out _ _ _ _ _ P2).mono ?_; rintro e w3 ⟨st, g3, rfl, s3, ⟨bm3, p3, m3, k3⟩, _⟩
  have B3 : Below w.heap.size w w3 := B2.trans (k3.to_below (by omega) (by omega) (by omega) (by omega) B2.size)
  have CG := Lib.hid (Frm.free_any w3 p3.fr)
  rw [HC.out] at CG
  clear CP CM CF
  go_wp2_with (first | (go_at_call 11; (with_reducible refine (C1.out _).mono ?_); rintro e w' ⟨rfl, rfl⟩) | (go_at_call 11; (with_reducible refine (C2.out _).mono ?_); rintro e w' ⟨rfl, rfl⟩) | (go_at_call 17; (with_reducible refine CG.out.mono ?_); rintro e w' ⟨rfl, rfl⟩))
  go_ret
  exact ⟨rfl, B3⟩
end Go.Proofs.YtnbdoemnepfhdaaGreat.Sw

namespace Go.Proofs.YtnbdoemnepfhdaaGreat.Sw
open Fld Ts
open Frm (OwnI IsD setT manyE manyI manyT lst cnt)
open Pt (arI)
open Go.ChangeShapes Go.WideShapes Go.ChangeAt Go.RowKit Go.Shelf Go.Deep
set_option maxHeartbeats 4000000
set_option maxRecDepth 100000
/-- What of a TSB does not change when it is filled. -/
def Tb.id (x : Tb) : Nat × Nat × Int × Int := (x.st, x.f, x.s, x.g)
/-- A place among so many. -/
theorem at_mid {L : List Tb} {k : Nat} (h : k < L.length) : ∃ A x B, L = A ++ x :: B ∧ A.length = k := by
  refine ⟨L.take k, L[k], L.drop (k + 1), ?_, by simp; omega⟩
  rw [List.getElem_cons_drop h, List.take_append_drop]
theorem ar_nat (i : Int) {n : Nat} (hn : 0 < n) : ∃ k : Nat, arI i (n : Int) = (k : Int) ∧ k < n := by
  have h := Pt.ar_bd i (n : Int) (by omega)
  exact ⟨(arI i (n : Int)).toNat, by omega, by omega⟩
/-- A deed's box. -/
structure DB13 (w : World) (b : Nat) (k n s g : Int) (e : Ent) : Prop where
  row : w.heap[b]? = some (.cells #[.int .i64 k, .int .i64 n, .int .i64 s, .int .i64 g, .int .i64 e.size, .int .i64 e.ctx, .int .u64 e.va, .int .u64 e.pa, .bool e.att.write, .bool e.att.priv, .bool e.att.exec, .bool e.att.lock, .bool e.att.global, .bool e.att.quiet, .bool e.valid] 32 (0, 0))
theorem DB13.cells {w : World} {b : Nat} {k n s g : Int} {e : Ent} (h : DB13 w b k n s g e) : w.cell? ⟨b, 0, none⟩ = some (.int .i64 k) ∧ w.cell? ⟨b, 1, none⟩ = some (.int .i64 n) ∧ w.cell? ⟨b, 2, none⟩ = some (.int .i64 s) ∧ w.cell? ⟨b, 3, none⟩ = some (.int .i64 g) ∧ w.cell? ⟨b, 4, none⟩ = some (.int .i64 e.size) ∧ w.cell? ⟨b, 5, none⟩ = some (.int .i64 e.ctx) ∧ w.cell? ⟨b, 6, none⟩ = some (.int .u64 e.va) ∧ w.cell? ⟨b, 7, none⟩ = some (.int .u64 e.pa) ∧ w.cell? ⟨b, 8, none⟩ = some (.bool e.att.write) ∧ w.cell? ⟨b, 9, none⟩ = some (.bool e.att.priv) ∧ w.cell? ⟨b, 10, none⟩ = some (.bool e.att.exec) ∧ w.cell? ⟨b, 11, none⟩ = some (.bool e.att.lock) ∧ w.cell? ⟨b, 12, none⟩ = some (.bool e.att.global) ∧ w.cell? ⟨b, 13, none⟩ = some (.bool e.att.quiet) ∧ w.cell? ⟨b, 14, none⟩ = some (.bool e.valid) :=
  ⟨cell_row 0 h.row rfl, cell_row 1 h.row rfl, cell_row 2 h.row rfl, cell_row 3 h.row rfl, cell_row 4 h.row rfl, cell_row 5 h.row rfl, cell_row 6 h.row rfl, cell_row 7 h.row rfl, cell_row 8 h.row rfl, cell_row 9 h.row rfl, cell_row 10 h.row rfl, cell_row 11 h.row rfl, cell_row 12 h.row rfl, cell_row 13 h.row rfl, cell_row 14 h.row rfl⟩
theorem DB13.low {w w' : World} {b : Nat} {k n s g : Int} {e : Ent} (h : DB13 w b k n s g e) (hb : Below w.heap.size w w') : DB13 w' b k n s g e := ⟨blk_low' h.row hb⟩
theorem DB13.drew {w : World} {b : Nat} {k n s g : Int} {e : Ent} (h : DB13 w b k n s g e) : DB13 w.drew b k n s g e := ⟨h.row⟩
section
variable {W w : World} {wb sb bm fb bb n : Nat} {g : Nat → Nat} {F : Nat → Bool} {Q : List Int} {gv lv sv : Value}
/-- Where the rows lie, and what stands at a place. -/
theorem WX.mid {A B : List Tb} {x : Tb} (h : WX W w wb sb bm fb bb n g F (A ++ x :: B) Q (A ++ x :: B) lv gv sv lv gv sv) {k o : Nat} (hk : A.length = k) (ho : k * 5 = o) : ∃ lg lc sg sc, lv = .slice (some ⟨lg, 0, none⟩) (A ++ x :: B).length lc ∧ sv = .slice (some ⟨sg, 0, none⟩) (A ++ x :: B).length sc ∧ w.cell? ⟨lg, k, none⟩ = some (.pointer (some ⟨x.st, 0, none⟩)) ∧ w.cell? ⟨sg, o, none⟩ = some (.int .i64 x.s) ∧ w.cell? ⟨sg, o + 1, none⟩ = some (.int .i64 (x.n : Int)) ∧ w.cell? ⟨sg, o + 2, none⟩ = some x.v ∧ w.cell? ⟨sg, o + 3, none⟩ = some (.int .i64 (x.f : Int)) ∧ w.cell? ⟨sg, o + 4, none⟩ = some (.int .i64 x.g) ∧ (∀ i, w.frozen? ⟨lg, i, none⟩ = false) ∧ (∀ i, w.frozen? ⟨sg, i, none⟩ = false) ∧ (A ++ x :: B).length ≤ lc ∧ lc ≤ maxLen ∧ (A ++ x :: B).length ≤ sc ∧ sc ≤ maxLen := by
  obtain ⟨lg, lc, hlv, _, l2, l3, ⟨c1, hc1⟩, hl4⟩ := own_at h.ll (by rw [List.length_append, List.length_cons]; omega)
  obtain ⟨sg, sc, hsv, _, s2, s3, ⟨c2, hc2⟩, hs4⟩ := own_at h.sl (by rw [List.length_append, List.length_cons]; omega)
  subst hk
  have hx : ∀ j u, (cS x)[j]? = some u → w.cell? ⟨sg, o + j, none⟩ = some u := fun j u hj => hs4 _ _ (sRow_get hj (by omega))
  refine ⟨lg, lc, sg, sc, hlv, hsv, hl4 _ _ (by simp [ptrV]), hx 0 _ rfl, hx 1 _ rfl, hx 2 _ rfl, hx 3 _ rfl, hx 4 _ rfl, fun i => froz hc1 i, fun i => froz hc2 i, l2, l3, s2, s3⟩
theorem WX.rowc {A B : List Tb} {x : Tb} {lg lc sg sc m m2 : Nat} (h : WX W w wb sb bm fb bb n g F (A ++ x :: B) Q (A ++ x :: B) (.slice (some ⟨lg, 0, none⟩) m lc) gv (.slice (some ⟨sg, 0, none⟩) m2 sc) (.slice (some ⟨lg, 0, none⟩) m lc) gv (.slice (some ⟨sg, 0, none⟩) m2 sc)) {k o : Nat} (hk : A.length = k) (ho : k * 5 = o) : w.cell? ⟨lg, k, none⟩ = some (.pointer (some ⟨x.st, 0, none⟩)) ∧ w.cell? ⟨sg, o, none⟩ = some (.int .i64 x.s) ∧ w.cell? ⟨sg, o + 1, none⟩ = some (.int .i64 (x.n : Int)) ∧ w.cell? ⟨sg, o + 2, none⟩ = some x.v ∧ w.cell? ⟨sg, o + 3, none⟩ = some (.int .i64 (x.f : Int)) ∧ w.cell? ⟨sg, o + 4, none⟩ = some (.int .i64 x.g) ∧ (∀ i, w.frozen? ⟨lg, i, none⟩ = false) ∧ (∀ i, w.frozen? ⟨sg, i, none⟩ = false) := by
  obtain ⟨lg', lc', sg', sc', e1, e2, p0, s0, s1, s2, s3, s4, fl, fs, _⟩ := h.mid hk ho
  injection e1 with e1 _ _
  injection e1 with e1
  injection e1 with e1
  injection e2 with e2 _ _
  injection e2 with e2
  injection e2 with e2
  subst e1 e2
  exact ⟨p0, s0, s1, s2, s3, s4, fl, fs⟩
theorem other_eleven {w : World} {b : Nat} {c : Array Value} {t : TypeId} {f : Nat × Nat} {x0 x1 x2 x3 x4 x5 x6 x7 x8 x9 x10 : Value} (h : w.heap[b]? = some (.cells c t f)) : Other w (((((((((((w.setCell ⟨b, 0, none⟩ x0).setCell ⟨b, 1, none⟩ x1).setCell ⟨b, 2, none⟩ x2).setCell ⟨b, 3, none⟩ x3).setCell ⟨b, 4, none⟩ x4).setCell ⟨b, 5, none⟩ x5).setCell ⟨b, 6, none⟩ x6).setCell ⟨b, 7, none⟩ x7).setCell ⟨b, 8, none⟩ x8).setCell ⟨b, 9, none⟩ x9).setCell ⟨b, 10, none⟩ x10) t := fun k o hk ho => (row_far (by
  rintro rfl
  rw [h] at hk
  injection hk with hk
  exact ho _ _ hk.symm)).trans hk
theorem okE : okW 30 := ⟨⟨by decide, by decide, by decide⟩, by decide, by decide, by decide, by decide, by decide, by decide⟩
theorem set_below {W w : World} {b : Nat} {x0 x1 x2 x3 x4 x5 x6 x7 x8 x9 x10 : Value} (h : Below W.heap.size W w) (hb : W.heap.size ≤ b) : Below W.heap.size W (((((((((((w.setCell ⟨b, 0, none⟩ x0).setCell ⟨b, 1, none⟩ x1).setCell ⟨b, 2, none⟩ x2).setCell ⟨b, 3, none⟩ x3).setCell ⟨b, 4, none⟩ x4).setCell ⟨b, 5, none⟩ x5).setCell ⟨b, 6, none⟩ x6).setCell ⟨b, 7, none⟩ x7).setCell ⟨b, 8, none⟩ x8).setCell ⟨b, 9, none⟩ x9).setCell ⟨b, 10, none⟩ x10) := by
  iterate 11 refine below_setN ?_ hb
  exact h
theorem RowE.other {w w' : World} {b : Nat} {e : Ent} {t : TypeId} (h : RowE w b e) (hs : Other w w' t) (ht : t ≠ 30) : RowE w' b e := ⟨hs _ _ h.row (fun c f hh => by injection hh with _ hh _; exact ht hh.symm)⟩
theorem other_set {w : World} {b o : Nat} {c : Array Value} {t : TypeId} {f : Nat × Nat} (h : w.heap[b]? = some (.cells c t f)) (u : Value) : Other w (w.setCell ⟨b, o, none⟩ u) t := fun k o' hk ho => (Below.heap_setCell _ _ _ _ (by
  show k ≠ b
  rintro rfl
  rw [h] at hk
  injection hk with hk
  exact ho _ _ hk.symm)).trans hk
theorem Other.trans {a b c : World} {t : TypeId} (h : Other a b t) (k : Other b c t) : Other a c t := fun i o hi ho => k i o (h i o hi ho) ho
theorem other_three {A B : List Tb} {x : Tb} {lg lc sg sc m m2 o : Nat} {x0 x1 x2 : Value} (h : WX W w wb sb bm fb bb n g F (A ++ x :: B) Q (A ++ x :: B) (.slice (some ⟨lg, 0, none⟩) m lc) gv (.slice (some ⟨sg, 0, none⟩) m2 sc) (.slice (some ⟨lg, 0, none⟩) m lc) gv (.slice (some ⟨sg, 0, none⟩) m2 sc)) : Other w (((w.setCell ⟨sg, o, none⟩ x0).setCell ⟨sg, o + 1, none⟩ x1).setCell ⟨sg, o + 2, none⟩ x2) 70 := by
  obtain ⟨g', c', hv, _, _, _, ⟨cur, hc⟩, _⟩ := own_at h.sl (by rw [List.length_append, List.length_cons]; omega)
  injection hv with a _ _
  injection a with a
  injection a with a
  subst a
  have q1 := Mem.heap_set (o := o) hc x0
  have q2 := Mem.heap_set (o := o + 1) q1 x1
  exact ((other_set hc x0).trans (other_set q1 x1)).trans (other_set q2 x2)
/-- The document's TSB at a place is another one, of the same frames. -/
theorem WX.fill3 {A B : List Tb} {x y : Tb} {lg lc sg sc m m2 k o : Nat} (h : WX W w wb sb bm fb bb n g F (A ++ x :: B) Q (A ++ x :: B) (.slice (some ⟨lg, 0, none⟩) m lc) gv (.slice (some ⟨sg, 0, none⟩) m2 sc) (.slice (some ⟨lg, 0, none⟩) m lc) gv (.slice (some ⟨sg, 0, none⟩) m2 sc)) (hk : A.length = k) (ho : k * 5 = o) (hm : (A ++ x :: B).length = m2) {v : Value} (e1 : y.s = x.s) (e2 : y.n = x.n) (e3 : y.f = x.f) (e4 : y.g = x.g) (e5 : y.v = v) (hw : WsAt w W.heap.size v y.l) : WX W (((w.setCell ⟨sg, o, none⟩ (.int .i64 x.s)).setCell ⟨sg, o + 1, none⟩ (.int .i64 (x.n : Int))).setCell ⟨sg, o + 2, none⟩ v) wb sb bm fb bb n g F (A ++ x :: B) Q (A ++ y :: B) (.slice (some ⟨lg, 0, none⟩) m lc) gv (.slice (some ⟨sg, 0, none⟩) m2 sc) (.slice (some ⟨lg, 0, none⟩) m lc) gv (.slice (some ⟨sg, 0, none⟩) m2 sc) := by
  have hlen : (A ++ y :: B).length = m2 := by rw [← hm]; simp
  have h0 := h.sl
  rw [hm] at h0
  have hs := own_set1 (own_set1 (own_set1 h0 o (.int .i64 x.s)) (o + 1) (.int .i64 (x.n : Int))) (o + 2) v
  rw [sRow_set3 A B x o (by omega)] at hs
  rw [show sRow A ++ ([.int .i64 x.s, .int .i64 (x.n : Int), v, .int .i64 (x.f : Int), .int .i64 x.g] ++ sRow B) = sRow (A ++ y :: B) by rw [sRow_app, sRow_cons]; unfold cS; rw [e1, e2, e3, e4, e5]] at hs
  refine h.setS rfl hm _ (fun k _ hne => ((Below.heap_setCell _ _ _ _ hne).trans (Below.heap_setCell _ _ _ _ hne)).trans (Below.heap_setCell _ _ _ _ hne)) ⟨rfl, rfl, rfl, by simp⟩ hs hlen (fun z hz => ?_)
  rcases mem_mid hz with rfl | e
  · rw [e5]; exact hw
  · exact h.ds z (mid_mem (.inr e))
theorem WX.ptrc {A B Ls : List Tb} {x : Tb} {lg lc m : Nat} {bl bg bs : Value} (h : WX W w wb sb bm fb bb n g F (A ++ x :: B) Q Ls bl bg bs (.slice (some ⟨lg, 0, none⟩) m lc) gv sv) {k : Nat} (hk : A.length = k) : w.cell? ⟨lg, k, none⟩ = some (.pointer (some ⟨x.st, 0, none⟩)) := by
  obtain ⟨g', c', hv, _, _, _, _, hl⟩ := own_at h.ll (by rw [List.length_append, List.length_cons]; omega)
  injection hv with a _ _
  injection a with a
  injection a with a
  subst a hk
  exact hl _ _ (by simp [ptrV])
theorem sizeB_bd {s : Int} (h : sizeB s = true) : 0 ≤ s ∧ s ≤ 3 := by
  rcases sizeB_true h with rfl | rfl | rfl | rfl <;> decide
theorem does_ins (nn ss gg : Int) (n0 : -9223372036854775808 ≤ nn) (n1 : nn ≤ 9223372036854775807) (E : Ent) (hE : E.wf) {L : List Tb} (hL : 0 < L.length) (hL2 : L.length ≤ 1000) (hf : Fit n g F L) (h : WX W w wb sb bm fb bb n g F L (lst F n) L lv gv sv lv gv sv) :
    Calls Tryz.prog 7 #[.pointer (some ⟨wb, 0, none⟩), .agg #[.int .i64 3, .int .i64 nn, .int .i64 ss, .int .i64 gg, .int .i64 E.size, .int .i64 E.ctx, .int .u64 E.va, .int .u64 E.pa, .bool E.att.write, .bool E.att.priv, .bool E.att.exec, .bool E.att.lock, .bool E.att.global, .bool E.att.quiet, .bool E.valid]] w fun e w' => e = .returned (.bool true) ∧ ∃ bm' g' L' sv', WX W w' wb sb bm' fb bb n g' F L' (lst F n) L' lv gv sv' lv gv sv' ∧ Fit n g' F L' ∧ L'.map Tb.id = L.map Tb.id := by
  obtain ⟨k, hk, hkl⟩ := ar_nat nn hL
  obtain ⟨A, x, B, rfl, hA⟩ := at_mid hkl
  obtain ⟨o, ho⟩ : ∃ o, k * 5 = o := ⟨_, rfl⟩
  obtain ⟨lg, lc, sg, sc, hlv, hsv, _, _, _, _, _, _, _, _, l2, l3, t2, t3⟩ := h.mid hA ho
  subst hlv hsv
  have CA := Lib.hid (fun W => Pt.raround_any nn ((A ++ x :: B).length : Int) n0 n1 (by omega) (by omega) W)
  rw [hk] at CA
  have hxi := hf.mem x (by simp)
  have HL := Lib.hid h.ll
  have HX := Lib.hid h
  obtain ⟨ll, hll⟩ : ∃ ll, (A ++ x :: B).length = ll := ⟨_, rfl⟩
  have HLL := Lib.hid hll
  rw [hll] at hkl hL hL2 CA HX l2 t2
  have hnz : ((ll : Int) == 0) = false := by simp; omega
  have hlt : (k : Int) < (ll : Int) := by omega
  have hs := Tb.In.hs hxi
  have hAK : (⟨sg, 0, none⟩ : Addr).add o = ⟨sg, o, none⟩ := add_at sg o
  have hAL : (⟨lg, 0, none⟩ : Addr).add k = ⟨lg, k, none⟩ := add_at lg k
  have hAB := Lib.hid hA
  have HK := Lib.hid hk
  clear hk hA hll HL h
  go_enter Tryz.func7, Tryz.ntmps7
  go_upto_region 1 with fail
  have X1 := Lib.hid (HX.out.alloc (.cells #[.int .i64 3, .int .i64 nn, .int .i64 ss, .int .i64 gg, .int .i64 E.size, .int .i64 E.ctx, .int .u64 E.va, .int .u64 E.pa, .bool E.att.write, .bool E.att.priv, .bool E.att.exec, .bool E.att.lock, .bool E.att.global, .bool E.att.quiet, .bool E.valid] 32))
  have D1 := Lib.hid (DB13.mk (k := 3) (n := nn) (s := ss) (g := gg) (e := E) (World.alloc_heap_new w (.cells #[.int .i64 3, .int .i64 nn, .int .i64 ss, .int .i64 gg, .int .i64 E.size, .int .i64 E.ctx, .int .u64 E.va, .int .u64 E.pa, .bool E.att.write, .bool E.att.priv, .bool E.att.exec, .bool E.att.lock, .bool E.att.global, .bool E.att.quiet, .bool E.valid] 32)))
  clear HX
  obtain ⟨b, hb⟩ : ∃ b, w.heap.size = b := ⟨_, rfl⟩
  rw [hb] at D1 ⊢
  clear hb
  generalize w.alloc _ = W1 at *
  obtain ⟨c0, c1, c2, c3, c4, c5, cf⟩ := X1.out.cells
  obtain ⟨p0, s0, s1, s2, s3, s4, fl, fs⟩ := X1.out.rowc hAB.out ho
  obtain ⟨d0, d1, d2, d3, _, _, _, _, _, _, _, _, _, _, _⟩ := D1.out.cells
  go_upto_region 10 with fail
  go_quiet ((go_at_call 10; (with_reducible refine (CA.out _).mono ?_); rintro e w' ⟨rfl, m, rfl⟩; exact ⟨rfl, _, by rw [World.drewN_drewN]⟩))
  have X2 := Lib.hid (X1.out.drewN nq)
  have D2 := Lib.hid (D1.out.low (drewN_low W1 nq))
  clear X1 D1 c0 c1 c2 c3 c4 c5 cf p0 s0 s1 s2 s3 s4 fl fs d0 d1 d2 d3
  generalize W1.drewN nq = W2 at *
  obtain ⟨c0, c1, c2, c3, c4, c5, cf⟩ := X2.out.cells
  obtain ⟨p0, s0, s1, s2, s3, s4, fl, fs⟩ := X2.out.rowc hAB.out ho
  obtain ⟨d0, d1, d2, d3, d4, d5, d6, d7, d8, d9, d10, d11, d12, d13, d14⟩ := D2.out.cells
  have hW2 := X2.out.bel.size
  have CG := Lib.hid (fun W => good_any ({ E with size := x.s } : Ent) ⟨⟨by show _ ≤ x.s; have := sizeB_bd hs; omega, by show x.s ≤ _; have := sizeB_bd hs; omega⟩, hE.2⟩ W)
  go_wp2_with fail
  refine (CG.out _).mono ?_; rintro r w3 ⟨rfl, b3⟩
  have ZS : ({ E with size := x.s } : Ent).good = made x.s E := rfl
  rw [ZS]
  have mo := made_ok x.s E
  have ms := Lib.hid (show (made x.s E).size = x.s from made_size E (by have := sizeB_bd hs; omega))
  generalize made x.s E = M at *
  have X3 := Lib.hid ((X2.out.alloc (.cells #[.int .i64 x.s, .int .i64 E.ctx, .int .u64 E.va, .int .u64 E.pa, .bool E.att.write, .bool E.att.priv, .bool E.att.exec, .bool E.att.lock, .bool E.att.global, .bool E.att.quiet, .bool E.valid] 30)).low b3)
  have R3 := Lib.hid ((RowE.new W2 { E with size := x.s }).below b3 (by simp))
  have hx3 : W2.heap.size < w3.heap.size := by have := b3.size; simp at this; omega
  clear X2 D2 c0 c1 c2 c3 c4 c5 cf p0 s0 s1 s2 s3 s4 fl fs d0 d1 d2 d3 d4 d5 d6 d7 d8 d9 d10 d11 d12 d13 d14 b3 CG ZS
  obtain ⟨r0, r1, r2, r3, r4, r5, r6, r7, r8, r9, r10⟩ := R3.out.cells
  have fr := R3.out.frozen
  go_upto_region 16 with fail
  have R4 := Lib.hid (R3.out.setAll (e := M))
  have hW3 := X3.out.bel.size
  have heb : W.heap.size ≤ W2.heap.size := hW2
  have X4 := Lib.hid (X3.out.turn okE (other_eleven (x0 := .int .i64 M.size) (x1 := .int .i64 M.ctx) (x2 := .int .u64 M.va) (x3 := .int .u64 M.pa) (x4 := .bool M.att.write) (x5 := .bool M.att.priv) (x6 := .bool M.att.exec) (x7 := .bool M.att.lock) (x8 := .bool M.att.global) (x9 := .bool M.att.quiet) (x10 := .bool M.valid) R3.out.row) (set_below X3.out.bel heb))
  clear r0 r1 r2 r3 r4 r5 r6 r7 r8 r9 r10 fr X3 R3 hx3 hW3
  obtain ⟨eb, heb'⟩ : ∃ eb, W2.heap.size = eb := ⟨_, rfl⟩
  rw [heb'] at X4 R4 ⊢
  clear heb'
  generalize World.setCell (World.setCell (World.setCell (World.setCell (World.setCell (World.setCell (World.setCell (World.setCell (World.setCell (World.setCell (World.setCell w3 _ _) _ _) _ _) _ _) _ _) _ _) _ _) _ _) _ _) _ _) _ _ = W4 at *
  have ht := hf.tie x (by simp)
  have hgd := hf.gd x (by simp)
  have hmay := Lib.hid (show mayT (x.p n) M = true from fine_may mo ms.out)
  have uM := wf_u (ok_wf mo)
  have hlt2 : x.l.length ≤ 4096 := by have e1 := tie_len ht; have e2 := hxi.bd; have e3 : (x.p n).n = x.n := rfl; omega
  have ti := tie_ins (hxi.ok hf.le (fun _ => 0)) ht hmay.out
  have CI := Lib.hid (fun (Wz : World) (hW : WsAt Wz W.heap.size x.v x.l) (hB : W.heap.size ≤ Wz.heap.size) => rinsert_any (hxi.ok hf.le (fun _ => 0)) x.l W.heap.size x.v M mo.fit uM (by omega) Wz hW hB)
  rw [show (x.q n fun _ => 0) = x.p n from rfl, show (x.p n).s = x.s from rfl, show (x.p n).n = x.n from rfl] at CI
  obtain ⟨xo, xc, hxv⟩ := own_shape (X4.out.ds x (by simp))
  have HXV := Lib.hid hxv
  rw [hxv] at CI
  clear hxv ht
  have X5 := Lib.hid X4.out.drew
  have R5 := Lib.hid (RowE.mk (w := W4.drew) R4.out.row)
  clear X4 R4
  have hS : W4.drew.cell? ⟨wb, 5, none⟩ = some (.slice (some ⟨sg, 0, none⟩) ll sc) ∧ RowE W4.drew eb M := ⟨X5.out.cells.2.2.2.2.2.1, R5.out⟩
  refine wp_region_held_drew (S := fun wS => wS.cell? ⟨wb, 5, none⟩ = some (.slice (some ⟨sg, 0, none⟩) ll sc) ∧ RowE wS eb M) (by kernel_rfl) hS (fun hHeld => ?_)
  clear hS
  generalize W4.drew = V0 at X5 R5 hHeld ⊢
  refine wpAnyH_take (i := 0) (v := ?va1) rfl (by kernel_rfl) (by kernel_rfl) (by kernel_rfl) (fun _ _ _ h => h) (Or.inl ⟨by rfl, ?ha1⟩) (by assumption) ?ra1
  case ha1 => (intro wS hSw; (try dsimp only at hSw); (try clear hSw); go_simp <;> (with_reducible rfl))
  (try simp only [Act.put, List.setIfInBounds_toArray, List.set_cons_zero, List.set_cons_succ, List.getElem_toArray, List.getElem_cons_zero])
  refine wpAnyH_take (i := 1) (v := ?va2) rfl (by kernel_rfl) (by kernel_rfl) (by kernel_rfl) (fun _ _ _ h => h) (Or.inl ⟨by rfl, ?ha2⟩) (by assumption) ?ra2
  case ha2 => (intro wS hSw; (try dsimp only at hSw); (try clear hSw); go_simp <;> (with_reducible rfl))
  (try simp only [Act.put, List.setIfInBounds_toArray, List.set_cons_zero, List.set_cons_succ, List.getElem_toArray, List.getElem_cons_zero, List.getElem_cons_succ])
  refine wpAnyH_take (i := 2) (v := ?va3) rfl (by kernel_rfl) (by kernel_rfl) (by kernel_rfl) (fun _ _ _ h => h) (Or.inl ⟨by rfl, ?ha3⟩) (by assumption) ?ra3
  case ha3 => (intro wS hSw; (try dsimp only at hSw); (try clear hSw); go_simp <;> (with_reducible rfl))
  (try simp only [Act.put, List.setIfInBounds_toArray, List.set_cons_zero, List.set_cons_succ, List.getElem_toArray, List.getElem_cons_zero, List.getElem_cons_succ])
  refine wpAnyH_take (i := 3) (v := ?va4) rfl (by kernel_rfl) (by kernel_rfl) (by kernel_rfl) (fun _ _ _ h => h) (Or.inl ⟨by rfl, ?ha4⟩) (by assumption) ?ra4
  case ha4 => (intro wS hSw; (try dsimp only at hSw); obtain ⟨hS1, hS2⟩ := hSw; obtain ⟨r0, r1, r2, r3, r4, r5, r6, r7, r8, r9, r10⟩ := hS2.cells; (try clear hSw); go_simp <;> (with_reducible rfl))
  (try simp only [Act.put, List.setIfInBounds_toArray, List.set_cons_zero, List.set_cons_succ, List.getElem_toArray, List.getElem_cons_zero, List.getElem_cons_succ])
  refine wpAnyH_take (i := 4) (v := ?va5) rfl (by kernel_rfl) (by kernel_rfl) (by kernel_rfl) (fun _ _ _ h => h) (Or.inl ⟨by rfl, ?ha5⟩) (by assumption) ?ra5
  case ha5 => (intro wS hSw; (try dsimp only at hSw); (try clear hSw); go_simp <;> (with_reducible rfl))
  (try simp only [Act.put, List.setIfInBounds_toArray, List.set_cons_zero, List.set_cons_succ, List.getElem_toArray, List.getElem_cons_zero, List.getElem_cons_succ])
  refine wpAnyH_take (i := 5) (v := ?va6) rfl (by kernel_rfl) (by kernel_rfl) (by kernel_rfl) (fun _ _ _ h => h) (Or.inl ⟨by rfl, ?ha6⟩) (by assumption) ?ra6
  case ha6 => (intro wS hSw; (try dsimp only at hSw); (try clear hSw); go_simp <;> (with_reducible rfl))
  (try simp only [Act.put, List.setIfInBounds_toArray, List.set_cons_zero, List.set_cons_succ, List.getElem_toArray, List.getElem_cons_zero, List.getElem_cons_succ])
  refine wpAnyH_take (i := 6) (v := ?va7) rfl (by kernel_rfl) (by kernel_rfl) (by kernel_rfl) (fun _ _ _ h => h) (Or.inl ⟨by rfl, ?ha7⟩) (by assumption) ?ra7
  case ha7 => (intro wS hSw; (try dsimp only at hSw); (try clear hSw); go_simp <;> (with_reducible rfl))
  (try simp only [Act.put, List.setIfInBounds_toArray, List.set_cons_zero, List.set_cons_succ, List.getElem_toArray, List.getElem_cons_zero, List.getElem_cons_succ])
  refine wpAnyH_take (i := 7) (v := ?va8) rfl (by kernel_rfl) (by kernel_rfl) (by kernel_rfl) (fun _ _ _ h => h) (Or.inl ⟨by rfl, ?ha8⟩) (by assumption) ?ra8
  case ha8 => (intro wS hSw; (try dsimp only at hSw); (try clear hSw); go_simp <;> (with_reducible rfl))
  (try simp only [Act.put, List.setIfInBounds_toArray, List.set_cons_zero, List.set_cons_succ, List.getElem_toArray, List.getElem_cons_zero, List.getElem_cons_succ])
  refine wpAnyH_take (i := 8) (v := ?va9) rfl (by kernel_rfl) (by kernel_rfl) (by kernel_rfl) (fun _ _ _ h => h) (Or.inl ⟨by rfl, ?ha9⟩) (by assumption) ?ra9
  case ha9 => (intro wS hSw; (try dsimp only at hSw); obtain ⟨hS1, hS2⟩ := hSw; obtain ⟨r0, r1, r2, r3, r4, r5, r6, r7, r8, r9, r10⟩ := hS2.cells; (try clear hSw); go_simp <;> (with_reducible rfl))
  (try simp only [Act.put, List.setIfInBounds_toArray, List.set_cons_zero, List.set_cons_succ, List.getElem_toArray, List.getElem_cons_zero, List.getElem_cons_succ])
  refine wpAnyH_take (i := 9) (v := ?va10) rfl (by kernel_rfl) (by kernel_rfl) (by kernel_rfl) (fun _ _ _ h => h) (Or.inl ⟨by rfl, ?ha10⟩) (by assumption) ?ra10
  case ha10 => (intro wS hSw; (try dsimp only at hSw); (try clear hSw); go_simp <;> (with_reducible rfl))
  (try simp only [Act.put, List.setIfInBounds_toArray, List.set_cons_zero, List.set_cons_succ, List.getElem_toArray, List.getElem_cons_zero, List.getElem_cons_succ])
  refine wpAnyH_take (i := 10) (v := ?va11) rfl (by kernel_rfl) (by kernel_rfl) (by kernel_rfl) (fun _ _ _ h => h) (Or.inl ⟨by rfl, ?ha11⟩) (by assumption) ?ra11
  case ha11 => (intro wS hSw; (try dsimp only at hSw); (try clear hSw); go_simp <;> (with_reducible rfl))
  (try simp only [Act.put, List.setIfInBounds_toArray, List.set_cons_zero, List.set_cons_succ, List.getElem_toArray, List.getElem_cons_zero, List.getElem_cons_succ])
  refine wpAnyH_take (i := 11) (v := ?va12) rfl (by kernel_rfl) (by kernel_rfl) (by kernel_rfl) (fun _ _ _ h => h) (Or.inl ⟨by rfl, ?ha12⟩) (by assumption) ?ra12
  case ha12 => (intro wS hSw; (try dsimp only at hSw); (try clear hSw); go_simp <;> (with_reducible rfl))
  (try simp only [Act.put, List.setIfInBounds_toArray, List.set_cons_zero, List.set_cons_succ, List.getElem_toArray, List.getElem_cons_zero, List.getElem_cons_succ])
  refine wpAnyH_take (i := 13) (v := ?va13) rfl (by kernel_rfl) (by kernel_rfl) (by kernel_rfl) (fun _ _ _ h => h) (Or.inl ⟨by rfl, ?ha13⟩) (by assumption) ?ra13
  case ha13 => (intro wS hSw; (try dsimp only at hSw); obtain ⟨hS1, hS2⟩ := hSw; obtain ⟨r0, r1, r2, r3, r4, r5, r6, r7, r8, r9, r10⟩ := hS2.cells; (try clear hSw); go_simp <;> (with_reducible rfl))
  (try simp only [Act.put, List.setIfInBounds_toArray, List.set_cons_zero, List.set_cons_succ, List.getElem_toArray, List.getElem_cons_zero, List.getElem_cons_succ])
  refine wpAnyH_ready (rs := [12]) (by kernel_rfl) (by simp) ?_
  refine AllReadyH.cons rfl (fun K hK => ?_) AllReadyH.nil
  obtain ⟨p0, s0, s1, s2, s3, s4, fl, fs⟩ := X5.out.rowc hAB.out ho
  rw [HXV.out] at s2
  go_simp
  refine hK.out _ _ ⟨X5.out.cells.2.2.2.2.2.1, R5.out⟩ (fun hHeld => ?_)
  (try clear hK K)
  (try simp only [Act.put, List.setIfInBounds_toArray, List.set_cons_zero, List.set_cons_succ, List.getElem_toArray, List.getElem_cons_zero, List.getElem_cons_succ])
  refine wpAnyH_ready (rs := [14]) (by kernel_rfl) (by simp) ?_
  refine AllReadyH.cons rfl (fun K hK => ?_) AllReadyH.nil
  go_simp
  refine (CI.out _ (by rw [← HXV.out]; exact X5.out.ds x (by simp)) X5.out.bel.size).mono ?_; rintro r V2 ⟨v6, rfl, ws6, hb2⟩
  obtain ⟨vo6, vc6, rfl⟩ := own_shape ws6
  have WS6 := Lib.hid (ws_base ws6 X5.out.bel.size)
  have X6 := Lib.hid (X5.out.low hb2)
  have R6 := Lib.hid (R5.out.below hb2 R5.out.lt)
  clear hb2 ws6
  refine hK.out _ _ ⟨X6.out.cells.2.2.2.2.2.1, R6.out⟩ (fun hHeld => ?_)
  (try clear hK K)
  (try simp only [Act.put, List.setIfInBounds_toArray, List.set_cons_zero, List.set_cons_succ, List.getElem_toArray, List.getElem_cons_zero, List.getElem_cons_succ])
  refine wpAnyH_take (i := 15) (v := ?va14) rfl (by kernel_rfl) (by kernel_rfl) (by kernel_rfl) (fun _ _ _ h => h) (Or.inl ⟨by rfl, ?ha14⟩) (by assumption) ?ra14
  case ha14 => (intro wS hSw; (try dsimp only at hSw); (try clear hSw); go_simp <;> (with_reducible rfl))
  (try simp only [Act.put, List.setIfInBounds_toArray, List.set_cons_zero, List.set_cons_succ, List.getElem_toArray, List.getElem_cons_zero, List.getElem_cons_succ])
  refine wpAnyH_take (i := 16) (v := ?va15) rfl (by kernel_rfl) (by kernel_rfl) (by kernel_rfl) (fun _ _ _ h => h) (Or.inl ⟨by rfl, ?ha15⟩) (by assumption) ?ra15
  case ha15 => (intro wS hSw; (try dsimp only at hSw); (try clear hSw); go_simp <;> (with_reducible rfl))
  (try simp only [Act.put, List.setIfInBounds_toArray, List.set_cons_zero, List.set_cons_succ, List.getElem_toArray, List.getElem_cons_zero, List.getElem_cons_succ])
  refine wpAnyH_ready (rs := [17]) (by kernel_rfl) (by simp) ?_
  refine AllReadyH.cons rfl (fun K hK => ?_) AllReadyH.nil
  obtain ⟨p0, s0, s1, s2, s3, s4, fl, fs⟩ := X6.out.rowc hAB.out ho
  go_simp
  have X7 := Lib.hid (X6.out.fill3 hAB.out ho HLL.out (y := { x with T := insT (x.p n) x.T M, v := .slice vo6 (insW (x.p n) x.l M).length vc6, l := insW (x.p n) x.l M }) rfl rfl rfl rfl rfl WS6.out)
  have R7 := Lib.hid (RowE.other R6.out (other_three (o := o) X6.out (x0 := .int .i64 x.s) (x1 := .int .i64 (x.n : Int)) (x2 := .slice vo6 (insW (x.p n) x.l M).length vc6)) (by decide))
  refine hK.out _ _ ⟨X7.out.cells.2.2.2.2.2.1, R7.out⟩ (fun hHeld => ?_)
  (try clear hK K)
  (try simp only [Act.put, List.setIfInBounds_toArray, List.set_cons_zero, List.set_cons_succ, List.getElem_toArray, List.getElem_cons_zero, List.getElem_cons_succ])
  refine wpAnyH_done (by kernel_rfl) ?_ _
  clear hHeld X6 R6 p0 s0 s1 s2 s3 s4 fl fs
  generalize World.setCell (World.setCell (World.setCell V2 _ _) _ _) _ _ = W7 at *
  have X8 := Lib.hid X7.out.drew
  have R8 := Lib.hid (RowE.mk (w := W7.drew) R7.out.row)
  have hS : W7.drew.cell? ⟨wb, 2, none⟩ = some (.slice (some ⟨lg, 0, none⟩) ll lc) ∧ W7.drew.cell? ⟨lg, k, none⟩ = some (.pointer (some ⟨x.st, 0, none⟩)) ∧ RowE W7.drew eb M := ⟨X8.out.cells.2.2.1, X8.out.ptrc hAB.out, R8.out⟩
  have he0 : errP (x.q n g) M = 0 := by unfold errP; rw [if_pos (show mayT (x.q n g) M = true from hmay.out)]
  have CI2 := Lib.hid (insert_any M uM _ (X8.out.pa.tsb hf.le hxi (X8.out.rows x (by simp)) (hf.at (by simp))))
  rw [he0] at CI2
  clear he0 X7 R7
  go_upto_region 17 with fail
  refine wp_region_held_drew (S := fun wS => wS.cell? ⟨wb, 2, none⟩ = some (.slice (some ⟨lg, 0, none⟩) ll lc) ∧ wS.cell? ⟨lg, k, none⟩ = some (.pointer (some ⟨x.st, 0, none⟩)) ∧ RowE wS eb M) (by kernel_rfl) hS (fun hHeld => ?_)
  clear hS
  generalize W7.drew = V8 at X8 R8 CI2 hHeld ⊢
  refine wpAnyH_take (i := 0) (v := ?vu1) rfl (by kernel_rfl) (by kernel_rfl) (by kernel_rfl) (fun _ _ _ h => h) (Or.inl ⟨by rfl, ?hu1⟩) (by assumption) ?ru1
  case hu1 => (intro wS hSw; (try dsimp only at hSw); (try clear hSw); go_simp <;> (with_reducible rfl))
  (try simp only [Act.put, List.setIfInBounds_toArray, List.set_cons_zero, List.set_cons_succ, List.getElem_toArray, List.getElem_cons_zero])
  refine wpAnyH_take (i := 1) (v := ?vu2) rfl (by kernel_rfl) (by kernel_rfl) (by kernel_rfl) (fun _ _ _ h => h) (Or.inl ⟨by rfl, ?hu2⟩) (by assumption) ?ru2
  case hu2 => (intro wS hSw; (try dsimp only at hSw); (try clear hSw); go_simp <;> (with_reducible rfl))
  (try simp only [Act.put, List.setIfInBounds_toArray, List.set_cons_zero, List.set_cons_succ, List.getElem_toArray, List.getElem_cons_zero, List.getElem_cons_succ])
  refine wpAnyH_take (i := 2) (v := ?vu3) rfl (by kernel_rfl) (by kernel_rfl) (by kernel_rfl) (fun _ _ _ h => h) (Or.inl ⟨by rfl, ?hu3⟩) (by assumption) ?ru3
  case hu3 => (intro wS hSw; (try dsimp only at hSw); (try clear hSw); go_simp <;> (with_reducible rfl))
  (try simp only [Act.put, List.setIfInBounds_toArray, List.set_cons_zero, List.set_cons_succ, List.getElem_toArray, List.getElem_cons_zero, List.getElem_cons_succ])
  refine wpAnyH_take (i := 3) (v := ?vu4) rfl (by kernel_rfl) (by kernel_rfl) (by kernel_rfl) (fun _ _ _ h => h) (Or.inl ⟨by rfl, ?hu4⟩) (by assumption) ?ru4
  case hu4 => (intro wS hSw; (try dsimp only at hSw); obtain ⟨hS1, hS3, hS2⟩ := hSw; obtain ⟨r0, r1, r2, r3, r4, r5, r6, r7, r8, r9, r10⟩ := hS2.cells; (try clear hSw); go_simp <;> (with_reducible rfl))
  (try simp only [Act.put, List.setIfInBounds_toArray, List.set_cons_zero, List.set_cons_succ, List.getElem_toArray, List.getElem_cons_zero, List.getElem_cons_succ])
  refine wpAnyH_take (i := 4) (v := ?vu5) rfl (by kernel_rfl) (by kernel_rfl) (by kernel_rfl) (fun _ _ _ h => h) (Or.inl ⟨by rfl, ?hu5⟩) (by assumption) ?ru5
  case hu5 => (intro wS hSw; (try dsimp only at hSw); (try clear hSw); go_simp <;> (with_reducible rfl))
  (try simp only [Act.put, List.setIfInBounds_toArray, List.set_cons_zero, List.set_cons_succ, List.getElem_toArray, List.getElem_cons_zero, List.getElem_cons_succ])
  refine wpAnyH_take (i := 5) (v := ?vu6) rfl (by kernel_rfl) (by kernel_rfl) (by kernel_rfl) (fun _ _ _ h => h) (Or.inl ⟨by rfl, ?hu6⟩) (by assumption) ?ru6
  case hu6 => (intro wS hSw; (try dsimp only at hSw); (try clear hSw); go_simp <;> (with_reducible rfl))
  (try simp only [Act.put, List.setIfInBounds_toArray, List.set_cons_zero, List.set_cons_succ, List.getElem_toArray, List.getElem_cons_zero, List.getElem_cons_succ])
  refine wpAnyH_take (i := 6) (v := ?vu7) rfl (by kernel_rfl) (by kernel_rfl) (by kernel_rfl) (fun _ _ _ h => h) (Or.inl ⟨by rfl, ?hu7⟩) (by assumption) ?ru7
  case hu7 => (intro wS hSw; (try dsimp only at hSw); obtain ⟨hS1, hS3, hS2⟩ := hSw; obtain ⟨r0, r1, r2, r3, r4, r5, r6, r7, r8, r9, r10⟩ := hS2.cells; (try clear hSw); go_simp <;> (with_reducible rfl))
  (try simp only [Act.put, List.setIfInBounds_toArray, List.set_cons_zero, List.set_cons_succ, List.getElem_toArray, List.getElem_cons_zero, List.getElem_cons_succ])
  refine wpAnyH_take (i := 7) (v := ?vu8) rfl (by kernel_rfl) (by kernel_rfl) (by kernel_rfl) (fun _ _ _ h => h) (Or.inl ⟨by rfl, ?hu8⟩) (by assumption) ?ru8
  case hu8 => (intro wS hSw; (try dsimp only at hSw); obtain ⟨hS1, hS3, hS2⟩ := hSw; obtain ⟨r0, r1, r2, r3, r4, r5, r6, r7, r8, r9, r10⟩ := hS2.cells; (try clear hSw); go_simp <;> (with_reducible rfl))
  (try simp only [Act.put, List.setIfInBounds_toArray, List.set_cons_zero, List.set_cons_succ, List.getElem_toArray, List.getElem_cons_zero, List.getElem_cons_succ])
  refine wpAnyH_ready (rs := [8]) (by kernel_rfl) (by simp) ?_
  refine AllReadyH.cons rfl (fun K hK => ?_) AllReadyH.nil
  go_simp
  refine CI2.out.mono ?_; rintro r w9 ⟨rfl, k9⟩
  obtain ⟨g9, ⟨bm9, P9, m9, t9⟩, p9, _⟩ := X8.out.pa.tsb_to rfl k9
  have X9 := Lib.hid (X8.out.prog P9 m9 t9)
  have R9 := Lib.hid (RowE.mk (w := w9) ((t9.cells X8.out.pa R8.out.row okE.1).trans R8.out.row))
  clear P9 m9 t9 k9
  refine hK.out _ _ ⟨X9.out.cells.2.2.1, X9.out.ptrc hAB.out, R9.out⟩ (fun hHeld => ?_)
  (try clear hK K)
  (try simp only [Act.put, List.setIfInBounds_toArray, List.set_cons_zero, List.set_cons_succ, List.getElem_toArray, List.getElem_cons_zero, List.getElem_cons_succ])
  refine wpAnyH_take (i := 9) (v := ?vu9) rfl (by kernel_rfl) (by kernel_rfl) (by kernel_rfl) (fun _ _ _ h => h) (Or.inl ⟨by rfl, ?hu9⟩) (by assumption) ?ru9
  case hu9 => (intro wS hSw; (try dsimp only at hSw); (try clear hSw); go_simp <;> (with_reducible rfl))
  (try simp only [Act.put, List.setIfInBounds_toArray, List.set_cons_zero, List.set_cons_succ, List.getElem_toArray, List.getElem_cons_zero, List.getElem_cons_succ])
  refine wpAnyH_take (i := 10) (v := ?vu10) rfl (by kernel_rfl) (by kernel_rfl) (by kernel_rfl) (fun _ _ _ h => h) (Or.inl ⟨by rfl, ?hu10⟩) (by assumption) ?ru10
  case hu10 => (intro wS hSw; (try dsimp only at hSw); (try clear hSw); go_simp <;> (with_reducible rfl))
  (try simp only [Act.put, List.setIfInBounds_toArray, List.set_cons_zero, List.set_cons_succ, List.getElem_toArray, List.getElem_cons_zero, List.getElem_cons_succ])
  refine wpAnyH_done (by kernel_rfl) ?_ _
  clear hHeld
  go_wp2_with fail
  go_ret
  have XZ := WX.reL (Lp' := A ++ { x with T := insT (x.p n) x.T M, v := .slice vo6 (insW (x.p n) x.l M).length vc6, l := insW (x.p n) x.l M } :: B) X9.out (by simp [ptrV]) (fun z hz => (mem_mid hz).elim (fun e => by subst e; exact X9.out.rows x (by simp)) (fun e => X9.out.rows z (mid_mem (.inr e))))
  refine ⟨rfl, ?_⟩
  rw [HLL.out]
  exact ⟨bm9, g9, A ++ { x with T := insT (x.p n) x.T M, v := .slice vo6 (insW (x.p n) x.l M).length vc6, l := insW (x.p n) x.l M } :: B, _, XZ, hf.put rfl rfl rfl p9 (gd_ins hgd mo ms.out) ti, by simp [Tb.id]⟩
end
end Go.Proofs.YtnbdoemnepfhdaaGreat.Sw

namespace Go.Proofs.YtnbdoemnepfhdaaGreat.Sw
open Fld Ts
open Frm (OwnI IsD setT manyE manyI manyT lst cnt allB_mem)
open Pt (arI)
open Go.ChangeShapes Go.WideShapes Go.ChangeAt Go.RowKit Go.Shelf Go.Deep
set_option maxHeartbeats 4000000
set_option maxRecDepth 100000
section
variable {W w : World} {wb sb bm fb bb n c : Nat} {g : Nat → Nat} {F : Nat → Bool} {L : List Tb} {Q : List Int} {gv lv sv : Value}
/-- Both worlds have the same, and so many TSBs at most. -/
def St (W w : World) (wb sb fb bb n c : Nat) : Prop := ∃ (L : List Tb) (bm : Nat) (g : Nat → Nat) (F : Nat → Bool) (lv gv sv : Value), WX W w wb sb bm fb bb n g F L (lst F n) L lv gv sv lv gv sv ∧ Fit n g F L ∧ L.length ≤ c
theorem St.low {w' : World} (h : St W w wb sb fb bb n c) (hb : Below w.heap.size w w') : St W w' wb sb fb bb n c := by
  obtain ⟨L, bm, g, F, lv, gv, sv, h1, h2, h3⟩ := h
  exact ⟨L, bm, g, F, lv, gv, sv, h1.low hb, h2, h3⟩
theorem St.up {d : Nat} (h : St W w wb sb fb bb n c) (hd : c ≤ d) : St W w wb sb fb bb n d := by
  obtain ⟨L, bm, g, F, lv, gv, sv, h1, h2, h3⟩ := h
  exact ⟨L, bm, g, F, lv, gv, sv, h1, h2, Nat.le_trans h3 hd⟩
theorem St.bel (h : St W w wb sb fb bb n c) : Below W.heap.size W w := by
  obtain ⟨L, bm, g, F, lv, gv, sv, h1, h2, h3⟩ := h
  exact h1.bel
theorem Fit.many (hf : Fit n g F L) (k : Int) : Fit n g (manyT F n k) L := by
  by_cases h : manyE F n k = 0
  · obtain ⟨i, _, _, e, _⟩ := many_yes h
    rw [e]; exact hf.more i _
  · rw [many_no h]; exact hf
theorem lmake_any (s g2 : Int) (hc : c ≤ 1000) (h : St W w wb sb fb bb n c) :
    Calls Tryz.prog 12 #[.pointer (some ⟨wb, 0, none⟩), .int .i64 s, .int .i64 g2] w fun e w' => e = .returned (.bool true) ∧ St W w' wb sb fb bb n (c + 1) := by
  obtain ⟨L, bm, g, F, lv, gv, sv, h1, h2, h3⟩ := h
  by_cases he : manyE F n (frI s g2) = 0
  · obtain ⟨i, m1, m2, m3, m4, m5, _⟩ := many_yes he
    have hfr := fr_bd s g2
    rcases places_or s g2 with hp | ⟨p1, p2, p3, p4, p5⟩
    · exact absurd (hfr.2.2.2.2.2 hp) (by omega)
    have hx : Tb.In ⟨0, i, s, g2, fun _ => Pl.none, .slice none 0 0, []⟩ n := ⟨p1, p2, p3, m4⟩
    refine (lmake_yes ⟨0, i, s, g2, fun _ => Pl.none, .slice none 0 0, []⟩ h2.le hx (by omega) he m2 m3 rfl rfl h1).mono ?_
    rintro e w' ⟨rfl, st, bm', g', lv', gv', sv', X, hp⟩
    refine ⟨rfl, L ++ [⟨st, i, s, g2, fun _ => Pl.none, .slice none 0 0, []⟩], bm', g', _, lv', gv', sv', X, ?_, by simp; omega⟩
    exact Fit.add (x := ⟨st, i, s, g2, fun _ => Pl.none, .slice none 0 0, []⟩) h2 ⟨hx.hs, hx.g0, hx.g1, hx.is⟩ (fun j a b => allB_mem.1 m5 j a b) hp (gd_none _) (tie_nil _)
  · refine (lmake_no s g2 h2.le he h1).mono ?_
    rintro e w' ⟨rfl, bm', X⟩
    exact ⟨rfl, L, bm', g, F, lv, gv, sv, X, h2, by omega⟩
theorem does_make (nn ss gg : Int) (E : Ent) (hc : c ≤ 1000) (h : St W w wb sb fb bb n c) :
    Calls Tryz.prog 7 #[.pointer (some ⟨wb, 0, none⟩), .agg #[.int .i64 0, .int .i64 nn, .int .i64 ss, .int .i64 gg, .int .i64 E.size, .int .i64 E.ctx, .int .u64 E.va, .int .u64 E.pa, .bool E.att.write, .bool E.att.priv, .bool E.att.exec, .bool E.att.lock, .bool E.att.global, .bool E.att.quiet, .bool E.valid]] w fun e w' => e = .returned (.bool true) ∧ St W w' wb sb fb bb n (c + 1) := by
  have CM := Lib.hid (fun (Wz : World) (hz : St W Wz wb sb fb bb n c) => lmake_any ss gg hc hz)
  have HX := Lib.hid h
  clear h hc
  go_enter Tryz.func7, Tryz.ntmps7
  go_upto_region 1 with fail
  have X1 := Lib.hid (HX.out.low ((Below.refl w.heap.size w).alloc (Nat.le_refl _) (.cells #[.int .i64 0, .int .i64 nn, .int .i64 ss, .int .i64 gg, .int .i64 E.size, .int .i64 E.ctx, .int .u64 E.va, .int .u64 E.pa, .bool E.att.write, .bool E.att.priv, .bool E.att.exec, .bool E.att.lock, .bool E.att.global, .bool E.att.quiet, .bool E.valid] 32)))
  have D1 := Lib.hid (DB13.mk (k := 0) (n := nn) (s := ss) (g := gg) (e := E) (World.alloc_heap_new w (.cells #[.int .i64 0, .int .i64 nn, .int .i64 ss, .int .i64 gg, .int .i64 E.size, .int .i64 E.ctx, .int .u64 E.va, .int .u64 E.pa, .bool E.att.write, .bool E.att.priv, .bool E.att.exec, .bool E.att.lock, .bool E.att.global, .bool E.att.quiet, .bool E.valid] 32)))
  clear HX
  obtain ⟨b, hb⟩ : ∃ b, w.heap.size = b := ⟨_, rfl⟩
  rw [hb] at D1 ⊢
  clear hb
  generalize w.alloc _ = W1 at *
  obtain ⟨d0, d1, d2, d3, _, _, _, _, _, _, _, _, _, _, _⟩ := D1.out.cells
  go_wp2_with fail
  refine (CM.out _ X1.out).mono ?_; rintro e w2 ⟨rfl, X2⟩
  go_wp2_with fail
  go_ret
  exact ⟨rfl, X2⟩
theorem does_nil (kd nn ss gg : Int) (hk : kd = 1 ∨ kd = 2 ∨ kd = 3) (E : Ent) (h : WX W w wb sb bm fb bb n g F [] Q [] lv gv sv lv gv sv) :
    Calls Tryz.prog 7 #[.pointer (some ⟨wb, 0, none⟩), .agg #[.int .i64 kd, .int .i64 nn, .int .i64 ss, .int .i64 gg, .int .i64 E.size, .int .i64 E.ctx, .int .u64 E.va, .int .u64 E.pa, .bool E.att.write, .bool E.att.priv, .bool E.att.exec, .bool E.att.lock, .bool E.att.global, .bool E.att.quiet, .bool E.valid]] w fun e w' => e = .returned (.bool true) ∧ WX W w' wb sb bm fb bb n g F [] Q [] lv gv sv lv gv sv := by
  obtain ⟨lo, lc, hlv⟩ := own_shape h.ll
  rw [List.length_nil] at hlv
  subst hlv
  have HX := Lib.hid h
  clear h
  have hz : (kd == 0) = false := by simp; omega
  have h3 : ¬ (3 : Int) < kd := by omega
  have h4 : ¬ kd < 0 := by omega
  clear hk
  go_enter Tryz.func7, Tryz.ntmps7
  go_upto_region 1 with fail
  have X1 := Lib.hid (HX.out.alloc (.cells #[.int .i64 kd, .int .i64 nn, .int .i64 ss, .int .i64 gg, .int .i64 E.size, .int .i64 E.ctx, .int .u64 E.va, .int .u64 E.pa, .bool E.att.write, .bool E.att.priv, .bool E.att.exec, .bool E.att.lock, .bool E.att.global, .bool E.att.quiet, .bool E.valid] 32))
  have D1 := Lib.hid (DB13.mk (k := kd) (n := nn) (s := ss) (g := gg) (e := E) (World.alloc_heap_new w (.cells #[.int .i64 kd, .int .i64 nn, .int .i64 ss, .int .i64 gg, .int .i64 E.size, .int .i64 E.ctx, .int .u64 E.va, .int .u64 E.pa, .bool E.att.write, .bool E.att.priv, .bool E.att.exec, .bool E.att.lock, .bool E.att.global, .bool E.att.quiet, .bool E.valid] 32)))
  clear HX
  obtain ⟨b, hb⟩ : ∃ b, w.heap.size = b := ⟨_, rfl⟩
  rw [hb] at D1 ⊢
  clear hb
  generalize w.alloc _ = W1 at *
  obtain ⟨c0, c1, c2, c3, c4, c5, cf⟩ := X1.out.cells
  obtain ⟨d0, d1, d2, d3, _, _, _, _, _, _, _, _, _, _, _⟩ := D1.out.cells
  go_wp2_with fail
  go_ret
  exact ⟨rfl, X1.out⟩
theorem okI : okP 3 := ⟨by decide, by decide, by decide⟩
theorem does_frame (kd nn ss gg : Int) (hk : 3 < kd ∨ kd < 0) (E : Ent) (hf : Fit n g F L) (h : WX W w wb sb bm fb bb n g F L (lst F n) L lv gv sv lv gv sv) :
    Calls Tryz.prog 7 #[.pointer (some ⟨wb, 0, none⟩), .agg #[.int .i64 kd, .int .i64 nn, .int .i64 ss, .int .i64 gg, .int .i64 E.size, .int .i64 E.ctx, .int .u64 E.va, .int .u64 E.pa, .bool E.att.write, .bool E.att.priv, .bool E.att.exec, .bool E.att.lock, .bool E.att.global, .bool E.att.quiet, .bool E.valid]] w fun e w' => e = .returned (.bool true) ∧ ∃ F' gv', WX W w' wb sb bm fb bb n g F' L (lst F' n) L lv gv' sv lv gv' sv ∧ Fit n g F' L := by
  obtain ⟨ao, cap, hgv⟩ := own_shape h.gl
  subst hgv
  have hn := hf.le
  have CT := Lib.hid (fun (Wz : World) (hW : OwnI Wz W.heap.size ao cap (lst F n)) (hB : W.heap.size ≤ Wz.heap.size) => Frm.rmany_any n W.heap.size cap ao F 1 (by decide) Wz hW hB (by omega))
  have CP := Lib.hid (fun (Wz : World) (hW : PAt Wz sb bm fb bb n g F) => Frm.fmany_any 1 Wz hW.fr)
  have hfm := hf.many 1
  obtain ⟨F2, hF2⟩ : ∃ F2, manyT F n 1 = F2 := ⟨_, rfl⟩
  rw [hF2] at CT CP hfm
  obtain ⟨R, hR⟩ : ∃ R, lst F2 n = R := ⟨_, rfl⟩
  rw [hR] at CT
  have HR := Lib.hid hR
  have HFm := Lib.hid hfm
  clear hF2 hR hfm hf hn
  generalize lst F n = Q at *
  generalize manyI F n 1 = I at *
  generalize manyE F n 1 = Er at *
  have HX := Lib.hid h
  clear h
  have hz : (kd == 0) = false := by simp; omega
  go_enter Tryz.func7, Tryz.ntmps7
  go_upto_region 1 with fail
  have X1 := Lib.hid (HX.out.alloc (.cells #[.int .i64 kd, .int .i64 nn, .int .i64 ss, .int .i64 gg, .int .i64 E.size, .int .i64 E.ctx, .int .u64 E.va, .int .u64 E.pa, .bool E.att.write, .bool E.att.priv, .bool E.att.exec, .bool E.att.lock, .bool E.att.global, .bool E.att.quiet, .bool E.valid] 32))
  have D1 := Lib.hid (DB13.mk (k := kd) (n := nn) (s := ss) (g := gg) (e := E) (World.alloc_heap_new w (.cells #[.int .i64 kd, .int .i64 nn, .int .i64 ss, .int .i64 gg, .int .i64 E.size, .int .i64 E.ctx, .int .u64 E.va, .int .u64 E.pa, .bool E.att.write, .bool E.att.priv, .bool E.att.exec, .bool E.att.lock, .bool E.att.global, .bool E.att.quiet, .bool E.valid] 32)))
  clear HX
  obtain ⟨b, hb⟩ : ∃ b, w.heap.size = b := ⟨_, rfl⟩
  rw [hb] at D1 ⊢
  clear hb
  generalize w.alloc _ = W1 at *
  obtain ⟨c0, c1, c2, c3, c4, c5, cf⟩ := X1.out.cells
  obtain ⟨d0, d1, d2, d3, _, _, _, _, _, _, _, _, _, _, _⟩ := D1.out.cells
  rcases hk with h3 | h4
  all_goals
    (try have h3 : ¬ (3 : Int) < kd := by omega)
    go_wp2_with fail
    refine (CT.out _ X1.out.gl X1.out.bel.size).mono ?_; rintro e w2 ⟨x, rfl, ⟨ao2, cap2, rfl, O2⟩, b2⟩
    have B0 := (BXs.start w2).push #[.int .i64 (n : Int), .slice ao2 R.length cap2] 43
    have X2 := Lib.hid ((X1.out.low b2).alloc (.cells #[.int .i64 (n : Int), .slice ao2 R.length cap2] 43))
    have O3 := Lib.hid (own_below O2 ((Below.refl w2.heap.size w2).alloc (Nat.le_refl _) (.cells #[.int .i64 (n : Int), .slice ao2 R.length cap2] 43)))
    have R2 := Lib.hid B0.h0
    clear B0 O2 b2 X1 D1 CT c0 c1 c2 c3 c4 c5 cf d0 d1 d2 d3
    go_upto_region 5 with fail
    generalize w2.alloc _ = W3 at *
    obtain ⟨gb, hgb⟩ : ∃ gb, w2.heap.size = gb := ⟨_, rfl⟩
    rw [hgb] at R2 ⊢
    clear hgb
    obtain ⟨c0, c1, c2, c3, c4, c5, cf⟩ := X2.out.cells
    go_wp2_with fail
    refine (CP.out _ X2.out.pa).mono ?_; rintro e w4 ⟨rfl, k1, k2⟩
    obtain ⟨a1, a2⟩ := X2.out.pa.fr_to k1 k2
    have X4 := Lib.hid (X2.out.prog a1 (.inl rfl) a2)
    have R4 := Lib.hid ((a2.cells X2.out.pa R2.out okF).trans R2.out)
    have O4 := Lib.hid (own_keepT O3.out fun _ cur _ hc => a2.cells X2.out.pa hc okI)
    clear CP X2 R2 O3 k1 k2 a1 a2 c0 c1 c2 c3 c4 c5 cf
    obtain ⟨c0, c1, c2, c3, c4, c5, cf⟩ := X4.out.cells
    obtain ⟨d1, d2⟩ := cell2 R4.out
    go_upto_region 7 with fail
    have q0 := X4.out.put 3 (.int .i64 (n : Int)) lv (.slice ao Q.length cap) sv rfl
    have q1 := q0.put 4 (.slice ao2 R.length cap2) lv (.slice ao2 R.length cap2) sv rfl
    have O5 := own_putT (own_putT O4.out X4.out.box (by decide) 3 (.int .i64 (n : Int))) q0.box (by decide) 4 (.slice ao2 R.length cap2)
    have X6 := Lib.hid (q1.newG O5)
    clear q0 q1 O5 O4 X4 R4 c0 c1 c2 c3 c4 c5 cf d1 d2
    generalize World.setCell (World.setCell w4 _ _) _ _ = W6 at *
    go_wp2_with fail
    go_ret
    exact ⟨rfl, F2, _, by rw [HR.out]; exact X6.out, HFm.out⟩
end
end Go.Proofs.YtnbdoemnepfhdaaGreat.Sw

namespace Go.Proofs.YtnbdoemnepfhdaaGreat.Sw
open Fld Ts
open Go.ChangeShapes Go.WideShapes Go.ChangeAt Go.RowKit Go.Shelf
set_option maxHeartbeats 4000000
set_option maxRecDepth 100000
section
variable {W w : World} {wb sb bm fb bb n : Nat} {g : Nat → Nat} {F : Nat → Bool} {Q : List Int} {gv lv sv : Value}
theorem lcut_any {A B A' B' : List Tb} {x x' : Tb} {k m : Nat} (hA : A.length = k) (hA' : A'.length = k) (hB : B.length = m) (hB' : B'.length = m) (hl : k + m ≤ 1000) (h : WX W w wb sb bm fb bb n g F (A ++ x :: B) Q (A' ++ x' :: B') lv gv sv lv gv sv) :
    Calls Tryz.prog 30 #[.pointer (some ⟨wb, 0, none⟩), .int .i64 (k : Int)] w fun e w' => e = .returned (.tuple #[]) ∧ ∃ lv' sv', WX W w' wb sb bm fb bb n g F (A ++ B) Q (A' ++ B') lv' gv sv' lv' gv sv' := by
  obtain ⟨iP, hiP, pz0, pz1, pz2⟩ := info_parts infoP
  obtain ⟨iS, hiS, sz0, sz1, sz2⟩ := info_parts infoS
  have hlen : (A ++ x :: B).length = k + m + 1 := by simp; omega
  have hlen' : (A' ++ x' :: B').length = k + m + 1 := by simp; omega
  obtain ⟨lg, lc, hlv, hl1, hl2, hl3, _, hl4⟩ := own_at h.ll (by omega)
  obtain ⟨sg, sc, hsv, hs1, hs2, hs3, _, hs4⟩ := own_at h.sl (by omega)
  have OA := Lib.hid (ptr_one A)
  have OS := Lib.hid (sRow_one w _ A' (fun y hy => h.ds y (by simp [hy])))
  have OB := Lib.hid (ptr_one B)
  have OT := Lib.hid (sRow_one w _ B' (fun y hy => h.ds y (by simp [hy])))
  rw [hlen] at hlv hl2
  rw [hlen'] at hsv hs2
  subst hlv hsv
  have HX := Lib.hid h
  have NA := Lib.hid (news_of hl4 (P := []) (Y := A.map ptrV) (R := ptrV x :: B.map ptrV) (by simp) (o := 0) rfl)
  have ln1 := Lib.hid (show (A.map ptrV).length = k * 1 by rw [List.length_map, Nat.mul_one]; exact hA)
  have ln2 := Lib.hid (show (sRow A').length = k * 5 by rw [sRow_length, hA'])
  have ln3 := Lib.hid (show (B.map ptrV).length = m * 1 by rw [List.length_map, Nat.mul_one]; exact hB)
  have ln4 := Lib.hid (show (sRow B').length = m * 5 by rw [sRow_length, hB'])
  have HA := Lib.hid hA
  have HA' := Lib.hid hA'
  have HB := Lib.hid hB
  have HB' := Lib.hid hB'
  obtain ⟨c0, c1, c2, c3, c4, c5, cf⟩ := h.cells
  have hkl : ¬ ((lc : Int) < (k : Int)) := by omega
  have hks : ¬ ((sc : Int) < (k : Int)) := by omega
  have hW := h.bel.size
  clear hA hA' hB hB' hlen hlen' hl4 hs4 h
  unfold maxLen at hl3 hs3
  go_enter Tryz.func30, Tryz.ntmps30
  go_upto_region 3 with (at_builtin; refine wpList_append_own _ rfl _ _ 40 rfl W.heap.size 47 iP (.pointer none) 1 8 Tryz.underlying40 hiP pz0 pz1 pz2 rfl (by decide) _ _ _ rfl (World.ownsRow_nil _ _ _ _) ⟨lg, 0, none⟩ k lc (A.map ptrV) rfl (ln1.out) (NA.out) (OA.out) (by unfold maxLen; omega) (by omega) (by omega) ?_; intro v1 w1 ho1 hg1 _)
  have B1 : Below w.heap.size w w1 := ⟨hg1.os, hg1.tape, hg1.output, hg1.size, fun i hi => hg1.block i hi (show some i ≠ none by simp)⟩
  have X1 := Lib.hid (HX.out.low B1)
  simp only [Nat.zero_add, List.nil_append] at ho1
  obtain ⟨vo1, vc1, rfl⟩ := own_shape ho1
  have H1 := Lib.hid ho1
  clear B1 hg1 HX NA c0 c1 c2 c3 c4 c5 cf hW ho1
  obtain ⟨c0, c1, c2, c3, c4, c5, cf⟩ := X1.out.cells
  have hW := X1.out.bel.size
  have NS := Lib.hid (news_row X1.out.sl (by rw [List.length_append, List.length_cons]; omega) (P := []) (Y := sRow A') (R := cS x' ++ sRow B') (by rw [sRow_app, sRow_cons]; rfl) (o := 0) rfl)
  go_upto_region 4 with (at_builtin; refine wpList_append_own _ rfl _ _ 44 rfl W.heap.size 70 iS (.agg #[.int .i64 0, .int .i64 0, .slice none 0 0, .int .i64 0, .int .i64 0]) 5 56 Tryz.underlying44 hiS sz0 sz1 sz2 rfl (by decide) _ _ _ rfl (World.ownsRow_nil _ _ _ _) ⟨sg, 0, none⟩ k sc (sRow A') rfl (ln2.out) (NS.out) (OS.out) (by unfold maxLen; omega) (by omega) (by omega) ?_; intro v2 w2 ho2 hg2 _)
  have B1 : Below w1.heap.size w1 w2 := ⟨hg2.os, hg2.tape, hg2.output, hg2.size, fun i hi => hg2.block i hi (show some i ≠ none by simp)⟩
  have X2 := Lib.hid (X1.out.low B1)
  have H2 := Lib.hid (own_below H1.out B1)
  simp only [Nat.zero_add, List.nil_append] at ho2
  obtain ⟨vo2, vc2, rfl⟩ := own_shape ho2
  have H3 := Lib.hid ho2
  clear B1 hg2 X1 NS c0 c1 c2 c3 c4 c5 cf hW ho2 H1
  obtain ⟨c0, c1, c2, c3, c4, c5, cf⟩ := X2.out.cells
  have hW := X2.out.bel.size
  have NL := Lib.hid (news_row X2.out.ll (by rw [List.length_append, List.length_cons]; omega) (P := A.map ptrV ++ [ptrV x]) (Y := B.map ptrV) (R := []) (by simp) (o := k + 1) (by simp [HA.out]))
  go_upto_region 4 with fail
  go_cut [] (fun w3 => ∃ vo3 vc3, WX W w3 wb sb bm fb bb n g F (A ++ B) Q (A' ++ x' :: B') (.slice vo3 (k + m) vc3) gv (.slice (some ⟨sg, 0, none⟩) (k + m + 1) sc) (.slice vo3 (k + m) vc3) gv (.slice (some ⟨sg, 0, none⟩) (k + m + 1) sc) ∧ w3.ownsRow W.heap.size 70 5 (.slice vo2 k vc2) k (sRow A'))
  case first =>
    by_cases hfull : lc = k + 1
    · obtain rfl : m = 0 := by omega
      obtain rfl : B = [] := List.length_eq_zero_iff.1 HB.out
      have hlt : ¬ (k : Int) + 1 < (lc : Int) := by omega
      have hlt2 : ¬ (lc : Int) < (k : Int) + 1 := by omega
      subst hfull
      go_wp2_with (at_builtin; refine wpList_append_own _ rfl _ _ 40 rfl W.heap.size 47 iP (.pointer none) 1 8 Tryz.underlying40 hiP pz0 pz1 pz2 rfl (by decide) _ _ _ rfl (H2.out) ⟨lg, 0, none⟩ 0 0 ([]) rfl (rfl) (news_nil) (fun u hu => absurd hu (by simp)) (by unfold maxLen; omega) (by omega) (by omega) ?_; intro v3 w3 ho3 hg3 _; obtain ⟨vo3, vc3, rfl⟩ := own_shape ho3; have X3 := Lib.hid (X2.out.growL H2.out (Nat.le_refl _) hg3 (Lp' := A ++ []) (by rw [List.length_append, HA.out, List.map_append]; exact ho3) (fun y hy => X2.out.rows y (mid_mem (.inr (List.mem_append.1 hy))))); have H4 := Lib.hid (own_other H3.out (by decide) (grown_other H2.out hg3)); obtain ⟨c0, c1, c2, c3, c4, c5, cf⟩ := X3.out.cells)
      go_meet
      exact ⟨_, _, X3.out.put 2 _ _ _ _ rfl, own_putT H4.out X3.out.box (by decide) 2 _⟩
    · have hlt : (k : Int) + 1 < (lc : Int) := by omega
      go_wp2_with (at_builtin; refine wpList_append_own _ rfl _ _ 40 rfl W.heap.size 47 iP (.pointer none) 1 8 Tryz.underlying40 hiP pz0 pz1 pz2 rfl (by decide) _ _ _ rfl (H2.out) ⟨lg, k + 1, none⟩ m (lc - (k + 1)) (B.map ptrV) rfl (ln3.out) (NL.out) (OB.out) (by unfold maxLen; omega) (by omega) (by omega) ?_; intro v3 w3 ho3 hg3 _; obtain ⟨vo3, vc3, rfl⟩ := own_shape ho3; have X3 := Lib.hid (X2.out.growL H2.out (Nat.le_refl _) hg3 (Lp' := A ++ B) (by rw [List.length_append, HA.out, HB.out, List.map_append]; exact ho3) (fun y hy => X2.out.rows y (mid_mem (.inr (List.mem_append.1 hy))))); have H4 := Lib.hid (own_other H3.out (by decide) (grown_other H2.out hg3)); obtain ⟨c0, c1, c2, c3, c4, c5, cf⟩ := X3.out.cells)
      go_meet
      exact ⟨_, _, X3.out.put 2 _ _ _ _ rfl, own_putT H4.out X3.out.box (by decide) 2 _⟩
  case rest =>
    obtain ⟨vo3, vc3, X2', H3'⟩ := hcut
    clear X2 H2 H3 NL c0 c1 c2 c3 c4 c5 cf hW
    have X2 := Lib.hid X2'
    have H3 := Lib.hid H3'
    clear X2' H3'
    obtain ⟨c0, c1, c2, c3, c4, c5, cf⟩ := X2.out.cells
    have hW := X2.out.bel.size
    have NL := Lib.hid (news_row X2.out.sl (by rw [List.length_append, List.length_cons]; omega) (P := sRow A' ++ cS x') (Y := sRow B') (R := []) (by rw [sRow_app, sRow_cons]; simp) (o := (k + 1) * 5) (by rw [List.length_append, sRow_length, HA'.out]; show k * 5 + 5 = _; omega))
    by_cases hfull : sc = k + 1
    · obtain rfl : m = 0 := by omega
      obtain rfl : B' = [] := List.length_eq_zero_iff.1 HB'.out
      have hlt : ¬ (k : Int) + 1 < (sc : Int) := by omega
      have hlt2 : ¬ (sc : Int) < (k : Int) + 1 := by omega
      subst hfull
      go_wp2_with (at_builtin; refine wpList_append_own _ rfl _ _ 44 rfl W.heap.size 70 iS (.agg #[.int .i64 0, .int .i64 0, .slice none 0 0, .int .i64 0, .int .i64 0]) 5 56 Tryz.underlying44 hiS sz0 sz1 sz2 rfl (by decide) _ _ _ rfl (H3.out) ⟨sg, 0, none⟩ 0 0 ([]) rfl (rfl) (news_nil) (fun u hu => absurd hu (by simp)) (by unfold maxLen; omega) (by omega) (by omega) ?_; intro v4 w4 ho4 hg4 _; obtain ⟨vo4, vc4, rfl⟩ := own_shape ho4; have X4 := Lib.hid (X2.out.growS H3.out (Nat.le_refl _) hg4 (Ls' := A' ++ []) (by rw [List.length_append, HA'.out, sRow_app]; exact ho4) (fun y hy => X2.out.ds y (mid_mem (.inr (List.mem_append.1 hy))))); obtain ⟨c0, c1, c2, c3, c4, c5, cf⟩ := X4.out.cells)
      go_end0
      have X5 := X4.out.put 5 (.slice vo4 k vc4) (.slice vo3 (k + 0) vc3) gv (.slice vo4 k vc4) rfl
      rw [List.append_nil] at X5
      exact ⟨rfl, _, _, X5⟩
    · have hlt : (k : Int) + 1 < (sc : Int) := by omega
      go_wp2_with (at_builtin; refine wpList_append_own _ rfl _ _ 44 rfl W.heap.size 70 iS (.agg #[.int .i64 0, .int .i64 0, .slice none 0 0, .int .i64 0, .int .i64 0]) 5 56 Tryz.underlying44 hiS sz0 sz1 sz2 rfl (by decide) _ _ _ rfl (H3.out) ⟨sg, (k + 1) * 5, none⟩ m (sc - (k + 1)) (sRow B') rfl (ln4.out) (NL.out) (OT.out) (by unfold maxLen; omega) (by omega) (by omega) ?_; intro v4 w4 ho4 hg4 _; obtain ⟨vo4, vc4, rfl⟩ := own_shape ho4; have X4 := Lib.hid (X2.out.growS H3.out (Nat.le_refl _) hg4 (Ls' := A' ++ B') (by rw [List.length_append, HA'.out, HB'.out, sRow_app]; exact ho4) (fun y hy => X2.out.ds y (mid_mem (.inr (List.mem_append.1 hy))))); obtain ⟨c0, c1, c2, c3, c4, c5, cf⟩ := X4.out.cells)
      go_end0
      exact ⟨rfl, _, _, X4.out.put 5 _ _ _ _ rfl⟩
end
end Go.Proofs.YtnbdoemnepfhdaaGreat.Sw

namespace Go.Proofs.YtnbdoemnepfhdaaGreat.Sw
open Fld Ts
open Frm (OwnI IsD setT manyE manyI manyT giveE giveT lst cnt)
open Pt (arI)
open Go.ChangeShapes Go.WideShapes Go.ChangeAt Go.RowKit Go.Shelf Go.Deep
set_option maxHeartbeats 4000000
set_option maxRecDepth 100000
section
variable {W w : World} {wb sb bm fb bb n : Nat} {g : Nat → Nat} {F : Nat → Bool} {gv lv sv : Value}
theorem does_drop (nn ss gg : Int) (n0 : -9223372036854775808 ≤ nn) (n1 : nn ≤ 9223372036854775807) (E : Ent) {L : List Tb} (hL : 0 < L.length) (hL2 : L.length ≤ 1000) (hf : Fit n g F L) (h : WX W w wb sb bm fb bb n g F L (lst F n) L lv gv sv lv gv sv) :
    Calls Tryz.prog 7 #[.pointer (some ⟨wb, 0, none⟩), .agg #[.int .i64 2, .int .i64 nn, .int .i64 ss, .int .i64 gg, .int .i64 E.size, .int .i64 E.ctx, .int .u64 E.va, .int .u64 E.pa, .bool E.att.write, .bool E.att.priv, .bool E.att.exec, .bool E.att.lock, .bool E.att.global, .bool E.att.quiet, .bool E.valid]] w fun e w' => e = .returned (.bool true) ∧ ∃ bm' g' F' L' lv' gv' sv', WX W w' wb sb bm' fb bb n g' F' L' (lst F' n) L' lv' gv' sv' lv' gv' sv' ∧ Fit n g' F' L' ∧ L'.length ≤ L.length := by
  obtain ⟨k, hk, hkl⟩ := ar_nat nn hL
  obtain ⟨A, x, B, rfl, hA⟩ := at_mid hkl
  obtain ⟨o, ho⟩ : ∃ o, k * 5 = o := ⟨_, rfl⟩
  obtain ⟨lg, lc, sg, sc, hlv, hsv, _, _, _, _, _, _, _, _, l2, l3, t2, t3⟩ := h.mid hA ho
  subst hlv hsv
  obtain ⟨ao, cap, hgv⟩ := own_shape h.gl
  subst hgv
  obtain ⟨xo, xc, hxv⟩ := own_shape (h.ds x (by simp))
  have HXV := Lib.hid hxv
  clear hxv
  have CA := Lib.hid (fun W => Pt.raround_any nn ((A ++ x :: B).length : Int) n0 n1 (by omega) (by omega) W)
  rw [hk] at CA
  have hxi := hf.mem x (by simp)
  have htk := hf.tk x (by simp)
  have hn := hf.le
  have hgv := give_ok hxi htk
  have CD := Lib.hid (fun (Wz : World) (hW : OwnI Wz W.heap.size ao cap (lst F n)) (hB : W.heap.size ≤ Wz.heap.size) => rdrop_any n W.heap.size cap ao F x.s (x.n : Int) (x.f : Int) x.g xo x.l.length xc (by omega) (by have := hxi.is; omega) Wz hW hB (by omega))
  rw [← hxi.bd.2.2.2.2.2.2, hgv.2] at CD
  have CP := Lib.hid (fun (Wz : World) (hW : PAt Wz sb bm fb bb n g F) (hr : RowP Wz x.st sb (x.p n)) => pdrop_any x hn hxi hW hr htk)
  have hdel := hf.del
  obtain ⟨F2, hF2⟩ : ∃ F2, setT F x.f x.k false = F2 := ⟨_, rfl⟩
  rw [hF2] at CD CP hdel
  obtain ⟨R, hR⟩ : ∃ R, lst F2 n = R := ⟨_, rfl⟩
  rw [hR] at CD
  have HR := Lib.hid hR
  have HD := Lib.hid hdel
  clear hF2 hR hdel hgv hn htk hf hxi
  generalize lst F n = Q at *
  have HX := Lib.hid h
  obtain ⟨ll, hll⟩ : ∃ ll, (A ++ x :: B).length = ll := ⟨_, rfl⟩
  have HLL := Lib.hid hll
  rw [hll] at hkl hL hL2 CA HX l2 t2
  have hnz : ((ll : Int) == 0) = false := by simp; omega
  have hlt : (k : Int) < (ll : Int) := by omega
  have hAK : (⟨sg, 0, none⟩ : Addr).add o = ⟨sg, o, none⟩ := add_at sg o
  have hAL : (⟨lg, 0, none⟩ : Addr).add k = ⟨lg, k, none⟩ := add_at lg k
  have hAB := Lib.hid hA
  have HK := Lib.hid hk
  clear hk hA hll h
  go_enter Tryz.func7, Tryz.ntmps7
  go_upto_region 1 with fail
  have X1 := Lib.hid (HX.out.alloc (.cells #[.int .i64 2, .int .i64 nn, .int .i64 ss, .int .i64 gg, .int .i64 E.size, .int .i64 E.ctx, .int .u64 E.va, .int .u64 E.pa, .bool E.att.write, .bool E.att.priv, .bool E.att.exec, .bool E.att.lock, .bool E.att.global, .bool E.att.quiet, .bool E.valid] 32))
  have D1 := Lib.hid (DB13.mk (k := 2) (n := nn) (s := ss) (g := gg) (e := E) (World.alloc_heap_new w (.cells #[.int .i64 2, .int .i64 nn, .int .i64 ss, .int .i64 gg, .int .i64 E.size, .int .i64 E.ctx, .int .u64 E.va, .int .u64 E.pa, .bool E.att.write, .bool E.att.priv, .bool E.att.exec, .bool E.att.lock, .bool E.att.global, .bool E.att.quiet, .bool E.valid] 32)))
  clear HX
  obtain ⟨b, hb⟩ : ∃ b, w.heap.size = b := ⟨_, rfl⟩
  rw [hb] at D1 ⊢
  clear hb
  generalize w.alloc _ = W1 at *
  obtain ⟨c0, c1, c2, c3, c4, c5, cf⟩ := X1.out.cells
  obtain ⟨p0, s0, s1, s2, s3, s4, fl, fs⟩ := X1.out.rowc hAB.out ho
  obtain ⟨d0, d1, d2, d3, _, _, _, _, _, _, _, _, _, _, _⟩ := D1.out.cells
  go_upto_region 10 with fail
  go_quiet ((go_at_call 10; (with_reducible refine (CA.out _).mono ?_); rintro e w' ⟨rfl, m, rfl⟩; exact ⟨rfl, _, by rw [World.drewN_drewN]⟩))
  have X2 := Lib.hid (X1.out.drewN nq)
  have D2 := Lib.hid (D1.out.low (drewN_low W1 nq))
  clear X1 D1 c0 c1 c2 c3 c4 c5 cf p0 s0 s1 s2 s3 s4 fl fs d0 d1 d2 d3
  generalize W1.drewN nq = W2 at *
  obtain ⟨c0, c1, c2, c3, c4, c5, cf⟩ := X2.out.cells
  obtain ⟨p0, s0, s1, s2, s3, s4, fl, fs⟩ := X2.out.rowc hAB.out ho
  obtain ⟨d0, d1, d2, d3, _, _, _, _, _, _, _, _, _, _, _⟩ := D2.out.cells
  go_upto_region 19 with fail
  clear c0 c1 c2 c3 c4 c5 cf p0 s0 s1 s2 s3 s4 fl fs d0 d1 d2 d3 D2
  have X3 := Lib.hid X2.out.drew
  clear X2
  have HAF := Lib.hid (fun (Wz : World) (Qz : List Int) (gw : Value) (hz : WX W Wz wb sb bm fb bb n g F (A ++ x :: B) Qz (A ++ x :: B) (.slice (some ⟨lg, 0, none⟩) ll lc) gw (.slice (some ⟨sg, 0, none⟩) ll sc) (.slice (some ⟨lg, 0, none⟩) ll lc) gw (.slice (some ⟨sg, 0, none⟩) ll sc)) => (show Wz.cell? ⟨wb, 5, none⟩ = some (.slice (some ⟨sg, 0, none⟩) ll sc) ∧ Wz.cell? ⟨sg, o, none⟩ = some (.int .i64 x.s) ∧ Wz.cell? ⟨sg, o + 1, none⟩ = some (.int .i64 (x.n : Int)) ∧ Wz.cell? ⟨sg, o + 2, none⟩ = some (.slice xo x.l.length xc) ∧ Wz.cell? ⟨sg, o + 3, none⟩ = some (.int .i64 (x.f : Int)) ∧ Wz.cell? ⟨sg, o + 4, none⟩ = some (.int .i64 x.g) ∧ (∀ i, Wz.frozen? ⟨wb, i, none⟩ = false) from by
    obtain ⟨c0, c1, c2, c3, c4, c5, cf⟩ := hz.cells
    obtain ⟨p0, s0, s1, s2, s3, s4, fl, fs⟩ := hz.rowc hAB.out ho
    rw [HXV.out] at s2
    exact ⟨c5, s0, s1, s2, s3, s4, cf⟩))
  have hS := HAF.out _ _ _ X3.out
  refine wp_region_held_drew (S := fun wS => wS.cell? ⟨wb, 5, none⟩ = some (.slice (some ⟨sg, 0, none⟩) ll sc) ∧ wS.cell? ⟨sg, o, none⟩ = some (.int .i64 x.s) ∧ wS.cell? ⟨sg, o + 1, none⟩ = some (.int .i64 (x.n : Int)) ∧ wS.cell? ⟨sg, o + 2, none⟩ = some (.slice xo x.l.length xc) ∧ wS.cell? ⟨sg, o + 3, none⟩ = some (.int .i64 (x.f : Int)) ∧ wS.cell? ⟨sg, o + 4, none⟩ = some (.int .i64 x.g) ∧ (∀ i, wS.frozen? ⟨wb, i, none⟩ = false)) (by kernel_rfl) hS (fun hHeld => ?_)
  clear hS
  generalize W2.drew = V0 at X3 hHeld ⊢
  refine wpAnyH_take (i := 0) (v := ?va1) rfl (by kernel_rfl) (by kernel_rfl) (by kernel_rfl) (fun _ _ _ h => h) (Or.inl ⟨by rfl, ?ha1⟩) (by assumption) ?ra1
  case ha1 => (intro wS hSw; (try dsimp only at hSw); (try clear hSw); go_simp <;> (with_reducible rfl))
  (try simp only [Act.put, List.setIfInBounds_toArray, List.set_cons_zero, List.set_cons_succ, List.getElem_toArray, List.getElem_cons_zero])
  refine wpAnyH_take (i := 1) (v := ?va2) rfl (by kernel_rfl) (by kernel_rfl) (by kernel_rfl) (fun _ _ _ h => h) (Or.inl ⟨by rfl, ?ha2⟩) (by assumption) ?ra2
  case ha2 => (intro wS hSw; (try dsimp only at hSw); (try clear hSw); go_simp <;> (with_reducible rfl))
  (try simp only [Act.put, List.setIfInBounds_toArray, List.set_cons_zero, List.set_cons_succ, List.getElem_toArray, List.getElem_cons_zero, List.getElem_cons_succ])
  refine wpAnyH_take (i := 2) (v := ?va3) rfl (by kernel_rfl) (by kernel_rfl) (by kernel_rfl) (fun _ _ _ h => h) (Or.inl ⟨by rfl, ?ha3⟩) (by assumption) ?ra3
  case ha3 => (intro wS hSw; (try dsimp only at hSw); (try clear hSw); go_simp <;> (with_reducible rfl))
  (try simp only [Act.put, List.setIfInBounds_toArray, List.set_cons_zero, List.set_cons_succ, List.getElem_toArray, List.getElem_cons_zero, List.getElem_cons_succ])
  refine wpAnyH_take (i := 3) (v := ?va4) rfl (by kernel_rfl) (by kernel_rfl) (by kernel_rfl) (fun _ _ _ h => h) (Or.inl ⟨by rfl, ?ha4⟩) (by assumption) ?ra4
  case ha4 => (intro wS hSw; (try dsimp only at hSw); (try clear hSw); go_simp <;> (with_reducible rfl))
  (try simp only [Act.put, List.setIfInBounds_toArray, List.set_cons_zero, List.set_cons_succ, List.getElem_toArray, List.getElem_cons_zero, List.getElem_cons_succ])
  refine wpAnyH_take (i := 5) (v := ?va5) rfl (by kernel_rfl) (by kernel_rfl) (by kernel_rfl) (fun _ _ _ h => h) (Or.inl ⟨by rfl, ?ha5⟩) (by assumption) ?ra5
  case ha5 => (intro wS hSw; (try dsimp only at hSw); (try clear hSw); go_simp <;> (with_reducible rfl))
  (try simp only [Act.put, List.setIfInBounds_toArray, List.set_cons_zero, List.set_cons_succ, List.getElem_toArray, List.getElem_cons_zero, List.getElem_cons_succ])
  refine wpAnyH_take (i := 6) (v := ?va6) rfl (by kernel_rfl) (by kernel_rfl) (by kernel_rfl) (fun _ _ _ h => h) (Or.inl ⟨by rfl, ?ha6⟩) (by assumption) ?ra6
  case ha6 => (intro wS hSw; (try dsimp only at hSw); (try clear hSw); go_simp <;> (with_reducible rfl))
  (try simp only [Act.put, List.setIfInBounds_toArray, List.set_cons_zero, List.set_cons_succ, List.getElem_toArray, List.getElem_cons_zero, List.getElem_cons_succ])
  refine wpAnyH_take (i := 7) (v := ?va7) rfl (by kernel_rfl) (by kernel_rfl) (by kernel_rfl) (fun _ _ _ h => h) (Or.inl ⟨by rfl, ?ha7⟩) (by assumption) ?ra7
  case ha7 => (intro wS hSw; (try dsimp only at hSw); (try clear hSw); go_simp <;> (with_reducible rfl))
  (try simp only [Act.put, List.setIfInBounds_toArray, List.set_cons_zero, List.set_cons_succ, List.getElem_toArray, List.getElem_cons_zero, List.getElem_cons_succ])
  refine wpAnyH_take (i := 8) (v := ?va8) rfl (by kernel_rfl) (by kernel_rfl) (by kernel_rfl) (fun _ _ _ h => h) (Or.inl ⟨by rfl, ?ha8⟩) (by assumption) ?ra8
  case ha8 => (intro wS hSw; (try dsimp only at hSw); obtain ⟨c5, s0, s1, s2, s3, s4, cf⟩ := hSw; (try clear hSw); go_simp <;> (with_reducible rfl))
  (try simp only [Act.put, List.setIfInBounds_toArray, List.set_cons_zero, List.set_cons_succ, List.getElem_toArray, List.getElem_cons_zero, List.getElem_cons_succ])
  refine wpAnyH_take (i := 9) (v := ?va9) rfl (by kernel_rfl) (by kernel_rfl) (by kernel_rfl) (fun _ _ _ h => h) (Or.inl ⟨by rfl, ?ha9⟩) (by assumption) ?ra9
  case ha9 => (intro wS hSw; (try dsimp only at hSw); (try clear hSw); go_simp <;> (with_reducible rfl))
  (try simp only [Act.put, List.setIfInBounds_toArray, List.set_cons_zero, List.set_cons_succ, List.getElem_toArray, List.getElem_cons_zero, List.getElem_cons_succ])
  refine wpAnyH_take (i := 10) (v := ?va10) rfl (by kernel_rfl) (by kernel_rfl) (by kernel_rfl) (fun _ _ _ h => h) (Or.inl ⟨by rfl, ?ha10⟩) (by assumption) ?ra10
  case ha10 => (intro wS hSw; (try dsimp only at hSw); (try clear hSw); go_simp <;> (with_reducible rfl))
  (try simp only [Act.put, List.setIfInBounds_toArray, List.set_cons_zero, List.set_cons_succ, List.getElem_toArray, List.getElem_cons_zero, List.getElem_cons_succ])
  refine wpAnyH_take (i := 11) (v := ?va11) rfl (by kernel_rfl) (by kernel_rfl) (by kernel_rfl) (fun _ _ _ h => h) (Or.inl ⟨by rfl, ?ha11⟩) (by assumption) ?ra11
  case ha11 => (intro wS hSw; (try dsimp only at hSw); obtain ⟨c5, s0, s1, s2, s3, s4, cf⟩ := hSw; (try clear hSw); go_simp <;> (with_reducible rfl))
  (try simp only [Act.put, List.setIfInBounds_toArray, List.set_cons_zero, List.set_cons_succ, List.getElem_toArray, List.getElem_cons_zero, List.getElem_cons_succ])
  refine wpAnyH_ready (rs := [4]) (by kernel_rfl) (by simp) ?_
  refine AllReadyH.cons rfl (fun K hK => ?_) AllReadyH.nil
  obtain ⟨c0, c1, c2, c3, c4, c5, cf⟩ := X3.out.cells
  go_simp
  refine hK.out _ _ (HAF.out _ _ _ X3.out) (fun hHeld => ?_)
  (try clear hK K)
  (try simp only [Act.put, List.setIfInBounds_toArray, List.set_cons_zero, List.set_cons_succ, List.getElem_toArray, List.getElem_cons_zero, List.getElem_cons_succ])
  refine wpAnyH_ready (rs := [12]) (by kernel_rfl) (by simp) ?_
  refine AllReadyH.cons rfl (fun K hK => ?_) AllReadyH.nil
  go_simp
  refine (CD.out _ X3.out.gl X3.out.bel.size).mono ?_; rintro r V1 ⟨ao2, cap2, rfl, O4, hb4⟩
  have X4 := Lib.hid (X3.out.low hb4)
  have O4 := Lib.hid O4
  clear hb4 CD
  refine hK.out _ _ (HAF.out _ _ _ X4.out) (fun hHeld => ?_)
  (try clear hK K)
  (try simp only [Act.put, List.setIfInBounds_toArray, List.set_cons_zero, List.set_cons_succ, List.getElem_toArray, List.getElem_cons_zero, List.getElem_cons_succ])
  refine wpAnyH_take (i := 13) (v := ?va12) rfl (by kernel_rfl) (by kernel_rfl) (by kernel_rfl) (fun _ _ _ h => h) (Or.inl ⟨by rfl, ?ha12⟩) (by assumption) ?ra12
  case ha12 => (intro wS hSw; (try dsimp only at hSw); (try clear hSw); go_simp <;> (with_reducible rfl))
  (try simp only [Act.put, List.setIfInBounds_toArray, List.set_cons_zero, List.set_cons_succ, List.getElem_toArray, List.getElem_cons_zero, List.getElem_cons_succ])
  refine wpAnyH_take (i := 14) (v := ?va13) rfl (by kernel_rfl) (by kernel_rfl) (by kernel_rfl) (fun _ _ _ h => h) (Or.inl ⟨by rfl, ?ha13⟩) (by assumption) ?ra13
  case ha13 => (intro wS hSw; (try dsimp only at hSw); (try clear hSw); go_simp <;> (with_reducible rfl))
  (try simp only [Act.put, List.setIfInBounds_toArray, List.set_cons_zero, List.set_cons_succ, List.getElem_toArray, List.getElem_cons_zero, List.getElem_cons_succ])
  refine wpAnyH_ready (rs := [15]) (by kernel_rfl) (by simp) ?_
  refine AllReadyH.cons rfl (fun K hK => ?_) AllReadyH.nil
  obtain ⟨c0, c1, c2, c3, c4, c5, cf⟩ := X4.out.cells
  go_simp
  have q0 := X4.out.put 3 (.int .i64 (n : Int)) (.slice (some ⟨lg, 0, none⟩) ll lc) (.slice ao Q.length cap) (.slice (some ⟨sg, 0, none⟩) ll sc) rfl
  have q1 := q0.put 4 (.slice ao2 R.length cap2) (.slice (some ⟨lg, 0, none⟩) ll lc) (.slice ao2 R.length cap2) (.slice (some ⟨sg, 0, none⟩) ll sc) rfl
  have O5 := own_putT (own_putT O4.out X4.out.box (by decide) 3 (.int .i64 (n : Int))) q0.box (by decide) 4 (.slice ao2 R.length cap2)
  have X5 := Lib.hid (q1.newG O5)
  clear q0 q1 O5 c0 c1 c2 c3 c4 c5 cf
  refine hK.out _ _ (HAF.out _ _ _ X5.out) (fun hHeld => ?_)
  (try clear hK K)
  (try simp only [Act.put, List.setIfInBounds_toArray, List.set_cons_zero, List.set_cons_succ, List.getElem_toArray, List.getElem_cons_zero, List.getElem_cons_succ])
  refine wpAnyH_done (by kernel_rfl) ?_ _
  clear hHeld X3 X4 O4 HAF
  generalize World.setCell (World.setCell V1 _ _) _ _ = W5 at *
  go_upto_region 20 with fail
  have X6 := Lib.hid X5.out.drew
  clear X5
  have CP1 := Lib.hid (CP.out _ X6.out.pa (X6.out.rows x (by simp)))
  have hS : W5.drew.cell? ⟨wb, 0, none⟩ = some (.pointer (some ⟨sb, 0, none⟩)) ∧ W5.drew.cell? ⟨wb, 1, none⟩ = some (.pointer (some ⟨fb, 0, none⟩)) ∧ W5.drew.cell? ⟨wb, 2, none⟩ = some (.slice (some ⟨lg, 0, none⟩) ll lc) ∧ W5.drew.cell? ⟨lg, k, none⟩ = some (.pointer (some ⟨x.st, 0, none⟩)) := ⟨X6.out.cells.1, X6.out.cells.2.1, X6.out.cells.2.2.1, X6.out.ptrc hAB.out⟩
  refine wp_region_held_drew (S := fun wS => wS.cell? ⟨wb, 0, none⟩ = some (.pointer (some ⟨sb, 0, none⟩)) ∧ wS.cell? ⟨wb, 1, none⟩ = some (.pointer (some ⟨fb, 0, none⟩)) ∧ wS.cell? ⟨wb, 2, none⟩ = some (.slice (some ⟨lg, 0, none⟩) ll lc) ∧ wS.cell? ⟨lg, k, none⟩ = some (.pointer (some ⟨x.st, 0, none⟩))) (by kernel_rfl) hS (fun hHeld => ?_)
  clear hS CP
  generalize W5.drew = V5 at X6 CP1 hHeld ⊢
  refine wpAnyH_take (i := 0) (v := ?vu1) rfl (by kernel_rfl) (by kernel_rfl) (by kernel_rfl) (fun _ _ _ h => h) (Or.inl ⟨by rfl, ?hu1⟩) (by assumption) ?ru1
  case hu1 => (intro wS hSw; (try dsimp only at hSw); (try clear hSw); go_simp <;> (with_reducible rfl))
  (try simp only [Act.put, List.setIfInBounds_toArray, List.set_cons_zero, List.set_cons_succ, List.getElem_toArray, List.getElem_cons_zero])
  refine wpAnyH_take (i := 1) (v := ?vu2) rfl (by kernel_rfl) (by kernel_rfl) (by kernel_rfl) (fun _ _ _ h => h) (Or.inl ⟨by rfl, ?hu2⟩) (by assumption) ?ru2
  case hu2 => (intro wS hSw; (try dsimp only at hSw); (try clear hSw); go_simp <;> (with_reducible rfl))
  (try simp only [Act.put, List.setIfInBounds_toArray, List.set_cons_zero, List.set_cons_succ, List.getElem_toArray, List.getElem_cons_zero, List.getElem_cons_succ])
  refine wpAnyH_take (i := 2) (v := ?vu3) rfl (by kernel_rfl) (by kernel_rfl) (by kernel_rfl) (fun _ _ _ h => h) (Or.inl ⟨by rfl, ?hu3⟩) (by assumption) ?ru3
  case hu3 => (intro wS hSw; (try dsimp only at hSw); (try clear hSw); go_simp <;> (with_reducible rfl))
  (try simp only [Act.put, List.setIfInBounds_toArray, List.set_cons_zero, List.set_cons_succ, List.getElem_toArray, List.getElem_cons_zero, List.getElem_cons_succ])
  refine wpAnyH_take (i := 3) (v := ?vu4) rfl (by kernel_rfl) (by kernel_rfl) (by kernel_rfl) (fun _ _ _ h => h) (Or.inl ⟨by rfl, ?hu4⟩) (by assumption) ?ru4
  case hu4 => (intro wS hSw; (try dsimp only at hSw); obtain ⟨c0, c1, c2, p0⟩ := hSw; (try clear hSw); go_simp <;> (with_reducible rfl))
  (try simp only [Act.put, List.setIfInBounds_toArray, List.set_cons_zero, List.set_cons_succ, List.getElem_toArray, List.getElem_cons_zero, List.getElem_cons_succ])
  refine wpAnyH_take (i := 4) (v := ?vu5) rfl (by kernel_rfl) (by kernel_rfl) (by kernel_rfl) (fun _ _ _ h => h) (Or.inl ⟨by rfl, ?hu5⟩) (by assumption) ?ru5
  case hu5 => (intro wS hSw; (try dsimp only at hSw); (try clear hSw); go_simp <;> (with_reducible rfl))
  (try simp only [Act.put, List.setIfInBounds_toArray, List.set_cons_zero, List.set_cons_succ, List.getElem_toArray, List.getElem_cons_zero, List.getElem_cons_succ])
  refine wpAnyH_take (i := 5) (v := ?vu6) rfl (by kernel_rfl) (by kernel_rfl) (by kernel_rfl) (fun _ _ _ h => h) (Or.inl ⟨by rfl, ?hu6⟩) (by assumption) ?ru6
  case hu6 => (intro wS hSw; (try dsimp only at hSw); (try clear hSw); go_simp <;> (with_reducible rfl))
  (try simp only [Act.put, List.setIfInBounds_toArray, List.set_cons_zero, List.set_cons_succ, List.getElem_toArray, List.getElem_cons_zero, List.getElem_cons_succ])
  refine wpAnyH_take (i := 6) (v := ?vu7) rfl (by kernel_rfl) (by kernel_rfl) (by kernel_rfl) (fun _ _ _ h => h) (Or.inl ⟨by rfl, ?hu7⟩) (by assumption) ?ru7
  case hu7 => (intro wS hSw; (try dsimp only at hSw); (try clear hSw); go_simp <;> (with_reducible rfl))
  (try simp only [Act.put, List.setIfInBounds_toArray, List.set_cons_zero, List.set_cons_succ, List.getElem_toArray, List.getElem_cons_zero, List.getElem_cons_succ])
  refine wpAnyH_take (i := 7) (v := ?vu8) rfl (by kernel_rfl) (by kernel_rfl) (by kernel_rfl) (fun _ _ _ h => h) (Or.inl ⟨by rfl, ?hu8⟩) (by assumption) ?ru8
  case hu8 => (intro wS hSw; (try dsimp only at hSw); obtain ⟨c0, c1, c2, p0⟩ := hSw; (try clear hSw); go_simp <;> (with_reducible rfl))
  (try simp only [Act.put, List.setIfInBounds_toArray, List.set_cons_zero, List.set_cons_succ, List.getElem_toArray, List.getElem_cons_zero, List.getElem_cons_succ])
  refine wpAnyH_take (i := 8) (v := ?vu9) rfl (by kernel_rfl) (by kernel_rfl) (by kernel_rfl) (fun _ _ _ h => h) (Or.inl ⟨by rfl, ?hu9⟩) (by assumption) ?ru9
  case hu9 => (intro wS hSw; (try dsimp only at hSw); (try clear hSw); go_simp <;> (with_reducible rfl))
  (try simp only [Act.put, List.setIfInBounds_toArray, List.set_cons_zero, List.set_cons_succ, List.getElem_toArray, List.getElem_cons_zero, List.getElem_cons_succ])
  refine wpAnyH_take (i := 9) (v := ?vu10) rfl (by kernel_rfl) (by kernel_rfl) (by kernel_rfl) (fun _ _ _ h => h) (Or.inl ⟨by rfl, ?hu10⟩) (by assumption) ?ru10
  case hu10 => (intro wS hSw; (try dsimp only at hSw); (try clear hSw); go_simp <;> (with_reducible rfl))
  (try simp only [Act.put, List.setIfInBounds_toArray, List.set_cons_zero, List.set_cons_succ, List.getElem_toArray, List.getElem_cons_zero, List.getElem_cons_succ])
  refine wpAnyH_take (i := 10) (v := ?vu11) rfl (by kernel_rfl) (by kernel_rfl) (by kernel_rfl) (fun _ _ _ h => h) (Or.inl ⟨by rfl, ?hu11⟩) (by assumption) ?ru11
  case hu11 => (intro wS hSw; (try dsimp only at hSw); (try clear hSw); go_simp <;> (with_reducible rfl))
  (try simp only [Act.put, List.setIfInBounds_toArray, List.set_cons_zero, List.set_cons_succ, List.getElem_toArray, List.getElem_cons_zero, List.getElem_cons_succ])
  refine wpAnyH_take (i := 11) (v := ?vu12) rfl (by kernel_rfl) (by kernel_rfl) (by kernel_rfl) (fun _ _ _ h => h) (Or.inl ⟨by rfl, ?hu12⟩) (by assumption) ?ru12
  case hu12 => (intro wS hSw; (try dsimp only at hSw); obtain ⟨c0, c1, c2, p0⟩ := hSw; (try clear hSw); go_simp <;> (with_reducible rfl))
  (try simp only [Act.put, List.setIfInBounds_toArray, List.set_cons_zero, List.set_cons_succ, List.getElem_toArray, List.getElem_cons_zero, List.getElem_cons_succ])
  refine wpAnyH_take (i := 12) (v := ?vu13) rfl (by kernel_rfl) (by kernel_rfl) (by kernel_rfl) (fun _ _ _ h => h) (Or.inl ⟨by rfl, ?hu13⟩) (by assumption) ?ru13
  case hu13 => (intro wS hSw; (try dsimp only at hSw); (try clear hSw); go_simp <;> (with_reducible rfl))
  (try simp only [Act.put, List.setIfInBounds_toArray, List.set_cons_zero, List.set_cons_succ, List.getElem_toArray, List.getElem_cons_zero, List.getElem_cons_succ])
  refine wpAnyH_take (i := 13) (v := ?vu14) rfl (by kernel_rfl) (by kernel_rfl) (by kernel_rfl) (fun _ _ _ h => h) (Or.inl ⟨by rfl, ?hu14⟩) (by assumption) ?ru14
  case hu14 => (intro wS hSw; (try dsimp only at hSw); (try clear hSw); go_simp <;> (with_reducible rfl))
  (try simp only [Act.put, List.setIfInBounds_toArray, List.set_cons_zero, List.set_cons_succ, List.getElem_toArray, List.getElem_cons_zero, List.getElem_cons_succ])
  refine wpAnyH_take (i := 14) (v := ?vu15) rfl (by kernel_rfl) (by kernel_rfl) (by kernel_rfl) (fun _ _ _ h => h) (Or.inl ⟨by rfl, ?hu15⟩) (by assumption) ?ru15
  case hu15 => (intro wS hSw; (try dsimp only at hSw); obtain ⟨c0, c1, c2, p0⟩ := hSw; (try clear hSw); go_simp <;> (with_reducible rfl))
  (try simp only [Act.put, List.setIfInBounds_toArray, List.set_cons_zero, List.set_cons_succ, List.getElem_toArray, List.getElem_cons_zero, List.getElem_cons_succ])
  refine wpAnyH_take (i := 15) (v := ?vu16) rfl (by kernel_rfl) (by kernel_rfl) (by kernel_rfl) (fun _ _ _ h => h) (Or.inl ⟨by rfl, ?hu16⟩) (by assumption) ?ru16
  case hu16 => (intro wS hSw; (try dsimp only at hSw); (try clear hSw); go_simp <;> (with_reducible rfl))
  (try simp only [Act.put, List.setIfInBounds_toArray, List.set_cons_zero, List.set_cons_succ, List.getElem_toArray, List.getElem_cons_zero, List.getElem_cons_succ])
  refine wpAnyH_ready (rs := [16]) (by kernel_rfl) (by simp) ?_
  refine AllReadyH.cons rfl (fun K hK => ?_) AllReadyH.nil
  go_simp
  refine CP1.out.mono ?_; rintro r w9 ⟨rfl, bm9, P9, m9, t9⟩
  have X9 := Lib.hid (X6.out.prog P9 m9 t9)
  clear P9 m9 t9
  refine hK.out _ _ ⟨X9.out.cells.1, X9.out.cells.2.1, X9.out.cells.2.2.1, X9.out.ptrc hAB.out⟩ (fun hHeld => ?_)
  (try clear hK K)
  (try simp only [Act.put, List.setIfInBounds_toArray, List.set_cons_zero, List.set_cons_succ, List.getElem_toArray, List.getElem_cons_zero, List.getElem_cons_succ])
  refine wpAnyH_take (i := 17) (v := ?vu17) rfl (by kernel_rfl) (by kernel_rfl) (by kernel_rfl) (fun _ _ _ h => h) (Or.inl ⟨by rfl, ?hu17⟩) (by assumption) ?ru17
  case hu17 => (intro wS hSw; (try dsimp only at hSw); (try clear hSw); go_simp <;> (with_reducible rfl))
  (try simp only [Act.put, List.setIfInBounds_toArray, List.set_cons_zero, List.set_cons_succ, List.getElem_toArray, List.getElem_cons_zero, List.getElem_cons_succ])
  refine wpAnyH_done (by kernel_rfl) ?_ _
  clear hHeld X6 CP1
  obtain ⟨m, hm⟩ : ∃ m, B.length = m := ⟨_, rfl⟩
  have hkm : k + m + 1 = ll := by have e1 := HLL.out; have e2 := hAB.out; rw [List.length_append, List.length_cons] at e1; omega
  have CX := Lib.hid (lcut_any hAB.out hAB.out hm hm (by omega) X9.out)
  clear X9
  go_wp2_with fail
  refine CX.out.mono ?_; rintro e w10 ⟨rfl, lv2, sv2, X10⟩
  have X10 := Lib.hid X10
  go_wp2_with fail
  go_ret
  refine ⟨rfl, bm9, _, F2, A ++ B, lv2, _, sv2, by rw [HR.out]; exact X10.out, HD.out, by simp⟩
end
end Go.Proofs.YtnbdoemnepfhdaaGreat.Sw

