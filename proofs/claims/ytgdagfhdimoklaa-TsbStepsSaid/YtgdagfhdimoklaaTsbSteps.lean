/-
  TsbSteps: for every size and grade and all entries (made such as may be there) the law returns true, and its arguments read as before. Conditions: none.
-/
import Derived.Test.YtgdagfhdimoklaaRows
import Derived.WalkKit
import Derived.ProofKit
import Derived.OpenShut
import Derived.Test.YtgdagfhdimoklaaGF
import Derived.Test.YtgdagfhdimoklaaGD
namespace Go.Proofs.Ytgdagfhdimoklaa.tsbSteps
open Fld Ts
open Tl (IsEnts ents_at open_ents laidOut ListAt DocAt)
open Go.ChangeShapes Go.WideShapes Go.ChangeAt Go.RowKit Go.Deep Go.Shelf
set_option linter.unusedVariables false

theorem own : ownKnob Try.prog.godebug = none := by kernel_rfl

open Pt (arI ar_bd)
theorem moved_ok {x y : Ent} (hx : x.Ok) (hy : y.Ok) (h : x.size = y.size) : ({ y with va := x.va } : Ent).mayB = true := by
  have m := hy.may
  have v := hx.vs
  rw [h] at v
  unfold Ent.mayB at *
  simp only [Bool.and_eq_true, decide_eq_true_eq, Bool.not_eq_true'] at *
  obtain ⟨⟨⟨⟨⟨⟨⟨a1, a2⟩, a3⟩, a4⟩, a5⟩, a6⟩, a7⟩, a8⟩ := m
  exact ⟨⟨⟨⟨⟨⟨⟨a1, a2⟩, a3⟩, hx.hole⟩, a5⟩, v⟩, a7⟩, a8⟩
theorem steps {p : Par} (hp : p.Ok) {x y : Ent} (hx : x.Ok) (hy : y.Ok) (xs : x.size = p.s) (ys : y.size = p.s) (hv : y.va = x.va) :
    fndB p (insT p (fun _ => Pl.none) x) x.va x.ctx = true ∧ fndE p (insT p (fun _ => Pl.none) x) x.va x.ctx = x ∧
    fndB p (lokT p (insT p (fun _ => Pl.none) x) y.va) x.va x.ctx = false ∧
    fndB p (datT p (lokT p (insT p (fun _ => Pl.none) x) y.va) y) y.va y.ctx = false ∧
    fndB p (tagT p (datT p (lokT p (insT p (fun _ => Pl.none) x) y.va) y) y) y.va y.ctx = true ∧ fndE p (tagT p (datT p (lokT p (insT p (fun _ => Pl.none) x) y.va) y) y) y.va y.ctx = y := by
  have mx : mayT p x = true := by unfold mayT; rw [hx.may, xs]; simp
  have my : mayT p y = true := by unfold mayT; rw [hy.may, ys]; simp
  have T1 : insT p (fun _ => Pl.none) x (p.pl x.va) = Ent.pl x := by unfold insT; rw [if_pos mx, setP_at]
  have f1 := find_at hp hx xs T1 (va := x.va) (ctx := x.ctx) hx.v0 hx.v1 rfl
  have hxs := hits_self hx
  have hys := hits_self hy
  refine ⟨f1.1.trans hxs, f1.2 hxs, ?_, ?_, ?_⟩
  · refine find_locked (d := x.dataW) (by have := (Ent.data_bd hx.fit); omega) ?_
    unfold lokT; rw [hv, setP_at, T1]; rfl
  · refine find_locked (d := y.dataW) (by have := (Ent.data_bd hy.fit); omega) ?_
    unfold datT; rw [if_pos my, setP_at]
    unfold lokT; rw [setP_at]
  · rw [ins_row p _ y my]
    have T4 : insT p (insT p (fun _ => Pl.none) x) y (p.pl y.va) = Ent.pl y := by unfold insT; rw [if_pos my, setP_at]
    have f4 := find_at hp hy ys T4 (va := y.va) (ctx := y.ctx) hy.v0 hy.v1 rfl
    exact ⟨f4.1.trans hys, f4.2 hys⟩
/-! ### The walk -/
set_option maxHeartbeats 8000000 in
set_option maxRecDepth 100000 in
theorem walk (w : World) (a0 : Int) (w0 : (Lit.int .i64 a0).wf = true) (a1 : Int) (w1 : (Lit.int .i64 a1).wf = true) (E2 : Ent) (l2 : E2.lits) (E3 : Ent) (l3 : E3.lits) :
    Calls Try.prog 5 #[.int .i64 a0, .int .i64 a1, .agg #[.int .i64 E2.size, .int .i64 E2.ctx, .int .u64 E2.va, .int .u64 E2.pa, .bool E2.att.write, .bool E2.att.priv, .bool E2.att.exec, .bool E2.att.lock, .bool E2.att.global, .bool E2.att.quiet, .bool E2.valid], .agg #[.int .i64 E3.size, .int .i64 E3.ctx, .int .u64 E3.va, .int .u64 E3.pa, .bool E3.att.write, .bool E3.att.priv, .bool E3.att.exec, .bool E3.att.lock, .bool E3.att.global, .bool E3.att.quiet, .bool E3.valid]] w fun e w' => e = .returned (.bool true) ∧ Below w.heap.size w w' := by
  obtain ⟨s0, s1⟩ := bounds_i64 w0
  obtain ⟨g0, g1⟩ := bounds_i64 w1
  clear w0 w1
  have CB := Lib.hid (fun W => cbegin a0 a1 s0 s1 g0 g1 W)
  have HL := Lib.hid (fun W => blives_any W)
  have hs := ar_bd a0 4 (by decide)
  have hps0 : (parB (arI a0 4) (arI a1 4)).s = arI a0 4 := rfl
  generalize parB (arI a0 4) (arI a1 4) = P at *
  generalize placesI (arI a0 4) (arI a1 4) = n at *
  generalize arI a0 4 = s at *
  have we2 : E2.wf := Ent.lits_wf l2
  have we3 : E3.wf := Ent.lits_wf l3
  have CX := Lib.hid (fun W => dmade_any E2 we2 s hs W)
  have CY := Lib.hid (fun W => dmade_any E3 we3 s hs W)
  have okx := made_ok s E2
  have oky := made_ok s E3
  have szx := Lib.hid (show (made s E2).size = s from made_size E2 hs)
  have szy := Lib.hid (show (made s E3).size = s from made_size E3 hs)
  have hps := Lib.hid hps0
  clear hps0
  generalize made s E2 = x at *
  generalize made s E3 = y0 at *
  have okY : ({ y0 with va := x.va } : Ent).Ok := Ent.ok_of (moved_ok okx oky (szx.out.trans szy.out.symm)) oky.fit.p0 okx.v0 okx.v1
  have uX := wf_u (ok_wf okx)
  have uY := wf_u (ok_wf okY)
  have hst := Lib.hid (fun (hp : P.Ok) => steps hp okx okY (szx.out.trans hps.out.symm) (show ({ y0 with va := x.va } : Ent).size = P.s from szy.out.trans hps.out.symm) rfl)
  have mX : errP P x = 0 := by unfold errP mayT; rw [okx.may, szx.out, hps.out]; simp
  have mY : errP P ({ y0 with va := x.va } : Ent) = 0 := by
    have hm : mayT P ({ y0 with va := x.va } : Ent) = true := by unfold mayT; rw [okY.may, show ({ y0 with va := x.va } : Ent).size = P.s from szy.out.trans hps.out.symm]; simp
    unfold errP; rw [hm]; rfl
  have C1 := Lib.hid (fun (W W' : World) (st : Nat) (L : List Bx) (h : Car W W' st P (fun _ => Pl.none) L) => cinsert h x uX)
  have C2 := Lib.hid (fun (W W' : World) (st : Nat) (L : List Bx) (h : Car W W' st P (insT P (fun _ => Pl.none) x) L) => (show Calls Try.prog 23 #[.pointer (some ⟨st, 0, none⟩), .int .u64 x.va, .int .i64 x.ctx] W' fun e w' => e = .returned (.tuple #[.agg #[.int .i64 x.size, .int .i64 x.ctx, .int .u64 x.va, .int .u64 x.pa, .bool x.att.write, .bool x.att.priv, .bool x.att.exec, .bool x.att.lock, .bool x.att.global, .bool x.att.quiet, .bool x.valid], .bool true]) ∧ Car W w' st P (insT P (fun _ => Pl.none) x) L by
    have q := hst.out h.ok
    have := cfind h x.va x.ctx okx.v0 okx.v1
    rw [q.1, q.2.1] at this; exact this))
  have C3 := Lib.hid (fun (W W' : World) (st : Nat) (L : List Bx) (h : Car W W' st P (insT P (fun _ => Pl.none) x) L) => clock h x.va okx.v0 okx.v1)
  have C4 := Lib.hid (fun (W W' : World) (st : Nat) (L : List Bx) (h : Car W W' st P (lokT P (insT P (fun _ => Pl.none) x) x.va) L) => (show Calls Try.prog 23 #[.pointer (some ⟨st, 0, none⟩), .int .u64 x.va, .int .i64 x.ctx] W' fun e w' => e = .returned (.tuple #[.agg #[.int .i64 Ent.zero.size, .int .i64 Ent.zero.ctx, .int .u64 Ent.zero.va, .int .u64 Ent.zero.pa, .bool Ent.zero.att.write, .bool Ent.zero.att.priv, .bool Ent.zero.att.exec, .bool Ent.zero.att.lock, .bool Ent.zero.att.global, .bool Ent.zero.att.quiet, .bool Ent.zero.valid], .bool false]) ∧ Car W w' st P (lokT P (insT P (fun _ => Pl.none) x) x.va) L by
    have q : fndB P (lokT P (insT P (fun _ => Pl.none) x) x.va) x.va x.ctx = false := (hst.out h.ok).2.2.1
    have := cfind h x.va x.ctx okx.v0 okx.v1
    rw [fndE_no q, q] at this; exact this))
  have C5 := Lib.hid (fun (W W' : World) (st : Nat) (L : List Bx) (h : Car W W' st P (lokT P (insT P (fun _ => Pl.none) x) x.va) L) => (show Calls Try.prog 26 #[.pointer (some ⟨st, 0, none⟩), .agg #[.int .i64 y0.size, .int .i64 y0.ctx, .int .u64 x.va, .int .u64 y0.pa, .bool y0.att.write, .bool y0.att.priv, .bool y0.att.exec, .bool y0.att.lock, .bool y0.att.global, .bool y0.att.quiet, .bool y0.valid]] W' fun e w' => e = .returned (.int .i64 0) ∧ Car W w' st P (datT P (lokT P (insT P (fun _ => Pl.none) x) x.va) ({ y0 with va := x.va } : Ent)) L by
    have := cputData h ({ y0 with va := x.va } : Ent) uY
    rw [mY] at this; exact this))
  have C6 := Lib.hid (fun (W W' : World) (st : Nat) (L : List Bx) (h : Car W W' st P (datT P (lokT P (insT P (fun _ => Pl.none) x) x.va) ({ y0 with va := x.va } : Ent)) L) => (show Calls Try.prog 23 #[.pointer (some ⟨st, 0, none⟩), .int .u64 x.va, .int .i64 y0.ctx] W' fun e w' => e = .returned (.tuple #[.agg #[.int .i64 Ent.zero.size, .int .i64 Ent.zero.ctx, .int .u64 Ent.zero.va, .int .u64 Ent.zero.pa, .bool Ent.zero.att.write, .bool Ent.zero.att.priv, .bool Ent.zero.att.exec, .bool Ent.zero.att.lock, .bool Ent.zero.att.global, .bool Ent.zero.att.quiet, .bool Ent.zero.valid], .bool false]) ∧ Car W w' st P (datT P (lokT P (insT P (fun _ => Pl.none) x) x.va) ({ y0 with va := x.va } : Ent)) L by
    have q : fndB P (datT P (lokT P (insT P (fun _ => Pl.none) x) x.va) ({ y0 with va := x.va } : Ent)) x.va y0.ctx = false := (hst.out h.ok).2.2.2.1
    have := cfind h x.va y0.ctx okx.v0 okx.v1
    rw [fndE_no q, q] at this; exact this))
  have C7 := Lib.hid (fun (W W' : World) (st : Nat) (L : List Bx) (h : Car W W' st P (datT P (lokT P (insT P (fun _ => Pl.none) x) x.va) ({ y0 with va := x.va } : Ent)) L) => (show Calls Try.prog 27 #[.pointer (some ⟨st, 0, none⟩), .agg #[.int .i64 y0.size, .int .i64 y0.ctx, .int .u64 x.va, .int .u64 y0.pa, .bool y0.att.write, .bool y0.att.priv, .bool y0.att.exec, .bool y0.att.lock, .bool y0.att.global, .bool y0.att.quiet, .bool y0.valid]] W' fun e w' => e = .returned (.int .i64 0) ∧ Car W w' st P (tagT P (datT P (lokT P (insT P (fun _ => Pl.none) x) x.va) ({ y0 with va := x.va } : Ent)) ({ y0 with va := x.va } : Ent)) L by
    have := cputTag h ({ y0 with va := x.va } : Ent) uY
    rw [mY] at this; exact this))
  have C8 := Lib.hid (fun (W W' : World) (st : Nat) (L : List Bx) (h : Car W W' st P (tagT P (datT P (lokT P (insT P (fun _ => Pl.none) x) x.va) ({ y0 with va := x.va } : Ent)) ({ y0 with va := x.va } : Ent)) L) => (show Calls Try.prog 23 #[.pointer (some ⟨st, 0, none⟩), .int .u64 x.va, .int .i64 y0.ctx] W' fun e w' => e = .returned (.tuple #[.agg #[.int .i64 y0.size, .int .i64 y0.ctx, .int .u64 x.va, .int .u64 y0.pa, .bool y0.att.write, .bool y0.att.priv, .bool y0.att.exec, .bool y0.att.lock, .bool y0.att.global, .bool y0.att.quiet, .bool y0.valid], .bool true]) ∧ Car W w' st P (tagT P (datT P (lokT P (insT P (fun _ => Pl.none) x) x.va) ({ y0 with va := x.va } : Ent)) ({ y0 with va := x.va } : Ent)) L by
    have q : fndB P (tagT P (datT P (lokT P (insT P (fun _ => Pl.none) x) x.va) ({ y0 with va := x.va } : Ent)) ({ y0 with va := x.va } : Ent)) x.va y0.ctx = true ∧ fndE P (tagT P (datT P (lokT P (insT P (fun _ => Pl.none) x) x.va) ({ y0 with va := x.va } : Ent)) ({ y0 with va := x.va } : Ent)) x.va y0.ctx = ({ y0 with va := x.va } : Ent) := (hst.out h.ok).2.2.2.2
    have := cfind h x.va y0.ctx okx.v0 okx.v1
    rw [q.1, q.2] at this; exact this))
  rw [mX] at C1
  generalize tagT P (datT P (lokT P (insT P (fun _ => Pl.none) x) x.va) ({ y0 with va := x.va } : Ent)) ({ y0 with va := x.va } : Ent) = T4 at *
  generalize datT P (lokT P (insT P (fun _ => Pl.none) x) x.va) ({ y0 with va := x.va } : Ent) = T3 at *
  generalize lokT P (insT P (fun _ => Pl.none) x) x.va = T2 at *
  generalize insT P (fun _ => Pl.none) x = T1 at *
  clear hst mX mY uX uY okY
  have B0 : Below w.heap.size w ((w.alloc (.cells #[.int .i64 E2.size, .int .i64 E2.ctx, .int .u64 E2.va, .int .u64 E2.pa, .bool E2.att.write, .bool E2.att.priv, .bool E2.att.exec, .bool E2.att.lock, .bool E2.att.global, .bool E2.att.quiet, .bool E2.valid] 45)).alloc (.cells #[.int .i64 E3.size, .int .i64 E3.ctx, .int .u64 E3.va, .int .u64 E3.pa, .bool E3.att.write, .bool E3.att.priv, .bool E3.att.exec, .bool E3.att.lock, .bool E3.att.global, .bool E3.att.quiet, .bool E3.valid] 45)) := ((Below.refl _ _).alloc (Nat.le_refl _) _).alloc (by simp) _
  have R2 := (RowE.new w E2).below ((Below.refl _ _).alloc (Nat.le_refl _) (.cells #[.int .i64 E3.size, .int .i64 E3.ctx, .int .u64 E3.va, .int .u64 E3.pa, .bool E3.att.write, .bool E3.att.priv, .bool E3.att.exec, .bool E3.att.lock, .bool E3.att.global, .bool E3.att.quiet, .bool E3.valid] 45)) (RowE.new w E2).lt
  have R3 := RowE.new (w.alloc (.cells #[.int .i64 E2.size, .int .i64 E2.ctx, .int .u64 E2.va, .int .u64 E2.pa, .bool E2.att.write, .bool E2.att.priv, .bool E2.att.exec, .bool E2.att.lock, .bool E2.att.global, .bool E2.att.quiet, .bool E2.valid] 45)) E3
  rw [World.size_alloc] at R3
  go_enter Try.func5, Try.ntmps5
  go_wp2_with fail
  generalize World.alloc (w.alloc _) _ = W at *
  refine (CB.out _).mono ?_; rintro e w1 ⟨st, rfl, H1⟩
  have H2 := H1.push #[.int .i64 s, .int .i64 n, .slice none 0 0] 39 ⟨by decide, by decide⟩
  have R22 := R2.below H2.new.below R2.lt
  have R32 := R3.below H2.new.below R3.lt
  clear CB H1
  obtain ⟨d0, d1, d2, d3, d4, d5, d6, d7, d8, d9, d10⟩ := R22.cells
  have t0 := cell_row 0 (H2.rows _ (List.mem_cons_self ..)).1 rfl
  go_wp2_with fail
  refine (CX.out _).mono ?_; rintro e w3 ⟨rfl, hb3⟩
  have H3 := (H2.low hb3).box x
  have R33 := R3.below H3.new.below R3.lt
  clear CX H2 R22 R32 hb3 d0 d1 d2 d3 d4 d5 d6 d7 d8 d9 d10 t0
  obtain ⟨d0, d1, d2, d3, d4, d5, d6, d7, d8, d9, d10⟩ := R33.cells
  have t0 := cell_row 0 (H3.rows _ (List.mem_cons_of_mem _ (List.mem_cons_self ..))).1 rfl
  go_wp2_with fail
  refine (CY.out _).mono ?_; rintro e w4 ⟨rfl, hb4⟩
  have H4y := (H3.low hb4).box y0
  have H5 := ((H3.low hb4).push #[.int .i64 y0.size, .int .i64 y0.ctx, .int .u64 x.va, .int .u64 y0.pa, .bool y0.att.write, .bool y0.att.priv, .bool y0.att.exec, .bool y0.att.lock, .bool y0.att.global, .bool y0.att.quiet, .bool y0.valid] 45 ⟨by decide, by decide⟩).sub (M := [(w4.heap.size, #[.int .i64 y0.size, .int .i64 y0.ctx, .int .u64 x.va, .int .u64 y0.pa, .bool y0.att.write, .bool y0.att.priv, .bool y0.att.exec, .bool y0.att.lock, .bool y0.att.global, .bool y0.att.quiet, .bool y0.valid], 45), bx w3.heap.size x]) (by simp)
  clear CY R33 hb4 d0 d1 d2 d3 d4 d5 d6 d7 d8 d9 d10 t0 R2 R3 H3
  obtain ⟨u0, u1, u2, u3, u4, u5, u6, u7, u8, u9, u10⟩ := (H4y.row (b := w3.heap.size) (e := x) (by simp [bx])).cells
  obtain ⟨v0, v1, v2, v3, v4, v5, v6, v7, v8, v9, v10⟩ := (H5.row (b := w3.heap.size) (e := x) (by simp [bx])).cells
  clear H4y
  go_wp2_with fail
  refine (C1.out _ _ _ _ H5).mono ?_; rintro e w5 ⟨rfl, H6⟩
  clear u0 u1 u2 u3 u4 u5 u6 u7 u8 u9 u10
  clear v0 v1 v2 v3 v4 v5 v6 v7 v8 v9 v10
  clear H5 C1
  obtain ⟨u0, u1, u2, u3, u4, u5, u6, u7, u8, u9, u10⟩ := (H6.row (b := w3.heap.size) (e := x) (by simp [bx])).cells
  go_wp2_with fail
  refine (C2.out _ _ _ _ H6).mono ?_; rintro e w6 ⟨rfl, H7⟩
  have H8 := H7.box x
  clear u0 u1 u2 u3 u4 u5 u6 u7 u8 u9 u10
  clear H6 H7 C2
  have vr := (H8.rows (w4.heap.size, #[.int .i64 y0.size, .int .i64 y0.ctx, .int .u64 x.va, .int .u64 y0.pa, .bool y0.att.write, .bool y0.att.priv, .bool y0.att.exec, .bool y0.att.lock, .bool y0.att.global, .bool y0.att.quiet, .bool y0.valid], 45) (by simp [bx])).1
  have v0 := cell_row 0 vr rfl
  have v1 := cell_row 1 vr rfl
  have v2 := cell_row 2 vr rfl
  have v3 := cell_row 3 vr rfl
  have v4 := cell_row 4 vr rfl
  have v5 := cell_row 5 vr rfl
  have v6 := cell_row 6 vr rfl
  have v7 := cell_row 7 vr rfl
  have v8 := cell_row 8 vr rfl
  have v9 := cell_row 9 vr rfl
  have v10 := cell_row 10 vr rfl
  go_wp2_with fail
  refine (C3.out _ _ _ _ H8).mono ?_; rintro e w7 ⟨rfl, H9⟩
  clear vr v0 v1 v2 v3 v4 v5 v6 v7 v8 v9 v10
  clear H8 C3
  obtain ⟨u0, u1, u2, u3, u4, u5, u6, u7, u8, u9, u10⟩ := (H9.row (b := w3.heap.size) (e := x) (by simp [bx])).cells
  go_wp2_with fail
  refine (C4.out _ _ _ _ H9).mono ?_; rintro e w8 ⟨rfl, H10⟩
  have H11 := (H10.box Ent.zero).sub (M := [bx w6.heap.size x, (w4.heap.size, #[.int .i64 y0.size, .int .i64 y0.ctx, .int .u64 x.va, .int .u64 y0.pa, .bool y0.att.write, .bool y0.att.priv, .bool y0.att.exec, .bool y0.att.lock, .bool y0.att.global, .bool y0.att.quiet, .bool y0.valid], 45), bx w3.heap.size x]) (by simp)
  clear u0 u1 u2 u3 u4 u5 u6 u7 u8 u9 u10
  clear H9 H10 C4
  have vr := (H11.rows (w4.heap.size, #[.int .i64 y0.size, .int .i64 y0.ctx, .int .u64 x.va, .int .u64 y0.pa, .bool y0.att.write, .bool y0.att.priv, .bool y0.att.exec, .bool y0.att.lock, .bool y0.att.global, .bool y0.att.quiet, .bool y0.valid], 45) (by simp [bx])).1
  have v0 := cell_row 0 vr rfl
  have v1 := cell_row 1 vr rfl
  have v2 := cell_row 2 vr rfl
  have v3 := cell_row 3 vr rfl
  have v4 := cell_row 4 vr rfl
  have v5 := cell_row 5 vr rfl
  have v6 := cell_row 6 vr rfl
  have v7 := cell_row 7 vr rfl
  have v8 := cell_row 8 vr rfl
  have v9 := cell_row 9 vr rfl
  have v10 := cell_row 10 vr rfl
  go_wp2_with fail
  refine (C5.out _ _ _ _ H11).mono ?_; rintro e w9 ⟨rfl, H12⟩
  clear vr v0 v1 v2 v3 v4 v5 v6 v7 v8 v9 v10
  clear H11 C5
  have vr := (H12.rows (w4.heap.size, #[.int .i64 y0.size, .int .i64 y0.ctx, .int .u64 x.va, .int .u64 y0.pa, .bool y0.att.write, .bool y0.att.priv, .bool y0.att.exec, .bool y0.att.lock, .bool y0.att.global, .bool y0.att.quiet, .bool y0.valid], 45) (by simp [bx])).1
  have v0 := cell_row 0 vr rfl
  have v1 := cell_row 1 vr rfl
  have v2 := cell_row 2 vr rfl
  have v3 := cell_row 3 vr rfl
  have v4 := cell_row 4 vr rfl
  have v5 := cell_row 5 vr rfl
  have v6 := cell_row 6 vr rfl
  have v7 := cell_row 7 vr rfl
  have v8 := cell_row 8 vr rfl
  have v9 := cell_row 9 vr rfl
  have v10 := cell_row 10 vr rfl
  go_wp2_with fail
  refine (C6.out _ _ _ _ H12).mono ?_; rintro e w10 ⟨rfl, H13⟩
  have H14 := (H13.box Ent.zero).sub (M := [bx w6.heap.size x, (w4.heap.size, #[.int .i64 y0.size, .int .i64 y0.ctx, .int .u64 x.va, .int .u64 y0.pa, .bool y0.att.write, .bool y0.att.priv, .bool y0.att.exec, .bool y0.att.lock, .bool y0.att.global, .bool y0.att.quiet, .bool y0.valid], 45), bx w3.heap.size x]) (by simp)
  clear vr v0 v1 v2 v3 v4 v5 v6 v7 v8 v9 v10
  clear H12 H13 C6
  have vr := (H14.rows (w4.heap.size, #[.int .i64 y0.size, .int .i64 y0.ctx, .int .u64 x.va, .int .u64 y0.pa, .bool y0.att.write, .bool y0.att.priv, .bool y0.att.exec, .bool y0.att.lock, .bool y0.att.global, .bool y0.att.quiet, .bool y0.valid], 45) (by simp [bx])).1
  have v0 := cell_row 0 vr rfl
  have v1 := cell_row 1 vr rfl
  have v2 := cell_row 2 vr rfl
  have v3 := cell_row 3 vr rfl
  have v4 := cell_row 4 vr rfl
  have v5 := cell_row 5 vr rfl
  have v6 := cell_row 6 vr rfl
  have v7 := cell_row 7 vr rfl
  have v8 := cell_row 8 vr rfl
  have v9 := cell_row 9 vr rfl
  have v10 := cell_row 10 vr rfl
  go_wp2_with fail
  refine (C7.out _ _ _ _ H14).mono ?_; rintro e w11 ⟨rfl, H15⟩
  clear vr v0 v1 v2 v3 v4 v5 v6 v7 v8 v9 v10
  clear H14 C7
  have vr := (H15.rows (w4.heap.size, #[.int .i64 y0.size, .int .i64 y0.ctx, .int .u64 x.va, .int .u64 y0.pa, .bool y0.att.write, .bool y0.att.priv, .bool y0.att.exec, .bool y0.att.lock, .bool y0.att.global, .bool y0.att.quiet, .bool y0.valid], 45) (by simp [bx])).1
  have v0 := cell_row 0 vr rfl
  have v1 := cell_row 1 vr rfl
  have v2 := cell_row 2 vr rfl
  have v3 := cell_row 3 vr rfl
  have v4 := cell_row 4 vr rfl
  have v5 := cell_row 5 vr rfl
  have v6 := cell_row 6 vr rfl
  have v7 := cell_row 7 vr rfl
  have v8 := cell_row 8 vr rfl
  have v9 := cell_row 9 vr rfl
  have v10 := cell_row 10 vr rfl
  go_wp2_with fail
  refine (C8.out _ _ _ _ H15).mono ?_; rintro e w12 ⟨rfl, H16⟩
  have H17 := H16.push #[.int .i64 y0.size, .int .i64 y0.ctx, .int .u64 x.va, .int .u64 y0.pa, .bool y0.att.write, .bool y0.att.priv, .bool y0.att.exec, .bool y0.att.lock, .bool y0.att.global, .bool y0.att.quiet, .bool y0.valid] 45 ⟨by decide, by decide⟩
  clear vr v0 v1 v2 v3 v4 v5 v6 v7 v8 v9 v10
  clear H15 H16 C8
  obtain ⟨u0, u1, u2, u3, u4, u5, u6, u7, u8, u9, u10⟩ := (H17.row (b := w3.heap.size) (e := x) (by simp [bx])).cells
  obtain ⟨q0, q1, q2, q3, q4, q5, q6, q7, q8, q9, q10⟩ := (H17.row (b := w6.heap.size) (e := x) (by simp [bx])).cells
  have vr := (H17.rows (w4.heap.size, #[.int .i64 y0.size, .int .i64 y0.ctx, .int .u64 x.va, .int .u64 y0.pa, .bool y0.att.write, .bool y0.att.priv, .bool y0.att.exec, .bool y0.att.lock, .bool y0.att.global, .bool y0.att.quiet, .bool y0.valid], 45) (by simp [bx])).1
  have v0 := cell_row 0 vr rfl
  have v1 := cell_row 1 vr rfl
  have v2 := cell_row 2 vr rfl
  have v3 := cell_row 3 vr rfl
  have v4 := cell_row 4 vr rfl
  have v5 := cell_row 5 vr rfl
  have v6 := cell_row 6 vr rfl
  have v7 := cell_row 7 vr rfl
  have v8 := cell_row 8 vr rfl
  have v9 := cell_row 9 vr rfl
  have v10 := cell_row 10 vr rfl
  have pr := (H17.rows (w12.heap.size, #[.int .i64 y0.size, .int .i64 y0.ctx, .int .u64 x.va, .int .u64 y0.pa, .bool y0.att.write, .bool y0.att.priv, .bool y0.att.exec, .bool y0.att.lock, .bool y0.att.global, .bool y0.att.quiet, .bool y0.valid], 45) (by simp)).1
  have p0 := cell_row 0 pr rfl
  have p1 := cell_row 1 pr rfl
  have p2 := cell_row 2 pr rfl
  have p3 := cell_row 3 pr rfl
  have p4 := cell_row 4 pr rfl
  have p5 := cell_row 5 pr rfl
  have p6 := cell_row 6 pr rfl
  have p7 := cell_row 7 pr rfl
  have p8 := cell_row 8 pr rfl
  have p9 := cell_row 9 pr rfl
  have p10 := cell_row 10 pr rfl
  go_wp2_with fail
  refine (HL.out _).mono ?_; rintro e w13 ⟨rfl, hb13⟩
  have B13 := B0.trans ((H17.low hb13).new.below.mono B0.size)
  clear u0 u1 u2 u3 u4 u5 u6 u7 u8 u9 u10
  clear q0 q1 q2 q3 q4 q5 q6 q7 q8 q9 q10
  clear vr v0 v1 v2 v3 v4 v5 v6 v7 v8 v9 v10
  clear H17 pr p0 p1 p2 p3 p4 p5 p6 p7 p8 p9 p10
  go_wp2_with fail
  go_ret
  exact ⟨rfl, B13⟩

/-! ### The row -/
set_option maxRecDepth 100000 in
theorem lifted (os : Os) (started : os.Started) (H : Type) (enc : TypeId × Value → H) :
    ReturnsInHanded {} Try.checked os 5 .any (Rows.tsbStepsSpec.pre6 enc Try.prog Try.f5 Rows.tsbStepsRow.domain false) (Rows.tsbStepsSpec.post enc Try.prog Try.f5 false true false false) := by
  refine returnsInHanded_of_change (C := Try.checked) own started (by kernel_rfl) Try.func5
    (ChangeSpec.witness6 (enc := enc) (C := Try.checked) false ⟨#[], #[.int .i64 0, .int .i64 0, .agg #[.int .i64 0, .int .i64 0, .int .u64 0, .int .u64 0, .bool false, .bool false, .bool false, .bool false, .bool false, .bool false, .bool false], .agg #[.int .i64 0, .int .i64 0, .int .u64 0, .int .u64 0, .bool false, .bool false, .bool false, .bool false, .bool false, .bool false, .bool false]], []⟩ 8 (by kernel_rfl) (by kernel_rfl) (by kernel_rfl) (by kernel_rfl)) ?_
  intro W base args ds gs before hval0 hW hcnd _
  have hval : ∀ (j : Nat) t v, Try.f5.params[j]? = some t → args[j]? = some v → Value.okWide Try.prog W .any base t v := hval0
  have hW' := hW
  obtain ⟨p, q, hA0, hV, rfl, hfz, hnd⟩ := hW
  have hA : DataW.TrodAll enc Try.prog W 0 (fun _ => true) true Try.f5.params.toList args.toList ds p := hA0
  rw [Try.params5] at hA hval
  obtain ⟨v0, vs0, d0, ds0, p0, q0, hargs, rfl, rfl, h0, r0⟩ := trodAll_cons hA
  obtain ⟨v1, vs1, d1, ds1, p1, q1, rfl, rfl, rfl, h1, r1⟩ := trodAll_cons r0
  obtain ⟨v2, vs2, d2, ds2, p2, q2, rfl, rfl, rfl, h2, r2⟩ := trodAll_cons r1
  obtain ⟨v3, vs3, d3, ds3, p3, q3, rfl, rfl, rfl, h3, r3⟩ := trodAll_cons r2
  obtain ⟨rfl, rfl, rfl⟩ := trodAll_nil r3
  obtain rfl : args = #[v0, v1, v2, v3] := by cases args; simp_all
  obtain ⟨rfl, rfl⟩ := trodVars_none hV
  obtain ⟨a0, rfl, rfl, rfl, w0⟩ := open_int Try.underlying3 (hval 0 3 v0 rfl rfl) h0
  obtain ⟨a1, rfl, rfl, rfl, w1⟩ := open_int Try.underlying3 (hval 1 3 v1 rfl rfl) h1
  obtain ⟨E2, rfl, rfl, rfl, l2⟩ := open_entry (hval 2 45 v2 rfl rfl) h2
  obtain ⟨E3, rfl, rfl, rfl, l3⟩ := open_entry (hval 3 45 v3 rfl rfl) h3
  clear hA0 hval0
  simp only [List.append_nil] at hW'
  refine (walk W a0 w0 a1 w1 E2 l2 E3 l3).mono fun e W' ⟨he, hg⟩ => ?_
  subst he
  exact ⟨_, rfl, _, _, _, [], _, [], hW', trodAll_mk1 (shut_bool Try.underlying4 _), (trodAll_cons_mk (shut_int Try.underlying3 w0) (trodAll_cons_mk (shut_int Try.underlying3 w1) (trodAll_cons_mk (shut_entry l2) (trodAll_cons_mk (shut_entry l3) trodAll_mk0)))), rfl, hg.frame _, fun h => by cases h⟩

theorem over : Rows.tsbStepsRow.holds Try.pinned (OpenSpec.ofChange Rows.tsbStepsSpec) :=
  OpenClaim.holds_of_wide 5 Try.f5 rfl rfl rfl rfl rfl rfl rfl ⟨rfl, rfl, rfl, rfl, rfl⟩ rfl rfl rfl rfl rfl (by kernel_rfl) Try.func5 (by kernel_rfl)
    (of_decide_eq_true (by kernel_rfl)) (by unfold Func.isWrapper; first | (rw [if_pos (by decide +kernel)]; kernel_rfl) | (rw [if_neg (by decide +kernel)]; exact ⟨rfl, rfl⟩))
    (fun os started H enc _ => lifted os started H enc)

theorem proved : Rows.TsbStepsSaid :=
  over
#print axioms proved
end Go.Proofs.Ytgdagfhdimoklaa.tsbSteps
