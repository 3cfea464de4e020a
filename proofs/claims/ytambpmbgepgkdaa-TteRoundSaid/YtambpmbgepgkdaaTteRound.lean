/-
  TteRound: for every entry (made such as may be), every offset and every other address the law returns true, and its arguments read as before. Conditions: none.
-/
import Derived.Test.YtambpmbgepgkdaaRows
import Derived.WalkKit
import Derived.ProofKit
import Derived.OpenShut
import Derived.Test.YtambpmbgepgkdaaTKeep
import Derived.Deep.DeepCutAuto
import Derived.Test.YtambpmbgepgkdaaTOpen
namespace Go.Proofs.Ytambpmbgepgkdaa.tteRound
open Fld
open Go.ChangeShapes Go.WideShapes Go.ChangeAt Go.RowKit
set_option linter.unusedVariables false

theorem own : ownKnob Try.prog.godebug = none := by kernel_rfl

theorem round_at {g : Ent} (h : g.Ok) (o : Int) : Ent.readE g.tagG g.dataG (g.va + offI o g.size) = g ∧ Ent.readN g.tagG g.dataG (g.va + offI o g.size) = 0 := by
  have ho := off_lt h.size o
  obtain ⟨h1, h2, h3⟩ := at_in h ho.1 ho.2
  rw [Ent.tagG_fit ⟨h.fit.c0, h.fit.c1⟩, Ent.dataG_fit h.fit h.valid]
  have hs := Ent.ofW_self h.may h.fit.p0 (g.va + offI o g.size) h3
  have hd := (Ent.data_fields h.fit).2.2
  have hh : holeB (g.va + offI o g.size) = false := by
    have := at_bd h ho.1 ho.2
    have hv := h.vs; have hz := h.size; have hl := h.hole; have v0 := h.v0; have v1 := h.v1
    unfold holeB at *
    rw [decide_eq_false_iff_not] at *
    generalize offI o g.size = x at *
    generalize g.size = s at *
    generalize g.va = v at *
    rcases sizeB_true hz with rfl | rfl | rfl | rfl <;> (simp only [bytesI, if_true, Int.reduceEq, if_false] at *; clear hz; omega)
  rcases read_form g.tagW g.dataW (g.va + offI o g.size) g hs hh hd with ⟨_, e1, e2⟩ | ⟨q, _, _⟩
  · exact ⟨e2, e1⟩
  · rw [h.may] at q; simp at q
/-! ### The walk -/
set_option maxHeartbeats 4000000 in
set_option maxRecDepth 100000 in
theorem walk (E0 : Ent) (l0 : E0.lits) (a1 : Int) (w1 : (Lit.int .u64 a1).wf = true) (a2 : Int) (w2 : (Lit.int .u64 a2).wf = true) (w : World) :
    Calls Try.prog 4 #[.agg #[.int .i64 E0.size, .int .i64 E0.ctx, .int .u64 E0.va, .int .u64 E0.pa, .bool E0.att.write, .bool E0.att.priv, .bool E0.att.exec, .bool E0.att.lock, .bool E0.att.global, .bool E0.att.quiet, .bool E0.valid], .int .u64 a1, .int .u64 a2] w fun e w' => e = .returned (.bool true) ∧ Below w.heap.size w w' := by
  obtain ⟨o0, o1⟩ := bounds_u64 w1
  obtain ⟨x0, x1⟩ := bounds_u64 w2
  obtain ⟨g, hok, HG⟩ := good_some E0 l0
  have ho := off_lt hok.size a1
  have hat := at_bd hok ho.1 ho.2
  have hob := off_bd a1 g.size
  have v0 := hok.v0
  have v1 := hok.v1
  have p0 := hok.fit.p0
  have p1 := hok.p1
  have tb := Ent.tagG_bd g
  have db := Ent.dataG_bd g
  have ht := Ent.tagG_fit (e := g) ⟨hok.fit.c0, hok.fit.c1⟩
  have hd := Ent.dataG_fit hok.fit hok.valid
  obtain ⟨r1, r2⟩ := round_at hok a1
  have C1 := Lib.hid (fun W => ttag_any g v0 v1 W)
  have C2 := Lib.hid (fun W => tdata_any g p0 p1 W)
  have C3 := Lib.hid (fun W => tread_any g.tagG g.dataG (g.va + offI a1 g.size) tb.1 tb.2 db.1 db.2 hat.1 hat.2 W)
  rw [r1, r2] at C3
  have C4 := Lib.hid (fun W => tread_any g.tagG g.dataG a2 tb.1 tb.2 db.1 db.2 x0 x1 W)
  have C5 := Lib.hid (fun W => (ht ▸ rtage_any g hok.fit v0 v1 W : Calls Try.prog 15 #[.agg #[.int .i64 g.size, .int .i64 g.ctx, .int .u64 g.va, .int .u64 g.pa, .bool g.att.write, .bool g.att.priv, .bool g.att.exec, .bool g.att.lock, .bool g.att.global, .bool g.att.quiet, .bool g.valid]] W fun r w' => r = .returned (.int .u64 g.tagG) ∧ Below W.heap.size W w'))
  have C6 := Lib.hid (fun W => (hd ▸ rdata_any g hok.fit W : Calls Try.prog 17 #[.agg #[.int .i64 g.size, .int .i64 g.ctx, .int .u64 g.va, .int .u64 g.pa, .bool g.att.write, .bool g.att.priv, .bool g.att.exec, .bool g.att.lock, .bool g.att.global, .bool g.att.quiet, .bool g.valid]] W fun r w' => r = .returned (.int .u64 g.dataG) ∧ Below W.heap.size W w'))
  have C7 := Lib.hid (fun W => rread_any g.tagG g.dataG a2 tb.1 tb.2 db.1 db.2 x0 x1 W)
  clear ht hd r1 r2
  generalize Ent.readE g.tagG g.dataG a2 = X at *
  generalize Ent.readN g.tagG g.dataG a2 = N at *
  generalize g.tagG = T at *
  generalize g.dataG = D at *
  clear hok w1 w2 l0
  go_enter Try.func4, Try.ntmps4
  go_wp2_with fail
  refine (HG.out _).mono ?_; rintro r u1 ⟨rfl, hb1⟩
  have HB1 := Lib.hid (below_box hb1)
  have hz1 : w.heap.size < u1.heap.size := by have := hb1.size; simp at this; omega
  have K1 := KeepE.mk (HB1.out.alloc (by omega) (.cells #[.int .i64 g.size, .int .i64 g.ctx, .int .u64 g.va, .int .u64 g.pa, .bool g.att.write, .bool g.att.priv, .bool g.att.exec, .bool g.att.lock, .bool g.att.global, .bool g.att.quiet, .bool g.valid] 26)) (RowE.new u1 g)
  clear hb1 HG
  go_wp2_with fail
  go_quiet ((go_at_call 20; exact quiet_left (roff_any _ _ o0 o1 _)))
  go_wp2_with fail
  have K2 := K1.drewN nq
  generalize (World.alloc u1 _).drewN nq = u2 at K2 ⊢
  clear K1 HB1
  obtain ⟨y0, y1, y2, y3, y4, y5, y6, y7, y8, y9, y10⟩ := K2.row.cells
  have hl1 := K2.row.lt
  have hl2 := Nat.le_of_lt K2.row.lt
  have hl3 := K2.below.size
  have hds : ∀ W : World, W.drew.heap.size = W.heap.size := fun _ => rfl
  go_cut [9, 10] (fun p f wx => ∃ c : Nat, p = .pointer (some ⟨c, 0, none⟩) ∧ f = .int .i64 0 ∧ KeepE w wx u1.heap.size g ∧ RowE wx c g)
  case first =>
    go_region_held3 (fun w1 => w1.cell? ⟨u1.heap.size, 0, none⟩ = some (.int .i64 g.size) ∧ w1.cell? ⟨u1.heap.size, 1, none⟩ = some (.int .i64 g.ctx) ∧ w1.cell? ⟨u1.heap.size, 2, none⟩ = some (.int .u64 g.va) ∧ w1.cell? ⟨u1.heap.size, 3, none⟩ = some (.int .u64 g.pa) ∧ w1.cell? ⟨u1.heap.size, 4, none⟩ = some (.bool g.att.write) ∧ w1.cell? ⟨u1.heap.size, 5, none⟩ = some (.bool g.att.priv) ∧ w1.cell? ⟨u1.heap.size, 6, none⟩ = some (.bool g.att.exec) ∧ w1.cell? ⟨u1.heap.size, 7, none⟩ = some (.bool g.att.lock) ∧ w1.cell? ⟨u1.heap.size, 8, none⟩ = some (.bool g.att.global) ∧ w1.cell? ⟨u1.heap.size, 9, none⟩ = some (.bool g.att.quiet) ∧ w1.cell? ⟨u1.heap.size, 10, none⟩ = some (.bool g.valid)) ((refine keep_cells (w0 := w) ?_; (repeat (first | (with_reducible assumption) | (with_reducible refine KeepE.drew ?_) | (with_reducible refine KeepE.drewN ?_ _) | (with_reducible refine KeepE.alloc ?_ _) | (with_reducible refine KeepE.setNew ?_ ?_) | (with_reducible refine KeepE.call ?_ (by assumption))))))
      (first
        | (go_at_call 14; refine (C1.out _).mono ?_; rintro r w' ⟨rfl, hb⟩; obtain ⟨hc, hf, hs1, hs2⟩ := bfacts hb; (try have hv : u2.heap.size < w'.heap.size := by (have hsz := hb.size; (try simp only [hds] at hsz); (try simp only [World.size_alloc] at hsz); omega)))
        | (go_at_call 16; refine (C2.out _).mono ?_; rintro r w' ⟨rfl, hb⟩; obtain ⟨hc, hf, hs1, hs2⟩ := bfacts hb; (try have hv : u2.heap.size < w'.heap.size := by (have hsz := hb.size; (try simp only [hds] at hsz); (try simp only [World.size_alloc] at hsz); omega)))
        | (go_at_call 21; refine (C3.out _).mono ?_; rintro r w' ⟨rfl, hb⟩; obtain ⟨hc, hf, hs1, hs2⟩ := bfacts hb; (try have hv : u2.heap.size < w'.heap.size := by (have hsz := hb.size; (try simp only [hds] at hsz); (try simp only [World.size_alloc] at hsz); omega))))
    all_goals
      go_wp2_with fail
      go_meet
      refine ⟨_, rfl, rfl, ?_, ?_⟩
      · (repeat (first | (with_reducible assumption) | (with_reducible refine KeepE.drew ?_) | (with_reducible refine KeepE.drewN ?_ _) | (with_reducible refine KeepE.alloc ?_ _) | (with_reducible refine KeepE.setNew ?_ ?_) | (with_reducible refine KeepE.call ?_ (by assumption))))
      · (first | (with_reducible exact RowE.new _ _) | (refine RowE.setAll (z := Ent.zero) ?_; (repeat (first | (with_reducible refine RowE.call ?_ (by assumption)) | (with_reducible refine RowE.drew ?_) | exact RowE.new _ Ent.zero))))
  case rest =>
    obtain ⟨c1, rfl, rfl, K3, R3⟩ := hcut
    clear K2 y0 y1 y2 y3 y4 y5 y6 y7 y8 y9 y10 hl1 hl2 hl3 hds
    obtain ⟨y0, y1, y2, y3, y4, y5, y6, y7, y8, y9, y10⟩ := K3.row.cells
    obtain ⟨z0, z1, z2, z3, z4, z5, z6, z7, z8, z9, z10⟩ := R3.cells
    go_wp2_with fail
    clear z0 z1 z2 z3 z4 z5 z6 z7 z8 z9 z10 R3
    have hl1 := K3.row.lt
    have hl2 := Nat.le_of_lt K3.row.lt
    have hl3 := K3.below.size
    have hds : ∀ W : World, W.drew.heap.size = W.heap.size := fun _ => rfl
    go_cut [11, 12] (fun p f wx => ∃ c : Nat, p = .pointer (some ⟨c, 0, none⟩) ∧ f = .int .i64 N ∧ KeepE w wx u1.heap.size g ∧ RowE wx c X)
    case first =>
      go_region_held3 (fun w1 => w1.cell? ⟨u1.heap.size, 0, none⟩ = some (.int .i64 g.size) ∧ w1.cell? ⟨u1.heap.size, 1, none⟩ = some (.int .i64 g.ctx) ∧ w1.cell? ⟨u1.heap.size, 2, none⟩ = some (.int .u64 g.va) ∧ w1.cell? ⟨u1.heap.size, 3, none⟩ = some (.int .u64 g.pa) ∧ w1.cell? ⟨u1.heap.size, 4, none⟩ = some (.bool g.att.write) ∧ w1.cell? ⟨u1.heap.size, 5, none⟩ = some (.bool g.att.priv) ∧ w1.cell? ⟨u1.heap.size, 6, none⟩ = some (.bool g.att.exec) ∧ w1.cell? ⟨u1.heap.size, 7, none⟩ = some (.bool g.att.lock) ∧ w1.cell? ⟨u1.heap.size, 8, none⟩ = some (.bool g.att.global) ∧ w1.cell? ⟨u1.heap.size, 9, none⟩ = some (.bool g.att.quiet) ∧ w1.cell? ⟨u1.heap.size, 10, none⟩ = some (.bool g.valid)) ((refine keep_cells (w0 := w) ?_; (repeat (first | (with_reducible assumption) | (with_reducible refine KeepE.drew ?_) | (with_reducible refine KeepE.drewN ?_ _) | (with_reducible refine KeepE.alloc ?_ _) | (with_reducible refine KeepE.setNew ?_ ?_) | (with_reducible refine KeepE.call ?_ (by assumption))))))
        (first
          | (go_at_call 14; refine (C1.out _).mono ?_; rintro r w' ⟨rfl, hb⟩; obtain ⟨hc, hf, hs1, hs2⟩ := bfacts hb; (try have hv : wc.heap.size < w'.heap.size := by (have hsz := hb.size; (try simp only [hds] at hsz); (try simp only [World.size_alloc] at hsz); omega)))
          | (go_at_call 16; refine (C2.out _).mono ?_; rintro r w' ⟨rfl, hb⟩; obtain ⟨hc, hf, hs1, hs2⟩ := bfacts hb; (try have hv : wc.heap.size < w'.heap.size := by (have hsz := hb.size; (try simp only [hds] at hsz); (try simp only [World.size_alloc] at hsz); omega)))
          | (go_at_call 21; refine (C4.out _).mono ?_; rintro r w' ⟨rfl, hb⟩; obtain ⟨hc, hf, hs1, hs2⟩ := bfacts hb; (try have hv : wc.heap.size < w'.heap.size := by (have hsz := hb.size; (try simp only [hds] at hsz); (try simp only [World.size_alloc] at hsz); omega))))
      all_goals
        go_wp2_with fail
        go_meet
        refine ⟨_, rfl, rfl, ?_, ?_⟩
        · (repeat (first | (with_reducible assumption) | (with_reducible refine KeepE.drew ?_) | (with_reducible refine KeepE.drewN ?_ _) | (with_reducible refine KeepE.alloc ?_ _) | (with_reducible refine KeepE.setNew ?_ ?_) | (with_reducible refine KeepE.call ?_ (by assumption))))
        · (first | (with_reducible exact RowE.new _ _) | (refine RowE.setAll (z := Ent.zero) ?_; (repeat (first | (with_reducible refine RowE.call ?_ (by assumption)) | (with_reducible refine RowE.drew ?_) | exact RowE.new _ Ent.zero))))
    case rest =>
      obtain ⟨c2, rfl, rfl, K4, R4⟩ := hcut
      clear K3 y0 y1 y2 y3 y4 y5 y6 y7 y8 y9 y10 hl1 hl2 hl3 hds
      obtain ⟨y0, y1, y2, y3, y4, y5, y6, y7, y8, y9, y10⟩ := K4.row.cells
      have K4' := KeepE.mk K4.below R4
      clear R4
      have hl1 := K4.row.lt
      have hl2 := Nat.le_of_lt K4.row.lt
      have hl3 := K4.below.size
      have hds : ∀ W : World, W.drew.heap.size = W.heap.size := fun _ => rfl
      go_wp2_with fail
      go_cut [13, 14] (fun p f wx => ∃ c : Nat, p = .pointer (some ⟨c, 0, none⟩) ∧ f = .int .i64 N ∧ KeepE w wx c2 X ∧ RowE wx c X)
      case first =>
        go_region_held3 (fun w1 => w1.cell? ⟨u1.heap.size, 0, none⟩ = some (.int .i64 g.size) ∧ w1.cell? ⟨u1.heap.size, 1, none⟩ = some (.int .i64 g.ctx) ∧ w1.cell? ⟨u1.heap.size, 2, none⟩ = some (.int .u64 g.va) ∧ w1.cell? ⟨u1.heap.size, 3, none⟩ = some (.int .u64 g.pa) ∧ w1.cell? ⟨u1.heap.size, 4, none⟩ = some (.bool g.att.write) ∧ w1.cell? ⟨u1.heap.size, 5, none⟩ = some (.bool g.att.priv) ∧ w1.cell? ⟨u1.heap.size, 6, none⟩ = some (.bool g.att.exec) ∧ w1.cell? ⟨u1.heap.size, 7, none⟩ = some (.bool g.att.lock) ∧ w1.cell? ⟨u1.heap.size, 8, none⟩ = some (.bool g.att.global) ∧ w1.cell? ⟨u1.heap.size, 9, none⟩ = some (.bool g.att.quiet) ∧ w1.cell? ⟨u1.heap.size, 10, none⟩ = some (.bool g.valid)) ((refine keep_cells (w0 := w) ?_; (repeat (first | (with_reducible assumption) | (with_reducible refine KeepE.drew ?_) | (with_reducible refine KeepE.drewN ?_ _) | (with_reducible refine KeepE.alloc ?_ _) | (with_reducible refine KeepE.setNew ?_ ?_) | (with_reducible refine KeepE.call ?_ (by assumption))))))
          (first
            | (go_at_call 15; refine (C5.out _).mono ?_; rintro r w' ⟨rfl, hb⟩; obtain ⟨hc, hf, hs1, hs2⟩ := bfacts hb; (try have hv : wc.heap.size < w'.heap.size := by (have hsz := hb.size; (try simp only [hds] at hsz); (try simp only [World.size_alloc] at hsz); omega)))
            | (go_at_call 17; refine (C6.out _).mono ?_; rintro r w' ⟨rfl, hb⟩; obtain ⟨hc, hf, hs1, hs2⟩ := bfacts hb; (try have hv : wc.heap.size < w'.heap.size := by (have hsz := hb.size; (try simp only [hds] at hsz); (try simp only [World.size_alloc] at hsz); omega)))
            | (go_at_call 22; refine (C7.out _).mono ?_; rintro r w' ⟨rfl, hb⟩; obtain ⟨hc, hf, hs1, hs2⟩ := bfacts hb; (try have hv : wc.heap.size < w'.heap.size := by (have hsz := hb.size; (try simp only [hds] at hsz); (try simp only [World.size_alloc] at hsz); omega))))
        all_goals
          go_wp2_with fail
          go_meet
          refine ⟨_, rfl, rfl, ?_, ?_⟩
          · (repeat (first | (with_reducible assumption) | (with_reducible refine KeepE.drew ?_) | (with_reducible refine KeepE.drewN ?_ _) | (with_reducible refine KeepE.alloc ?_ _) | (with_reducible refine KeepE.setNew ?_ ?_) | (with_reducible refine KeepE.call ?_ (by assumption))))
          · (first | (with_reducible exact RowE.new _ _) | (refine RowE.setAll (z := Ent.zero) ?_; (repeat (first | (with_reducible refine RowE.call ?_ (by assumption)) | (with_reducible refine RowE.drew ?_) | exact RowE.new _ Ent.zero))))
      case rest =>
        obtain ⟨c3, rfl, rfl, K5, R5⟩ := hcut
        clear K4 K4' y0 y1 y2 y3 y4 y5 y6 y7 y8 y9 y10 hl1 hl2 hl3 hds
        obtain ⟨y0, y1, y2, y3, y4, y5, y6, y7, y8, y9, y10⟩ := K5.row.cells
        obtain ⟨z0, z1, z2, z3, z4, z5, z6, z7, z8, z9, z10⟩ := R5.cells
        go_wp2_with fail
        refine (tlives_any _).mono ?_; rintro r u9 ⟨rfl, hb9⟩
        go_wp2_with fail
        go_ret
        exact ⟨rfl, K5.below.trans (hb9.mono K5.below.size)⟩

/-! ### The row -/
set_option maxRecDepth 100000 in
theorem lifted (os : Os) (started : os.Started) (H : Type) (enc : TypeId × Value → H) :
    ReturnsInHanded {} Try.checked os 4 .any (Rows.tteRoundSpec.pre6 enc Try.prog Try.f4 Rows.tteRoundRow.domain false) (Rows.tteRoundSpec.post enc Try.prog Try.f4 false true false false) := by
  refine returnsInHanded_of_change (C := Try.checked) own started (by kernel_rfl) Try.func4
    (ChangeSpec.witness6 (enc := enc) (C := Try.checked) false ⟨#[], #[.agg #[.int .i64 0, .int .i64 0, .int .u64 0, .int .u64 0, .bool false, .bool false, .bool false, .bool false, .bool false, .bool false, .bool false], .int .u64 0, .int .u64 0], []⟩ 8 (by kernel_rfl) (by kernel_rfl) (by kernel_rfl) (by kernel_rfl)) ?_
  intro W base args ds gs before hval0 hW hcnd _
  have hval : ∀ (j : Nat) t v, Try.f4.params[j]? = some t → args[j]? = some v → Value.okWide Try.prog W .any base t v := hval0
  have hW' := hW
  obtain ⟨p, q, hA0, hV, rfl, hfz, hnd⟩ := hW
  have hA : DataW.TrodAll enc Try.prog W 0 (fun _ => true) true Try.f4.params.toList args.toList ds p := hA0
  rw [Try.params4] at hA hval
  obtain ⟨v0, vs0, d0, ds0, p0, q0, hargs, rfl, rfl, h0, r0⟩ := trodAll_cons hA
  obtain ⟨v1, vs1, d1, ds1, p1, q1, rfl, rfl, rfl, h1, r1⟩ := trodAll_cons r0
  obtain ⟨v2, vs2, d2, ds2, p2, q2, rfl, rfl, rfl, h2, r2⟩ := trodAll_cons r1
  obtain ⟨rfl, rfl, rfl⟩ := trodAll_nil r2
  obtain rfl : args = #[v0, v1, v2] := by cases args; simp_all
  obtain ⟨rfl, rfl⟩ := trodVars_none hV
  obtain ⟨E0, rfl, rfl, rfl, l0⟩ := open_entry (hval 0 26 v0 rfl rfl) h0
  obtain ⟨a1, rfl, rfl, rfl, w1⟩ := open_int Try.underlying22 (hval 1 22 v1 rfl rfl) h1
  obtain ⟨a2, rfl, rfl, rfl, w2⟩ := open_int Try.underlying22 (hval 2 22 v2 rfl rfl) h2
  clear hA0 hval0
  simp only [List.append_nil] at hW'
  refine (walk E0 l0 a1 w1 a2 w2 W).mono fun e W' ⟨he, hg⟩ => ?_
  subst he
  exact ⟨_, rfl, _, _, _, [], [], [], hW', trodAll_mk1 (shut_bool Try.underlying4 _), (trodAll_cons_mk (shut_entry l0) (trodAll_cons_mk (shut_int Try.underlying22 w1) (trodAll_cons_mk (shut_int Try.underlying22 w2) trodAll_mk0))), rfl, hg.frame _, fun h => by cases h⟩

theorem over : Rows.tteRoundRow.holds Try.pinned (OpenSpec.ofChange Rows.tteRoundSpec) :=
  OpenClaim.holds_of_wide 4 Try.f4 rfl rfl rfl rfl rfl rfl rfl ⟨rfl, rfl, rfl, rfl, rfl⟩ rfl rfl rfl rfl rfl (by kernel_rfl) Try.func4 (by kernel_rfl)
    (of_decide_eq_true (by kernel_rfl)) (by unfold Func.isWrapper; first | (rw [if_pos (by decide +kernel)]; kernel_rfl) | (rw [if_neg (by decide +kernel)]; exact ⟨rfl, rfl⟩))
    (fun os started H enc _ => lifted os started H enc)

theorem proved : Rows.TteRoundSaid :=
  over
#print axioms proved
end Go.Proofs.Ytambpmbgepgkdaa.tteRound
