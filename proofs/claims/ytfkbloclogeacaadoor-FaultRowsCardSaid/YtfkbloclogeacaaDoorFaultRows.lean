/-
  FaultRows: for all attributes and accesses the law returns true, and its arguments read as before. Conditions: the table of what kinds of faults are called, and told, holds what the program lays (the card ties it).
-/
import Derived.Test.YtfkbloclogeacaaDoorCards
import Derived.Test.YtfkbloclogeacaaDoorTie
import Derived.WalkKit
import Derived.ProofKit
import Derived.OpenShut
import Derived.Deep.DeepHandedRow
import Derived.Test.YtfkbloclogeacaaDoorJKeep
import Derived.Deep.DeepCutAuto
import Derived.Deep.RegionHeld3
import Derived.Test.YtfkbloclogeacaaDoorJOpen
namespace Go.Proofs.YtfkbloclogeacaaDoor.faultRows
open Fld Jd
open Go.ChangeShapes Go.WideShapes Go.ChangeAt Go.RowKit Go.Deep
set_option linter.unusedVariables false

theorem own : ownKnob Tryd.prog.godebug = none := by kernel_rfl

theorem cells11 {w wr : World} {n : Nat} {a : Att} {y : Acc} (h : Blk w wr n [cX y, cA ⟨true, false, true, false, false, false⟩, cA ⟨true, a.priv, true, false, false, false⟩, cA ⟨true, false, true, false, false, a.quiet⟩, cA ⟨a.write, false, true, false, false, false⟩, cA ⟨true, false, a.exec, false, false, false⟩]) : wr.cell? ⟨n + 1 + 1, 0, none⟩ = some (.bool true) ∧ wr.cell? ⟨n + 1 + 1, 1, none⟩ = some (.bool a.priv) ∧ wr.cell? ⟨n + 1 + 1, 2, none⟩ = some (.bool true) ∧ wr.cell? ⟨n + 1 + 1, 3, none⟩ = some (.bool false) ∧ wr.cell? ⟨n + 1 + 1, 4, none⟩ = some (.bool false) ∧ wr.cell? ⟨n + 1 + 1, 5, none⟩ = some (.bool false) ∧ wr.cell? ⟨n + 1 + 1 + 1, 0, none⟩ = some (.bool true) ∧ wr.cell? ⟨n + 1 + 1 + 1, 1, none⟩ = some (.bool false) ∧ wr.cell? ⟨n + 1 + 1 + 1, 2, none⟩ = some (.bool true) ∧ wr.cell? ⟨n + 1 + 1 + 1, 3, none⟩ = some (.bool false) ∧ wr.cell? ⟨n + 1 + 1 + 1, 4, none⟩ = some (.bool false) ∧ wr.cell? ⟨n + 1 + 1 + 1, 5, none⟩ = some (.bool a.quiet) ∧ wr.cell? ⟨n + 1 + 1 + 1 + 1, 0, none⟩ = some (.bool a.write) ∧ wr.cell? ⟨n + 1 + 1 + 1 + 1, 1, none⟩ = some (.bool false) ∧ wr.cell? ⟨n + 1 + 1 + 1 + 1, 2, none⟩ = some (.bool true) ∧ wr.cell? ⟨n + 1 + 1 + 1 + 1, 3, none⟩ = some (.bool false) ∧ wr.cell? ⟨n + 1 + 1 + 1 + 1, 4, none⟩ = some (.bool false) ∧ wr.cell? ⟨n + 1 + 1 + 1 + 1, 5, none⟩ = some (.bool false) ∧ wr.cell? ⟨n + 1 + 1 + 1 + 1 + 1, 0, none⟩ = some (.bool true) ∧ wr.cell? ⟨n + 1 + 1 + 1 + 1 + 1, 1, none⟩ = some (.bool false) ∧ wr.cell? ⟨n + 1 + 1 + 1 + 1 + 1, 2, none⟩ = some (.bool a.exec) ∧ wr.cell? ⟨n + 1 + 1 + 1 + 1 + 1, 3, none⟩ = some (.bool false) ∧ wr.cell? ⟨n + 1 + 1 + 1 + 1 + 1, 4, none⟩ = some (.bool false) ∧ wr.cell? ⟨n + 1 + 1 + 1 + 1 + 1, 5, none⟩ = some (.bool false) ∧ wr.cell? ⟨n, 0, none⟩ = some (.int .i64 y.kind) ∧ wr.cell? ⟨n, 1, none⟩ = some (.bool y.priv) ∧ wr.cell? ⟨n, 2, none⟩ = some (.int .u64 y.va) := by
  obtain ⟨c2_0, c2_1, c2_2, c2_3, c2_4, c2_5⟩ := h.att 2 (b := n + 1 + 1) rfl (a := ⟨true, a.priv, true, false, false, false⟩) rfl
  obtain ⟨c3_0, c3_1, c3_2, c3_3, c3_4, c3_5⟩ := h.att 3 (b := n + 1 + 1 + 1) rfl (a := ⟨true, false, true, false, false, a.quiet⟩) rfl
  obtain ⟨c4_0, c4_1, c4_2, c4_3, c4_4, c4_5⟩ := h.att 4 (b := n + 1 + 1 + 1 + 1) rfl (a := ⟨a.write, false, true, false, false, false⟩) rfl
  obtain ⟨c5_0, c5_1, c5_2, c5_3, c5_4, c5_5⟩ := h.att 5 (b := n + 1 + 1 + 1 + 1 + 1) rfl (a := ⟨true, false, a.exec, false, false, false⟩) rfl
  obtain ⟨c0_0, c0_1, c0_2⟩ := h.acc 0 (b := n) rfl (x := y) rfl
  exact ⟨c2_0, c2_1, c2_2, c2_3, c2_4, c2_5, c3_0, c3_1, c3_2, c3_3, c3_4, c3_5, c4_0, c4_1, c4_2, c4_3, c4_4, c4_5, c5_0, c5_1, c5_2, c5_3, c5_4, c5_5, c0_0, c0_1, c0_2⟩
/-! ### The walk -/
set_option maxHeartbeats 4000000 in
set_option maxRecDepth 100000 in
theorem walk (w : World) (hT : Tab w) (A0 : Att) (X1 : Acc) (m1 : X1.lits) :
    Calls Tryd.prog 7 #[.agg #[.bool A0.write, .bool A0.priv, .bool A0.exec, .bool A0.lock, .bool A0.global, .bool A0.quiet], .agg #[.int .i64 X1.kind, .bool X1.priv, .int .u64 X1.va]] w fun e w' => e = .returned (.bool true) ∧ Below w.heap.size w w' := by
  obtain ⟨a, ha⟩ : ∃ a, a = A0 := ⟨_, rfl⟩
  subst ha
  have Cy := Lib.hid (fun W => agood_any X1 false (Acc.lits_wf m1) W)
  generalize goodA X1 false = y at *
  have HR := Lib.hid (rows_worst a y)
  have Jp := Lib.hid (fun W => judge_any ⟨true, a.priv, true, false, false, false⟩ y W)
  have Jq := Lib.hid (fun W => judge_any ⟨true, false, true, false, false, a.quiet⟩ y W)
  have Jw := Lib.hid (fun W => judge_any ⟨a.write, false, true, false, false, false⟩ y W)
  have Je := Lib.hid (fun W => judge_any ⟨true, false, a.exec, false, false, false⟩ y W)
  have Ja := Lib.hid (fun W => judge_any a y W)
  have Jl : Hid (∀ W, Calls Tryd.prog 11 #[.agg #[.bool (⟨true, false, true, false, false, false⟩ : Att).write, .bool (⟨true, false, true, false, false, false⟩ : Att).priv, .bool (⟨true, false, true, false, false, false⟩ : Att).exec, .bool (⟨true, false, true, false, false, false⟩ : Att).lock, .bool (⟨true, false, true, false, false, false⟩ : Att).global, .bool (⟨true, false, true, false, false, false⟩ : Att).quiet], .agg #[.int .i64 y.kind, .bool y.priv, .int .u64 y.va]] W fun e w' => e = .returned (.int .i64 0) ∧ Below W.heap.size W w') := Lib.hid (fun W => by have := judge_any ⟨true, false, true, false, false, false⟩ y W; rw [rows_all] at this; exact this)
  have CL := Lib.hid (fun W (hW : Tab W) => jlives_any W hW)
  dsimp only at Jp Jq Jw Je Jl
  generalize judgeI ⟨true, a.priv, true, false, false, false⟩ y = Vp at *
  generalize judgeI ⟨true, false, true, false, false, a.quiet⟩ y = Vq at *
  generalize judgeI ⟨a.write, false, true, false, false, false⟩ y = Vw at *
  generalize judgeI ⟨true, false, a.exec, false, false, false⟩ y = Ve at *
  generalize judgeI a y = V at *
  obtain ⟨K1, s1⟩ := (Blk.nil (Below.refl w.heap.size w) w.heap.size).push (cA a).1 (cA a).2 (by simp)
  obtain ⟨K2, s2⟩ := K1.push (cX X1).1 (cX X1).2 s1
  have K := Lib.hid K2
  clear K1 K2 s1 s2 m1
  go_enter Tryd.func7, Tryd.ntmps7
  go_wp2_with fail
  refine (Cy.out _).mono ?_; rintro r w1 ⟨rfl, hb⟩
  have L1 := K.out.call hb
  clear hb K Cy
  obtain ⟨a0, a1, a2, a3, a4, a5⟩ := L1.att 0 (b := w.heap.size) rfl (a := a) rfl
  have hlt0 := row_lt (L1.row 0 _ rfl)
  simp only [Nat.add_zero] at hlt0
  have hlt1 : w.heap.size < w1.heap.size + 1 := by omega
  have hlt2 : w.heap.size < w1.heap.size + 1 + 1 := by omega
  have hlt3 : w.heap.size < w1.heap.size + 1 + 1 + 1 := by omega
  have hlt4 : w.heap.size < w1.heap.size + 1 + 1 + 1 + 1 := by omega
  have hlt5 : w.heap.size < w1.heap.size + 1 + 1 + 1 + 1 + 1 := by omega
  obtain ⟨K1, s1⟩ := (Blk.nil L1.below w1.heap.size).push (cX y).1 (cX y).2 (by simp)
  obtain ⟨K2, s2⟩ := K1.push (cA ⟨true, false, true, false, false, false⟩).1 (cA a).2 s1
  obtain ⟨K3, s3⟩ := K2.push (cA ⟨true, a.priv, true, false, false, false⟩).1 (cA a).2 s2
  obtain ⟨K4, s4⟩ := K3.push (cA ⟨true, false, true, false, false, a.quiet⟩).1 (cA a).2 s3
  obtain ⟨K5, s5⟩ := K4.push (cA ⟨a.write, false, true, false, false, false⟩).1 (cA a).2 s4
  obtain ⟨K6, s6⟩ := K5.push (cA ⟨true, false, a.exec, false, false, false⟩).1 (cA a).2 s5
  have M1 := (((((L1.alloc (.cells (cX y).1 (cX y).2)).alloc (.cells (cA ⟨true, false, true, false, false, false⟩).1 (cA a).2)).alloc (.cells (cA ⟨true, a.priv, true, false, false, false⟩).1 (cA a).2)).alloc (.cells (cA ⟨true, false, true, false, false, a.quiet⟩).1 (cA a).2)).alloc (.cells (cA ⟨a.write, false, true, false, false, false⟩).1 (cA a).2)).alloc (.cells (cA ⟨true, false, a.exec, false, false, false⟩).1 (cA a).2)
  dsimp only [cA, cX] at K6 M1
  have K := Lib.hid K6
  have M := Lib.hid M1
  clear K1 K2 K3 K4 K5 K6 s1 s2 s3 s4 s5 s6 L1 M1
  go_wp2_with fail
  have NK := K.out
  have NM := M.out
  clear K M a0 a1 a2 a3 a4 a5 hlt0 hlt1 hlt2 hlt3 hlt4 hlt5
  generalize World.alloc _ _ = u at NK NM ⊢
  generalize w1.heap.size = n at NK ⊢
  change Blk w u n [cX y, cA ⟨true, false, true, false, false, false⟩, cA ⟨true, a.priv, true, false, false, false⟩, cA ⟨true, false, true, false, false, a.quiet⟩, cA ⟨a.write, false, true, false, false, false⟩, cA ⟨true, false, a.exec, false, false, false⟩] at NK
  change Blk w u w.heap.size [cA a, cX X1] at NM
  have hcs := cells11 NK
  go_cut [11] (fun t wx => t = .int .i64 V ∧ Blk w wx n [cX y, cA ⟨true, false, true, false, false, false⟩, cA ⟨true, a.priv, true, false, false, false⟩, cA ⟨true, false, true, false, false, a.quiet⟩, cA ⟨a.write, false, true, false, false, false⟩, cA ⟨true, false, a.exec, false, false, false⟩] ∧ Blk w wx w.heap.size [cA a, cX X1])
  case first =>
    go_region_held3 (fun w1 => w1.cell? ⟨n + 1 + 1, 0, none⟩ = some (.bool true) ∧ w1.cell? ⟨n + 1 + 1, 1, none⟩ = some (.bool a.priv) ∧ w1.cell? ⟨n + 1 + 1, 2, none⟩ = some (.bool true) ∧ w1.cell? ⟨n + 1 + 1, 3, none⟩ = some (.bool false) ∧ w1.cell? ⟨n + 1 + 1, 4, none⟩ = some (.bool false) ∧ w1.cell? ⟨n + 1 + 1, 5, none⟩ = some (.bool false) ∧ w1.cell? ⟨n + 1 + 1 + 1, 0, none⟩ = some (.bool true) ∧ w1.cell? ⟨n + 1 + 1 + 1, 1, none⟩ = some (.bool false) ∧ w1.cell? ⟨n + 1 + 1 + 1, 2, none⟩ = some (.bool true) ∧ w1.cell? ⟨n + 1 + 1 + 1, 3, none⟩ = some (.bool false) ∧ w1.cell? ⟨n + 1 + 1 + 1, 4, none⟩ = some (.bool false) ∧ w1.cell? ⟨n + 1 + 1 + 1, 5, none⟩ = some (.bool a.quiet) ∧ w1.cell? ⟨n + 1 + 1 + 1 + 1, 0, none⟩ = some (.bool a.write) ∧ w1.cell? ⟨n + 1 + 1 + 1 + 1, 1, none⟩ = some (.bool false) ∧ w1.cell? ⟨n + 1 + 1 + 1 + 1, 2, none⟩ = some (.bool true) ∧ w1.cell? ⟨n + 1 + 1 + 1 + 1, 3, none⟩ = some (.bool false) ∧ w1.cell? ⟨n + 1 + 1 + 1 + 1, 4, none⟩ = some (.bool false) ∧ w1.cell? ⟨n + 1 + 1 + 1 + 1, 5, none⟩ = some (.bool false) ∧ w1.cell? ⟨n + 1 + 1 + 1 + 1 + 1, 0, none⟩ = some (.bool true) ∧ w1.cell? ⟨n + 1 + 1 + 1 + 1 + 1, 1, none⟩ = some (.bool false) ∧ w1.cell? ⟨n + 1 + 1 + 1 + 1 + 1, 2, none⟩ = some (.bool a.exec) ∧ w1.cell? ⟨n + 1 + 1 + 1 + 1 + 1, 3, none⟩ = some (.bool false) ∧ w1.cell? ⟨n + 1 + 1 + 1 + 1 + 1, 4, none⟩ = some (.bool false) ∧ w1.cell? ⟨n + 1 + 1 + 1 + 1 + 1, 5, none⟩ = some (.bool false) ∧ w1.cell? ⟨n, 0, none⟩ = some (.int .i64 y.kind) ∧ w1.cell? ⟨n, 1, none⟩ = some (.bool y.priv) ∧ w1.cell? ⟨n, 2, none⟩ = some (.int .u64 y.va)) ((refine cells11 (w := w) ?_; (repeat (first | (with_reducible assumption) | (with_reducible refine Blk.drew ?_) | (with_reducible refine Blk.drewN ?_ _) | (with_reducible refine Blk.alloc ?_ _) | (with_reducible refine Blk.call ?_ (by assumption))))))
      (first
        | (go_at_call 11; (with_reducible refine (Jp.out _).mono ?_); rintro r w' ⟨rfl, hb⟩)
        | (go_at_call 11; (with_reducible refine (Jq.out _).mono ?_); rintro r w' ⟨rfl, hb⟩)
        | (go_at_call 11; (with_reducible refine (Jw.out _).mono ?_); rintro r w' ⟨rfl, hb⟩)
        | (go_at_call 11; (with_reducible refine (Je.out _).mono ?_); rintro r w' ⟨rfl, hb⟩)
        | (go_at_call 22; (with_reducible refine (worse_any _ _ _).mono ?_); rintro r w' ⟨rfl, rfl⟩))
    all_goals
      go_wp2_with fail
      go_meet
      refine ⟨by rw [HR.out], ?_, ?_⟩ <;> (repeat (first | (with_reducible assumption) | (with_reducible refine Blk.drew ?_) | (with_reducible refine Blk.drewN ?_ _) | (with_reducible refine Blk.alloc ?_ _) | (with_reducible refine Blk.call ?_ (by assumption))))
  case rest =>
    obtain ⟨rfl, NK2, NM2⟩ := hcut
    clear NK NM hcs
    obtain ⟨a0, a1, a2, a3, a4, a5⟩ := NM2.att 0 (b := w.heap.size) rfl (a := a) rfl
    obtain ⟨y0, y1, y2⟩ := NK2.acc 0 (b := n) rfl (x := y) rfl
    go_wp2_with fail
    refine (Ja.out _).mono ?_; rintro r w2 ⟨rfl, hb⟩
    have NK3 := NK2.call hb
    have NM3 := NM2.call hb
    clear hb NK2 NM2 a0 a1 a2 a3 a4 a5 y0 y1 y2
    obtain ⟨a0, a1, a2, a3, a4, a5⟩ := NK3.att 1 (b := n + 1) rfl (a := ⟨true, false, true, false, false, false⟩) rfl
    obtain ⟨y0, y1, y2⟩ := NK3.acc 0 (b := n) rfl (x := y) rfl
    go_wp2_with fail
    refine (Jl.out _).mono ?_; rintro r w3 ⟨rfl, hb⟩
    have NM4 := NM3.call hb
    clear hb NK3 NM3 a0 a1 a2 a3 a4 a5 y0 y1 y2
    go_wp2_with fail
    refine (CL.out _ (NM4.tab hT)).mono ?_; rintro r w4 ⟨rfl, hb⟩
    go_wp2_with fail
    go_ret
    exact ⟨rfl, (NM4.call hb).below⟩

/-! ### The row -/
theorem contract (H : Type) (enc : TypeId × Value → H) (W : World) (base : Nat) (args : Array Value) (ds gs : List (DataW H)) (before : List MemPlace)
    (hval : ∀ (j : Nat) t v, Tryd.f7.params[j]? = some t → args[j]? = some v → Value.okWide Tryd.prog W .any base t v)
    (hW : DataW.Whole enc Tryd.prog Tryd.f7.params.toList Rows.faultRowsSpec.vars false W args.toList ds gs before) (hL : laidMetH Tryd.prog Rows.faultRowsRow.laid W) :
    Calls Tryd.prog 7 args W fun e W' => ∃ v, e = .returned v ∧ Rows.faultRowsSpec.post enc Tryd.prog Tryd.f7 false true false false W args v W' := by
  have hW' := hW
  obtain ⟨p, q, hA0, hV, rfl, hfz, hnd⟩ := hW
  have hA : DataW.TrodAll enc Tryd.prog W 0 (fun _ => true) true Tryd.f7.params.toList args.toList ds p := hA0
  rw [Tryd.params7] at hA hval
  obtain ⟨v0, vs0, d0, ds0, p0, q0, hargs, rfl, rfl, h0, r0⟩ := trodAll_cons hA
  obtain ⟨v1, vs1, d1, ds1, p1, q1, rfl, rfl, rfl, h1, r1⟩ := trodAll_cons r0
  obtain ⟨rfl, rfl, rfl⟩ := trodAll_nil r1
  obtain rfl : args = #[v0, v1] := by cases args; simp_all
  obtain ⟨rfl, rfl⟩ := trodVars_none hV
  obtain ⟨A0, rfl, rfl, rfl⟩ := open_attr (hval 0 23 v0 rfl rfl) h0
  obtain ⟨X1, rfl, rfl, rfl, m1⟩ := open_acc (hval 1 28 v1 rfl rfl) h1
  clear hA0
  simp only [List.append_nil] at hW'
  refine (walk W (tab_of hL) A0 X1 m1).mono fun e W' ⟨he, hg⟩ => ?_
  subst he
  exact ⟨_, rfl, _, _, _, [], _, [], hW', trodAll_mk1 (shut_bool Tryd.underlying4 _), (trodAll_cons_mk (shut_attr A0) (trodAll_cons_mk (shut_acc m1) trodAll_mk0)), rfl, hg.frame _, fun h => by cases h⟩

/-- A world for the witness: the settled one, the table holding what its initialiser lays. -/
noncomputable def laidWorld (os : Os) : World :=
  { World.holding Tryd.prog os ⟨#[], #[], []⟩ with heap := (World.holding Tryd.prog os ⟨#[], #[], []⟩).heap.modify 0 fun
      | .cells _ t frozen => .cells #[.string ⟨#[110, 111, 110, 101]⟩, .int .i64 0, .int .i64 0, .int .i64 0, .string ⟨#[104, 111, 108, 101]⟩, .int .i64 48, .int .i64 8, .int .i64 32, .string ⟨#[110, 111, 116, 104, 105, 110, 103]⟩, .int .i64 104, .int .i64 100, .int .i64 0, .string ⟨#[112, 114, 105, 118]⟩, .int .i64 48, .int .i64 8, .int .i64 1, .string ⟨#[113, 117, 105, 101, 116]⟩, .int .i64 48, .int .i64 8, .int .i64 2, .string ⟨#[119, 114, 105, 116, 101]⟩, .int .i64 108, .int .i64 108, .int .i64 0, .string ⟨#[101, 120, 101, 99]⟩, .int .i64 48, .int .i64 8, .int .i64 16] t frozen
      | o => o }
theorem laid_met (os : Os) : laidMet Tryd.prog Rows.faultRowsRow.laid ((laidWorld os).forCall (fun _ _ => 0) ⟨#[], #[.agg #[.bool false, .bool false, .bool false, .bool false, .bool false, .bool false], .agg #[.int .i64 0, .bool false, .int .u64 0]], []⟩).memory :=
  laidMet_of_run' 8 (by kernel_rfl) (by kernel_rfl)
theorem reads (os : Os) {H : Type} (enc : TypeId × Value → H) : ∃ places, DataW.whole enc Tryd.prog ((laidWorld os).forCall (fun _ _ => 0) ⟨#[], #[.agg #[.bool false, .bool false, .bool false, .bool false, .bool false, .bool false], .agg #[.int .i64 0, .bool false, .int .u64 0]], []⟩).memory Tryd.f7.params.toList Rows.faultRowsSpec.vars false (#[.agg #[.bool false, .bool false, .bool false, .bool false, .bool false, .bool false], .agg #[.int .i64 0, .bool false, .int .u64 0]] : Array Value).toList 8 = some ([.agg [.lit (.bool false), .lit (.bool false), .lit (.bool false), .lit (.bool false), .lit (.bool false), .lit (.bool false)], .agg [.lit (.int .i64 0), .lit (.bool false), .lit (.int .u64 0)]], [], places) :=
  ⟨[], by kernel_rfl⟩
set_option maxRecDepth 100000 in
theorem lifted (os : Os) (started : os.Started) (H : Type) (enc : TypeId × Value → H) (F : Stop.Interp) :
    ReturnsInHanded {} Tryd.checked os 7 .any ((OpenSpec.ofChange Rows.faultRowsSpec).preRow enc Tryd.prog Tryd.f7 Rows.faultRowsRow.domain false Rows.faultRowsRow.laid) (((OpenSpec.ofChange Rows.faultRowsSpec).at F).post enc Tryd.prog Tryd.f7 false true false false) := by
  obtain ⟨places, hx⟩ := reads os enc
  refine returnsInHanded_of_row (C := Tryd.checked) (s := OpenSpec.ofChange Rows.faultRowsSpec) own started (by kernel_rfl) Tryd.func7
    (witness_row_at (enc := enc) (C := Tryd.checked) false (laidWorld os) #[.agg #[.bool false, .bool false, .bool false, .bool false, .bool false, .bool false], .agg #[.int .i64 0, .bool false, .int .u64 0]] rfl (by kernel_rfl) (by kernel_rfl) (by kernel_rfl)
      (OpenSpec.preRow_of_cond 8 hx (by kernel_rfl) (fun k hk => by cases hk) (by kernel_rfl) (laid_met os))) ?_
  intro W base args ds gs before hval hW _ _ _ hL _ _
  exact contract H enc W base args ds gs before hval hW hL
theorem said : Rows.FaultRowsSaid :=
  OpenClaim.holds_of_cond 7 Tryd.f7 rfl rfl rfl rfl rfl rfl rfl ⟨rfl, rfl, rfl, rfl, rfl⟩ rfl rfl rfl rfl rfl (by kernel_rfl) Tryd.func7 (by kernel_rfl)
    (of_decide_eq_true (by kernel_rfl)) (by unfold Func.isWrapper; first | (rw [if_pos (by decide +kernel)]; kernel_rfl) | (rw [if_neg (by decide +kernel)]; exact ⟨rfl, rfl⟩))
    (fun os started H enc _ F => by rw [OpenClaim.pre_eq_preRow]; exact lifted os started H enc F)
theorem plain (f : FuncId) (fn : Func) (hf : Tryd.pinned.checked.prog.funcNamed "lookaside/lookasidelaw09.FaultRows" = some f) (hfn : Tryd.pinned.checked.prog.funcs[f]? = some fn) :
    false = Tryd.pinned.checked.prog.looks [] ∧ ∀ (j : Nat) t, fn.params[j]? = some t → Tryd.pinned.checked.prog.wantsStandIn t = false := by
  obtain rfl : f = 7 := Option.some.inj ((show Tryd.prog.funcNamed "lookaside/lookasidelaw09.FaultRows" = some 7 by kernel_rfl).symm.trans hf) |>.symm
  obtain rfl : fn = Tryd.f7 := (Option.some.inj (Tryd.func7.symm.trans hfn)).symm
  refine ⟨by kernel_rfl, fun j t ht => ?_⟩
  rw [Tryd.params7] at ht
  have hm : t ∈ [23, 28] := by simpa using Array.mem_of_getElem? ht
  have hall : ([23, 28].all fun u => !Tryd.prog.wantsStandIn u) = true := by kernel_rfl
  exact (show Tryd.prog.wantsStandIn t = false by simpa using List.all_eq_true.1 hall t hm)
theorem proved : Rows.FaultRowsCardSaid :=
  Claim7.holds_tied_plain_at .later [] _ _ _ _ said (fun _ h => by cases h) (by kernel_rfl) (fun _ h => by cases h) faultRows_row_tie rfl ⟨rfl, rfl⟩ (by kernel_rfl) rfl plain (by kernel_rfl)
#print axioms proved
end Go.Proofs.YtfkbloclogeacaaDoor.faultRows
