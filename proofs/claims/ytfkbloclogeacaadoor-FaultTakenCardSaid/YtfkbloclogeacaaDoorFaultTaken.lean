/-
  FaultTaken: for all attributes the law returns true, and its argument reads as before. Conditions: the table of what kinds of faults are called, and told, holds what the program lays (the card ties it).
-/
import Derived.Test.YtfkbloclogeacaaDoorCards
import Derived.Test.YtfkbloclogeacaaDoorTie
import Derived.WalkKit
import Derived.ProofKit
import Derived.OpenShut
import Derived.Deep.DeepHandedRow
import Derived.Test.YtfkbloclogeacaaDoorJKeep
import Derived.Test.YtfkbloclogeacaaDoorJOpen
namespace Go.Proofs.YtfkbloclogeacaaDoor.faultTaken
open Fld Jd
open Go.ChangeShapes Go.WideShapes Go.ChangeAt Go.RowKit Go.Deep
set_option linter.unusedVariables false

theorem own : ownKnob Tryd.prog.godebug = none := by kernel_rfl

/-! ### The walk -/
set_option maxHeartbeats 4000000 in
set_option maxRecDepth 100000 in
theorem walk (w : World) (hT : Tab w) (A0 : Att) :
    Calls Tryd.prog 6 #[.agg #[.bool A0.write, .bool A0.priv, .bool A0.exec, .bool A0.lock, .bool A0.global, .bool A0.quiet]] w fun e w' => e = .returned (.bool true) ∧ Below w.heap.size w w' := by
  obtain ⟨a, ha⟩ : ∃ a, a = A0 := ⟨_, rfl⟩
  subst ha
  have Cw := Lib.hid (fun W => less_true (taken_write a) W)
  have Ce := Lib.hid (fun W => less_true (taken_exec a) W)
  have Cp := Lib.hid (fun W => less_true (taken_priv a) W)
  have Cq := Lib.hid (fun W => less_true (taken_quiet a) W)
  have Cg := Lib.hid (fun W => less_true (taken_none a (!a.lock) (!a.global)).1 W)
  have Ch := Lib.hid (fun W => less_true (taken_none a (!a.lock) (!a.global)).2 W)
  have CL := Lib.hid (fun W (hW : Tab W) => jlives_any W hW)
  obtain ⟨K1, s1⟩ := (Blk.nil (Below.refl w.heap.size w) w.heap.size).push (cA a).1 (cA a).2 (by simp)
  obtain ⟨K2, s2⟩ := K1.push (cA ⟨false, a.priv, a.exec, a.lock, a.global, a.quiet⟩).1 (cA a).2 s1
  obtain ⟨K3, s3⟩ := K2.push (cA ⟨a.write, a.priv, false, a.lock, a.global, a.quiet⟩).1 (cA a).2 s2
  obtain ⟨K4, s4⟩ := K3.push (cA ⟨a.write, true, a.exec, a.lock, a.global, a.quiet⟩).1 (cA a).2 s3
  obtain ⟨K5, s5⟩ := K4.push (cA ⟨a.write, a.priv, a.exec, a.lock, a.global, true⟩).1 (cA a).2 s4
  obtain ⟨K6, s6⟩ := K5.push (cA ⟨a.write, a.priv, a.exec, !a.lock, !a.global, a.quiet⟩).1 (cA a).2 s5
  have K := Lib.hid K6
  clear K1 K2 K3 K4 K5 K6 s1 s2 s3 s4 s5 s6
  go_enter Tryd.func6, Tryd.ntmps6
  go_wp2_with fail
  refine (Cw.out _).mono ?_; rintro r w1 ⟨rfl, hb⟩
  have L1 := K.out.call hb
  clear hb
  obtain ⟨a0, a1, a2, a3, a4, a5⟩ := L1.att 0 (b := w.heap.size) rfl (a := a) rfl
  obtain ⟨b0, b1, b2, b3, b4, b5⟩ := L1.att 2 (b := w.heap.size + 1 + 1) rfl (a := ⟨a.write, a.priv, false, a.lock, a.global, a.quiet⟩) rfl
  go_wp2_with fail
  refine (Ce.out _).mono ?_; rintro r w2 ⟨rfl, hb⟩
  have L2 := L1.call hb
  clear hb a0 a1 a2 a3 a4 a5 b0 b1 b2 b3 b4 b5 L1
  obtain ⟨a0, a1, a2, a3, a4, a5⟩ := L2.att 0 (b := w.heap.size) rfl (a := a) rfl
  obtain ⟨b0, b1, b2, b3, b4, b5⟩ := L2.att 3 (b := w.heap.size + 1 + 1 + 1) rfl (a := ⟨a.write, true, a.exec, a.lock, a.global, a.quiet⟩) rfl
  go_wp2_with fail
  refine (Cp.out _).mono ?_; rintro r w3 ⟨rfl, hb⟩
  have L3 := L2.call hb
  clear hb a0 a1 a2 a3 a4 a5 b0 b1 b2 b3 b4 b5 L2
  obtain ⟨a0, a1, a2, a3, a4, a5⟩ := L3.att 0 (b := w.heap.size) rfl (a := a) rfl
  obtain ⟨b0, b1, b2, b3, b4, b5⟩ := L3.att 4 (b := w.heap.size + 1 + 1 + 1 + 1) rfl (a := ⟨a.write, a.priv, a.exec, a.lock, a.global, true⟩) rfl
  go_wp2_with fail
  refine (Cq.out _).mono ?_; rintro r w4 ⟨rfl, hb⟩
  have L4 := L3.call hb
  clear hb a0 a1 a2 a3 a4 a5 b0 b1 b2 b3 b4 b5 L3
  obtain ⟨a0, a1, a2, a3, a4, a5⟩ := L4.att 0 (b := w.heap.size) rfl (a := a) rfl
  obtain ⟨b0, b1, b2, b3, b4, b5⟩ := L4.att 5 (b := w.heap.size + 1 + 1 + 1 + 1 + 1) rfl (a := ⟨a.write, a.priv, a.exec, !a.lock, !a.global, a.quiet⟩) rfl
  go_wp2_with fail
  refine (Cg.out _).mono ?_; rintro r w5 ⟨rfl, hb⟩
  have L5 := L4.call hb
  clear hb a0 a1 a2 a3 a4 a5 b0 b1 b2 b3 b4 b5 L4
  obtain ⟨a0, a1, a2, a3, a4, a5⟩ := L5.att 0 (b := w.heap.size) rfl (a := a) rfl
  obtain ⟨b0, b1, b2, b3, b4, b5⟩ := L5.att 5 (b := w.heap.size + 1 + 1 + 1 + 1 + 1) rfl (a := ⟨a.write, a.priv, a.exec, !a.lock, !a.global, a.quiet⟩) rfl
  go_wp2_with fail
  refine (Ch.out _).mono ?_; rintro r w6 ⟨rfl, hb⟩
  have L6 := L5.call hb
  clear hb a0 a1 a2 a3 a4 a5 b0 b1 b2 b3 b4 b5 L5
  go_wp2_with fail
  refine (CL.out _ (L6.tab hT)).mono ?_; rintro r w7 ⟨rfl, hb⟩
  go_wp2_with fail
  go_ret
  exact ⟨rfl, (L6.call hb).below⟩

/-! ### The row -/
theorem contract (H : Type) (enc : TypeId × Value → H) (W : World) (base : Nat) (args : Array Value) (ds gs : List (DataW H)) (before : List MemPlace)
    (hval : ∀ (j : Nat) t v, Tryd.f6.params[j]? = some t → args[j]? = some v → Value.okWide Tryd.prog W .any base t v)
    (hW : DataW.Whole enc Tryd.prog Tryd.f6.params.toList Rows.faultTakenSpec.vars false W args.toList ds gs before) (hL : laidMetH Tryd.prog Rows.faultTakenRow.laid W) :
    Calls Tryd.prog 6 args W fun e W' => ∃ v, e = .returned v ∧ Rows.faultTakenSpec.post enc Tryd.prog Tryd.f6 false true false false W args v W' := by
  have hW' := hW
  obtain ⟨p, q, hA0, hV, rfl, hfz, hnd⟩ := hW
  have hA : DataW.TrodAll enc Tryd.prog W 0 (fun _ => true) true Tryd.f6.params.toList args.toList ds p := hA0
  rw [Tryd.params6] at hA hval
  obtain ⟨v0, vs0, d0, ds0, p0, q0, hargs, rfl, rfl, h0, r0⟩ := trodAll_cons hA
  obtain ⟨rfl, rfl, rfl⟩ := trodAll_nil r0
  obtain rfl : args = #[v0] := by cases args; simp_all
  obtain ⟨rfl, rfl⟩ := trodVars_none hV
  obtain ⟨A0, rfl, rfl, rfl⟩ := open_attr (hval 0 23 v0 rfl rfl) h0
  clear hA0
  simp only [List.append_nil] at hW'
  refine (walk W (tab_of hL) A0).mono fun e W' ⟨he, hg⟩ => ?_
  subst he
  exact ⟨_, rfl, _, _, _, [], _, [], hW', trodAll_mk1 (shut_bool Tryd.underlying4 _), (trodAll_cons_mk (shut_attr A0) trodAll_mk0), rfl, hg.frame _, fun h => by cases h⟩

/-- A world for the witness: the settled one, the table holding what its initialiser lays. -/
noncomputable def laidWorld (os : Os) : World :=
  { World.holding Tryd.prog os ⟨#[], #[], []⟩ with heap := (World.holding Tryd.prog os ⟨#[], #[], []⟩).heap.modify 0 fun
      | .cells _ t frozen => .cells #[.string ⟨#[110, 111, 110, 101]⟩, .int .i64 0, .int .i64 0, .int .i64 0, .string ⟨#[104, 111, 108, 101]⟩, .int .i64 48, .int .i64 8, .int .i64 32, .string ⟨#[110, 111, 116, 104, 105, 110, 103]⟩, .int .i64 104, .int .i64 100, .int .i64 0, .string ⟨#[112, 114, 105, 118]⟩, .int .i64 48, .int .i64 8, .int .i64 1, .string ⟨#[113, 117, 105, 101, 116]⟩, .int .i64 48, .int .i64 8, .int .i64 2, .string ⟨#[119, 114, 105, 116, 101]⟩, .int .i64 108, .int .i64 108, .int .i64 0, .string ⟨#[101, 120, 101, 99]⟩, .int .i64 48, .int .i64 8, .int .i64 16] t frozen
      | o => o }
theorem laid_met (os : Os) : laidMet Tryd.prog Rows.faultTakenRow.laid ((laidWorld os).forCall (fun _ _ => 0) ⟨#[], #[.agg #[.bool false, .bool false, .bool false, .bool false, .bool false, .bool false]], []⟩).memory :=
  laidMet_of_run' 8 (by kernel_rfl) (by kernel_rfl)
theorem reads (os : Os) {H : Type} (enc : TypeId × Value → H) : ∃ places, DataW.whole enc Tryd.prog ((laidWorld os).forCall (fun _ _ => 0) ⟨#[], #[.agg #[.bool false, .bool false, .bool false, .bool false, .bool false, .bool false]], []⟩).memory Tryd.f6.params.toList Rows.faultTakenSpec.vars false (#[.agg #[.bool false, .bool false, .bool false, .bool false, .bool false, .bool false]] : Array Value).toList 8 = some ([.agg [.lit (.bool false), .lit (.bool false), .lit (.bool false), .lit (.bool false), .lit (.bool false), .lit (.bool false)]], [], places) :=
  ⟨[], by kernel_rfl⟩
set_option maxRecDepth 100000 in
theorem lifted (os : Os) (started : os.Started) (H : Type) (enc : TypeId × Value → H) (F : Stop.Interp) :
    ReturnsInHanded {} Tryd.checked os 6 .any ((OpenSpec.ofChange Rows.faultTakenSpec).preRow enc Tryd.prog Tryd.f6 Rows.faultTakenRow.domain false Rows.faultTakenRow.laid) (((OpenSpec.ofChange Rows.faultTakenSpec).at F).post enc Tryd.prog Tryd.f6 false true false false) := by
  obtain ⟨places, hx⟩ := reads os enc
  refine returnsInHanded_of_row (C := Tryd.checked) (s := OpenSpec.ofChange Rows.faultTakenSpec) own started (by kernel_rfl) Tryd.func6
    (witness_row_at (enc := enc) (C := Tryd.checked) false (laidWorld os) #[.agg #[.bool false, .bool false, .bool false, .bool false, .bool false, .bool false]] rfl (by kernel_rfl) (by kernel_rfl) (by kernel_rfl)
      (OpenSpec.preRow_of_cond 8 hx (by kernel_rfl) (fun k hk => by cases hk) (by kernel_rfl) (laid_met os))) ?_
  intro W base args ds gs before hval hW _ _ _ hL _ _
  exact contract H enc W base args ds gs before hval hW hL
theorem said : Rows.FaultTakenSaid :=
  OpenClaim.holds_of_cond 6 Tryd.f6 rfl rfl rfl rfl rfl rfl rfl ⟨rfl, rfl, rfl, rfl, rfl⟩ rfl rfl rfl rfl rfl (by kernel_rfl) Tryd.func6 (by kernel_rfl)
    (of_decide_eq_true (by kernel_rfl)) (by unfold Func.isWrapper; first | (rw [if_pos (by decide +kernel)]; kernel_rfl) | (rw [if_neg (by decide +kernel)]; exact ⟨rfl, rfl⟩))
    (fun os started H enc _ F => by rw [OpenClaim.pre_eq_preRow]; exact lifted os started H enc F)
theorem plain (f : FuncId) (fn : Func) (hf : Tryd.pinned.checked.prog.funcNamed "lookaside/lookasidelaw09.FaultTaken" = some f) (hfn : Tryd.pinned.checked.prog.funcs[f]? = some fn) :
    false = Tryd.pinned.checked.prog.looks [] ∧ ∀ (j : Nat) t, fn.params[j]? = some t → Tryd.pinned.checked.prog.wantsStandIn t = false := by
  obtain rfl : f = 6 := Option.some.inj ((show Tryd.prog.funcNamed "lookaside/lookasidelaw09.FaultTaken" = some 6 by kernel_rfl).symm.trans hf) |>.symm
  obtain rfl : fn = Tryd.f6 := (Option.some.inj (Tryd.func6.symm.trans hfn)).symm
  refine ⟨by kernel_rfl, fun j t ht => ?_⟩
  rw [Tryd.params6] at ht
  have hm : t ∈ [23] := by simpa using Array.mem_of_getElem? ht
  have hall : ([23].all fun u => !Tryd.prog.wantsStandIn u) = true := by kernel_rfl
  exact (show Tryd.prog.wantsStandIn t = false by simpa using List.all_eq_true.1 hall t hm)
theorem proved : Rows.FaultTakenCardSaid :=
  Claim7.holds_tied_plain_at .later [] _ _ _ _ said (fun _ h => by cases h) (by kernel_rfl) (fun _ h => by cases h) faultTaken_row_tie rfl ⟨rfl, rfl⟩ (by kernel_rfl) rfl plain (by kernel_rfl)
#print axioms proved
end Go.Proofs.YtfkbloclogeacaaDoor.faultTaken
