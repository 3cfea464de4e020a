/-
  FaultTells: for all two numbers and accesses the law returns true, and its arguments read as before. Conditions: the table of what kinds of faults are called, and told, holds what the program lays (the card ties it).
-/
import Derived.Test.YtfkbloclogeacaaDoorCards
import Derived.Test.YtfkbloclogeacaaDoorTie
import Derived.WalkKit
import Derived.ProofKit
import Derived.OpenShut
import Derived.Deep.DeepHandedRow
import Derived.Test.YtfkbloclogeacaaDoorJKeep
import Derived.Deep.DeepCutAuto
import Derived.Deep.RegionHeld3
import Derived.Deep.LoopGhost
import Derived.Test.YtfkbloclogeacaaDoorJOpen
namespace Go.Proofs.YtfkbloclogeacaaDoor.faultTells
open Fld Jd
open Go.ChangeShapes Go.WideShapes Go.ChangeAt Go.RowKit Go.Deep
set_option linter.unusedVariables false

theorem own : ownKnob Tryd.prog.godebug = none := by kernel_rfl

structure TabS (w : World) : Prop where
  out : Tab w
/-- The access, and four numbers. -/
abbrev LX (x : Acc) (p q r s : Int) : List (Array Value × TypeId) := [cX x, (#[.int .i64 p, .int .i64 q, .int .i64 r, .int .i64 s], 3)]
theorem four_at {w wr : World} {n : Nat} {x : Acc} {p q r s : Int} {b : Nat} (hb : n + 1 = b) (k : Nat) (hk : k < 4) : ∃ v : Int, ∀ wr, Blk w wr n (LX x p q r s) → wr.cell? ⟨b, k, none⟩ = some (.int .i64 v) := by
  subst hb
  have : k = 0 ∨ k = 1 ∨ k = 2 ∨ k = 3 := by omega
  rcases this with rfl | rfl | rfl | rfl
  · exact ⟨p, fun wr h => cell_of_row _ _ 0 _ _ _ (h.row 1 _ rfl)⟩
  · exact ⟨q, fun wr h => cell_of_row _ _ 1 _ _ _ (h.row 1 _ rfl)⟩
  · exact ⟨r, fun wr h => cell_of_row _ _ 2 _ _ _ (h.row 1 _ rfl)⟩
  · exact ⟨s, fun wr h => cell_of_row _ _ 3 _ _ _ (h.row 1 _ rfl)⟩
theorem tells {w wr : World} {n : Nat} {x : Acc} {p q r s : Int} (h : Blk w wr n (LX x p q r s)) (hT : Tab w) : TabS wr ∧ wr.cell? ⟨n, 0, none⟩ = some (.int .i64 x.kind) ∧ wr.cell? ⟨n, 1, none⟩ = some (.bool x.priv) ∧ wr.cell? ⟨n, 2, none⟩ = some (.int .u64 x.va) := by
  obtain ⟨x0, x1, x2⟩ := h.acc 0 (b := n) rfl (x := x) rfl
  exact ⟨⟨h.tab hT⟩, x0, x1, x2⟩
/-! ### The walk -/
set_option maxHeartbeats 8000000 in
set_option maxRecDepth 100000 in
theorem walk (w : World) (hT : Tab w) (a0 : Int) (w0 : (Lit.int .i64 a0).wf = true) (a1 : Int) (w1 : (Lit.int .i64 a1).wf = true) (X2 : Acc) (m2 : X2.lits) :
    Calls Tryd.prog 4 #[.int .i64 a0, .int .i64 a1, .agg #[.int .i64 X2.kind, .bool X2.priv, .int .u64 X2.va]] w fun e w' => e = .returned (.bool true) ∧ Below w.heap.size w w' := by
  obtain ⟨K1, s1⟩ := (Blk.nil (Below.refl w.heap.size w) w.heap.size).push (cX X2).1 (cX X2).2 (by simp)
  obtain ⟨K2, s2⟩ := K1.push #[.int .i64 a0, .int .i64 a1, .int .i64 (a0.tmod 7), .int .i64 (a1.tmod 7)] 3 s1
  have K := Lib.hid K2
  clear K1 K2 s1 s2 m2
  have CL := Lib.hid (fun W (hW : Tab W) => jlives_any W hW)
  have HTT := Lib.hid hT
  clear hT w0 w1
  go_enter Tryd.func4, Tryd.ntmps4
  go_wp2_with fail
  have K0 : Blk w ((w.alloc (.cells #[.int .i64 X2.kind, .bool X2.priv, .int .u64 X2.va] 28)).alloc (.cells #[.int .i64 a0, .int .i64 a1, .int .i64 (a0.tmod 7), .int .i64 (a1.tmod 7)] 3)) w.heap.size (LX X2 a0 a1 (a0.tmod 7) (a1.tmod 7)) := K.out
  clear K
  generalize World.alloc (World.alloc w _) _ = W0 at K0 ⊢
  generalize a0.tmod 7 = r at *
  generalize a1.tmod 7 = q at *
  obtain ⟨bS, hbS⟩ : ∃ b, w.heap.size + 1 = b := ⟨_, rfl⟩
  rw [hbS]
  have HB := Lib.hid hbS
  clear hbS
  go_loopg [8] 4 (fun gk i wr => ∃ k : Nat, k + gk = 4 ∧ i = .int .i64 (k : Int) ∧ Blk w wr w.heap.size (LX X2 a0 a1 r q))
  case atStart => exact ⟨0, rfl, rfl, K0⟩
  case round =>
    clear K0
    obtain ⟨k, hk, rfl, K1⟩ := hrel
    have hk0 : (0 : Int) ≤ (k : Int) := by omega
    by_cases hlt : k < 4
    · have hlt' : (k : Int) < 4 := by omega
      have hAd : (⟨bS, 0, none⟩ : Addr).add k = ⟨bS, k, none⟩ := by unfold Addr.add; split <;> simp_all
      obtain ⟨v, hv⟩ := four_at (w := w) (wr := w) (n := w.heap.size) (x := X2) (p := a0) (q := a1) (r := r) (s := q) HB.out k hlt
      have HV := Lib.hid hv
      clear hv
      have c0 := HV.out wr K1
      have C1 := Lib.hid (fun W (hW : TabS W) => trap_any v X2 W hW.out)
      have C2 := Lib.hid (fun W => rtrap_any v X2 W)
      have C3 := Lib.hid (fun W (hW : TabS W) => type_any v W hW.out)
      have C4 := Lib.hid (fun W => rtype_any v W)
      have C5 := Lib.hid (fun W (hW : TabS W) => show_any v W hW.out)
      have C6 := Lib.hid (fun W => rshow_any v W)
      generalize trapI v X2.kind = V1 at *
      generalize typeI v = V2 at *
      generalize showS v = V3 at *
      have hcs := tells K1 HTT.out
      go_wp2_with fail
      go_cut [46] (fun t wx => t = .bool false ∧ Blk w wx w.heap.size (LX X2 a0 a1 r q))
      case first =>
        go_region_held3 (fun w1 => TabS w1 ∧ w1.cell? ⟨w.heap.size, 0, none⟩ = some (.int .i64 X2.kind) ∧ w1.cell? ⟨w.heap.size, 1, none⟩ = some (.bool X2.priv) ∧ w1.cell? ⟨w.heap.size, 2, none⟩ = some (.int .u64 X2.va)) ((refine tells (w := w) (x := X2) (p := a0) (q := a1) (r := r) (s := q) ?_ HTT.out; (repeat (first | (with_reducible assumption) | (with_reducible refine Blk.drew ?_) | (with_reducible refine Blk.drewN ?_ _) | (with_reducible refine Blk.alloc ?_ _) | (with_reducible refine Blk.call ?_ (by assumption))))))
          (first
            | (go_at_call 16; (with_reducible refine (C1.out _ (And.left (by assumption))).mono ?_); rintro r w' ⟨rfl, hb⟩)
            | (go_at_call 17; (with_reducible refine (C2.out _).mono ?_); rintro r w' ⟨rfl, hb⟩)
            | (go_at_call 18; (with_reducible refine (C3.out _ (And.left (by assumption))).mono ?_); rintro r w' ⟨rfl, hb⟩)
            | (go_at_call 19; (with_reducible refine (C4.out _).mono ?_); rintro r w' ⟨rfl, hb⟩)
            | (go_at_call 20; (with_reducible refine (C5.out _ (And.left (by assumption))).mono ?_); rintro r w' ⟨rfl, hb⟩)
            | (go_at_call 21; (with_reducible refine (C6.out _).mono ?_); rintro r w' ⟨rfl, hb⟩))
        all_goals
          go_wp2_with fail
          go_meet
          refine ⟨rfl, ?_⟩ <;> (repeat (first | (with_reducible assumption) | (with_reducible refine Blk.drew ?_) | (with_reducible refine Blk.drewN ?_ _) | (with_reducible refine Blk.alloc ?_ _) | (with_reducible refine Blk.call ?_ (by assumption))))
      case rest =>
        obtain ⟨rfl, K2⟩ := hcut
        clear K1 hcs c0 C1 C2 C3 C4 C5 C6
        go_wp2_with fail
        go_loopg [10] 4 (fun gj i wx => ∃ j : Nat, j + gj = 4 ∧ i = .int .i64 (j : Int) ∧ Blk w wx w.heap.size (LX X2 a0 a1 r q))
        case atStart => exact ⟨0, rfl, rfl, K2⟩
        case round =>
          clear K2
          obtain ⟨j, hj, rfl, K3⟩ := hrel
          have hj0 : (0 : Int) ≤ (j : Int) := by omega
          by_cases hjt : j < 4
          · have hjt' : (j : Int) < 4 := by omega
            have hAj : (⟨bS, 0, none⟩ : Addr).add j = ⟨bS, j, none⟩ := by unfold Addr.add; split <;> simp_all
            obtain ⟨y, hy⟩ := four_at (w := w) (wr := w) (n := w.heap.size) (x := X2) (p := a0) (q := a1) (r := r) (s := q) HB.out j hjt
            have HY := Lib.hid hy
            clear hy
            have c0 := HY.out _ K3
            have C7 := Lib.hid (fun W => worse_any v y W)
            have C8 := Lib.hid (fun W => rworse_any v y W)
            generalize worseI v y = V4 at *
            go_wp2_with fail
            go_cut [63] (fun t wx => t = .bool false ∧ Blk w wx w.heap.size (LX X2 a0 a1 r q))
            case first =>
              go_region_held3 (fun w1 => w1.cell? ⟨bS, j, none⟩ = some (.int .i64 y)) ((refine HY.out _ ?_; (repeat (first | (with_reducible assumption) | (with_reducible refine Blk.drew ?_) | (with_reducible refine Blk.drewN ?_ _) | (with_reducible refine Blk.alloc ?_ _) | (with_reducible refine Blk.call ?_ (by assumption))))))
                (first
                  | (go_at_call 22; (with_reducible refine (C7.out _).mono ?_); rintro r w' ⟨rfl, rfl⟩)
                  | (go_at_call 23; (with_reducible refine (C8.out _).mono ?_); rintro r w' ⟨rfl, rfl⟩))
              all_goals
                go_wp2_with fail
                go_meet
                refine ⟨rfl, ?_⟩ <;> (repeat (first | (with_reducible assumption) | (with_reducible refine Blk.drew ?_) | (with_reducible refine Blk.drewN ?_ _) | (with_reducible refine Blk.alloc ?_ _) | (with_reducible refine Blk.call ?_ (by assumption))))
            case rest =>
              obtain ⟨rfl, K4⟩ := hcut
              clear K3 c0
              go_wp2_with fail
              go_roundg (4 - j - 1)
              case measure => omega
              case rel => exact ⟨j + 1, by omega, by go_num, K4⟩
          · obtain rfl : j = 4 := by omega
            go_wp2_with fail
            go_roundg (4 - k - 1)
            case measure => omega
            case rel => exact ⟨k + 1, by omega, by go_num, K3⟩
    · obtain rfl : k = 4 := by omega
      go_wp2_with fail
      refine (CL.out _ (K1.tab HTT.out)).mono ?_; rintro r w9 ⟨rfl, hb⟩
      go_wp2_with fail
      go_ret
      exact ⟨rfl, (K1.call hb).below⟩

/-! ### The row -/
theorem contract (H : Type) (enc : TypeId × Value → H) (W : World) (base : Nat) (args : Array Value) (ds gs : List (DataW H)) (before : List MemPlace)
    (hval : ∀ (j : Nat) t v, Tryd.f4.params[j]? = some t → args[j]? = some v → Value.okWide Tryd.prog W .any base t v)
    (hW : DataW.Whole enc Tryd.prog Tryd.f4.params.toList Rows.faultTellsSpec.vars false W args.toList ds gs before) (hL : laidMetH Tryd.prog Rows.faultTellsRow.laid W) :
    Calls Tryd.prog 4 args W fun e W' => ∃ v, e = .returned v ∧ Rows.faultTellsSpec.post enc Tryd.prog Tryd.f4 false true false false W args v W' := by
  have hW' := hW
  obtain ⟨p, q, hA0, hV, rfl, hfz, hnd⟩ := hW
  have hA : DataW.TrodAll enc Tryd.prog W 0 (fun _ => true) true Tryd.f4.params.toList args.toList ds p := hA0
  rw [Tryd.params4] at hA hval
  obtain ⟨v0, vs0, d0, ds0, p0, q0, hargs, rfl, rfl, h0, r0⟩ := trodAll_cons hA
  obtain ⟨v1, vs1, d1, ds1, p1, q1, rfl, rfl, rfl, h1, r1⟩ := trodAll_cons r0
  obtain ⟨v2, vs2, d2, ds2, p2, q2, rfl, rfl, rfl, h2, r2⟩ := trodAll_cons r1
  obtain ⟨rfl, rfl, rfl⟩ := trodAll_nil r2
  obtain rfl : args = #[v0, v1, v2] := by cases args; simp_all
  obtain ⟨rfl, rfl⟩ := trodVars_none hV
  obtain ⟨a0, rfl, rfl, rfl, w0⟩ := open_int Tryd.underlying3 (hval 0 3 v0 rfl rfl) h0
  obtain ⟨a1, rfl, rfl, rfl, w1⟩ := open_int Tryd.underlying3 (hval 1 3 v1 rfl rfl) h1
  obtain ⟨X2, rfl, rfl, rfl, m2⟩ := open_acc (hval 2 28 v2 rfl rfl) h2
  clear hA0
  simp only [List.append_nil] at hW'
  refine (walk W (tab_of hL) a0 w0 a1 w1 X2 m2).mono fun e W' ⟨he, hg⟩ => ?_
  subst he
  exact ⟨_, rfl, _, _, _, [], _, [], hW', trodAll_mk1 (shut_bool Tryd.underlying4 _), (trodAll_cons_mk (shut_int Tryd.underlying3 w0) (trodAll_cons_mk (shut_int Tryd.underlying3 w1) (trodAll_cons_mk (shut_acc m2) trodAll_mk0))), rfl, hg.frame _, fun h => by cases h⟩

/-- A world for the witness: the settled one, the table holding what its initialiser lays. -/
noncomputable def laidWorld (os : Os) : World :=
  { World.holding Tryd.prog os ⟨#[], #[], []⟩ with heap := (World.holding Tryd.prog os ⟨#[], #[], []⟩).heap.modify 0 fun
      | .cells _ t frozen => .cells #[.string ⟨#[110, 111, 110, 101]⟩, .int .i64 0, .int .i64 0, .int .i64 0, .string ⟨#[104, 111, 108, 101]⟩, .int .i64 48, .int .i64 8, .int .i64 32, .string ⟨#[110, 111, 116, 104, 105, 110, 103]⟩, .int .i64 104, .int .i64 100, .int .i64 0, .string ⟨#[112, 114, 105, 118]⟩, .int .i64 48, .int .i64 8, .int .i64 1, .string ⟨#[113, 117, 105, 101, 116]⟩, .int .i64 48, .int .i64 8, .int .i64 2, .string ⟨#[119, 114, 105, 116, 101]⟩, .int .i64 108, .int .i64 108, .int .i64 0, .string ⟨#[101, 120, 101, 99]⟩, .int .i64 48, .int .i64 8, .int .i64 16] t frozen
      | o => o }
theorem laid_met (os : Os) : laidMet Tryd.prog Rows.faultTellsRow.laid ((laidWorld os).forCall (fun _ _ => 0) ⟨#[], #[.int .i64 0, .int .i64 0, .agg #[.int .i64 0, .bool false, .int .u64 0]], []⟩).memory :=
  laidMet_of_run' 8 (by kernel_rfl) (by kernel_rfl)
theorem reads (os : Os) {H : Type} (enc : TypeId × Value → H) : ∃ places, DataW.whole enc Tryd.prog ((laidWorld os).forCall (fun _ _ => 0) ⟨#[], #[.int .i64 0, .int .i64 0, .agg #[.int .i64 0, .bool false, .int .u64 0]], []⟩).memory Tryd.f4.params.toList Rows.faultTellsSpec.vars false (#[.int .i64 0, .int .i64 0, .agg #[.int .i64 0, .bool false, .int .u64 0]] : Array Value).toList 8 = some ([.lit (.int .i64 0), .lit (.int .i64 0), .agg [.lit (.int .i64 0), .lit (.bool false), .lit (.int .u64 0)]], [], places) :=
  ⟨[], by kernel_rfl⟩
set_option maxRecDepth 100000 in
theorem lifted (os : Os) (started : os.Started) (H : Type) (enc : TypeId × Value → H) (F : Stop.Interp) :
    ReturnsInHanded {} Tryd.checked os 4 .any ((OpenSpec.ofChange Rows.faultTellsSpec).preRow enc Tryd.prog Tryd.f4 Rows.faultTellsRow.domain false Rows.faultTellsRow.laid) (((OpenSpec.ofChange Rows.faultTellsSpec).at F).post enc Tryd.prog Tryd.f4 false true false false) := by
  obtain ⟨places, hx⟩ := reads os enc
  refine returnsInHanded_of_row (C := Tryd.checked) (s := OpenSpec.ofChange Rows.faultTellsSpec) own started (by kernel_rfl) Tryd.func4
    (witness_row_at (enc := enc) (C := Tryd.checked) false (laidWorld os) #[.int .i64 0, .int .i64 0, .agg #[.int .i64 0, .bool false, .int .u64 0]] rfl (by kernel_rfl) (by kernel_rfl) (by kernel_rfl)
      (OpenSpec.preRow_of_cond 8 hx (by kernel_rfl) (fun k hk => by cases hk) (by kernel_rfl) (laid_met os))) ?_
  intro W base args ds gs before hval hW _ _ _ hL _ _
  exact contract H enc W base args ds gs before hval hW hL
theorem said : Rows.FaultTellsSaid :=
  OpenClaim.holds_of_cond 4 Tryd.f4 rfl rfl rfl rfl rfl rfl rfl ⟨rfl, rfl, rfl, rfl, rfl⟩ rfl rfl rfl rfl rfl (by kernel_rfl) Tryd.func4 (by kernel_rfl)
    (of_decide_eq_true (by kernel_rfl)) (by unfold Func.isWrapper; first | (rw [if_pos (by decide +kernel)]; kernel_rfl) | (rw [if_neg (by decide +kernel)]; exact ⟨rfl, rfl⟩))
    (fun os started H enc _ F => by rw [OpenClaim.pre_eq_preRow]; exact lifted os started H enc F)
theorem plain (f : FuncId) (fn : Func) (hf : Tryd.pinned.checked.prog.funcNamed "lookaside/lookasidelaw09.FaultTells" = some f) (hfn : Tryd.pinned.checked.prog.funcs[f]? = some fn) :
    false = Tryd.pinned.checked.prog.looks [] ∧ ∀ (j : Nat) t, fn.params[j]? = some t → Tryd.pinned.checked.prog.wantsStandIn t = false := by
  obtain rfl : f = 4 := Option.some.inj ((show Tryd.prog.funcNamed "lookaside/lookasidelaw09.FaultTells" = some 4 by kernel_rfl).symm.trans hf) |>.symm
  obtain rfl : fn = Tryd.f4 := (Option.some.inj (Tryd.func4.symm.trans hfn)).symm
  refine ⟨by kernel_rfl, fun j t ht => ?_⟩
  rw [Tryd.params4] at ht
  have hm : t ∈ [3, 3, 28] := by simpa using Array.mem_of_getElem? ht
  have hall : ([3, 3, 28].all fun u => !Tryd.prog.wantsStandIn u) = true := by kernel_rfl
  exact (show Tryd.prog.wantsStandIn t = false by simpa using List.all_eq_true.1 hall t hm)
theorem proved : Rows.FaultTellsCardSaid :=
  Claim7.holds_tied_plain_at .later [] _ _ _ _ said (fun _ h => by cases h) (by kernel_rfl) (fun _ h => by cases h) faultTells_row_tie rfl ⟨rfl, rfl⟩ (by kernel_rfl) rfl plain (by kernel_rfl)
#print axioms proved
end Go.Proofs.YtfkbloclogeacaaDoor.faultTells
