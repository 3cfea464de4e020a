/-
  RegsTwice: for any two types and spaces, addresses and a store or not the law returns true, and its arguments read as before. Conditions: the table of what registers are like holds what the program lays (the card ties it).
-/
import Derived.Test.YtohcmijgakijfaaDoorCards
import Derived.Test.YtohcmijgakijfaaDoorTie
import Derived.WalkKit
import Derived.ProofKit
import Derived.OpenShut
import Derived.Deep.DeepHandedRow
import Derived.Test.YtohcmijgakijfaaDoorRLaw
namespace Go.Proofs.YtohcmijgakijfaaDoor.regsTwice
open Fld Rg
open Go.ChangeShapes Go.WideShapes Go.ChangeAt Go.RowKit Go.Deep
set_option linter.unusedVariables false

theorem own : ownKnob Tryd.prog.godebug = none := by kernel_rfl

theorem fau_ok (R : Reg) (k a : Int) (st pr : Bool) (va : Int) (k0 : 0 ≤ k) (k1 : k < 128) (a0 : 0 ≤ a) (a1 : a < 256) : fauE 1 k a = 0 ∧ fauR R 1 k a st pr va = setR (setR R 88 24 (fauI R.sD k a st pr)) 88 32 va := by
  have h : fauE 1 k a = 0 := by unfold fauE; rw [if_pos ⟨rfl, k0, by omega, a0, by omega⟩]
  exact ⟨h, by unfold fauR; rw [h]; rfl⟩
theorem bitI_div (v : Int) (j : Nat) (h : 0 ≤ v) : bitI v (j : Int) = v / 2 ^ j % 2 := by
  rw [← shI_mod]; unfold shI
  obtain ⟨n, rfl⟩ := Int.eq_ofNat_of_zero_le h
  rw [Int.toNat_natCast, Int.natCast_ediv, Int.natCast_pow]; rfl
theorem bit_fau (was k a : Int) (st pr : Bool) (k0 : 0 ≤ k) (a0 : 0 ≤ a) (w0 : 0 ≤ was) :
    bitI (fauI was k a st pr) 0 = 1 ∧ bitI (fauI was k a st pr) 1 = was % 2 ∧ bitI (fauI was k a st pr) 2 = (if st then 1 else 0) ∧ bitI (fauI was k a st pr) 3 = (if pr then 1 else 0) := by
  have hb : 0 ≤ fauI was k a st pr := by unfold fauI; cases st <;> cases pr <;> simp <;> omega
  have e0 := bitI_div (fauI was k a st pr) 0 hb
  have e1 := bitI_div (fauI was k a st pr) 1 hb
  have e2 := bitI_div (fauI was k a st pr) 2 hb
  have e3 := bitI_div (fauI was k a st pr) 3 hb
  rw [show ((0 : Nat) : Int) = 0 from rfl] at e0
  rw [show ((1 : Nat) : Int) = 1 from rfl] at e1
  rw [show ((2 : Nat) : Int) = 2 from rfl] at e2
  rw [show ((3 : Nat) : Int) = 3 from rfl] at e3
  rw [e0, e1, e2, e3]
  unfold fauI
  cases st <;> cases pr <;> simp <;> omega
theorem dbit_is (x i : Int) (b : Bool) (h : U x) (i0 : 0 ≤ i) (i1 : i ≤ 1000) (hb : (bitI x i == 1) = b) (w : World) :
    Calls Tryd.prog 18 #[.int .u64 x, .int .i64 i] w fun e w' => e = .returned (.bool b) ∧ w = w' := by
  have := dbit_any x i h i0 i1 w; rw [hb] at this; exact this
/-! ### The walk -/
set_option maxHeartbeats 8000000 in
set_option maxRecDepth 100000 in
theorem walk (w : World) (hT : Tab w) (a0 : Int) (w0 : (Lit.int .i64 a0).wf = true) (a1 : Int) (w1 : (Lit.int .i64 a1).wf = true) (a2 : Int) (w2 : (Lit.int .u64 a2).wf = true) (a3 : Int) (w3 : (Lit.int .u64 a3).wf = true) (b4 : Bool) :
    Calls Tryd.prog 4 #[.int .i64 a0, .int .i64 a1, .int .u64 a2, .int .u64 a3, .bool b4] w fun e w' => e = .returned (.bool true) ∧ Below w.heap.size w w' := by
  obtain ⟨p0, p1⟩ := bounds_i64 w0
  obtain ⟨q0, q1⟩ := bounds_i64 w1
  have hv2 : U a2 := bounds_u64 w2
  have hv3 : U a3 := bounds_u64 w3
  obtain ⟨x7, hx7⟩ : ∃ x, nrm a0 128 = x := ⟨_, rfl⟩
  obtain ⟨x8, hx8⟩ : ∃ x, nrm a0 256 = x := ⟨_, rfl⟩
  obtain ⟨y7, hy7⟩ : ∃ x, nrm a1 128 = x := ⟨_, rfl⟩
  obtain ⟨y8, hy8⟩ : ∃ x, nrm a1 256 = x := ⟨_, rfl⟩
  have bx7 := nrm_bd a0 128 (by decide)
  have bx8 := nrm_bd a0 256 (by decide)
  have by7 := nrm_bd a1 128 (by decide)
  have by8 := nrm_bd a1 256 (by decide)
  rw [hx7] at bx7
  rw [hx8] at bx8
  rw [hy7] at by7
  rw [hy8] at by8
  have FA := Lib.hid (fun R => fau_ok R x7 y8 b4 false a2 bx7.1 bx7.2 by8.1 by8.2)
  have FB := Lib.hid (fun R => fau_ok R y7 x8 b4 true a3 by7.1 by7.2 bx8.1 bx8.2)
  have b1 := bit_fau 0 x7 y8 b4 false bx7.1 by8.1 (by decide)
  have u1 := fauI_bd 0 x7 y8 b4 false bx7.1 (by omega) by8.1 (by omega)
  obtain ⟨ONE, h1⟩ : ∃ x, fauI 0 x7 y8 b4 false = x := ⟨_, rfl⟩
  rw [h1] at b1 u1
  have b2 := bit_fau ONE y7 x8 b4 true by7.1 bx8.1 u1.1
  have u2 := fauI_bd ONE y7 x8 b4 true by7.1 (by omega) bx8.1 (by omega)
  have hm1 : ONE % 2 = 1 := by rw [← h1]; unfold fauI; cases b4 <;> simp <;> omega
  have h23 : fauI ONE y7 x8 b4 true = fauI 0 y7 x8 b4 true + 2 := by unfold fauI; rw [hm1]; simp; omega
  have u3 := fauI_bd 0 y7 x8 b4 true by7.1 (by omega) bx8.1 (by omega)
  obtain ⟨TWO, h2⟩ : ∃ x, fauI ONE y7 x8 b4 true = x := ⟨_, rfl⟩
  obtain ⟨THR, h3⟩ : ∃ x, fauI 0 y7 x8 b4 true = x := ⟨_, rfl⟩
  rw [h2] at b2 u2
  rw [h2, h3] at h23
  rw [h3] at u3
  have NW := Lib.hid (new_any w hT)
  have D1 := Lib.hid (fun W => dbit_is ONE 0 true u1 (by decide) (by decide) (by rw [b1.1]; rfl) W)
  have D2 := Lib.hid (fun W => dbit_is ONE 1 false u1 (by decide) (by decide) (by rw [b1.2.1]; rfl) W)
  have D3 := Lib.hid (fun W => dbit_is TWO 1 true u2 (by decide) (by decide) (by rw [b2.2.1, hm1]; rfl) W)
  have D4 := Lib.hid (fun W => dbit_is TWO 3 true u2 (by decide) (by decide) (by rw [b2.2.2.2]; rfl) W)
  have D5 := Lib.hid (fun W => dbit_is ONE 2 b4 u1 (by decide) (by decide) (by rw [b1.2.2.1]; cases b4 <;> rfl) W)
  have W3 : IntKind.u64.wrap (THR + 2) = TWO := by rw [IntKind.wrap_u64, h23]; have := u2.2; have := u3.1; omega
  clear b1 b2 hm1 h23
  have H1 := Lib.hid h1
  have H2 := Lib.hid h2
  have H3 := Lib.hid h3
  obtain ⟨z20, z21⟩ := u2
  obtain ⟨z30, z31⟩ := u3
  clear h1 h2 h3 w0 w1 w2 w3
  obtain ⟨E7, E8, hs⟩ : (RowKit.Hid ((a0 < 0 → -((a0 + 1).tmod 128) = x7) ∧ (¬ a0 < 0 → a0 % 128 = x7)) ∧ RowKit.Hid ((a0 < 0 → -((a0 + 1).tmod 256) = x8) ∧ (¬ a0 < 0 → a0 % 256 = x8)) ∧ True) := ⟨Lib.hid ⟨fun h => (nrm_neg _ _ h).trans hx7, fun h => (nrm_pos _ _ h).trans hx7⟩, Lib.hid ⟨fun h => (nrm_neg _ _ h).trans hx8, fun h => (nrm_pos _ _ h).trans hx8⟩, trivial⟩
  have G7 : RowKit.Hid ((a1 < 0 → -((a1 + 1).tmod 128) = y7) ∧ (¬ a1 < 0 → a1 % 128 = y7)) := Lib.hid ⟨fun h => (nrm_neg _ _ h).trans hy7, fun h => (nrm_pos _ _ h).trans hy7⟩
  have G8 : RowKit.Hid ((a1 < 0 → -((a1 + 1).tmod 256) = y8) ∧ (¬ a1 < 0 → a1 % 256 = y8)) := Lib.hid ⟨fun h => (nrm_neg _ _ h).trans hy8, fun h => (nrm_pos _ _ h).trans hy8⟩
  clear hx7 hx8 hy7 hy8 hs
  by_cases sa : a0 < 0 <;> by_cases sb : a1 < 0
  all_goals
    first | (have e7 := E7.out.1 sa) | (have e7 := E7.out.2 sa)
    first | (have e8 := E8.out.1 sa) | (have e8 := E8.out.2 sa)
    first | (have g7 := G7.out.1 sb) | (have g7 := G7.out.2 sb)
    first | (have g8 := G8.out.1 sb) | (have g8 := G8.out.2 sb)
    clear E7 E8 G7 G8
    go_enter Tryd.func4, Tryd.ntmps4
    go_wp2_with fail
    refine NW.out.mono ?_; rintro r w1 ⟨rfl, K1, B1⟩
    have P1 := PK.new K1 B1
    clear NW K1 B1
    go_wp2_with fail
    refine (fault_any _ _ Reg.zero 1 x7 y8 b4 false a2 hv2 (by omega) (by omega) (by omega) (by omega) _ P1.regs).mono ?_; rintro r w2 ⟨rfl, T2⟩
    have P2 := P1.to T2
    rw [(FA.out Reg.zero).1]
    rw [(FA.out _).2, show Reg.zero.sD = 0 from rfl, H1.out] at P2
    clear P1 T2 FA H1
    go_wp2_with fail
    refine (read_any _ _ _ 88 24 (by decide) (by decide) _ P2.regs).mono ?_; rintro r w3 ⟨rfl, c3⟩
    have P3 := P2.call c3
    rw [show regV (setR (setR Reg.zero 88 24 ONE) 88 32 a2) 88 24 = ONE from rfl, show regE 88 24 = 0 from rfl]
    clear P2 c3
    go_wp2_with fail
    refine (fault_any _ _ _ 1 y7 x8 b4 true a3 hv3 (by omega) (by omega) (by omega) (by omega) _ P3.regs).mono ?_; rintro r w4 ⟨rfl, T4⟩
    have P4 := P3.to T4
    rw [(FB.out Reg.zero).1]
    rw [(FB.out _).2, show (setR (setR Reg.zero 88 24 ONE) 88 32 a2).sD = ONE from rfl, H2.out] at P4
    clear P3 T4
    go_wp2_with fail
    refine (read_any _ _ _ 88 24 (by decide) (by decide) _ P4.regs).mono ?_; rintro r w5 ⟨rfl, c5⟩
    have P5 := P4.call c5
    rw [show regV (setR (setR (setR (setR Reg.zero 88 24 ONE) 88 32 a2) 88 24 TWO) 88 32 a3) 88 24 = TWO from rfl, show regE 88 24 = 0 from rfl]
    clear P4 c5
    go_wp2_with fail
    refine (read_any _ _ _ 88 32 (by decide) (by decide) _ P5.regs).mono ?_; rintro r w6 ⟨rfl, c6⟩
    have P6 := P5.call c6
    rw [show regV (setR (setR (setR (setR Reg.zero 88 24 ONE) 88 32 a2) 88 24 TWO) 88 32 a3) 88 32 = a3 from rfl, show regE 88 32 = 0 from rfl]
    clear P5 c6
    go_wp2_with fail
    refine (clear_any _ _ _ 1 _ P6.regs).mono ?_; rintro r w7 ⟨rfl, T7⟩
    have P7 := P6.to T7
    rw [show cleE 1 = 0 from rfl]
    rw [show cleR (setR (setR (setR (setR Reg.zero 88 24 ONE) 88 32 a2) 88 24 TWO) 88 32 a3) 1 = setR Reg.zero 88 32 a3 from rfl] at P7
    clear P6 T7
    go_wp2_with fail
    refine (read_any _ _ _ 88 24 (by decide) (by decide) _ P7.regs).mono ?_; rintro r w8 ⟨rfl, c8⟩
    have P8 := P7.call c8
    rw [show regV (setR Reg.zero 88 32 a3) 88 24 = 0 from rfl, show regE 88 24 = 0 from rfl]
    clear P7 c8
    go_wp2_with fail
    refine (fault_any _ _ _ 1 y7 x8 b4 true a3 hv3 (by omega) (by omega) (by omega) (by omega) _ P8.regs).mono ?_; rintro r w9 ⟨rfl, T9⟩
    have P9 := P8.to T9
    rw [(FB.out Reg.zero).1]
    rw [(FB.out _).2, show (setR Reg.zero 88 32 a3).sD = 0 from rfl, H3.out] at P9
    clear P8 T9
    go_wp2_with fail
    refine (read_any _ _ _ 88 24 (by decide) (by decide) _ P9.regs).mono ?_; rintro r w10 ⟨rfl, c10⟩
    have P10 := P9.call c10
    rw [show regV (setR (setR (setR Reg.zero 88 32 a3) 88 24 THR) 88 32 a3) 88 24 = THR from rfl, show regE 88 24 = 0 from rfl]
    clear P9 c10 FB H2 H3
    go_wp2_with fail
    refine (D1.out _).mono ?_; rintro r w11 ⟨rfl, rfl⟩
    go_wp2_with fail
    refine (D2.out _).mono ?_; rintro r w11 ⟨rfl, rfl⟩
    go_wp2_with fail
    refine (D3.out _).mono ?_; rintro r w11 ⟨rfl, rfl⟩
    go_wp2_with fail
    refine (D4.out _).mono ?_; rintro r w11 ⟨rfl, rfl⟩
    go_wp2_with fail
    refine (D5.out _).mono ?_; rintro r w11 ⟨rfl, rfl⟩
    go_wp2_with fail
    refine (lives_any _ P10.tab).mono ?_; rintro r w12 ⟨rfl, c12⟩
    go_wp2_with fail
    go_ret
    exact ⟨rfl, (P10.call c12).bel⟩

/-! ### The row -/
theorem contract (H : Type) (enc : TypeId × Value → H) (W : World) (base : Nat) (args : Array Value) (ds gs : List (DataW H)) (before : List MemPlace)
    (hval : ∀ (j : Nat) t v, Tryd.f4.params[j]? = some t → args[j]? = some v → Value.okWide Tryd.prog W .any base t v)
    (hW : DataW.Whole enc Tryd.prog Tryd.f4.params.toList Rows.regsTwiceSpec.vars false W args.toList ds gs before) (hL : laidMetH Tryd.prog Rows.regsTwiceRow.laid W) :
    Calls Tryd.prog 4 args W fun e W' => ∃ v, e = .returned v ∧ Rows.regsTwiceSpec.post enc Tryd.prog Tryd.f4 false true false false W args v W' := by
  have hW' := hW
  obtain ⟨p, q, hA0, hV, rfl, hfz, hnd⟩ := hW
  have hA : DataW.TrodAll enc Tryd.prog W 0 (fun _ => true) true Tryd.f4.params.toList args.toList ds p := hA0
  rw [Tryd.params4] at hA hval
  obtain ⟨v0, vs0, d0, ds0, p0, q0, hargs, rfl, rfl, h0, r0⟩ := trodAll_cons hA
  obtain ⟨v1, vs1, d1, ds1, p1, q1, rfl, rfl, rfl, h1, r1⟩ := trodAll_cons r0
  obtain ⟨v2, vs2, d2, ds2, p2, q2, rfl, rfl, rfl, h2, r2⟩ := trodAll_cons r1
  obtain ⟨v3, vs3, d3, ds3, p3, q3, rfl, rfl, rfl, h3, r3⟩ := trodAll_cons r2
  obtain ⟨v4, vs4, d4, ds4, p4, q4, rfl, rfl, rfl, h4, r4⟩ := trodAll_cons r3
  obtain ⟨rfl, rfl, rfl⟩ := trodAll_nil r4
  obtain rfl : args = #[v0, v1, v2, v3, v4] := by cases args; simp_all
  obtain ⟨rfl, rfl⟩ := trodVars_none hV
  obtain ⟨a0, rfl, rfl, rfl, w0⟩ := open_int Tryd.underlying3 (hval 0 3 v0 rfl rfl) h0
  obtain ⟨a1, rfl, rfl, rfl, w1⟩ := open_int Tryd.underlying3 (hval 1 3 v1 rfl rfl) h1
  obtain ⟨a2, rfl, rfl, rfl, w2⟩ := open_int Tryd.underlying25 (hval 2 25 v2 rfl rfl) h2
  obtain ⟨a3, rfl, rfl, rfl, w3⟩ := open_int Tryd.underlying25 (hval 3 25 v3 rfl rfl) h3
  obtain ⟨b4, rfl, rfl, rfl⟩ := open_bool Tryd.underlying4 (hval 4 4 v4 rfl rfl) h4
  clear hA0
  simp only [List.append_nil] at hW'
  refine (walk W (tab_of hL) a0 w0 a1 w1 a2 w2 a3 w3 b4).mono fun e W' ⟨he, hg⟩ => ?_
  subst he
  exact ⟨_, rfl, _, _, _, [], _, [], hW', trodAll_mk1 (shut_bool Tryd.underlying4 _), (trodAll_cons_mk (shut_int Tryd.underlying3 w0) (trodAll_cons_mk (shut_int Tryd.underlying3 w1) (trodAll_cons_mk (shut_int Tryd.underlying25 w2) (trodAll_cons_mk (shut_int Tryd.underlying25 w3) (trodAll_cons_mk (shut_bool Tryd.underlying4 _) trodAll_mk0))))), rfl, hg.frame _, fun h => by cases h⟩

/-- A world for the witness: the settled one, the table holding what its initialiser lays. -/
noncomputable def laidWorld (os : Os) : World :=
  { World.holding Tryd.prog os ⟨#[], #[], []⟩ with heap := (World.holding Tryd.prog os ⟨#[], #[], []⟩).heap.modify 0 fun
      | .cells _ t frozen => .cells #[.int .u64 0, .int .u64 0, .bool true, .int .u64 8, .int .u64 8191, .bool false, .int .u64 16, .int .u64 8191, .bool false, .int .u64 24, .int .u64 16728063, .bool true, .int .u64 32, .int .u64 0, .bool false, .int .u64 40, .int .u64 18446744073709547527, .bool true, .int .u64 48, .int .u64 18446744073709551615, .bool true] t frozen
      | o => o }
theorem laid_met (os : Os) : laidMet Tryd.prog Rows.regsTwiceRow.laid ((laidWorld os).forCall (fun _ _ => 0) ⟨#[], #[.int .i64 0, .int .i64 0, .int .u64 0, .int .u64 0, .bool false], []⟩).memory :=
  laidMet_of_run' 8 (by kernel_rfl) (by kernel_rfl)
theorem reads (os : Os) {H : Type} (enc : TypeId × Value → H) : ∃ places, DataW.whole enc Tryd.prog ((laidWorld os).forCall (fun _ _ => 0) ⟨#[], #[.int .i64 0, .int .i64 0, .int .u64 0, .int .u64 0, .bool false], []⟩).memory Tryd.f4.params.toList Rows.regsTwiceSpec.vars false (#[.int .i64 0, .int .i64 0, .int .u64 0, .int .u64 0, .bool false] : Array Value).toList 8 = some ([.lit (.int .i64 0), .lit (.int .i64 0), .lit (.int .u64 0), .lit (.int .u64 0), .lit (.bool false)], [], places) :=
  ⟨[], by kernel_rfl⟩
set_option maxRecDepth 100000 in
theorem lifted (os : Os) (started : os.Started) (H : Type) (enc : TypeId × Value → H) (F : Stop.Interp) :
    ReturnsInHanded {} Tryd.checked os 4 .any ((OpenSpec.ofChange Rows.regsTwiceSpec).preRow enc Tryd.prog Tryd.f4 Rows.regsTwiceRow.domain false Rows.regsTwiceRow.laid) (((OpenSpec.ofChange Rows.regsTwiceSpec).at F).post enc Tryd.prog Tryd.f4 false true false false) := by
  obtain ⟨places, hx⟩ := reads os enc
  refine returnsInHanded_of_row (C := Tryd.checked) (s := OpenSpec.ofChange Rows.regsTwiceSpec) own started (by kernel_rfl) Tryd.func4
    (witness_row_at (enc := enc) (C := Tryd.checked) false (laidWorld os) #[.int .i64 0, .int .i64 0, .int .u64 0, .int .u64 0, .bool false] rfl (by kernel_rfl) (by kernel_rfl) (by kernel_rfl)
      (OpenSpec.preRow_of_cond 8 hx (by kernel_rfl) (fun k hk => by cases hk) (by kernel_rfl) (laid_met os))) ?_
  intro W base args ds gs before hval hW _ _ _ hL _ _
  exact contract H enc W base args ds gs before hval hW hL
theorem said : Rows.RegsTwiceSaid :=
  OpenClaim.holds_of_cond 4 Tryd.f4 rfl rfl rfl rfl rfl rfl rfl ⟨rfl, rfl, rfl, rfl, rfl⟩ rfl rfl rfl rfl rfl (by kernel_rfl) Tryd.func4 (by kernel_rfl)
    (of_decide_eq_true (by kernel_rfl)) (by unfold Func.isWrapper; first | (rw [if_pos (by decide +kernel)]; kernel_rfl) | (rw [if_neg (by decide +kernel)]; exact ⟨rfl, rfl⟩))
    (fun os started H enc _ F => by rw [OpenClaim.pre_eq_preRow]; exact lifted os started H enc F)
theorem plain (f : FuncId) (fn : Func) (hf : Tryd.pinned.checked.prog.funcNamed "lookaside/lookasidelaw07.RegsTwice" = some f) (hfn : Tryd.pinned.checked.prog.funcs[f]? = some fn) :
    false = Tryd.pinned.checked.prog.looks [] ∧ ∀ (j : Nat) t, fn.params[j]? = some t → Tryd.pinned.checked.prog.wantsStandIn t = false := by
  obtain rfl : f = 4 := Option.some.inj ((show Tryd.prog.funcNamed "lookaside/lookasidelaw07.RegsTwice" = some 4 by kernel_rfl).symm.trans hf) |>.symm
  obtain rfl : fn = Tryd.f4 := (Option.some.inj (Tryd.func4.symm.trans hfn)).symm
  refine ⟨by kernel_rfl, fun j t ht => ?_⟩
  rw [Tryd.params4] at ht
  have hm : t ∈ [3, 3, 25, 25, 4] := by simpa using Array.mem_of_getElem? ht
  have hall : ([3, 3, 25, 25, 4].all fun u => !Tryd.prog.wantsStandIn u) = true := by kernel_rfl
  exact (show Tryd.prog.wantsStandIn t = false by simpa using List.all_eq_true.1 hall t hm)
theorem proved : Rows.RegsTwiceCardSaid :=
  Claim7.holds_tied_plain_at .later [] _ _ _ _ said (fun _ h => by cases h) (by kernel_rfl) (fun _ h => by cases h) regsTwice_row_tie rfl ⟨rfl, rfl⟩ (by kernel_rfl) rfl plain (by kernel_rfl)
#print axioms proved
end Go.Proofs.YtohcmijgakijfaaDoor.regsTwice
