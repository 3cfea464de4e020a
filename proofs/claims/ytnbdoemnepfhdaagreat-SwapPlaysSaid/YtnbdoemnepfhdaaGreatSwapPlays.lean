/-
  SwapPlays: for every number of frames, all deeds the law returns true, and its arguments read as before. Conditions: none.
-/
import Derived.Test.YtnbdoemnepfhdaaGreatRows
import Derived.WalkKit
import Derived.ProofKit
import Derived.OpenShut
import Derived.Test.YtnbdoemnepfhdaaGreatR44
import Derived.Test.YtnbdoemnepfhdaaGreatR45
import Derived.Test.YtnbdoemnepfhdaaGreatR43
import Derived.Deep.CutBlock
import Derived.Deep.DeepCutAuto
import Derived.Test.YtnbdoemnepfhdaaGreatR27
namespace Go.Proofs.YtnbdoemnepfhdaaGreat.swapPlays
open Fld Ts
open Tl (IsEnts ents_at open_ents laidOut ListAt DocAt)
open Go.ChangeShapes Go.WideShapes Go.ChangeAt Go.RowKit Go.Deep Go.Shelf
set_option linter.unusedVariables false

theorem own : ownKnob Tryz.prog.godebug = none := by kernel_rfl

open Sw
open Frm (lst)
theorem like_st {W w : World} {wb sb fb bb n c : Nat} (h : St W w wb sb fb bb n c) (hc : c ≤ 1000) :
    Calls Tryz.prog 8 #[.pointer (some ⟨wb, 0, none⟩)] w fun e w' => e = .returned (.bool true) ∧ Below w.heap.size w w' := by
  obtain ⟨L, bm, g, F, lv, gv, sv, h1, h2, h3⟩ := h
  exact like_any (by omega) h2 h1
/-! ### The walk -/
set_option maxHeartbeats 8000000 in
set_option maxRecDepth 100000 in
theorem walk (w : World) (a0 : Int) (w0 : (Lit.int .i64 a0).wf = true) (s1 : Option Addr) (len1 cap1 : Nat) (w1 : IsDeeds w s1 len1 cap1) :
    Calls Tryz.prog 3 #[.int .i64 a0, .slice s1 len1 cap1] w fun e w' => e = .returned (.bool true) ∧ Below w.heap.size w w' := by
  obtain ⟨n0, n1⟩ := bounds_i64 w0
  have hEn := w1
  clear w0 w1
  obtain ⟨m, hm⟩ : ∃ m, (if a0 < 0 then -(a0 + 1) else a0) = m := ⟨_, rfl⟩
  have hm0 : 0 ≤ m := by rw [← hm]; split <;> omega
  have q1 := Int.tmod_lt_of_pos m (show (0 : Int) < 41 by decide)
  have q2 : 0 ≤ m.tmod 41 := Int.tmod_nonneg 41 hm0
  obtain ⟨k, hk⟩ : ∃ k : Nat, m.tmod 41 = (k : Int) := ⟨(m.tmod 41).toNat, by omega⟩
  have CB := Lib.hid (fun W => lbegin_any k (by omega) W)
  have CL := Lib.hid (fun W => lives_any W)
  have CD := Lib.hid (fun (W wr : World) (wb sb fb bb c : Nat) (h : St W wr wb sb fb bb k c) (d : DeedW) (hd : d.wf) (hc : c ≤ 1000) => does_any d hd hc h)
  have CK := Lib.hid (fun (W wr : World) (wb sb fb bb : Nat) (h : St W wr wb sb fb bb k 14) => like_st h (by decide))
  clear q1 q2
  by_cases hn : a0 < 0
  all_goals
    (first
      | (rw [if_pos hn] at hm; have hm1 : a0 + 1 = -m := by omega)
      | (rw [if_neg hn] at hm; subst hm))
    (try clear hm)
    go_enter Tryz.func3, Tryz.ntmps3
    go_wp2_with fail
    refine (CB.out _).mono ?_; rintro e w3 ⟨wb, sb, bm, fb, bb, rfl, X3, F3⟩
    have S3 : St w w3 wb sb fb bb k 0 := ⟨[], bm, _, _, _, _, _, X3, F3, Nat.le_refl _⟩
    clear CB X3 F3 hk hm0
    (try clear hm1)
    go_upto_block 0 with fail
    go_cut [] (fun wx => St w wx wb sb fb bb k 14)
    case first =>
      go_wp2_with fail
      go_loopw [6] (fun i wr => ∃ j : Nat, i = .int .i64 (j : Int) ∧ j ≤ len1 ∧ j ≤ 14 ∧ St w wr wb sb fb bb k j) (fun i _ => 14 - (intOf i).toNat)
      case atStart => exact ⟨0, rfl, by omega, by omega, S3⟩
      case round =>
        clear S3
        obtain ⟨j, rfl, hj, hj8, O⟩ := hrel
        by_cases hj1 : j < len1
        · have h1' : (j : Int) < (len1 : Int) := by omega
          by_cases hj2 : j < 14
          · have h2' : (j : Int) < 14 := by omega
            have BR : Below w.heap.size w wr := O.bel
            obtain ⟨ib, o, off, d, rfl, ho, hlc, hcm, he, hc⟩ := deeds_at hEn j hj1
            subst ho
            unfold maxLen at hcm
            have hcl : ∀ {b o : Nat} {v : Value}, w.cell? ⟨b, o, none⟩ = some v → wr.cell? ⟨b, o, none⟩ = some v := fun {b o v} hc => (BR.cell (p := ⟨b, o, none⟩) (Tl.lt_cell hc)).trans hc
            obtain ⟨c0, c1, c2, c3, c4, c5, c6, c7, c8, c9, c10, c11, c12, c13, c14⟩ := hc
            replace c0 := hcl c0; replace c1 := hcl c1; replace c2 := hcl c2; replace c3 := hcl c3; replace c4 := hcl c4; replace c5 := hcl c5; replace c6 := hcl c6; replace c7 := hcl c7; replace c8 := hcl c8; replace c9 := hcl c9; replace c10 := hcl c10; replace c11 := hcl c11; replace c12 := hcl c12; replace c13 := hcl c13; replace c14 := hcl c14
            have CI1 := Lib.hid (CD.out _ _ _ _ _ _ _ O d he (by omega))
            clear hcl BR O he
            go_wp2_with fail
            refine CI1.out.mono ?_; rintro e w5 ⟨rfl, O5⟩
            clear CI1 c0 c1 c2 c3 c4 c5 c6 c7 c8 c9 c10 c11 c12 c13 c14
            go_wp2_with fail
            go_roundw
            case rel => exact ⟨j + 1, by go_num, by omega, by omega, O5⟩
            case measure => simp [intOf]; omega
          · have h2' : ¬ (j : Int) < 14 := by omega
            go_wp2_with fail
            go_meet
            exact O.up (by omega)
        · have h1' : ¬ (j : Int) < (len1 : Int) := by omega
          go_wp2_with fail
          go_meet
          exact O.up (by omega)
    case rest =>
      have S4 := hcut
      clear S3
      go_wp2_with fail
      refine (CK.out _ _ _ _ _ _ S4).mono ?_; rintro e w6 ⟨rfl, b6⟩
      have B6 : Below w.heap.size w w6 := S4.bel.trans (b6.mono S4.bel.size)
      clear S4 b6
      go_wp2_with fail
      refine (CL.out _).mono ?_; rintro e w7 ⟨rfl, b7⟩
      go_wp2_with fail
      go_ret
      exact ⟨rfl, B6.trans (b7.mono B6.size)⟩

/-! ### The row -/
set_option maxRecDepth 100000 in
theorem lifted (os : Os) (started : os.Started) (H : Type) (enc : TypeId × Value → H) :
    ReturnsInHanded {} Tryz.checked os 3 .any (Rows.swapPlaysSpec.pre6 enc Tryz.prog Tryz.f3 Rows.swapPlaysRow.domain false) (Rows.swapPlaysSpec.post enc Tryz.prog Tryz.f3 false true false false) := by
  refine returnsInHanded_of_change (C := Tryz.checked) own started (by kernel_rfl) Tryz.func3
    (ChangeSpec.witness6 (enc := enc) (C := Tryz.checked) false ⟨#[], #[.int .i64 0, .slice none 0 0], []⟩ 8 (by kernel_rfl) (by kernel_rfl) (by kernel_rfl) (by kernel_rfl)) ?_
  intro W base args ds gs before hval0 hW hcnd _
  have hval : ∀ (j : Nat) t v, Tryz.f3.params[j]? = some t → args[j]? = some v → Value.okWide Tryz.prog W .any base t v := hval0
  have hW' := hW
  obtain ⟨p, q, hA0, hV, rfl, hfz, hnd⟩ := hW
  have hA : DataW.TrodAll enc Tryz.prog W 0 (fun _ => true) true Tryz.f3.params.toList args.toList ds p := hA0
  rw [Tryz.params3] at hA hval
  obtain ⟨v0, vs0, d0, ds0, p0, q0, hargs, rfl, rfl, h0, r0⟩ := trodAll_cons hA
  obtain ⟨v1, vs1, d1, ds1, p1, q1, rfl, rfl, rfl, h1, r1⟩ := trodAll_cons r0
  obtain ⟨rfl, rfl, rfl⟩ := trodAll_nil r1
  obtain rfl : args = #[v0, v1] := by cases args; simp_all
  obtain ⟨rfl, rfl⟩ := trodVars_none hV
  obtain ⟨a0, rfl, rfl, rfl, w0⟩ := open_int Tryz.underlying3 (hval 0 3 v0 rfl rfl) h0
  obtain ⟨s1, len1, cap1, rfl⟩ := okWide_slice Tryz.underlying22 (hval 1 22 v1 rfl rfl)
  have k1 := h1
  have lt1 : ∀ x ∈ p1, x.block < W.heap.size := by obtain ⟨m, hm⟩ := k1; exact DataW.trod_lt m _ _ _ hm
  have w1 : IsDeeds W s1 len1 cap1 := by
    obtain ⟨fuel, hf⟩ := h1
    exact open_deeds hf
  clear hA0 hval0
  simp only [List.append_nil] at hW'
  refine (walk W a0 w0 s1 len1 cap1 w1).mono fun e W' ⟨he, hg⟩ => ?_
  subst he
  exact ⟨_, rfl, _, _, _, [], _, [], hW', trodAll_mk1 (shut_bool Tryz.underlying4 _), (trodAll_cons_mk (shut_int Tryz.underlying3 w0) (trodAll_cons_mk (Below.trod laidOut (by kernel_rfl) (of_decide_eq_true (by kernel_rfl)) k1 hg lt1) trodAll_mk0)), rfl, hg.frame _, fun h => by cases h⟩

theorem over : Rows.swapPlaysRow.holds Tryz.pinned (OpenSpec.ofChange Rows.swapPlaysSpec) :=
  OpenClaim.holds_of_wide 3 Tryz.f3 rfl rfl rfl rfl rfl rfl rfl ⟨rfl, rfl, rfl, rfl, rfl⟩ rfl rfl rfl rfl rfl (by kernel_rfl) Tryz.func3 (by kernel_rfl)
    (of_decide_eq_true (by kernel_rfl)) (by unfold Func.isWrapper; first | (rw [if_pos (by decide +kernel)]; kernel_rfl) | (rw [if_neg (by decide +kernel)]; exact ⟨rfl, rfl⟩))
    (fun os started H enc _ => lifted os started H enc)

theorem proved : Rows.SwapPlaysSaid :=
  over
#print axioms proved
end Go.Proofs.YtnbdoemnepfhdaaGreat.swapPlays
