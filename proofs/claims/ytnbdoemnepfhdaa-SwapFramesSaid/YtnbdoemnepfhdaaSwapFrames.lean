/-
  SwapFrames: for every size and grade the law returns true, and its arguments read as before. Conditions: none.
-/
import Derived.Test.YtnbdoemnepfhdaaRows
import Derived.WalkKit
import Derived.ProofKit
import Derived.OpenShut
import Derived.Test.YtnbdoemnepfhdaaR35
import Derived.Test.YtnbdoemnepfhdaaR30
import Derived.ShutString
namespace Go.Proofs.Ytnbdoemnepfhdaa.swapFrames
open Fld
open Go.ChangeShapes Go.WideShapes Go.ChangeAt Go.RowKit
open Go.ChangeMaps (open_string shut_string)
set_option linter.unusedVariables false

theorem own : ownKnob Try.prog.godebug = none := by kernel_rfl

open Ts Sw
open Pt (arI)
open Frm (setT allB manyE manyI manyT manyO pick pick_eq okAt okAt_iff lst lst_take seg_none allB_mem cnt)
theorem many_new {n : Nat} {k : Int} (h1 : 1 ≤ k) (h2 : k ≤ n) : manyE (fun _ => false) n k = 0 ∧ manyI (fun _ => false) n k = ((0 : Nat) : Int) ∧ manyT (fun _ => false) n k = setT (fun _ => false) 0 k.toNat true := by
  have e : manyO (fun _ => false) n k = some 0 := pick_eq (okAt_iff.2 ⟨rfl, by omega, allB_mem.2 fun _ _ _ => rfl⟩) (fun j hj => absurd hj (Nat.not_lt_zero j))
  refine ⟨?_, ?_, ?_⟩
  · unfold manyE; rw [if_neg (by omega), e]; rfl
  · unfold manyI; rw [if_neg (by omega), e]; rfl
  · unfold manyT; rw [if_neg (by omega), e]; rfl
theorem lst_first {n k : Nat} (h : k ≤ n) : lst (setT (fun _ => false) 0 k true) n = (List.range k).map Int.ofNat := by
  have e := (lst_take (T := fun _ => false) (n := n) (i := 0) (k := k) (by omega) (allB_mem.2 fun _ _ _ => rfl)).2
  rw [seg_none (fun _ _ _ => rfl), seg_none (fun _ _ _ => rfl)] at e
  rw [e]
  simp
/-! ### The walk -/
set_option maxHeartbeats 4000000 in
set_option maxRecDepth 100000 in
theorem walk (a0 : Int) (a1 : Int) (w0 : (Lit.int .i64 a0).wf = true) (w1 : (Lit.int .i64 a1).wf = true) (w : World) :
    Calls Try.prog 3 #[.int .i64 a0, .int .i64 a1] w fun e w' => e = .returned (.bool true) ∧ Below w.heap.size w w' := by
  obtain ⟨x0, x1⟩ := bounds_i64 w0
  obtain ⟨y0, y1⟩ := bounds_i64 w1
  clear w0 w1
  have C1 := Lib.hid (fun W => frames_any a0 a1 W)
  have C2 := Lib.hid (fun W => rframes_any a0 a1 W)
  have CS := Lib.hid (fun W => Pt.raround_any a0 4 x0 x1 (by decide) (by decide) W)
  have CG := Lib.hid (fun W => Pt.raround_any a1 4 y0 y1 (by decide) (by decide) W)
  have hs := Pt.ar_bd a0 4 (by decide)
  have hg := Pt.ar_bd a1 4 (by decide)
  generalize arI a0 4 = s at *
  generalize arI a1 4 = t at *
  have hsz : sizeB s = true := by
    have : s = 0 ∨ s = 1 ∨ s = 2 ∨ s = 3 := by omega
    rcases this with rfl | rfl | rfl | rfl <;> rfl
  have hb := places_bd hsz hg.1 (by omega : t ≤ 3)
  have hk := fr_bd s t
  have hk1 : 1 ≤ frI s t := by omega
  have hN := many_new (n := 9) hk1 (by omega)
  have hx : Tb.In ⟨0, 0, s, t, fun _ => Pl.none, .slice none 0 0, []⟩ 9 := ⟨hsz, hg.1, by show t ≤ 3; omega, by show 0 + (frI s t).toNat ≤ 9; omega⟩
  have C3 := Lib.hid (fun W => frames_any s t W)
  have C4 := Lib.hid (fun W => lbegin_any 9 (by decide) W)
  have CL := Lib.hid (fun W => lives_any W)
  have CM := Lib.hid (fun (W w1 : World) (wb sb bm fb bb : Nat) (h : WX W w1 wb sb bm fb bb 9 (fun _ => 0) (fun _ => false) [] (lst (fun _ => false) 9) [] (.slice none 0 0) (.slice none 0 0) (.slice none 0 0) (.slice none 0 0) (.slice none 0 0) (.slice none 0 0)) => lmake_yes ⟨0, 0, s, t, fun _ => Pl.none, .slice none 0 0, []⟩ (by decide) hx (by simp) hN.1 hN.2.1 hN.2.2 rfl rfl h)
  go_enter Try.func3, Try.ntmps3
  go_wp2_with (first | (go_at_call 4; (with_reducible refine (C1.out _).mono ?_); rintro e w' ⟨rfl, rfl⟩) | (go_at_call 5; (with_reducible refine (C2.out _).mono ?_); rintro e w1 ⟨rfl, b1⟩))
  have b1' := b1
  refine (CS.out _).mono ?_; rintro e w' ⟨rfl, m1, rfl⟩
  go_wp2_with fail
  refine (CG.out _).mono ?_; rintro e w' ⟨rfl, m2, rfl⟩
  go_wp2_with fail
  have B2 : Below w.heap.size w (w1.drewN (m1 + m2)) := b1.trans ((drewN_low w1 (m1 + m2)).mono b1.size)
  generalize w1.drewN (m1 + m2) = w2 at *
  clear b1 b1' C1 C2 CS CG
  refine (C4.out _).mono ?_; rintro e w3 ⟨wb, sb, bm, fb, bb, rfl, X3, _⟩
  go_wp2_with (go_at_call 4; (with_reducible refine (C3.out _).mono ?_); rintro e w' ⟨rfl, rfl⟩)
  have CM1 := Lib.hid (CM.out _ _ _ _ _ _ _ X3)
  clear CM C4 C3 X3 hN
  refine CM1.out.mono ?_; rintro e w4 ⟨rfl, st, bm4, g4, lv, gv, sv, X4, _⟩
  obtain ⟨lg, lc, sg, sc, hlv, hsv, _, _, _, _, _, _, _, _, l2, l3, _⟩ := X4.mid (A := []) (B := []) (k := 0) rfl rfl
  subst hlv hsv
  obtain ⟨k, hkk⟩ : ∃ k : Nat, frI s t = k := ⟨(frI s t).toNat, by omega⟩
  have hK : Tb.k ⟨0, 0, s, t, fun _ => Pl.none, .slice none 0 0, []⟩ = k := by show (frI s t).toNat = k; omega
  rw [hK] at X4
  have hl1 := lst_first (n := 9) (k := k) (by omega)
  rw [hl1] at X4
  have CO := Lib.hid (Frm.list_any w4 X4.pa.fr)
  rw [hl1] at CO
  have hrow := X4.rows _ (List.mem_singleton.2 rfl)
  have hxi : Tb.In ⟨st, 0, s, t, fun _ => Pl.none, .slice none 0 0, []⟩ 9 := ⟨hsz, hg.1, by show t ≤ 3; omega, by show 0 + (frI s t).toNat ≤ 9; omega⟩
  have bdx := hxi.bd
  have CN := Lib.hid (fun (W : World) (hW : RowP W st sb (Tb.p ⟨st, 0, s, t, fun _ => Pl.none, .slice none 0 0, []⟩ 9)) => len_any (hxi.ok (by decide) _) W hW)
  have CB := Lib.hid (fun (W : World) (hW : RowP W st sb (Tb.p ⟨st, 0, s, t, fun _ => Pl.none, .slice none 0 0, []⟩ 9)) => base_any W hW)
  rw [show ((Tb.p ⟨st, 0, s, t, fun _ => Pl.none, .slice none 0 0, []⟩ 9).b : Int) = 0 from rfl] at CB
  obtain ⟨pn, hpn⟩ : ∃ pn, Tb.n ⟨st, 0, s, t, fun _ => Pl.none, .slice none 0 0, []⟩ = pn := ⟨_, rfl⟩
  rw [show (Tb.q ⟨st, 0, s, t, fun _ => Pl.none, .slice none 0 0, []⟩ 9 fun _ => 0).n = pn from hpn] at CN
  rw [hpn] at bdx
  have hpp : (pn : Int) = placesI s t := bdx.2.2.2.2.2.1
  have h1 : ¬ (k : Int) * 8192 < 16 * (pn : Int) := by omega
  have h2 : ¬ 16 * (pn : Int) ≤ ((k : Int) + -1) * 8192 := by omega
  have h3 : ¬ 16 * (pn : Int) ≤ ((k : Int) - 1) * 8192 := by omega
  have hk9 : (k : Int) ≤ 8 := by omega
  have hk0 : 1 ≤ k := by omega
  have hpn9 : (pn : Int) ≤ 4096 := by omega
  rw [hkk]
  have HX := Lib.hid X4
  have HR := Lib.hid hrow
  obtain ⟨c0, c1, c2, c3, c4, c5, cf⟩ := X4.cells
  clear hkk hK hl1 hpn hpp bdx hxi hx hb hk hs hg hsz hk1 X4 CM1 hrow
  generalize Tb.p ⟨st, 0, s, t, fun _ => Pl.none, .slice none 0 0, []⟩ 9 = pp at *
  go_wp2_with fail
  refine CO.out.mono ?_; rintro e w5 ⟨v, rfl, ho, b5⟩
  obtain ⟨og, oc, rfl, o1, o2, hoc⟩ := own_some ho (by simp; omega)
  have hle : (List.map Int.ofNat (List.range k)).length = k := by simp
  have hoj : ∀ j, j < k → w5.cell? ⟨og, j, none⟩ = some (.int .i64 (j : Int)) := fun j hj => by
    have := hoc j (by rw [hle]; exact hj)
    simpa using this
  rw [hle] at o1
  rw [hle]
  have X5 := Lib.hid (HX.out.low b5)
  have R5 := Lib.hid (HR.out.low b5)
  have HJ := Lib.hid hoj
  clear hoj hoc ho hle HX HR CO c0 c1 c2 c3 c4 c5 cf b5
  obtain ⟨c0, c1, c2, c3, c4, c5, cf⟩ := X5.out.cells
  have p0 := X5.out.ptrc (A := []) (B := []) (k := 0) rfl
  have CN5 := Lib.hid (fun m => CN.out _ (R5.out.drewN m))
  have CN0 := Lib.hid (CN.out _ R5.out)
  unfold maxLen at l3 o2
  go_upto_region 13 with (first | (go_at_call 10; (with_reducible refine CN0.out.mono ?_); rintro e w' ⟨rfl, m1, rfl⟩) | (go_at_call 10; (with_reducible refine (CN5.out _).mono ?_); rintro e w' ⟨rfl, m2, rfl⟩))
  have X6 := Lib.hid (X5.out.drewN (m1 + m2))
  have R6 := Lib.hid (R5.out.drewN (m1 + m2))
  have HJ6 := Lib.hid (show ∀ j, j < k → (w5.drewN (m1 + m2)).cell? ⟨og, j, none⟩ = some (.int .i64 (j : Int)) from HJ.out)
  clear X5 R5 HJ CN CN5 CN0 c0 c1 c2 c3 c4 c5 cf p0
  generalize w5.drewN (m1 + m2) = w6 at *
  go_wp2_with fail
  go_loopw [9] (fun i wr => ∃ j : Nat, i = .int .i64 (j : Int) ∧ j ≤ k ∧ wr = w6) (fun i _ => k - (intOf i).toNat)
  case atStart => exact ⟨0, rfl, Nat.zero_le _, rfl⟩
  case round =>
    obtain ⟨j, rfl, hj, rfl⟩ := hrel
    by_cases hlt : j < k
    · have hlt' : (j : Int) < (k : Int) := by omega
      have c := HJ6.out j hlt
      have hA : (⟨og, 0, none⟩ : Addr).add j = ⟨og, j, none⟩ := add_at og j
      go_wp2_with fail
      go_roundw
      case rel => exact ⟨j + 1, by go_num, by omega, by first | trivial | rfl⟩
      case measure => simp [intOf]; omega
    · obtain rfl : k = j := by omega
      obtain ⟨c0, c1, c2, c3, c4, c5, cf⟩ := X6.out.cells
      have p0 := X6.out.ptrc (A := []) (B := []) (k := 0) rfl
      have CB6 := Lib.hid (CB.out _ R6.out)
      go_wp2_with (first | (go_at_call 11; (with_reducible refine CB6.out.mono ?_); rintro e w' ⟨rfl, rfl⟩) | (go_at_call 12; (with_reducible refine (CL.out _).mono ?_); rintro e w7 ⟨rfl, b7⟩))
      go_ret
      exact ⟨rfl, (B2.trans (X6.out.bel.mono B2.size)).trans (b7.mono (B2.trans (X6.out.bel.mono B2.size)).size)⟩

/-! ### The row -/
set_option maxRecDepth 100000 in
theorem lifted (os : Os) (started : os.Started) (H : Type) (enc : TypeId × Value → H) :
    ReturnsInHanded {} Try.checked os 3 .any (Rows.swapFramesSpec.pre6 enc Try.prog Try.f3 Rows.swapFramesRow.domain false) (Rows.swapFramesSpec.post enc Try.prog Try.f3 false true false false) := by
  refine returnsInHanded_of_change (C := Try.checked) own started (by kernel_rfl) Try.func3
    (ChangeSpec.witness6 (enc := enc) (C := Try.checked) false ⟨#[], #[.int .i64 0, .int .i64 0], []⟩ 8 (by kernel_rfl) (by kernel_rfl) (by kernel_rfl) (by kernel_rfl)) ?_
  intro W base args ds gs before hval0 hW hcnd _
  have hval : ∀ (j : Nat) t v, Try.f3.params[j]? = some t → args[j]? = some v → Value.okWide Try.prog W .any base t v := hval0
  have hW' := hW
  obtain ⟨p, q, hA0, hV, rfl, hfz, hnd⟩ := hW
  have hA : DataW.TrodAll enc Try.prog W 0 (fun _ => true) true Try.f3.params.toList args.toList ds p := hA0
  rw [Try.params3] at hA hval
  obtain ⟨v0, vs0, d0, ds0, p0, q0, hargs, rfl, rfl, h0, r0⟩ := trodAll_cons hA
  obtain ⟨v1, vs1, d1, ds1, p1, q1, rfl, rfl, rfl, h1, r1⟩ := trodAll_cons r0
  obtain ⟨rfl, rfl, rfl⟩ := trodAll_nil r1
  obtain rfl : args = #[v0, v1] := by cases args; simp_all
  obtain ⟨rfl, rfl⟩ := trodVars_none hV
  obtain ⟨a0, rfl, rfl, rfl, w0⟩ := open_int Try.underlying3 (hval 0 3 v0 rfl rfl) h0
  obtain ⟨a1, rfl, rfl, rfl, w1⟩ := open_int Try.underlying3 (hval 1 3 v1 rfl rfl) h1
  clear hA0 hval0
  simp only [List.append_nil] at hW'
  refine (walk a0 a1 w0 w1 W).mono fun e W' ⟨he, hg⟩ => ?_
  subst he
  exact ⟨_, rfl, _, _, _, [], [], [], hW', trodAll_mk1 (shut_bool Try.underlying4 _), (trodAll_cons_mk (shut_int Try.underlying3 w0) (trodAll_cons_mk (shut_int Try.underlying3 w1) trodAll_mk0)), rfl, hg.frame _, fun h => by cases h⟩

theorem over : Rows.swapFramesRow.holds Try.pinned (OpenSpec.ofChange Rows.swapFramesSpec) :=
  OpenClaim.holds_of_wide 3 Try.f3 rfl rfl rfl rfl rfl rfl rfl ⟨rfl, rfl, rfl, rfl, rfl⟩ rfl rfl rfl rfl rfl (by kernel_rfl) Try.func3 (by kernel_rfl)
    (of_decide_eq_true (by kernel_rfl)) (by unfold Func.isWrapper; first | (rw [if_pos (by decide +kernel)]; kernel_rfl) | (rw [if_neg (by decide +kernel)]; exact ⟨rfl, rfl⟩))
    (fun os started H enc _ => lifted os started H enc)

theorem proved : Rows.SwapFramesSaid :=
  over
#print axioms proved
end Go.Proofs.Ytnbdoemnepfhdaa.swapFrames
