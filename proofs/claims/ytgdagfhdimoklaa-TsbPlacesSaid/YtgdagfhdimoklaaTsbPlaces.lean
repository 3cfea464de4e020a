/-
  TsbPlaces: for every size of memory, beginning, size and grade the law returns true, and its arguments read as before. Conditions: none.
-/
import Derived.Test.YtgdagfhdimoklaaRows
import Derived.WalkKit
import Derived.ProofKit
import Derived.OpenShut
import Derived.Test.YtgdagfhdimoklaaGF
import Derived.ShutString
namespace Go.Proofs.Ytgdagfhdimoklaa.tsbPlaces
open Fld
open Go.ChangeShapes Go.WideShapes Go.ChangeAt Go.RowKit
open Go.ChangeMaps (open_string shut_string)
set_option linter.unusedVariables false

theorem own : ownKnob Try.prog.godebug = none := by kernel_rfl

open Ts
theorem lst_none (p : Par) (k : Nat) : lstP p (fun _ => Pl.none) k = [] := by
  induction k with
  | zero => rfl
  | succ k ih =>
    rw [lst_miss, ih]
    unfold ownB
    rw [show Pl.none = (⟨9223372036854775807, 0⟩ : Pl) from rfl, locked_no _ _ _ (by decide)]; simp
/-! ### The walk -/
set_option maxHeartbeats 4000000 in
set_option maxRecDepth 100000 in
theorem walk (a0 : Int) (a1 : Int) (a2 : Int) (a3 : Int) (w0 : (Lit.int .u64 a0).wf = true) (w1 : (Lit.int .u64 a1).wf = true) (w2 : (Lit.int .i64 a2).wf = true) (w3 : (Lit.int .i64 a3).wf = true) (w : World) :
    Calls Try.prog 3 #[.int .u64 a0, .int .u64 a1, .int .i64 a2, .int .i64 a3] w fun e w' => e = .returned (.bool true) ∧ Below w.heap.size w w' := by
  obtain ⟨x0, x1⟩ := bounds_u64 w0
  obtain ⟨b0, b1⟩ := bounds_u64 w1
  clear w0 w1 w2 w3
  have hS : 0 ≤ a0 % 200001 ∧ a0 % 200001 ≤ 200000 := by omega
  have C1 := Lib.hid (fun W => Mem.new_any (a0 % 200001) hS.1 (by omega) W)
  rw [show (min (a0 % 200001) 2199023255552).toNat = (a0 % 200001).toNat by omega] at C1
  have CY := Lib.hid (fun W => rwhy_any (a0 % 200001) a1 a2 a3 hS.1 hS.2 b0 b1 W)
  have CP := Lib.hid (fun W => places_any a2 a3 W)
  have CR := Lib.hid (fun W => rplaces_any a2 a3 W)
  have HE := why_eq (S := a0 % 200001) (s := a2) (g := a3) b0 hS.1 (by omega)
  have HL := Lib.hid (fun W => blives_any W)
  by_cases he : newE (a0 % 200001) a1 a2 a3 = 0
  · have C2 := Lib.hid (fun W W1 sb bm hW a c h => nnew_yes (a0 % 200001) a1 a2 a3 hS.1 b0 b1 W W1 sb bm hW a c h he)
    rw [← HE, he] at CY
    have HN := Lib.hid (show 0 ≤ placesI a2 a3 from by
      by_cases hh : sizeB a2 = true ∧ 0 ≤ a3 ∧ a3 ≤ 3
      · have := places_bd hh.1 hh.2.1 hh.2.2; omega
      · rw [places_no hh]; omega)
    have CLn := Lib.hid (fun W st sb bm (h : TsbAt W st sb bm ⟨(a0 % 200001).toNat, a1.toNat, (placesI a2 a3).toNat, a2, a3⟩ (fun _ => Pl.none)) => (show Calls Try.prog 14 #[.pointer (some ⟨st, 0, none⟩)] W fun e w' => e = .returned (.int .i64 (placesI a2 a3)) ∧ ∃ m, w' = W.drewN m by
      have := len_any h.ok W h.row
      rw [show (((⟨(a0 % 200001).toNat, a1.toNat, (placesI a2 a3).toNat, a2, a3⟩ : Par).n : Nat) : Int) = placesI a2 a3 from Int.toNat_of_nonneg HN.out] at this
      exact this))
    have CBs := Lib.hid (fun W st sb bm (h : TsbAt W st sb bm ⟨(a0 % 200001).toNat, a1.toNat, (placesI a2 a3).toNat, a2, a3⟩ (fun _ => Pl.none)) => (show Calls Try.prog 15 #[.pointer (some ⟨st, 0, none⟩)] W fun e w' => e = .returned (.int .u64 a1) ∧ W = w' by
      have := base_any W h.row
      rw [show (((⟨(a0 % 200001).toNat, a1.toNat, (placesI a2 a3).toNat, a2, a3⟩ : Par).b : Nat) : Int) = a1 from Int.toNat_of_nonneg b0] at this
      exact this))
    have CG := Lib.hid (fun W st sb bm (h : TsbAt W st sb bm ⟨(a0 % 200001).toNat, a1.toNat, (placesI a2 a3).toNat, a2, a3⟩ (fun _ => Pl.none)) => (show Calls Try.prog 16 #[.pointer (some ⟨st, 0, none⟩)] W fun e w' => e = .returned (.int .i64 a3) ∧ W = w' from grade_any W h.row))
    have CK := Lib.hid (fun W st sb bm (h : TsbAt W st sb bm ⟨(a0 % 200001).toNat, a1.toNat, (placesI a2 a3).toNat, a2, a3⟩ (fun _ => Pl.none)) => (show Calls Try.prog 17 #[.pointer (some ⟨st, 0, none⟩)] W fun e w' => e = .returned (.int .i64 (placesI a2 a3)) ∧ Below W.heap.size W w' by
      have := locked_any W h
      rw [lck_all (fun _ _ => rfl), show (((⟨(a0 % 200001).toNat, a1.toNat, (placesI a2 a3).toNat, a2, a3⟩ : Par).n : Nat) : Int) = placesI a2 a3 from Int.toNat_of_nonneg HN.out] at this
      exact this))
    have CT := Lib.hid (fun W st sb bm (h : TsbAt W st sb bm ⟨(a0 % 200001).toNat, a1.toNat, (placesI a2 a3).toNat, a2, a3⟩ (fun _ => Pl.none)) => (show Calls Try.prog 18 #[.pointer (some ⟨st, 0, none⟩)] W fun e w' => ∃ ao c, e = .returned (.slice ao 0 c) ∧ Below W.heap.size W w' from (tlist_any W h).mono (by
      rintro e w' ⟨v, rfl, hv, hb⟩
      rw [lst_none] at hv
      obtain ⟨ao, c, rfl⟩ := own_shape hv
      exact ⟨ao, c, rfl, hb⟩)))
    generalize (⟨(a0 % 200001).toNat, a1.toNat, (placesI a2 a3).toNat, a2, a3⟩ : Par) = P at *
    generalize placesI a2 a3 = n at *
    generalize hSS : a0 % 200001 = S at *
    clear HE he HN
    go_enter Try.func3, Try.ntmps3
    go_wp2_with fail
    refine (C1.out _).mono ?_; rintro e w1 ⟨rfl, m1, b1'⟩
    clear C1
    go_wp2_with fail
    refine (CY.out _).mono ?_; rintro e w2 ⟨rfl, hb2⟩
    have m2 := m1.same (hb2.block _ m1.lt.1) (hb2.block _ m1.lt.2)
    have b2 := b1'.trans (hb2.mono b1'.size)
    clear CY m1 hb2 b1'
    go_wp2_with fail
    refine (C2.out w w2 _ _ b2 (by omega) (Nat.le_refl _) m2).mono ?_; rintro e w3 ⟨rfl, sb, bm, n1, n2, n3, n4, t3⟩
    clear C2 m2 b2
    go_wp2_with (first | (go_at_call 11; refine (CP.out _).mono ?_; rintro e w' ⟨rfl, rfl⟩) | fail)
    refine (CR.out _).mono ?_; rintro e w4 ⟨rfl, hb4⟩
    have t4 := t3.low hb4
    have b4 := n4.trans (hb4.mono n4.size)
    clear CR t3 hb4 n4
    go_wp2_with fail
    refine (CLn.out _ _ _ _ t4).mono ?_; rintro e w5 ⟨rfl, k5, rfl⟩
    have t5 := t4.drewN k5
    have b5 := below_drewN b4 k5
    clear t4 b4
    go_wp2_with (first | (go_at_call 11; refine (CP.out _).mono ?_; rintro e w' ⟨rfl, rfl⟩) | (go_at_call 15; refine (CBs.out _ _ _ _ t5).mono ?_; rintro e w' ⟨rfl, rfl⟩) | (go_at_call 16; refine (CG.out _ _ _ _ t5).mono ?_; rintro e w' ⟨rfl, rfl⟩) | fail)
    refine (CK.out _ _ _ _ t5).mono ?_; rintro e w6 ⟨rfl, hb6⟩
    have t6 := t5.low hb6
    have b6 := b5.trans (hb6.mono b5.size)
    clear CK t5 hb6 b5 CBs CG
    go_wp2_with fail
    refine (CLn.out _ _ _ _ t6).mono ?_; rintro e w7 ⟨rfl, k7, rfl⟩
    have t7 := t6.drewN k7
    have b7 := below_drewN b6 k7
    clear t6 b6 CLn
    go_wp2_with fail
    refine (CT.out _ _ _ _ t7).mono ?_; rintro e w8 ⟨ao, c, rfl, hb8⟩
    have b8 := b7.trans (hb8.mono b7.size)
    clear CT t7 b7 hb8
    go_wp2_with fail
    refine (HL.out _).mono ?_; rintro e w9 ⟨rfl, hb9⟩
    go_wp2_with fail
    go_ret
    exact ⟨rfl, b8.trans (hb9.mono b8.size)⟩
  · have C2 := Lib.hid (fun W sb bm (h : Mem.MemAt W sb bm (a0 % 200001).toNat (fun _ => 0)) => new_no (a0 % 200001).toNat (fun _ => 0) sb bm a1 a2 a3 b0 b1 W h (by rw [Int.toNat_of_nonneg hS.1]; exact he))
    rw [Int.toNat_of_nonneg hS.1] at C2
    rw [← HE] at CY
    generalize newE (a0 % 200001) a1 a2 a3 = E at *
    generalize placesI a2 a3 = n at *
    generalize hSS : a0 % 200001 = S at *
    clear HE
    go_enter Try.func3, Try.ntmps3
    go_wp2_with fail
    refine (C1.out _).mono ?_; rintro e w1 ⟨rfl, m1, b1'⟩
    clear C1
    go_wp2_with fail
    refine (CY.out _).mono ?_; rintro e w2 ⟨rfl, hb2⟩
    have m2 := m1.same (hb2.block _ m1.lt.1) (hb2.block _ m1.lt.2)
    have b2 := b1'.trans (hb2.mono b1'.size)
    clear CY m1 hb2 b1'
    go_wp2_with fail
    refine (C2.out _ _ _ m2).mono ?_; rintro e w3 ⟨rfl, k3, rfl⟩
    have b3 := below_drewN b2 k3
    clear C2 m2 b2
    go_wp2_with (first | (go_at_call 11; refine (CP.out _).mono ?_; rintro e w' ⟨rfl, rfl⟩) | fail)
    refine (CR.out _).mono ?_; rintro e w4 ⟨rfl, hb4⟩
    have b4 := b3.trans (hb4.mono b3.size)
    clear CR b3 hb4
    go_wp2_with fail
    refine (HL.out _).mono ?_; rintro e w9 ⟨rfl, hb9⟩
    go_wp2_with fail
    go_ret
    exact ⟨rfl, b4.trans (hb9.mono b4.size)⟩

/-! ### The row -/
set_option maxRecDepth 100000 in
theorem lifted (os : Os) (started : os.Started) (H : Type) (enc : TypeId × Value → H) :
    ReturnsInHanded {} Try.checked os 3 .any (Rows.tsbPlacesSpec.pre6 enc Try.prog Try.f3 Rows.tsbPlacesRow.domain false) (Rows.tsbPlacesSpec.post enc Try.prog Try.f3 false true false false) := by
  refine returnsInHanded_of_change (C := Try.checked) own started (by kernel_rfl) Try.func3
    (ChangeSpec.witness6 (enc := enc) (C := Try.checked) false ⟨#[], #[.int .u64 0, .int .u64 0, .int .i64 0, .int .i64 0], []⟩ 8 (by kernel_rfl) (by kernel_rfl) (by kernel_rfl) (by kernel_rfl)) ?_
  intro W base args ds gs before hval0 hW hcnd _
  have hval : ∀ (j : Nat) t v, Try.f3.params[j]? = some t → args[j]? = some v → Value.okWide Try.prog W .any base t v := hval0
  have hW' := hW
  obtain ⟨p, q, hA0, hV, rfl, hfz, hnd⟩ := hW
  have hA : DataW.TrodAll enc Try.prog W 0 (fun _ => true) true Try.f3.params.toList args.toList ds p := hA0
  rw [Try.params3] at hA hval
  obtain ⟨v0, vs0, d0, ds0, p0, q0, hargs, rfl, rfl, h0, r0⟩ := trodAll_cons hA
  obtain ⟨v1, vs1, d1, ds1, p1, q1, rfl, rfl, rfl, h1, r1⟩ := trodAll_cons r0
  obtain ⟨v2, vs2, d2, ds2, p2, q2, rfl, rfl, rfl, h2, r2⟩ := trodAll_cons r1
  obtain ⟨v3, vs3, d3, ds3, p3, q3, rfl, rfl, rfl, h3, r3⟩ := trodAll_cons r2
  obtain ⟨rfl, rfl, rfl⟩ := trodAll_nil r3
  obtain rfl : args = #[v0, v1, v2, v3] := by cases args; simp_all
  obtain ⟨rfl, rfl⟩ := trodVars_none hV
  obtain ⟨a0, rfl, rfl, rfl, w0⟩ := open_int Try.underlying22 (hval 0 22 v0 rfl rfl) h0
  obtain ⟨a1, rfl, rfl, rfl, w1⟩ := open_int Try.underlying22 (hval 1 22 v1 rfl rfl) h1
  obtain ⟨a2, rfl, rfl, rfl, w2⟩ := open_int Try.underlying3 (hval 2 3 v2 rfl rfl) h2
  obtain ⟨a3, rfl, rfl, rfl, w3⟩ := open_int Try.underlying3 (hval 3 3 v3 rfl rfl) h3
  clear hA0 hval0
  simp only [List.append_nil] at hW'
  refine (walk a0 a1 a2 a3 w0 w1 w2 w3 W).mono fun e W' ⟨he, hg⟩ => ?_
  subst he
  exact ⟨_, rfl, _, _, _, [], [], [], hW', trodAll_mk1 (shut_bool Try.underlying4 _), (trodAll_cons_mk (shut_int Try.underlying22 w0) (trodAll_cons_mk (shut_int Try.underlying22 w1) (trodAll_cons_mk (shut_int Try.underlying3 w2) (trodAll_cons_mk (shut_int Try.underlying3 w3) trodAll_mk0)))), rfl, hg.frame _, fun h => by cases h⟩

theorem over : Rows.tsbPlacesRow.holds Try.pinned (OpenSpec.ofChange Rows.tsbPlacesSpec) :=
  OpenClaim.holds_of_wide 3 Try.f3 rfl rfl rfl rfl rfl rfl rfl ⟨rfl, rfl, rfl, rfl, rfl⟩ rfl rfl rfl rfl rfl (by kernel_rfl) Try.func3 (by kernel_rfl)
    (of_decide_eq_true (by kernel_rfl)) (by unfold Func.isWrapper; first | (rw [if_pos (by decide +kernel)]; kernel_rfl) | (rw [if_neg (by decide +kernel)]; exact ⟨rfl, rfl⟩))
    (fun os started H enc _ => lifted os started H enc)

theorem proved : Rows.TsbPlacesSaid :=
  over
#print axioms proved
end Go.Proofs.Ytgdagfhdimoklaa.tsbPlaces
