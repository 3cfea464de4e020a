/-
  FramesMany: for every number, list and number the law returns true, and its arguments read as before. Conditions: none.
-/
import Derived.Test.YtdjpanmokojpdaaRows
import Derived.WalkKit
import Derived.ProofKit
import Derived.OpenShut
import Derived.Test.YtdjpanmokojpdaaFLaw
import Derived.ShutString
import Derived.ChangeOld
import Derived.Below
namespace Go.Proofs.Ytdjpanmokojpdaa.framesMany
open Fld
open Go.ChangeShapes Go.WideShapes Go.ChangeAt Go.RowKit
open Go.ChangeMaps (open_string shut_string)
set_option linter.unusedVariables false

theorem own : ownKnob Try.prog.godebug = none := by kernel_rfl
theorem laidOut : laidOutB Try.prog = true := by kernel_rfl

/-- WHAT THE WALK IS TOLD OF A SLICE OF INTEGERS THAT CAME IN: it is nil; or it leads to a row of 'cap' cells, the numbers 'zs' (the first 'len' are its elements, the rest its spare room), each fitting its kind. -/
def IsRow (k : IntKind) (w : World) (a : Option Addr) (len cap : Nat) (zs : List Int) : Prop :=
  (a = none ∧ len = 0 ∧ cap = 0 ∧ zs = []) ∨
  ∃ x, a = some x ∧ len ≤ cap ∧ cap ≤ maxLen ∧ zs.length = cap ∧ (∀ i, i < zs.length → w.cell? (x.add i) = some (.int k (zs.getD i 0))) ∧ ∀ n ∈ zs, (Lit.int k n).wf = true

open Frm
/-- What the walk needs of the numbers that came in. -/
theorem row_at {w : World} {a : Option Addr} {len cap : Nat} {zs : List Int} (h : IsRow .i64 w a len cap zs) (j : Nat) (hj : j < len) :
    ∃ b off x, a = some ⟨b, off, none⟩ ∧ len ≤ cap ∧ cap ≤ maxLen ∧ b < w.heap.size ∧ w.cell? ⟨b, off + j, none⟩ = some (.int .i64 x) ∧ -9223372036854775808 ≤ x ∧ x ≤ 9223372036854775807 := by
  rcases h with ⟨_, h0, _⟩ | ⟨x, rfl, h1, h2, h3, h4, h5⟩
  · omega
  · obtain ⟨b, off, rfl, hc⟩ := ints_at h4 (by omega)
    have hw := h5 (zs.getD j 0) (by rw [List.getD_eq_getElem?_getD, List.getElem?_eq_getElem (by omega)]; exact List.getElem_mem _)
    obtain ⟨b0, b1⟩ := bounds_i64 hw
    have hcj := hc j (by omega)
    exact ⟨b, off, _, rfl, h1, h2, cell_lt hcj, hcj, b0, b1⟩
theorem row_len {w : World} {a : Option Addr} {len cap : Nat} {zs : List Int} (h : IsRow .i64 w a len cap zs) : len ≤ 9223372036854775807 := by
  rcases h with ⟨_, h0, _⟩ | ⟨x, _, h1, h2, _⟩
  · omega
  · unfold maxLen at h2; omega
/-! ### The walk -/
set_option maxHeartbeats 4000000 in
set_option maxRecDepth 100000 in
theorem walk (a0 : Int) (a1 : Option Addr) (len1 cap1 : Nat) (z1 : List Int) (a2 : Int) (w : World) (w0 : (Lit.int .i64 a0).wf = true) (w1 : IsRow .i64 w a1 len1 cap1 z1) (w2 : (Lit.int .i64 a2).wf = true) :
    Calls Try.prog 5 #[.int .i64 a0, .slice a1 len1 cap1, .int .i64 a2] w fun e w' => e = .returned (.bool true) ∧ Below w.heap.size w w' := by
  obtain ⟨x0, x1⟩ := bounds_i64 w0
  obtain ⟨y0, y1⟩ := bounds_i64 w2
  have hlen := row_len w1
  have R := fun j => row_at w1 j
  clear w0 w1 w2
  have hn := plN_lt a0 (m := 301) (by omega)
  go_enter Try.func5, Try.ntmps5
  go_wp2_with fail
  refine (place_any a0 301 (by omega) x0 x1 _).mono ?_
  rintro e w' ⟨rfl, rfl⟩
  generalize plN a0 301 = n at *
  go_wp2_with fail
  refine (fnew_in _ _).mono ?_
  rintro e W0 ⟨rfl, H0⟩
  rw [newN_pl n (by omega)] at H0
  go_wp2
  go_loopw [8] (fun i wr => ∃ (j : Nat) (T : Nat → Bool), i = .int .i64 (j : Int) ∧ j ≤ n ∧ FrIn w n T wr) (fun i _ => n - (intOf i).toNat)
  case atStart => exact ⟨0, _, rfl, by omega, H0⟩
  case round =>
    obtain ⟨j, T, rfl, hj, H⟩ := hrel
    by_cases hlt : j < n
    · go_wp2_with (go_at_call 19; refine (take_in H _).mono ?_; rintro e w' ⟨rfl, H2⟩)
      go_roundw
      case rel => exact ⟨j + 1, _, by go_num, by omega, H2⟩
      case measure => simp [intOf]; omega
    · obtain rfl : n = j := by omega
      go_wp2
      clear H0 hj
      go_loopw [9] (fun i wr => ∃ (j : Nat) (T : Nat → Bool), i = .int .i64 (j : Int) ∧ j ≤ 30 ∧ FrIn w n T wr) (fun i _ => 30 - (intOf i).toNat)
      case atStart => exact ⟨0, T, rfl, by omega, H⟩
      clear H
      case round =>
        obtain ⟨j, T, rfl, hj, H⟩ := hrel
        by_cases c1 : (j : Int) < (len1 : Int)
        · by_cases c2 : (j : Int) < 30
          · by_cases c3 : 0 < (n : Int)
            · obtain ⟨b, off, x, rfl, hlc, hcm, hb, hc, hx0, hx1⟩ := R j (by omega)
              have hcw := (H.bel.cell (p := ⟨b, off + j, none⟩) hb).trans hc
              unfold maxLen at hcm
              have hp := plN_lt x (m := n) (by omega)
              clear R hc
              go_wp2_with (first | (go_at_call 18; refine (place_any _ n (by omega) hx0 hx1 _).mono ?_; rintro e w' ⟨rfl, rfl⟩) | (go_at_call 21; refine (give_in H _ _ (by omega) (by omega) (by omega) (by omega)).mono ?_; rintro e w' ⟨rfl, H2⟩))
              go_roundw
              case rel => exact ⟨j + 1, _, by go_num, by omega, H2⟩
              case measure => simp [intOf]; omega
            · clear R
              go_wp2_with fail
              refine (longest_in H).mono ?_
              rintro e w2 ⟨rfl, H2⟩
              have hlg := lng_le T n
              go_wp2_with fail
              refine (place_any a2 12 (by omega) y0 y1 _).mono ?_
              rintro e w' ⟨rfl, rfl⟩
              have hk := plN_lt a2 (m := 12) (by omega)
              generalize plN a2 12 = k at *
              by_cases k0 : k = 0
              · subst k0
                have E1 : manyE T n (0 : Int) = 1 := rfl
                have E2 : manyI T n (0 : Int) = 0 := rfl
                go_wp2_with (first | (go_at_call 22; refine (many_in H2 _).mono ?_; rintro e w' ⟨rfl, H3⟩) | (go_at_call 17; refine (lives_in H3).mono ?_; rintro e w' ⟨rfl, H4⟩))
                go_ret
                exact ⟨rfl, H4.bel⟩
              · have hk1 : 0 < k := by omega
                clear k0
                by_cases hl : lng T n < k
                · have E1 : manyE T n (k : Int) = 6 := by unfold manyE manyO; rw [if_neg (by omega), Int.toNat_natCast, many_none hl]; rfl
                  have E2 : manyI T n (k : Int) = 0 := by unfold manyI manyO; rw [if_neg (by omega), Int.toNat_natCast, many_none hl]; rfl
                  go_wp2_with (first | (go_at_call 22; refine (many_in H2 _).mono ?_; rintro e w' ⟨rfl, H3⟩) | (go_at_call 17; refine (lives_in H3).mono ?_; rintro e w' ⟨rfl, H4⟩))
                  go_ret
                  exact ⟨rfl, H4.bel⟩
                · obtain ⟨i, hi, hik⟩ := many_some (T := T) (n := n) (k := k) (by omega)
                  have E1 : manyE T n (k : Int) = 0 := by unfold manyE manyO; rw [if_neg (by omega), Int.toNat_natCast, hi]; rfl
                  have E2 : manyI T n (k : Int) = (i : Int) := by unfold manyI manyO; rw [if_neg (by omega), Int.toNat_natCast, hi]; rfl
                  have E3 : manyT T n (k : Int) = setT T i k true := by unfold manyT manyO; rw [if_neg (by omega), Int.toNat_natCast, hi]; rfl
                  have E4 : isB (setT T i k true) n (i : Int) = true := by rw [isB_in (by omega), setT_in (by omega) (by omega)]
                  have E5 : isB (setT T i k true) n ((i : Int) + (k : Int) - 1) = true := by rw [show (i : Int) + (k : Int) - 1 = ((i + k - 1 : Nat) : Int) by omega, isB_in (by omega), setT_in (by omega) (by omega)]
                  clear hi
                  go_wp2_with (first | (go_at_call 22; refine (many_in H2 _).mono ?_; rw [E3]; rintro e w' ⟨rfl, H3⟩) | (go_at_call 23; refine (is_in H3 _).mono ?_; rintro e w' ⟨rfl, rfl⟩) | (go_at_call 17; refine (lives_in H3).mono ?_; rintro e w' ⟨rfl, H4⟩))
                  all_goals (go_ret; exact ⟨rfl, H4.bel⟩)
          · clear R
            go_wp2_with fail
            refine (longest_in H).mono ?_
            rintro e w2 ⟨rfl, H2⟩
            have hlg := lng_le T n
            go_wp2_with fail
            refine (place_any a2 12 (by omega) y0 y1 _).mono ?_
            rintro e w' ⟨rfl, rfl⟩
            have hk := plN_lt a2 (m := 12) (by omega)
            generalize plN a2 12 = k at *
            by_cases k0 : k = 0
            · subst k0
              have E1 : manyE T n (0 : Int) = 1 := rfl
              have E2 : manyI T n (0 : Int) = 0 := rfl
              go_wp2_with (first | (go_at_call 22; refine (many_in H2 _).mono ?_; rintro e w' ⟨rfl, H3⟩) | (go_at_call 17; refine (lives_in H3).mono ?_; rintro e w' ⟨rfl, H4⟩))
              go_ret
              exact ⟨rfl, H4.bel⟩
            · have hk1 : 0 < k := by omega
              clear k0
              by_cases hl : lng T n < k
              · have E1 : manyE T n (k : Int) = 6 := by unfold manyE manyO; rw [if_neg (by omega), Int.toNat_natCast, many_none hl]; rfl
                have E2 : manyI T n (k : Int) = 0 := by unfold manyI manyO; rw [if_neg (by omega), Int.toNat_natCast, many_none hl]; rfl
                go_wp2_with (first | (go_at_call 22; refine (many_in H2 _).mono ?_; rintro e w' ⟨rfl, H3⟩) | (go_at_call 17; refine (lives_in H3).mono ?_; rintro e w' ⟨rfl, H4⟩))
                go_ret
                exact ⟨rfl, H4.bel⟩
              · obtain ⟨i, hi, hik⟩ := many_some (T := T) (n := n) (k := k) (by omega)
                have E1 : manyE T n (k : Int) = 0 := by unfold manyE manyO; rw [if_neg (by omega), Int.toNat_natCast, hi]; rfl
                have E2 : manyI T n (k : Int) = (i : Int) := by unfold manyI manyO; rw [if_neg (by omega), Int.toNat_natCast, hi]; rfl
                have E3 : manyT T n (k : Int) = setT T i k true := by unfold manyT manyO; rw [if_neg (by omega), Int.toNat_natCast, hi]; rfl
                have E4 : isB (setT T i k true) n (i : Int) = true := by rw [isB_in (by omega), setT_in (by omega) (by omega)]
                have E5 : isB (setT T i k true) n ((i : Int) + (k : Int) - 1) = true := by rw [show (i : Int) + (k : Int) - 1 = ((i + k - 1 : Nat) : Int) by omega, isB_in (by omega), setT_in (by omega) (by omega)]
                clear hi
                go_wp2_with (first | (go_at_call 22; refine (many_in H2 _).mono ?_; rw [E3]; rintro e w' ⟨rfl, H3⟩) | (go_at_call 23; refine (is_in H3 _).mono ?_; rintro e w' ⟨rfl, rfl⟩) | (go_at_call 17; refine (lives_in H3).mono ?_; rintro e w' ⟨rfl, H4⟩))
                go_ret
                exact ⟨rfl, H4.bel⟩
        · clear R
          go_wp2_with fail
          refine (longest_in H).mono ?_
          rintro e w2 ⟨rfl, H2⟩
          have hlg := lng_le T n
          go_wp2_with fail
          refine (place_any a2 12 (by omega) y0 y1 _).mono ?_
          rintro e w' ⟨rfl, rfl⟩
          have hk := plN_lt a2 (m := 12) (by omega)
          generalize plN a2 12 = k at *
          by_cases k0 : k = 0
          · subst k0
            have E1 : manyE T n (0 : Int) = 1 := rfl
            have E2 : manyI T n (0 : Int) = 0 := rfl
            go_wp2_with (first | (go_at_call 22; refine (many_in H2 _).mono ?_; rintro e w' ⟨rfl, H3⟩) | (go_at_call 17; refine (lives_in H3).mono ?_; rintro e w' ⟨rfl, H4⟩))
            go_ret
            exact ⟨rfl, H4.bel⟩
          · have hk1 : 0 < k := by omega
            clear k0
            by_cases hl : lng T n < k
            · have E1 : manyE T n (k : Int) = 6 := by unfold manyE manyO; rw [if_neg (by omega), Int.toNat_natCast, many_none hl]; rfl
              have E2 : manyI T n (k : Int) = 0 := by unfold manyI manyO; rw [if_neg (by omega), Int.toNat_natCast, many_none hl]; rfl
              go_wp2_with (first | (go_at_call 22; refine (many_in H2 _).mono ?_; rintro e w' ⟨rfl, H3⟩) | (go_at_call 17; refine (lives_in H3).mono ?_; rintro e w' ⟨rfl, H4⟩))
              go_ret
              exact ⟨rfl, H4.bel⟩
            · obtain ⟨i, hi, hik⟩ := many_some (T := T) (n := n) (k := k) (by omega)
              have E1 : manyE T n (k : Int) = 0 := by unfold manyE manyO; rw [if_neg (by omega), Int.toNat_natCast, hi]; rfl
              have E2 : manyI T n (k : Int) = (i : Int) := by unfold manyI manyO; rw [if_neg (by omega), Int.toNat_natCast, hi]; rfl
              have E3 : manyT T n (k : Int) = setT T i k true := by unfold manyT manyO; rw [if_neg (by omega), Int.toNat_natCast, hi]; rfl
              have E4 : isB (setT T i k true) n (i : Int) = true := by rw [isB_in (by omega), setT_in (by omega) (by omega)]
              have E5 : isB (setT T i k true) n ((i : Int) + (k : Int) - 1) = true := by rw [show (i : Int) + (k : Int) - 1 = ((i + k - 1 : Nat) : Int) by omega, isB_in (by omega), setT_in (by omega) (by omega)]
              clear hi
              go_wp2_with (first | (go_at_call 22; refine (many_in H2 _).mono ?_; rw [E3]; rintro e w' ⟨rfl, H3⟩) | (go_at_call 23; refine (is_in H3 _).mono ?_; rintro e w' ⟨rfl, rfl⟩) | (go_at_call 17; refine (lives_in H3).mono ?_; rintro e w' ⟨rfl, H4⟩))
              go_ret
              exact ⟨rfl, H4.bel⟩

/-! ### The row -/
set_option maxRecDepth 100000 in
theorem lifted (os : Os) (started : os.Started) (H : Type) (enc : TypeId × Value → H) :
    ReturnsInHanded {} Try.checked os 5 .any (Rows.framesManySpec.pre6 enc Try.prog Try.f5 Rows.framesManyRow.domain false) (Rows.framesManySpec.post enc Try.prog Try.f5 false true false false) := by
  refine returnsInHanded_of_change (C := Try.checked) own started (by kernel_rfl) Try.func5
    (ChangeSpec.witness6 (enc := enc) (C := Try.checked) false ⟨#[], #[.int .i64 0, .slice none 0 0, .int .i64 0], []⟩ 8 (by kernel_rfl) (by kernel_rfl) (by kernel_rfl) (by kernel_rfl)) ?_
  intro W base args ds gs before hval0 hW hcnd _
  have hval : ∀ (j : Nat) t v, Try.f5.params[j]? = some t → args[j]? = some v → Value.okWide Try.prog W .any base t v := hval0
  have hW' := hW
  obtain ⟨p, q, hA0, hV, rfl, hfz, hnd⟩ := hW
  have hA : DataW.TrodAll enc Try.prog W 0 (fun _ => true) true Try.f5.params.toList args.toList ds p := hA0
  rw [Try.params5] at hA hval
  obtain ⟨v0, vs0, d0, ds0, p0, q0, hargs, rfl, rfl, h0, r0⟩ := trodAll_cons hA
  obtain ⟨v1, vs1, d1, ds1, p1, q1, rfl, rfl, rfl, h1, r1⟩ := trodAll_cons r0
  obtain ⟨v2, vs2, d2, ds2, p2, q2, rfl, rfl, rfl, h2, r2⟩ := trodAll_cons r1
  obtain ⟨rfl, rfl, rfl⟩ := trodAll_nil r2
  obtain rfl : args = #[v0, v1, v2] := by cases args; simp_all
  obtain ⟨rfl, rfl⟩ := trodVars_none hV
  obtain ⟨a0, rfl, rfl, rfl, w0⟩ := open_int Try.underlying3 (hval 0 3 v0 rfl rfl) h0
  obtain ⟨a1, len1, cap1, rfl⟩ := okWide_slice Try.underlying25 (hval 1 25 v1 rfl rfl)
  have k1 := h1
  have lt1 : ∀ x ∈ p1, x.block < W.heap.size := by obtain ⟨m, hm⟩ := k1; exact DataW.trod_lt m _ _ _ hm
  obtain ⟨z1, w1⟩ : ∃ zs, IsRow .i64 W a1 len1 cap1 zs := by
    obtain ⟨fuel, hf⟩ := h1
    rcases open_ints Try.underlying25 Try.underlying3 (by kernel_rfl) hf with ⟨hcs, _⟩ | ⟨x, l, c, zs, hcs, _, hl, hm, hz, _, hcell, hwz⟩
    · simp [Value.cells] at hcs
      obtain ⟨rfl, rfl, rfl⟩ := hcs
      exact ⟨[], .inl ⟨rfl, rfl, rfl, rfl⟩⟩
    · simp [Value.cells] at hcs
      obtain ⟨rfl, rfl, rfl⟩ := hcs
      exact ⟨zs, .inr ⟨_, rfl, hl, hm, by simpa using hz, hcell, hwz⟩⟩
  obtain ⟨a2, rfl, rfl, rfl, w2⟩ := open_int Try.underlying3 (hval 2 3 v2 rfl rfl) h2
  clear hA0 hval0
  refine (walk a0 a1 len1 cap1 z1 a2 W w0 w1 w2).mono fun e W' ⟨he, bel⟩ => ?_
  subst he
  exact ⟨_, rfl, _, _, _, [], _, [], hW', trodAll_mk1 (shut_bool Try.underlying4 _), (trodAll_cons_mk (shut_int Try.underlying3 w0) (trodAll_cons_mk (Below.trod laidOut (by kernel_rfl) (of_decide_eq_true (by kernel_rfl)) k1 bel lt1) (trodAll_cons_mk (shut_int Try.underlying3 w2) trodAll_mk0))), rfl, bel.frame _, fun h => by cases h⟩

theorem over : Rows.framesManyRow.holds Try.pinned (OpenSpec.ofChange Rows.framesManySpec) :=
  OpenClaim.holds_of_wide 5 Try.f5 rfl rfl rfl rfl rfl rfl rfl ⟨rfl, rfl, rfl, rfl, rfl⟩ rfl rfl rfl rfl rfl (by kernel_rfl) Try.func5 (by kernel_rfl)
    (of_decide_eq_true (by kernel_rfl)) (by unfold Func.isWrapper; first | (rw [if_pos (by decide +kernel)]; kernel_rfl) | (rw [if_neg (by decide +kernel)]; exact ⟨rfl, rfl⟩))
    (fun os started H enc _ => lifted os started H enc)

theorem proved : Rows.FramesManySaid := over
#print axioms proved
end Go.Proofs.Ytdjpanmokojpdaa.framesMany
