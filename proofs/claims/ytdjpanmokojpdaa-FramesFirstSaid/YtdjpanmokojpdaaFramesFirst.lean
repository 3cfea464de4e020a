/-
  FramesFirst: for every number, list and size the law returns true, and its arguments read as before. Conditions: none.
-/
import Derived.Test.YtdjpanmokojpdaaRows
import Derived.WalkKit
import Derived.ProofKit
import Derived.OpenShut
import Derived.Test.YtdjpanmokojpdaaFLaw
import Derived.Deep.DeepCutAuto
import Derived.Deep.CutBlock
import Derived.ShutString
import Derived.ChangeOld
import Derived.Below
namespace Go.Proofs.Ytdjpanmokojpdaa.framesFirst
open Fld
open Go.ChangeShapes Go.WideShapes Go.ChangeAt Go.RowKit
open Go.ChangeMaps (open_string shut_string)
set_option linter.unusedVariables false

theorem own : ownKnob Try.prog.godebug = none := by kernel_rfl
theorem laidOut : laidOutB Try.prog = true := by kernel_rfl

/-- WHAT THE WALK IS TOLD OF A SLICE OF INTEGERS THAT CAME IN: it is nil; or it leads to a row of 'cap' cells, the numbers 'zs' (the first 'len' are its elements, the rest its spare room), each fitting its kind. -/
def IsRow (k : IntKind) (w : World) (a : Option Addr) (len cap : Nat) (zs : List Int) : Prop :=
  (a = none ∧ len = 0 ∧ cap = 0 ∧ zs = []) ∨
  ∃ x, a = some x ∧ len ≤ cap ∧ cap ≤ maxLen ∧ zs.length = cap ∧ (∀ i, i < zs.length → w.cell? (x.add i) = some (.int k (zs.getD i 0))) ∧ ∀ n ∈ zs, (Lit.int k n).wf = true

open Frm
/-- What the walk needs of the numbers that came in. -/
theorem row_at {w : World} {a : Option Addr} {len cap : Nat} {zs : List Int} (h : IsRow .i64 w a len cap zs) (j : Nat) (hj : j < len) :
    ∃ b off x, a = some ⟨b, off, none⟩ ∧ len ≤ cap ∧ cap ≤ maxLen ∧ b < w.heap.size ∧ w.cell? ⟨b, off + j, none⟩ = some (.int .i64 x) ∧ -9223372036854775808 ≤ x ∧ x ≤ 9223372036854775807 := by
  rcases h with ⟨_, h0, _⟩ | ⟨x, rfl, h1, h2, h3, h4, h5⟩
  · omega
  · obtain ⟨b, off, rfl, hc⟩ := ints_at h4 (by omega)
    have hw := h5 (zs.getD j 0) (by rw [List.getD_eq_getElem?_getD, List.getElem?_eq_getElem (by omega)]; exact List.getElem_mem _)
    obtain ⟨b0, b1⟩ := bounds_i64 hw
    have hcj := hc j (by omega)
    exact ⟨b, off, _, rfl, h1, h2, cell_lt hcj, hcj, b0, b1⟩
theorem row_len {w : World} {a : Option Addr} {len cap : Nat} {zs : List Int} (h : IsRow .i64 w a len cap zs) : len ≤ 9223372036854775807 := by
  rcases h with ⟨_, h0, _⟩ | ⟨x, _, h1, h2, _⟩
  · omega
  · unfold maxLen at h2; omega
theorem size_four (s : Nat) (h : s < 4) : sizeB (s : Int) = true ∧ 0 < (runI (s : Int)).toNat ∧ (runI (s : Int)).toNat ≤ 512 ∧ runI (s : Int) = ((runI (s : Int)).toNat : Int) := by
  have : s = 0 ∨ s = 1 ∨ s = 2 ∨ s = 3 := by omega
  rcases this with rfl | rfl | rfl | rfl <;> decide
theorem allB_step (T : Nat → Bool) (i q : Nat) : allB T i (q + 1) false = (allB T i q false && !T (i + q)) := by
  unfold allB; rw [List.range_succ, List.all_append]; simp
/-- What has been found when j runs have been looked at. -/
def Found (T : Nat → Bool) (n R j : Nat) (x : Int) : Prop := (x = -1 ∧ ∀ i, i < j → okAt T n R R (i * R) = false) ∨ ∃ p : Nat, x = (p : Int) ∧ pick T n R R = some p
/-! ### The walk -/
set_option maxHeartbeats 4000000 in
set_option maxRecDepth 100000 in
theorem walk (a0 : Int) (a1 : Option Addr) (len1 cap1 : Nat) (z1 : List Int) (a2 : Int) (w : World) (w0 : (Lit.int .i64 a0).wf = true) (w1 : IsRow .i64 w a1 len1 cap1 z1) (w2 : (Lit.int .i64 a2).wf = true) :
    Calls Try.prog 7 #[.int .i64 a0, .slice a1 len1 cap1, .int .i64 a2] w fun e w' => e = .returned (.bool true) ∧ Below w.heap.size w w' := by
  obtain ⟨x0, x1⟩ := bounds_i64 w0
  obtain ⟨y0, y1⟩ := bounds_i64 w2
  have hlen := row_len w1
  have R := fun j => row_at w1 j
  clear w0 w1 w2
  have hn := plN_lt a0 (m := 101) (by omega)
  go_enter Try.func7, Try.ntmps7
  go_wp2_with fail
  refine (place_any a0 101 (by omega) x0 x1 _).mono ?_
  rintro e w' ⟨rfl, rfl⟩
  generalize plN a0 101 = n at *
  go_wp2_with fail
  refine (fnew_in _ _).mono ?_
  rintro e W0 ⟨rfl, H0⟩
  rw [newN_pl n (by omega)] at H0
  go_wp2
  go_loopw [8] (fun i wr => ∃ (j : Nat) (T : Nat → Bool), i = .int .i64 (j : Int) ∧ j ≤ n ∧ FrIn w n T wr) (fun i _ => n - (intOf i).toNat)
  case atStart => exact ⟨0, _, rfl, by omega, H0⟩
  case round =>
    obtain ⟨j, T, rfl, hj, H⟩ := hrel
    by_cases hlt : j < n
    · go_wp2_with (go_at_call 19; refine (take_in H _).mono ?_; rintro e w' ⟨rfl, H2⟩)
      go_roundw
      case rel => exact ⟨j + 1, _, by go_num, by omega, H2⟩
      case measure => simp [intOf]; omega
    · obtain rfl : n = j := by omega
      clear H0 hj
      go_upto_block 2 with fail
      go_cut [9] (fun _ wx => ∃ T : Nat → Bool, FrIn w n T wx)
      case first =>
        go_wp2_with fail
        go_loopw [9] (fun i wr => ∃ (j : Nat) (T : Nat → Bool), i = .int .i64 (j : Int) ∧ j ≤ 40 ∧ FrIn w n T wr) (fun i _ => 40 - (intOf i).toNat)
        case atStart => exact ⟨0, T, rfl, by omega, H⟩
        clear H
        case round =>
          obtain ⟨j, T, rfl, hj, H⟩ := hrel
          by_cases c1 : (j : Int) < (len1 : Int)
          · by_cases c2 : (j : Int) < 40
            · by_cases c3 : 0 < (n : Int)
              · obtain ⟨b, off, x, rfl, hlc, hcm, hb, hc, hx0, hx1⟩ := R j (by omega)
                have hcw := (H.bel.cell (p := ⟨b, off + j, none⟩) hb).trans hc
                unfold maxLen at hcm
                have hp := plN_lt x (m := n) (by omega)
                clear R hc
                go_wp2_with (first | (go_at_call 18; refine (place_any _ n (by omega) hx0 hx1 _).mono ?_; rintro e w' ⟨rfl, rfl⟩) | (go_at_call 21; refine (give_in H _ _ (by omega) (by omega) (by omega) (by omega)).mono ?_; rintro e w' ⟨rfl, H2⟩))
                go_roundw
                case rel => exact ⟨j + 1, _, by go_num, by omega, H2⟩
                case measure => simp [intOf]; omega
              · go_wp2_with fail
                go_meet
                exact ⟨T, H⟩
            · go_wp2_with fail
              go_meet
              exact ⟨T, H⟩
          · go_wp2_with fail
            go_meet
            exact ⟨T, H⟩
      case rest =>
        clear H
        obtain ⟨T, H⟩ := hcut
        clear R hlen
        have hs := plN_lt a2 (m := 4) (by omega)
        go_wp2_with fail
        refine (place_any a2 4 (by omega) y0 y1 _).mono ?_
        rintro e w' ⟨rfl, rfl⟩
        generalize plN a2 4 = s at *
        obtain ⟨hsz, hR0, hR1, hR2⟩ := size_four s hs
        have RR := rrun_any (s : Int)
        have EI : takeI T n (s : Int) = pickI (pick T n (runI (s : Int)).toNat (runI (s : Int)).toNat) := by unfold takeI takeO; rw [hsz]; rfl
        have EE : takeE T n (s : Int) = pickE (pick T n (runI (s : Int)).toNat (runI (s : Int)).toNat) := by unfold takeE takeO; rw [hsz]; rfl
        have ET : takeT T n (s : Int) = pickT T (runI (s : Int)).toNat (pick T n (runI (s : Int)).toNat (runI (s : Int)).toNat) := by unfold takeT takeO; rw [hsz]; rfl
        rw [hR2] at RR
        generalize (runI (s : Int)).toNat = R at *
        clear hR2 hsz
        replace EI := Lib.hid EI
        replace EE := Lib.hid EE
        replace ET := Lib.hid ET
        go_upto_block 4 with (go_at_call 24; refine (RR _).mono ?_; rintro e w' ⟨rfl, rfl⟩)
        clear RR
        go_cut [11] (fun x wx => wc = wx ∧ ∃ X : Int, x = .int .i64 X ∧ ∃ j, Found T n R j X ∧ (X = -1 → n < j * R + R))
        case first =>
          go_wp2_with fail
          go_loopw [11, 12] (fun x i wr => wc = wr ∧ ∃ (X : Int) (j : Nat), x = .int .i64 X ∧ i = .int .i64 ((j * R : Nat) : Int) ∧ j * R ≤ n ∧ Found T n R j X) (fun _ i _ => n - (intOf i).toNat)
          case atStart => exact ⟨rfl, -1, 0, rfl, by simp, by simp, .inl ⟨rfl, fun i hi => absurd hi (Nat.not_lt_zero i)⟩⟩
          case round =>
            obtain ⟨rfl, X, j, rfl, rfl, hj, HF⟩ := hrel
            have hsucc : (j + 1) * R = j * R + R := Nat.succ_mul j R
            by_cases hc : j * R + R ≤ n
            · rcases HF with ⟨rfl, hno⟩ | ⟨p, rfl, hp⟩
              · have HN := Lib.hid (fun ha => runs_next hno (n := n) ha)
                have HS := Lib.hid (fun ha => runs_some hno hc ha)
                clear hno
                generalize j * R = q at *
                go_wp2_with fail
                go_loopw [13, 14] (fun o k wr => wc = wr ∧ ∃ t : Nat, t ≤ R ∧ o = .bool (allB T q t false) ∧ k = .int .i64 ((q + t : Nat) : Int)) (fun _ k _ => q + R - (intOf k).toNat)
                case atStart => exact ⟨rfl, 0, by omega, rfl, by simp⟩
                case round =>
                  obtain ⟨rfl, t, ht, rfl, rfl⟩ := hrel
                  by_cases hlt2 : t < R
                  · have I1 : isB T n ((q + t : Nat) : Int) = T (q + t) := isB_in (by omega)
                    have HA := Lib.hid (allB_step T q t)
                    cases ha : allB T q t false
                    · rw [ha] at HA
                      go_wp2_with fail
                      go_roundw
                      case rel => exact ⟨by trivial, t + 1, by omega, by rw [HA.out]; rfl, by go_num⟩
                      case measure => simp [intOf]; omega
                    · rw [ha] at HA
                      cases hv : T (q + t)
                      · rw [hv] at HA I1
                        have IS := is_in H ((q + t : Nat) : Int)
                        rw [I1] at IS
                        go_wp2_with (go_at_call 23; refine IS.mono ?_; rintro e w' ⟨rfl, rfl⟩)
                        go_roundw
                        case rel => exact ⟨by trivial, t + 1, by omega, by rw [HA.out]; rfl, by go_num⟩
                        case measure => simp [intOf]; omega
                      · rw [hv] at HA I1
                        have IS := is_in H ((q + t : Nat) : Int)
                        rw [I1] at IS
                        go_wp2_with (go_at_call 23; refine IS.mono ?_; rintro e w' ⟨rfl, rfl⟩)
                        go_roundw
                        case rel => exact ⟨by trivial, t + 1, by omega, by rw [HA.out]; rfl, by go_num⟩
                        case measure => simp [intOf]; omega
                  · obtain rfl : t = R := by omega
                    cases ha : allB T q t false
                    · go_wp2_with fail
                      go_roundw
                      case rel => exact ⟨by trivial, -1, j + 1, rfl, by rw [hsucc]; simp, by omega, .inl ⟨rfl, HN.out ha⟩⟩
                      case measure => simp [intOf]; omega
                    · go_wp2_with fail
                      go_roundw
                      case rel => exact ⟨by trivial, q, j + 1, rfl, by rw [hsucc]; simp, by omega, .inr ⟨q, rfl, HS.out ha⟩⟩
                      case measure => simp [intOf]; omega
              · go_wp2_with fail
                go_meet
                exact ⟨rfl, p, rfl, j, .inr ⟨p, rfl, hp⟩, fun h => by omega⟩
            · go_wp2_with fail
              go_meet
              exact ⟨rfl, X, rfl, j, HF, fun _ => by omega⟩
        case rest =>
          obtain ⟨rfl, X, rfl, j, HF, HX⟩ := hcut
          have TK := take_in H (s : Int)
          rw [EI.out, EE.out, ET.out] at TK
          rcases HF with ⟨rfl, hno⟩ | ⟨p, rfl, hp⟩
          · rw [runs_none hno (HX rfl)] at TK
            have TK : Calls Try.prog 19 #[.pointer (some ⟨w.heap.size + 1, 0, none⟩), .int .i64 (s : Int)] wc fun e w' => e = .returned (.tuple #[.int .i64 0, .int .i64 6]) ∧ FrIn w n T w' := TK
            clear hno HX
            go_wp2_with (first | (go_at_call 11; refine (free_in (by assumption)).mono ?_; rintro e w' ⟨rfl, rfl⟩) | (go_at_call 19; refine TK.mono ?_; rintro e w' ⟨rfl, H3⟩) | (go_at_call 23; refine (is_in H3 _).mono ?_; rintro e w' ⟨rfl, rfl⟩) | (go_at_call 17; refine (lives_in H3).mono ?_; rintro e w' ⟨rfl, H4⟩))
            go_ret
            exact ⟨rfl, H4.bel⟩
          · rw [hp] at TK
            have TK : Calls Try.prog 19 #[.pointer (some ⟨w.heap.size + 1, 0, none⟩), .int .i64 (s : Int)] wc fun e w' => e = .returned (.tuple #[.int .i64 (p : Int), .int .i64 0]) ∧ FrIn w n (setT T p R true) w' := TK
            obtain ⟨_, o1, o2⟩ := okAt_iff.1 (pick_some hp).1
            have CT := cnt_take o1 o2
            have CL := cnt_le T n
            have CC : (cnt (setT T p R true) n : Int) = (cnt T n : Int) - (R : Int) := by omega
            have I1 : isB (setT T p R true) n (p : Int) = true := by rw [isB_in (by omega), setT_in (by omega) (by omega)]
            have I2 : isB (setT T p R true) n ((p : Int) + (R : Int) - 1) = true := by rw [show (p : Int) + (R : Int) - 1 = ((p + R - 1 : Nat) : Int) by omega, isB_in (by omega), setT_in (by omega) (by omega)]
            clear hp HX o2 CT
            go_wp2_with (first | (go_at_call 11; refine (free_in (by assumption)).mono ?_; rintro e w' ⟨rfl, rfl⟩) | (go_at_call 19; refine TK.mono ?_; rintro e w' ⟨rfl, H3⟩) | (go_at_call 23; refine (is_in H3 _).mono ?_; rintro e w' ⟨rfl, rfl⟩) | (go_at_call 17; refine (lives_in H3).mono ?_; rintro e w' ⟨rfl, H4⟩))
            go_ret
            exact ⟨rfl, H4.bel⟩

/-! ### The row -/
set_option maxRecDepth 100000 in
theorem lifted (os : Os) (started : os.Started) (H : Type) (enc : TypeId × Value → H) :
    ReturnsInHanded {} Try.checked os 7 .any (Rows.framesFirstSpec.pre6 enc Try.prog Try.f7 Rows.framesFirstRow.domain false) (Rows.framesFirstSpec.post enc Try.prog Try.f7 false true false false) := by
  refine returnsInHanded_of_change (C := Try.checked) own started (by kernel_rfl) Try.func7
    (ChangeSpec.witness6 (enc := enc) (C := Try.checked) false ⟨#[], #[.int .i64 0, .slice none 0 0, .int .i64 0], []⟩ 8 (by kernel_rfl) (by kernel_rfl) (by kernel_rfl) (by kernel_rfl)) ?_
  intro W base args ds gs before hval0 hW hcnd _
  have hval : ∀ (j : Nat) t v, Try.f7.params[j]? = some t → args[j]? = some v → Value.okWide Try.prog W .any base t v := hval0
  have hW' := hW
  obtain ⟨p, q, hA0, hV, rfl, hfz, hnd⟩ := hW
  have hA : DataW.TrodAll enc Try.prog W 0 (fun _ => true) true Try.f7.params.toList args.toList ds p := hA0
  rw [Try.params7] at hA hval
  obtain ⟨v0, vs0, d0, ds0, p0, q0, hargs, rfl, rfl, h0, r0⟩ := trodAll_cons hA
  obtain ⟨v1, vs1, d1, ds1, p1, q1, rfl, rfl, rfl, h1, r1⟩ := trodAll_cons r0
  obtain ⟨v2, vs2, d2, ds2, p2, q2, rfl, rfl, rfl, h2, r2⟩ := trodAll_cons r1
  obtain ⟨rfl, rfl, rfl⟩ := trodAll_nil r2
  obtain rfl : args = #[v0, v1, v2] := by cases args; simp_all
  obtain ⟨rfl, rfl⟩ := trodVars_none hV
  obtain ⟨a0, rfl, rfl, rfl, w0⟩ := open_int Try.underlying3 (hval 0 3 v0 rfl rfl) h0
  obtain ⟨a1, len1, cap1, rfl⟩ := okWide_slice Try.underlying25 (hval 1 25 v1 rfl rfl)
  have k1 := h1
  have lt1 : ∀ x ∈ p1, x.block < W.heap.size := by obtain ⟨m, hm⟩ := k1; exact DataW.trod_lt m _ _ _ hm
  obtain ⟨z1, w1⟩ : ∃ zs, IsRow .i64 W a1 len1 cap1 zs := by
    obtain ⟨fuel, hf⟩ := h1
    rcases open_ints Try.underlying25 Try.underlying3 (by kernel_rfl) hf with ⟨hcs, _⟩ | ⟨x, l, c, zs, hcs, _, hl, hm, hz, _, hcell, hwz⟩
    · simp [Value.cells] at hcs
      obtain ⟨rfl, rfl, rfl⟩ := hcs
      exact ⟨[], .inl ⟨rfl, rfl, rfl, rfl⟩⟩
    · simp [Value.cells] at hcs
      obtain ⟨rfl, rfl, rfl⟩ := hcs
      exact ⟨zs, .inr ⟨_, rfl, hl, hm, by simpa using hz, hcell, hwz⟩⟩
  obtain ⟨a2, rfl, rfl, rfl, w2⟩ := open_int Try.underlying3 (hval 2 3 v2 rfl rfl) h2
  clear hA0 hval0
  refine (walk a0 a1 len1 cap1 z1 a2 W w0 w1 w2).mono fun e W' ⟨he, bel⟩ => ?_
  subst he
  exact ⟨_, rfl, _, _, _, [], _, [], hW', trodAll_mk1 (shut_bool Try.underlying4 _), (trodAll_cons_mk (shut_int Try.underlying3 w0) (trodAll_cons_mk (Below.trod laidOut (by kernel_rfl) (of_decide_eq_true (by kernel_rfl)) k1 bel lt1) (trodAll_cons_mk (shut_int Try.underlying3 w2) trodAll_mk0))), rfl, bel.frame _, fun h => by cases h⟩

theorem over : Rows.framesFirstRow.holds Try.pinned (OpenSpec.ofChange Rows.framesFirstSpec) :=
  OpenClaim.holds_of_wide 7 Try.f7 rfl rfl rfl rfl rfl rfl rfl ⟨rfl, rfl, rfl, rfl, rfl⟩ rfl rfl rfl rfl rfl (by kernel_rfl) Try.func7 (by kernel_rfl)
    (of_decide_eq_true (by kernel_rfl)) (by unfold Func.isWrapper; first | (rw [if_pos (by decide +kernel)]; kernel_rfl) | (rw [if_neg (by decide +kernel)]; exact ⟨rfl, rfl⟩))
    (fun os started H enc _ => lifted os started H enc)

theorem proved : Rows.FramesFirstSaid := over
#print axioms proved
end Go.Proofs.Ytdjpanmokojpdaa.framesFirst
