/-
  FramesApart: for every number and list of sizes the law returns true, and its arguments read as before. Conditions: none.
-/
import Derived.Test.YtdjpanmokojpdaaRows
import Derived.WalkKit
import Derived.ProofKit
import Derived.OpenShut
import Derived.Test.YtdjpanmokojpdaaFTaken
import Derived.Deep.DeepCutAuto
import Derived.Deep.CutBlock
import Derived.Deep.RegionHeld3
import Derived.ShutString
import Derived.ChangeOld
import Derived.Below
namespace Go.Proofs.Ytdjpanmokojpdaa.framesApart
open Fld
open Go.ChangeShapes Go.WideShapes Go.ChangeAt Go.RowKit
open Go.ChangeMaps (open_string shut_string)
set_option linter.unusedVariables false

theorem own : ownKnob Try.prog.godebug = none := by kernel_rfl
theorem laidOut : laidOutB Try.prog = true := by kernel_rfl

/-- WHAT THE WALK IS TOLD OF A SLICE OF INTEGERS THAT CAME IN: it is nil; or it leads to a row of 'cap' cells, the numbers 'zs' (the first 'len' are its elements, the rest its spare room), each fitting its kind. -/
def IsRow (k : IntKind) (w : World) (a : Option Addr) (len cap : Nat) (zs : List Int) : Prop :=
  (a = none ∧ len = 0 ∧ cap = 0 ∧ zs = []) ∨
  ∃ x, a = some x ∧ len ≤ cap ∧ cap ≤ maxLen ∧ zs.length = cap ∧ (∀ i, i < zs.length → w.cell? (x.add i) = some (.int k (zs.getD i 0))) ∧ ∀ n ∈ zs, (Lit.int k n).wf = true

open Frm
/-- What the walk needs of the numbers that came in. -/
theorem row_at {w : World} {a : Option Addr} {len cap : Nat} {zs : List Int} (h : IsRow .i64 w a len cap zs) (j : Nat) (hj : j < len) :
    ∃ b off x, a = some ⟨b, off, none⟩ ∧ len ≤ cap ∧ cap ≤ maxLen ∧ b < w.heap.size ∧ w.cell? ⟨b, off + j, none⟩ = some (.int .i64 x) ∧ -9223372036854775808 ≤ x ∧ x ≤ 9223372036854775807 := by
  rcases h with ⟨_, h0, _⟩ | ⟨x, rfl, h1, h2, h3, h4, h5⟩
  · omega
  · obtain ⟨b, off, rfl, hc⟩ := ints_at h4 (by omega)
    have hw := h5 (zs.getD j 0) (by rw [List.getD_eq_getElem?_getD, List.getElem?_eq_getElem (by omega)]; exact List.getElem_mem _)
    obtain ⟨b0, b1⟩ := bounds_i64 hw
    have hcj := hc j (by omega)
    exact ⟨b, off, _, rfl, h1, h2, cell_lt hcj, hcj, b0, b1⟩
theorem row_len {w : World} {a : Option Addr} {len cap : Nat} {zs : List Int} (h : IsRow .i64 w a len cap zs) : len ≤ 9223372036854775807 := by
  rcases h with ⟨_, h0, _⟩ | ⟨x, _, h1, h2, _⟩
  · omega
  · unfold maxLen at h2; omega
/-! ### The walk -/
set_option maxHeartbeats 4000000 in
set_option maxRecDepth 100000 in
theorem walk (a0 : Int) (a1 : Option Addr) (len1 cap1 : Nat) (z1 : List Int) (w : World) (w0 : (Lit.int .i64 a0).wf = true) (w1 : IsRow .i64 w a1 len1 cap1 z1) :
    Calls Try.prog 4 #[.int .i64 a0, .slice a1 len1 cap1] w fun e w' => e = .returned (.bool true) ∧ Below w.heap.size w w' := by
  obtain ⟨x0, x1⟩ := bounds_i64 w0
  have hlen := row_len w1
  have R := fun j => row_at w1 j
  clear w0 w1
  have hn := plN_lt a0 (m := 2001) (by omega)
  obtain ⟨i0, hi, hz0, hz1, hz2⟩ := info_parts infoT
  go_enter Try.func4, Try.ntmps4
  go_wp2_with fail
  refine (place_any a0 2001 (by omega) x0 x1 _).mono ?_
  rintro e w' ⟨rfl, rfl⟩
  generalize plN a0 2001 = n at *
  go_wp2_with fail
  refine (fnew_in _ _).mono ?_
  rintro e W0 ⟨rfl, H0⟩
  rw [newN_pl n (by omega)] at H0
  have A0 : ApIn w n (fun _ => false) (.slice none 0 0) [] W0 := ⟨H0, World.ownsRow_nil _ _ _ _, by have := H0.fr.lt.1; omega⟩
  clear H0
  go_upto_block 0 with fail
  go_cut [6] (fun v wx => ∃ (T : Nat → Bool) (l : List (Nat × Nat)), l.length ≤ 20 ∧ ApIn w n T v l wx ∧ Apart n T l)
  case first =>
    go_wp2_with fail
    go_loopw [6, 7] (fun v i wr => ∃ (j : Nat) (T : Nat → Bool) (l : List (Nat × Nat)), i = .int .i64 (j : Int) ∧ j ≤ 20 ∧ l.length ≤ j ∧ ApIn w n T v l wr ∧ Apart n T l) (fun _ i _ => 20 - (intOf i).toNat)
    case atStart => exact ⟨0, _, _, rfl, by omega, by simp, A0, apart_new n⟩
    case round =>
      clear A0
      obtain ⟨j, T, l, rfl, hj, hl, A, P⟩ := hrel
      obtain ⟨ao, cap, rfl⟩ := own_shape A.own
      by_cases c1 : (j : Int) < (len1 : Int)
      · by_cases c2 : (j : Int) < 20
        · obtain ⟨b, off, x, rfl, hlc, hcm, hb, hc, hx0, hx1⟩ := R j (by omega)
          have hcw := (A.fr.bel.cell (p := ⟨b, off + j, none⟩) hb).trans hc
          unfold maxLen at hcm
          have hs := plN_lt x (m := 4) (by omega)
          clear R hc
          go_wp2_with fail
          refine (place_any x 4 (by omega) hx0 hx1 _).mono ?_
          rintro e w' ⟨rfl, rfl⟩
          generalize plN x 4 = s at *
          obtain ⟨hsz, hR0, hR1, hR2⟩ := size_four s hs
          have RR := run_any (s : Int)
          have TK := ap_take A (s : Int)
          rw [show takeI T n (s : Int) = pickI (pick T n (runI (s : Int)).toNat (runI (s : Int)).toNat) by unfold takeI takeO; rw [hsz]; rfl, show takeE T n (s : Int) = pickE (pick T n (runI (s : Int)).toNat (runI (s : Int)).toNat) by unfold takeE takeO; rw [hsz]; rfl, show takeT T n (s : Int) = pickT T (runI (s : Int)).toNat (pick T n (runI (s : Int)).toNat (runI (s : Int)).toNat) by unfold takeT takeO; rw [hsz]; rfl] at TK
          rw [hR2] at RR
          generalize (runI (s : Int)).toNat = Q at *
          clear hR2 hsz
          cases hp : pick T n Q Q with
          | none =>
            rw [hp] at TK
            have TK : Calls Try.prog 19 #[.pointer (some ⟨w.heap.size + 1, 0, none⟩), .int .i64 (s : Int)] wr fun e w' => e = .returned (.tuple #[.int .i64 0, .int .i64 6]) ∧ ApIn w n T (.slice ao l.length cap) l w' := TK
            clear hp
            go_wp2_with (first | (go_at_call 11; refine (free_in (ApIn.fr (by assumption))).mono ?_; rintro e w' ⟨rfl, rfl⟩) | (go_at_call 19; refine TK.mono ?_; rintro e w' ⟨rfl, A2⟩) | (go_at_call 20; refine (RR _).mono ?_; rintro e w' ⟨rfl, rfl⟩))
            go_roundw
            case rel => exact ⟨j + 1, T, l, by go_num, by omega, by omega, A2, P⟩
            case measure => simp [intOf]; omega
          | some i =>
            rw [hp] at TK
            have TK : Calls Try.prog 19 #[.pointer (some ⟨w.heap.size + 1, 0, none⟩), .int .i64 (s : Int)] wr fun e w' => e = .returned (.tuple #[.int .i64 (i : Int), .int .i64 0]) ∧ ApIn w n (setT T i Q true) (.slice ao l.length cap) l w' := TK
            obtain ⟨o0, o1, o2⟩ := okAt_iff.1 (pick_some hp).1
            have CT := cnt_take o1 o2
            have CL := cnt_le T n
            have CC : (cnt (setT T i Q true) n : Int) = (cnt T n : Int) - (Q : Int) := by omega
            have MM : (i : Int).tmod (Q : Int) = 0 := by rw [← Int.ofNat_tmod]; omega
            have P2 := P.take o1 hR0 o2
            have PM := fun (p : Nat × Nat) (hp : p ∈ l) => P.miss o1 hR0 o2 hp
            have PI := P.inn
            replace CT := Lib.hid CT
            replace P2 := Lib.hid P2
            replace PM := Lib.hid PM
            replace PI := Lib.hid PI
            clear hp o2 o0
            go_upto_block 2 with (first | (go_at_call 11; refine (free_in (ApIn.fr (by assumption))).mono ?_; rintro e w' ⟨rfl, rfl⟩) | (go_at_call 19; refine TK.mono ?_; rintro e w' ⟨rfl, A2⟩) | (go_at_call 20; refine (RR _).mono ?_; rintro e w' ⟨rfl, rfl⟩))
            clear TK RR A P
            go_wp2_with fail
            go_loopw [13] (fun k wr => ∃ q : Nat, q ≤ l.length ∧ k = .int .i64 (q : Int) ∧ ApIn w n (setT T i Q true) (.slice ao l.length cap) l wr) (fun k _ => l.length - (intOf k).toNat)
            case atStart => exact ⟨0, by omega, rfl, A2⟩
            case round =>
              clear A2
              obtain ⟨q, hq, rfl, A2⟩ := hrel
              by_cases hlt : (q : Int) < (l.length : Int)
              · obtain ⟨gb, p1, p2, rfl, hlc2, hcm2, hgb, hkb, k1, k2⟩ := rowT_at A2.own q (by omega)
                have hmem : (p1, p2) ∈ l := List.mem_of_getElem? hkb
                have hmiss := PM.out _ hmem
                have hinn := PI.out _ hmem
                unfold maxLen at hcm2
                simp only at hmiss hinn
                clear hmem hkb
                by_cases hx : (p1 : Int) + (p2 : Int) ≤ (i : Int)
                · have hd : decide ((i : Int) < (p1 : Int) + (p2 : Int)) = false := decide_eq_false (by omega)
                  go_wp2_with fail
                  go_quiet (fail)
                  go_wp2_with fail
                  go_roundw
                  case rel => exact ⟨q + 1, by omega, by go_num, A2.below (below_drewN (Below.refl _ _) _)⟩
                  case measure => simp [intOf]; omega
                · have hx1 : (i : Int) < (p1 : Int) + (p2 : Int) := by omega
                  have hx2 : ¬ ((p1 : Int) < (i : Int) + (Q : Int)) := by omega
                  go_wp2_with fail
                  go_quiet (fail)
                  go_wp2_with fail
                  go_roundw
                  case rel => exact ⟨q + 1, by omega, by go_num, A2.below (below_drewN (Below.refl _ _) _)⟩
                  case measure => simp [intOf]; omega
              · clear PM PI
                have hbase := A2.two
                go_wp2_with (at_builtin; refine wpList_append_own_at _ rfl _ _ 29 rfl (w.heap.size + 2) 46 i0 (.agg #[.int .i64 0, .int .i64 0]) 2 16 Try.underlying29 hi hz0 hz1 hz2 rfl (by decide) (.slice ao l.length cap) _ _ rfl (A2.own.alloc _) ⟨wr.heap.size, 0, none⟩ 1 1 [.int .i64 (i : Int), .int .i64 (Q : Int)] rfl rfl (cell_two_new _ _ _ _) (two_oneT _ _) (by unfold maxLen; omega) (by omega) (by simp; omega) ?_; intro v1 w1 ho1 hg1 hn1 hat1; have A4 := A2.add hg1 ho1)
                go_roundw
                case rel => exact ⟨j + 1, _, _, by go_num, by omega, by simp; omega, A4, P2.out⟩
                case measure => simp [intOf]; omega
        · go_wp2_with fail
          go_meet
          exact ⟨T, l, by omega, A, P⟩
      · go_wp2_with fail
        go_meet
        exact ⟨T, l, by omega, A, P⟩
  case rest =>
    clear A0 R hlen
    obtain ⟨T, l, hl, A, P⟩ := hcut
    obtain ⟨ao, cap, rfl⟩ := own_shape A.own
    have hn2 : n ≤ 65536 := by omega
    go_wp2_with fail
    go_loopw [14] (fun k wr => ∃ (q : Nat) (T : Nat → Bool), q ≤ l.length ∧ k = .int .i64 (q : Int) ∧ ApIn w n T (.slice ao l.length cap) l wr ∧ Hid (Apart n T (l.drop q))) (fun k _ => l.length - (intOf k).toNat)
    case atStart => exact ⟨0, T, by omega, rfl, A, Lib.hid P⟩
    case round =>
      clear A P
      obtain ⟨q, T, hq, rfl, A, P⟩ := hrel
      by_cases hlt : (q : Int) < (l.length : Int)
      · obtain ⟨gb, p1, p2, rfl, hlc2, hcm2, hgb, hkb, k1, k2⟩ := rowT_at A.own q (by omega)
        have hdrop : l.drop q = (p1, p2) :: l.drop (q + 1) := by
          rw [List.drop_eq_getElem_cons (by omega)]
          rw [List.getElem?_eq_getElem (by omega)] at hkb
          injection hkb with hkb
          rw [hkb]
        have P := P.out
        rw [hdrop] at P
        obtain ⟨g1, g2, g3, g4⟩ := P.give
        simp only at g1 g2 g3 g4
        replace g4 := Lib.hid g4
        replace hkb := Lib.hid hkb
        replace g1 := Lib.hid g1
        have A' := A.drew
        unfold maxLen at hcm2
        clear hdrop
        go_wp2_with fail
        go_region_held3 (fun w1 => w1.cell? ⟨gb, q * 2, none⟩ = some (.int .i64 (p1 : Int)) ∧ w1.cell? ⟨gb, q * 2 + 1, none⟩ = some (.int .i64 (p2 : Int)))
          ((refine ap_cells (by assumption) hkb.out))
          (first | (go_at_call 21; (with_reducible refine (ap_give1 (T := T) (by assumption) g3 g2 g1.out).mono ?_); rintro e w' ⟨rfl, A4⟩) | (go_at_call 21; (with_reducible refine (ap_give2 (T := T) (by assumption) g3 g2).mono ?_); rintro e w' ⟨rfl, A5⟩))
        go_wp2
        go_roundw
        case rel => exact ⟨q + 1, _, by omega, by go_num, A5, g4⟩
        case measure => simp [intOf]; omega
      · have P := P.out
        rw [List.drop_of_length_le (by omega)] at P
        obtain ⟨e1, e2, e3⟩ := P.last
        clear P
        have F1 := free_in A.fr
        have F2 := longest_in A.fr
        rw [e1] at F1
        rw [e2] at F2
        clear e1 e2
        go_wp2_with (first | (go_at_call 11; refine F1.mono ?_; rintro e w' ⟨rfl, rfl⟩) | (go_at_call 13; refine F2.mono ?_; rintro e w2 ⟨rfl, A2⟩) | (go_at_call 16; refine (list_any _ A2.fr).mono ?_; rw [e3]; rintro e w3 ⟨v, rfl, hv, hb3⟩; obtain ⟨ao3, cap3, rfl⟩ := own_shape hv; have A3 := A2.below hb3) | (go_at_call 17; refine (lives_in A3).mono ?_; rintro e w4 ⟨rfl, A4⟩))
        go_ret
        exact ⟨rfl, A4.bel⟩

/-! ### The row -/
set_option maxRecDepth 100000 in
theorem lifted (os : Os) (started : os.Started) (H : Type) (enc : TypeId × Value → H) :
    ReturnsInHanded {} Try.checked os 4 .any (Rows.framesApartSpec.pre6 enc Try.prog Try.f4 Rows.framesApartRow.domain false) (Rows.framesApartSpec.post enc Try.prog Try.f4 false true false false) := by
  refine returnsInHanded_of_change (C := Try.checked) own started (by kernel_rfl) Try.func4
    (ChangeSpec.witness6 (enc := enc) (C := Try.checked) false ⟨#[], #[.int .i64 0, .slice none 0 0], []⟩ 8 (by kernel_rfl) (by kernel_rfl) (by kernel_rfl) (by kernel_rfl)) ?_
  intro W base args ds gs before hval0 hW hcnd _
  have hval : ∀ (j : Nat) t v, Try.f4.params[j]? = some t → args[j]? = some v → Value.okWide Try.prog W .any base t v := hval0
  have hW' := hW
  obtain ⟨p, q, hA0, hV, rfl, hfz, hnd⟩ := hW
  have hA : DataW.TrodAll enc Try.prog W 0 (fun _ => true) true Try.f4.params.toList args.toList ds p := hA0
  rw [Try.params4] at hA hval
  obtain ⟨v0, vs0, d0, ds0, p0, q0, hargs, rfl, rfl, h0, r0⟩ := trodAll_cons hA
  obtain ⟨v1, vs1, d1, ds1, p1, q1, rfl, rfl, rfl, h1, r1⟩ := trodAll_cons r0
  obtain ⟨rfl, rfl, rfl⟩ := trodAll_nil r1
  obtain rfl : args = #[v0, v1] := by cases args; simp_all
  obtain ⟨rfl, rfl⟩ := trodVars_none hV
  obtain ⟨a0, rfl, rfl, rfl, w0⟩ := open_int Try.underlying3 (hval 0 3 v0 rfl rfl) h0
  obtain ⟨a1, len1, cap1, rfl⟩ := okWide_slice Try.underlying25 (hval 1 25 v1 rfl rfl)
  have k1 := h1
  have lt1 : ∀ x ∈ p1, x.block < W.heap.size := by obtain ⟨m, hm⟩ := k1; exact DataW.trod_lt m _ _ _ hm
  obtain ⟨z1, w1⟩ : ∃ zs, IsRow .i64 W a1 len1 cap1 zs := by
    obtain ⟨fuel, hf⟩ := h1
    rcases open_ints Try.underlying25 Try.underlying3 (by kernel_rfl) hf with ⟨hcs, _⟩ | ⟨x, l, c, zs, hcs, _, hl, hm, hz, _, hcell, hwz⟩
    · simp [Value.cells] at hcs
      obtain ⟨rfl, rfl, rfl⟩ := hcs
      exact ⟨[], .inl ⟨rfl, rfl, rfl, rfl⟩⟩
    · simp [Value.cells] at hcs
      obtain ⟨rfl, rfl, rfl⟩ := hcs
      exact ⟨zs, .inr ⟨_, rfl, hl, hm, by simpa using hz, hcell, hwz⟩⟩
  clear hA0 hval0
  refine (walk a0 a1 len1 cap1 z1 W w0 w1).mono fun e W' ⟨he, bel⟩ => ?_
  subst he
  exact ⟨_, rfl, _, _, _, [], _, [], hW', trodAll_mk1 (shut_bool Try.underlying4 _), (trodAll_cons_mk (shut_int Try.underlying3 w0) (trodAll_cons_mk (Below.trod laidOut (by kernel_rfl) (of_decide_eq_true (by kernel_rfl)) k1 bel lt1) trodAll_mk0)), rfl, bel.frame _, fun h => by cases h⟩

theorem over : Rows.framesApartRow.holds Try.pinned (OpenSpec.ofChange Rows.framesApartSpec) :=
  OpenClaim.holds_of_wide 4 Try.f4 rfl rfl rfl rfl rfl rfl rfl ⟨rfl, rfl, rfl, rfl, rfl⟩ rfl rfl rfl rfl rfl (by kernel_rfl) Try.func4 (by kernel_rfl)
    (of_decide_eq_true (by kernel_rfl)) (by unfold Func.isWrapper; first | (rw [if_pos (by decide +kernel)]; kernel_rfl) | (rw [if_neg (by decide +kernel)]; exact ⟨rfl, rfl⟩))
    (fun os started H enc _ => lifted os started H enc)

theorem proved : Rows.FramesApartSaid := over
#print axioms proved
end Go.Proofs.Ytdjpanmokojpdaa.framesApart
