/-
  CtxGives: for every number and all spaces the law returns true, and its arguments read as before. Conditions: none.
-/
import Derived.Test.YtkbkilkmiigahaaRows
import Derived.WalkKit
import Derived.ProofKit
import Derived.OpenShut
import Derived.Test.YtkbkilkmiigahaaCPx
import Derived.Deep.DeepCutAuto
import Derived.Deep.CutBlock
import Derived.Deep.RegionHeld3
import Derived.ShutString
import Derived.ChangeOld
import Derived.Below
namespace Go.Proofs.Ytkbkilkmiigahaa.ctxGives
open Fld
open Go.ChangeShapes Go.WideShapes Go.ChangeAt Go.RowKit
open Go.ChangeMaps (open_string shut_string)
set_option linter.unusedVariables false

theorem own : ownKnob Try.prog.godebug = none := by kernel_rfl
theorem laidOut : laidOutB Try.prog = true := by kernel_rfl

/-- WHAT THE WALK IS TOLD OF A SLICE OF INTEGERS THAT CAME IN: it is nil; or it leads to a row of 'cap' cells, the numbers 'zs' (the first 'len' are its elements, the rest its spare room), each fitting its kind. -/
def IsRow (k : IntKind) (w : World) (a : Option Addr) (len cap : Nat) (zs : List Int) : Prop :=
  (a = none ∧ len = 0 ∧ cap = 0 ∧ zs = []) ∨
  ∃ x, a = some x ∧ len ≤ cap ∧ cap ≤ maxLen ∧ zs.length = cap ∧ (∀ i, i < zs.length → w.cell? (x.add i) = some (.int k (zs.getD i 0))) ∧ ∀ n ∈ zs, (Lit.int k n).wf = true

open Cx
theorem row_at {w : World} {a : Option Addr} {len cap : Nat} {z : List Int} (h : IsRow .i64 w a len cap z) {t : Nat} (ht : t < len) : ∃ b o, ∃ s : Int, a = some ⟨b, o, none⟩ ∧ len ≤ cap ∧ cap ≤ maxLen ∧ w.cell? ⟨b, o + t, none⟩ = some (.int .i64 s) ∧ -9223372036854775808 ≤ s ∧ s ≤ 9223372036854775807 := by
  rcases h with ⟨_, h, _⟩ | ⟨x, rfl, h1, h2, h3, h4, h5⟩
  · omega
  · obtain ⟨b, o, spot⟩ := x
    have hc := h4 t (by omega)
    have hs : spot = none := by
      have h0 := h4 0 (by omega)
      simpa [Addr.add] using World.cell?_spot h0
    subst hs
    have ad : (⟨b, o, none⟩ : Addr).add t = ⟨b, o + t, none⟩ := by unfold Addr.add; split <;> simp_all
    rw [ad] at hc
    have hm : z.getD t 0 ∈ z := by rw [List.getD_eq_getElem?_getD, List.getElem?_eq_getElem (show t < z.length by omega)]; exact List.getElem_mem _
    exact ⟨b, o, _, rfl, h1, h2, hc, bounds_i64 (h5 _ hm)⟩
/-! ### The walk -/
set_option maxHeartbeats 1500000 in
set_option maxRecDepth 100000 in
theorem walk (a0 : Int) (a1 : Option Addr) (len1 cap1 : Nat) (z1 : List Int) (w : World) (w0 : (Lit.int .i64 a0).wf = true) (w1 : IsRow .i64 w a1 len1 cap1 z1) :
    Calls Try.prog 6 #[.int .i64 a0, .slice a1 len1 cap1] w fun e w' => e = .returned (.bool true) ∧ Below w.heap.size w w' := by
  obtain ⟨i0, i1⟩ := bounds_i64 w0
  clear w0
  have RW := Lib.hid w1
  clear w1
  go_enter Try.func6, Try.ntmps6
  go_upto_if 20 with fail
  go_cut [0] (fun nv wx => w = wx ∧ ∃ x : Int, nv = .int .i64 x ∧ 0 ≤ x ∧ x ≤ 9223372036854775807)
  case first =>
    by_cases hn : a0 < 0
    · go_wp2
      go_meet
      exact ⟨rfl, _, rfl, by omega, by omega⟩
    · go_wp2
      go_meet
      exact ⟨rfl, _, rfl, by omega, by omega⟩
  obtain ⟨rfl, x, rfl, x0, x1⟩ := hcut
  have tx : Int.tmod x 10 = x % 10 := Int.tmod_eq_emod_of_nonneg x0
  obtain ⟨n, hn⟩ : ∃ n : Nat, 1 + x % 10 = (n : Int) := ⟨(1 + x % 10).toNat, by omega⟩
  have n0 : 0 < n := by omega
  have n10 : n ≤ 10 := by omega
  have NA := px_new n w
  rw [show newN n = n by unfold newN; omega, ← fillP_zero] at NA
  go_wp2_with fail
  refine NA.mono ?_
  rintro e w2 ⟨pb, bm, ob, rfl, X⟩
  have X := Lib.hid X
  clear NA
  go_wp2_with fail
  go_loopw [6] (fun i wr => ∃ j : Nat, i = .int .i64 (j : Int) ∧ j ≤ n ∧ PX w wr pb bm ob (fillP n j)) (fun i _ => n - (RowKit.intOf i).toNat)
  case atStart => exact ⟨0, rfl, Nat.zero_le _, X.out⟩
  case round =>
    clear X
    obtain ⟨j, rfl, hj, X⟩ := hrel
    by_cases hlt : j < n
    · obtain ⟨f1, f2, f3⟩ := fillP_take hlt
      have TA := px_take X (fillP_ok n0 n10) (x := (j : Int)) (by omega) (by omega) (by have := fillP_R n0 hj; omega)
      rw [f1, f2, f3] at TA
      clear f1 f2 f3 X
      have hlt' : (j : Int) < (n : Int) := by omega
      go_wp2_with fail
      refine TA.mono ?_
      rintro e w2 ⟨rfl, X⟩
      have X := Lib.hid X
      clear TA
      go_wp2
      go_roundw
      case rel => exact ⟨j + 1, by go_num, by omega, X.out⟩
      case measure => simp [RowKit.intOf]; omega
    · obtain rfl : j = n := by omega
      have G := GI.start n0 n10
      obtain ⟨u1, u2, u3⟩ := G.full
      have TA := px_take X G.ok (x := (j : Int)) (by omega) (by omega) (by have := G.pR; omega)
      rw [u1, u2, u3] at TA
      have G := Lib.hid G
      clear u1 u2 u3 X
      go_wp2_with fail
      refine TA.mono ?_
      rintro e w3 ⟨rfl, X⟩
      have H0 : ∃ P : Pl, GI j (1 + 0) P ∧ PX w w3 pb bm ob P := ⟨_, G.out, X⟩
      have H0 := Lib.hid H0
      clear TA X G
      go_wp2_with fail
      go_loopw [9] (fun i wr => ∃ t : Nat, i = .int .i64 (t : Int) ∧ t ≤ len1 ∧ t ≤ 20 ∧ ∃ P : Pl, GI j (1 + t) P ∧ PX w wr pb bm ob P) (fun i _ => 20 - (RowKit.intOf i).toNat)
      case atStart => exact ⟨0, rfl, Nat.zero_le _, Nat.zero_le _, H0.out⟩
      case round =>
        clear H0
        obtain ⟨t, rfl, ht, ht20, P, G, X⟩ := hrel
        by_cases c1 : t < len1
        · by_cases c2 : t < 20
          · have c1' : (t : Int) < (len1 : Int) := by omega
            have c2' : (t : Int) < 20 := by omega
            obtain ⟨b, o, s, rfl, hl1, hcm, hcell, s0, s1⟩ := row_at RW.out c1
            have hcell : wr.cell? ⟨b, o + t, none⟩ = _ := (X.bel.cell (p := ⟨b, o + t, none⟩) (cell_lt hcell)).trans hcell
            unfold maxLen at hcm
            have X := Lib.hid X
            go_upto_if 62 with fail
            go_cut [10] (fun nv wx => wr = wx ∧ ∃ s : Int, nv = .int .i64 s ∧ 0 ≤ s ∧ s ≤ 9223372036854775807)
            case first =>
              by_cases hn : s < 0
              · go_wp2
                go_meet
                exact ⟨rfl, _, rfl, by omega, by omega⟩
              · go_wp2
                go_meet
                exact ⟨rfl, _, rfl, by omega, by omega⟩
            clear hcell s0 s1
            obtain ⟨rfl, v, rfl, v0, v1⟩ := hcut
            have hjn : j ≠ 0 := by omega
            have q0 := Int.emod_nonneg v (show (j : Int) ≠ 0 by omega)
            have q1 := Int.emod_lt_of_pos v (show (0 : Int) < (j : Int) by omega)
            obtain ⟨s2, hs2⟩ : ∃ s2 : Nat, v % (j : Int) = (s2 : Int) := ⟨(v % (j : Int)).toNat, by omega⟩
            have hmod : Int.tmod v (j : Int) = (s2 : Int) := by rw [Int.tmod_eq_emod_of_nonneg v0, hs2]
            rw [hs2] at q0 q1
            have hlt : s2 < j := by omega
            have HR := Lib.hid (show P.R ≤ 1000000000 by have := G.pR; omega)
            have ok1 := G.ok
            obtain ⟨g1, g2⟩ := G.give hlt
            obtain ⟨d1, d2, d3, d4, d5⟩ := G.drop hlt
            have g0 := G.of hlt
            have GA := px_give X.out ok1 (x := (s2 : Int)) (by omega) (by omega)
            rw [g0, g1, g2] at GA
            have okd := ok1.drop (s2 + 1)
            have frd : (P.drop (s2 + 1)).R = P.R := rfl
            have FD := d5.free
            have okt := d5.ok
            have D5 := Lib.hid d5
            generalize P.drop (s2 + 1) = P1 at *
            have LOf := Lib.hid (fun wz (Xz : PX w wz pb bm ob P1) => px_of Xz (x := (s2 : Int)) (by omega) (by omega))
            have LOw := Lib.hid (fun wz (Xz : PX w wz pb bm ob P1) => px_owner Xz okd ((s2 : Int) + 1))
            have LTk := Lib.hid (fun wz (Xz : PX w wz pb bm ob P1) => px_take Xz okd (x := (s2 : Int)) (by omega) (by omega) (by rw [frd]; exact HR.out))
            have LFr := Lib.hid (fun wz (Xz : PX w wz pb bm ob (P1.take (s2 : Int))) => px_free Xz okt)
            rw [d1] at LOf
            rw [show P1.ownB ((s2 : Int) + 1) = false from d2] at LOw
            rw [d3, d4] at LTk
            rw [FD] at LFr
            generalize P1.ownI ((s2 : Int) + 1) = y at *
            generalize P1.take (s2 : Int) = P2 at *
            clear g0 g1 g2 d1 d2 d3 d4 d5 G okd frd FD okt ok1 HR X hs2
            go_wp2_with fail
            refine GA.mono ?_
            rintro e w3 ⟨rfl, X⟩
            have A1 := LOf.out _ X
            clear GA LOf X
            go_wp2_with fail
            refine A1.mono ?_
            rintro e w4 ⟨rfl, X⟩
            have A2 := LOw.out _ X
            clear A1 LOw X
            go_wp2_with fail
            refine A2.mono ?_
            rintro e w5 ⟨rfl, X⟩
            have A3 := LTk.out _ X
            clear A2 LTk X
            go_wp2_with fail
            refine A3.mono ?_
            rintro e w6 ⟨rfl, X⟩
            have A4 := LFr.out _ X
            clear A3 LFr X
            go_wp2_with fail
            refine A4.mono ?_
            rintro e w7 ⟨rfl, X⟩
            have X := Lib.hid X
            clear A4
            go_wp2
            go_roundw
            case rel => exact ⟨t + 1, by go_num, by omega, by omega, P2, D5.out, X.out⟩
            case measure => simp [RowKit.intOf]; omega
          · have hn := Lib.hid X
            have c2' : ¬ (t : Int) < 20 := by omega
            clear X G
            go_wp2_with fail
            refine (px_lives hn.out).mono ?_
            rintro e w9 ⟨rfl, X9⟩
            have hz := X9.bel
            clear X9
            go_wp2
            go_ret
            exact ⟨rfl, hz⟩
        · have hn := Lib.hid X
          have c1' : ¬ (t : Int) < (len1 : Int) := by omega
          clear X G
          go_wp2_with fail
          refine (px_lives hn.out).mono ?_
          rintro e w9 ⟨rfl, X9⟩
          have hz := X9.bel
          clear X9
          go_wp2
          go_ret
          exact ⟨rfl, hz⟩

/-! ### The row -/
set_option maxRecDepth 100000 in
theorem lifted (os : Os) (started : os.Started) (H : Type) (enc : TypeId × Value → H) :
    ReturnsInHanded {} Try.checked os 6 .any (Rows.ctxGivesSpec.pre6 enc Try.prog Try.f6 Rows.ctxGivesRow.domain false) (Rows.ctxGivesSpec.post enc Try.prog Try.f6 false true false false) := by
  refine returnsInHanded_of_change (C := Try.checked) own started (by kernel_rfl) Try.func6
    (ChangeSpec.witness6 (enc := enc) (C := Try.checked) false ⟨#[], #[.int .i64 0, .slice none 0 0], []⟩ 8 (by kernel_rfl) (by kernel_rfl) (by kernel_rfl) (by kernel_rfl)) ?_
  intro W base args ds gs before hval0 hW hcnd _
  have hval : ∀ (j : Nat) t v, Try.f6.params[j]? = some t → args[j]? = some v → Value.okWide Try.prog W .any base t v := hval0
  have hW' := hW
  obtain ⟨p, q, hA0, hV, rfl, hfz, hnd⟩ := hW
  have hA : DataW.TrodAll enc Try.prog W 0 (fun _ => true) true Try.f6.params.toList args.toList ds p := hA0
  rw [Try.params6] at hA hval
  obtain ⟨v0, vs0, d0, ds0, p0, q0, hargs, rfl, rfl, h0, r0⟩ := trodAll_cons hA
  obtain ⟨v1, vs1, d1, ds1, p1, q1, rfl, rfl, rfl, h1, r1⟩ := trodAll_cons r0
  obtain ⟨rfl, rfl, rfl⟩ := trodAll_nil r1
  obtain rfl : args = #[v0, v1] := by cases args; simp_all
  obtain ⟨rfl, rfl⟩ := trodVars_none hV
  obtain ⟨a0, rfl, rfl, rfl, w0⟩ := open_int Try.underlying3 (hval 0 3 v0 rfl rfl) h0
  obtain ⟨a1, len1, cap1, rfl⟩ := okWide_slice Try.underlying25 (hval 1 25 v1 rfl rfl)
  have k1 := h1
  have lt1 : ∀ x ∈ p1, x.block < W.heap.size := by obtain ⟨m, hm⟩ := k1; exact DataW.trod_lt m _ _ _ hm
  obtain ⟨z1, w1⟩ : ∃ zs, IsRow .i64 W a1 len1 cap1 zs := by
    obtain ⟨fuel, hf⟩ := h1
    rcases open_ints Try.underlying25 Try.underlying3 (by kernel_rfl) hf with ⟨hcs, _⟩ | ⟨x, l, c, zs, hcs, _, hl, hm, hz, _, hcell, hwz⟩
    · simp [Value.cells] at hcs
      obtain ⟨rfl, rfl, rfl⟩ := hcs
      exact ⟨[], .inl ⟨rfl, rfl, rfl, rfl⟩⟩
    · simp [Value.cells] at hcs
      obtain ⟨rfl, rfl, rfl⟩ := hcs
      exact ⟨zs, .inr ⟨_, rfl, hl, hm, by simpa using hz, hcell, hwz⟩⟩
  clear hA0 hval0
  refine (walk a0 a1 len1 cap1 z1 W w0 w1).mono fun e W' ⟨he, bel⟩ => ?_
  subst he
  exact ⟨_, rfl, _, _, _, [], _, [], hW', trodAll_mk1 (shut_bool Try.underlying4 _), (trodAll_cons_mk (shut_int Try.underlying3 w0) (trodAll_cons_mk (Below.trod laidOut (by kernel_rfl) (of_decide_eq_true (by kernel_rfl)) k1 bel lt1) trodAll_mk0)), rfl, bel.frame _, fun h => by cases h⟩

theorem over : Rows.ctxGivesRow.holds Try.pinned (OpenSpec.ofChange Rows.ctxGivesSpec) :=
  OpenClaim.holds_of_wide 6 Try.f6 rfl rfl rfl rfl rfl rfl rfl ⟨rfl, rfl, rfl, rfl, rfl⟩ rfl rfl rfl rfl rfl (by kernel_rfl) Try.func6 (by kernel_rfl)
    (of_decide_eq_true (by kernel_rfl)) (by unfold Func.isWrapper; first | (rw [if_pos (by decide +kernel)]; kernel_rfl) | (rw [if_neg (by decide +kernel)]; exact ⟨rfl, rfl⟩))
    (fun os started H enc _ => lifted os started H enc)

theorem proved : Rows.CtxGivesSaid := over
#print axioms proved
end Go.Proofs.Ytkbkilkmiigahaa.ctxGives
