/-
  Contracts and plain facts: TGood. Conditions: each says its own.
-/
import Derived.Test.YtnbdoemnepfhdaaGreatR7
import Derived.Deep.RegionWith
import Derived.Deep.DeepCutAuto
namespace Go.Proofs.YtnbdoemnepfhdaaGreat.Fld
open Go.ChangeShapes Go.WideShapes Go.ChangeAt Go.RowKit
set_option maxHeartbeats 2000000
set_option maxRecDepth 100000
def absI (a : Int) : Int := if a < 0 then -(a + 1) else a
theorem absI_neg {a : Int} (h : a < 0) : -(a + 1) = absI a := by unfold absI; rw [if_pos h]
theorem absI_pos {a : Int} (h : ¬ a < 0) : a = absI a := by unfold absI; rw [if_neg h]
theorem absI_bd (a : Int) (h0 : -9223372036854775808 ≤ a) (h1 : a ≤ 9223372036854775807) : 0 ≤ absI a ∧ absI a ≤ 9223372036854775807 := by unfold absI; split <;> omega
theorem abs_nrm (a m : Int) : absI a % m = nrm a m := by
  unfold absI nrm
  split
  · rw [show -(a + 1).tmod m = (-(a + 1)).tmod m from (Int.neg_tmod _ _).symm, Int.tmod_eq_emod_of_nonneg (by omega)]
  · rfl
theorem below_setN {B b o : Nat} {w w' : World} {u : Value} (h : Below B w w') (hb : B ≤ b) : Below B w (w'.setCell ⟨b, o, none⟩ u) := h.setCell hb u
theorem good_any (e : Ent) (he : e.wf) (w : World) :
    Calls Tryz.prog 26 #[.agg #[.int .i64 e.size, .int .i64 e.ctx, .int .u64 e.va, .int .u64 e.pa, .bool e.att.write, .bool e.att.priv, .bool e.att.exec, .bool e.att.lock, .bool e.att.global, .bool e.att.quiet, .bool e.valid]] w fun r w' => r = .returned (.agg #[.int .i64 e.good.size, .int .i64 e.good.ctx, .int .u64 e.good.va, .int .u64 e.good.pa, .bool e.good.att.write, .bool e.good.att.priv, .bool e.good.att.exec, .bool e.good.att.lock, .bool e.good.att.global, .bool e.good.att.quiet, .bool e.good.valid]) ∧ Below w.heap.size w w' := by
  obtain ⟨⟨s0, s1⟩, ⟨c0, c1⟩, ⟨v0, v1⟩, ⟨p0, p1⟩⟩ := he
  obtain ⟨s, c, v, p, ⟨wr, pr, ex, lk, gl, qu⟩, vd⟩ := e
  dsimp only at *
  have b1 := nrm_bd s 4 (by omega)
  have b2 := nrm_bd c 8192 (by omega)
  have ab := absI_bd s s0 s1
  have ac := absI_bd c c0 c1
  have vb := vaI_bd v
  have q1 := rva_any v v0 v1
  have Q1 := Lib.hid q1
  clear q1
  unfold Ent.good
  dsimp only
  have n1 := abs_nrm s 4
  have n2 := abs_nrm c 8192
  generalize nrm s 4 = S at *
  generalize nrm c 8192 = C at *
  obtain ⟨D, hD⟩ : ∃ D, (if gl = true then 0 else C) = D := ⟨_, rfl⟩
  rw [hD]
  have HD := Lib.hid hD
  have N1 := Lib.hid n1
  have N2 := Lib.hid n2
  clear hD n1 n2
  go_enter Tryz.func26, Tryz.ntmps26
  go_upto_if 12 with (fail)
  go_cut [4] (fun t wx => t = .int .i64 (absI s) ∧ wx = ((w.alloc (.cells #[.int .i64 s, .int .i64 c, .int .u64 v, .int .u64 p, .bool wr, .bool pr, .bool ex, .bool lk, .bool gl, .bool qu, .bool vd] 30)).alloc (.cells #[.int .i64 0, .int .i64 0, .int .u64 0, .int .u64 0, .bool false, .bool false, .bool false, .bool false, .bool false, .bool false, .bool false] 30)).alloc (.cells #[.int .i64 0, .int .i64 0, .int .u64 0, .int .u64 0, .bool wr, .bool pr, .bool ex, .bool lk, .bool gl, .bool qu, .bool true] 30))
  case first =>
    by_cases h : s < 0
    · have H := Lib.hid (absI_neg h)
      go_wp2_with fail
      go_meet
      exact ⟨by rw [H.out], rfl⟩
    · have H := Lib.hid (absI_pos h)
      go_wp2_with fail
      go_meet
      exact ⟨by rw [← H.out], rfl⟩
  case rest =>
    obtain ⟨rfl, rfl⟩ := hcut
    have M1 := N1.out
    clear N1
    go_upto_if 22 with (fail)
    clear M1
    go_cut [5] (fun t wx => t = .int .i64 (absI c) ∧ wx = ((w.alloc (.cells #[.int .i64 s, .int .i64 c, .int .u64 v, .int .u64 p, .bool wr, .bool pr, .bool ex, .bool lk, .bool gl, .bool qu, .bool vd] 30)).alloc (.cells #[.int .i64 0, .int .i64 0, .int .u64 0, .int .u64 0, .bool false, .bool false, .bool false, .bool false, .bool false, .bool false, .bool false] 30)).alloc (.cells #[.int .i64 S, .int .i64 0, .int .u64 0, .int .u64 0, .bool wr, .bool pr, .bool ex, .bool lk, .bool gl, .bool qu, .bool true] 30))
    case first =>
      by_cases h : c < 0
      · have H := Lib.hid (absI_neg h)
        go_wp2_with fail
        go_meet
        exact ⟨by rw [H.out], rfl⟩
      · have H := Lib.hid (absI_pos h)
        go_wp2_with fail
        go_meet
        exact ⟨by rw [← H.out], rfl⟩
    case rest =>
      obtain ⟨rfl, rfl⟩ := hcut
      have M2 := N2.out
      clear N2
      go_upto_if 31 with (fail)
      clear M2
      go_cut [] (fun wx => wx = ((w.alloc (.cells #[.int .i64 s, .int .i64 c, .int .u64 v, .int .u64 p, .bool wr, .bool pr, .bool ex, .bool lk, .bool gl, .bool qu, .bool vd] 30)).alloc (.cells #[.int .i64 0, .int .i64 0, .int .u64 0, .int .u64 0, .bool false, .bool false, .bool false, .bool false, .bool false, .bool false, .bool false] 30)).alloc (.cells #[.int .i64 S, .int .i64 D, .int .u64 0, .int .u64 0, .bool wr, .bool pr, .bool ex, .bool lk, .bool gl, .bool qu, .bool true] 30))
      case first =>
        cases gl
        · obtain rfl : C = D := HD.out
          go_wp2_with fail
          go_meet
          rfl
        · obtain rfl : 0 = D := HD.out
          go_wp2_with fail
          go_meet
          rfl
      case rest =>
        obtain rfl := hcut
        go_upto_region 12 with (fail)
        go_region_with (first | (go_at_call 54; refine (Q1.out _).mono ?_; rintro r w2 ⟨rfl, rfl⟩) | (go_at_call 53; refine (rbase_any _ _ vb.1 vb.2 _).mono ?_; rintro r w2 ⟨rfl, n, rfl⟩))
        all_goals
          go_wp2_with fail
          refine (rbase_any _ _ (by omega) (by omega) _).mono ?_; rintro r w2 ⟨rfl, m, rfl⟩
          go_wp2_with fail
          refine bodyPost_ret (v := .agg #[.int .i64 S, .int .i64 D, .int .u64 (baseI (vaI v) S), .int .u64 (baseI (p % 2199023255552) S), .bool wr, .bool pr, .bool ex, .bool lk, .bool gl, .bool qu, .bool true]) (by simp [results, Tryz.results26, go_sem]) rfl ⟨rfl, ?_⟩
          iterate 12 refine below_setN ?_ (by omega)
          refine below_drewN ?_ _
          refine below_setN ?_ (by omega)
          refine below_drewN ?_ _
          exact (((Below.refl _ _).alloc (Nat.le_refl _) _).alloc (by simp) _).alloc (by simp; omega) _
end Go.Proofs.YtnbdoemnepfhdaaGreat.Fld

