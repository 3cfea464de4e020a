/-
  Contracts of page.Next, and of the document's own answers for pages: each returns what the plain functions of PMath say, and the world stays but for draws. Conditions: words are below 2 to the 64.
-/
import Derived.Test.YtfkbloclogeacaaDoorPage
namespace Go.Proofs.YtfkbloclogeacaaDoor.Fld
open Go.ChangeShapes Go.WideShapes Go.ChangeAt Go.RowKit
set_option maxHeartbeats 400000
theorem rbase_any (x s : Int) (x0 : 0 ≤ x) (x1 : x ≤ 18446744073709551615) (w : World) :
    Calls Tryd.prog 27 #[.int .u64 x, .int .i64 s] w fun e w' => e = .returned (.int .u64 (baseI x s)) ∧ ∃ n, w' = w.drewN n := by
  cases h : sizeB s
  · have H := Lib.hid (show baseI x s = 0 by unfold baseI; rw [h]; rfl)
    go_enter Tryd.func27, Tryd.ntmps27
    go_wp2_with (go_at_call 36; refine (rpmay_any _ _).mono ?_; rintro e w' ⟨rfl, rfl⟩)
    go_ret
    exact ⟨ret_int H.out.symm, 0, rfl⟩
  · have H := Lib.hid (show baseI x s = x / bytesI s * bytesI s by unfold baseI; rw [if_pos h])
    have hb := bytes_pos h
    have hb2 := bytes_bd s
    have hd := div_mul_bd x (bytesI s) x0 (by omega)
    have hn : bytesI s ≠ 0 := by omega
    go_enter Tryd.func27, Tryd.ntmps27
    go_wp2_with (go_at_call 36; refine (rpmay_any _ _).mono ?_; rintro e w' ⟨rfl, rfl⟩)
    go_quiet ((go_at_call 37; exact Calls.quiet_of_same (same_sym (rbytes_any _ _))))
    go_wp2
    go_ret
    exact ⟨ret_int H.out.symm, _, rfl⟩
theorem rhole_any (x : Int) (x0 : 0 ≤ x) (x1 : x ≤ 18446744073709551615) (w : World) :
    Calls Tryd.prog 30 #[.int .u64 x] w fun e w' => e = .returned (.bool (holeB x)) ∧ w = w' := by
  have H := Lib.hid (hole_bits x x0 x1)
  go_enter Tryd.func30, Tryd.ntmps30
  go_wp2
  go_loop [3] (fun t => ∃ i : Int, 44 ≤ i ∧ i ≤ 64 ∧ t = .int .i64 i ∧ Hid (∀ j : Int, 44 ≤ j → j < i → bitI x j = bitI x 43)) (fun t => (64 - intOf t).toNat)
  case atStart => exact ⟨44, by omega, by omega, rfl, Lib.hid (fun j a b => by omega)⟩
  case round =>
    obtain ⟨i, hi0, hi1, rfl, HB⟩ := hrel
    by_cases hlt : i < 64
    · cases hq : bitI x i != bitI x 43
      · have hz := Lib.hid (show bitI x i = bitI x 43 by simpa using hq)
        go_wp2_with (go_at_call 35; refine (rbit_any _ _ (by omega) (by omega) (by omega) (by omega) _).mono ?_; rintro e w' ⟨rfl, rfl⟩)
        go_round
        case rel => exact ⟨i + 1, by omega, by omega, rfl, Lib.hid (fun j a b => by
          by_cases e : j = i
          · rw [e]; exact hz.out
          · exact HB.out j a (by omega))⟩
        case measure => simp [intOf]; omega
      · have hF := Lib.hid (show holeB x = true from H.out.2 ⟨i, hi0, hlt, bne_iff_ne.1 hq⟩)
        go_wp2_with (go_at_call 35; refine (rbit_any _ _ (by omega) (by omega) (by omega) (by omega) _).mono ?_; rintro e w' ⟨rfl, rfl⟩)
        go_ret
        exact ⟨ret_bool hF.out.symm, rfl⟩
    · have hF := Lib.hid (show holeB x = false by
        cases h : holeB x
        · rfl
        · obtain ⟨j, a, b, c⟩ := H.out.1 h
          exact absurd (HB.out j a (by omega)) c)
      go_wp2
      go_ret
      exact ⟨ret_bool hF.out.symm, rfl⟩
theorem rva_any (x : Int) (x0 : 0 ≤ x) (x1 : x ≤ 18446744073709551615) (w : World) :
    Calls Tryd.prog 26 #[.int .u64 x] w fun e w' => e = .returned (.int .u64 (vaI x)) ∧ w = w' := by
  have hb := bitI_bd x 43
  cases hq : bitI x 43 == 1
  · have H := Lib.hid (show vaI x = x % 8796093022208 by unfold vaI; rw [if_neg (by simpa using hq)])
    go_enter Tryd.func26, Tryd.ntmps26
    go_wp2_with (go_at_call 35; refine (rbit_any _ _ (by omega) (by omega) (by omega) (by omega) _).mono ?_; rintro e w' ⟨rfl, rfl⟩)
    go_ret
    exact ⟨ret_int H.out.symm, rfl⟩
  · have H := Lib.hid (show vaI x = x % 8796093022208 + 18446735277616529408 by unfold vaI; rw [if_pos (by simpa using hq)])
    go_enter Tryd.func26, Tryd.ntmps26
    go_wp2_with (go_at_call 35; refine (rbit_any _ _ (by omega) (by omega) (by omega) (by omega) _).mono ?_; rintro e w' ⟨rfl, rfl⟩)
    go_ret
    exact ⟨ret_int H.out.symm, rfl⟩
end Go.Proofs.YtfkbloclogeacaaDoor.Fld
