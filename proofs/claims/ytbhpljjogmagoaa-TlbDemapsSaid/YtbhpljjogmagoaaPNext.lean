/-
  Contracts of page.Next, and of the document's own Next and Meet: each returns what the plain functions of PMath say, and the world stays but for draws. Conditions: words are below 2 to the 64.
-/
import Derived.Test.YtbhpljjogmagoaaPRef
namespace Go.Proofs.Ytbhpljjogmagoaa.Fld
open Go.ChangeShapes Go.WideShapes Go.ChangeAt Go.RowKit
set_option maxHeartbeats 400000
theorem next_wrap (x s : Int) (h : baseI x s + bytesI s = 18446744073709551616) : IntKind.u64.wrap (baseI x s + bytesI s) = 0 := by rw [h]; decide
theorem rmeet_any (x s y t : Int) (x0 : 0 ≤ x) (x1 : x ≤ 18446744073709551615) (y0 : 0 ≤ y) (y1 : y ≤ 18446744073709551615) (w : World) :
    Calls Try.prog 43 #[.int .u64 x, .int .i64 s, .int .u64 y, .int .i64 t] w fun e w' => e = .returned (.bool (meetB x s y t)) ∧ ∃ n, w' = w.drewN n := by
  cases h : sizeB s
  · have H := Lib.hid (show meetB x s y t = false by unfold meetB; rw [h]; rfl)
    go_enter Try.func43, Try.ntmps43
    go_wp2_with (go_at_call 39; refine (rpmay_any _ _).mono ?_; rintro e w' ⟨rfl, rfl⟩)
    go_ret
    exact ⟨ret_bool H.out.symm, 0, rfl⟩
  · cases h2 : sizeB t
    · have H := Lib.hid (show meetB x s y t = false by unfold meetB; rw [h, h2]; rfl)
      go_enter Try.func43, Try.ntmps43
      go_wp2_with (go_at_call 39; refine (rpmay_any _ _).mono ?_; rintro e w' ⟨rfl, rfl⟩)
      go_ret
      exact ⟨ret_bool H.out.symm, 0, rfl⟩
    · have HD := Lib.hid (meet_doc x s y t h h2)
      have b1 := bytes_pos h
      have b2 := bytes_pos h2
      have b3 := bytes_bd s
      have b4 := bytes_bd t
      have c1 := base_bd x s x0 x1
      have c2 := base_bd y t y0 y1
      go_enter Try.func43, Try.ntmps43
      go_wp2_with fail
      refine (rpmay_any _ _).mono ?_
      rintro e w' ⟨rfl, rfl⟩
      go_wp2_with fail
      refine (rpmay_any _ _).mono ?_
      rintro e w' ⟨rfl, rfl⟩
      go_wp2_with fail
      refine (rbase_any _ _ x0 x1 _).mono ?_
      rintro e w' ⟨rfl, n1, rfl⟩
      go_wp2_with fail
      refine (rbase_any _ _ y0 y1 _).mono ?_
      rintro e w' ⟨rfl, n2, rfl⟩
      generalize baseI x s = p at *
      generalize baseI y t = q at *
      by_cases hpq : q ≤ p
      · by_cases hlt : p - q < bytesI t
        · have H := Lib.hid (show meetB x s y t = true from HD.out.2 (.inl ⟨hpq, hlt⟩))
          go_wp2_with (go_at_call 55; refine (rbytes_any _ _).mono ?_; rintro e w' ⟨rfl, rfl⟩)
          go_ret
          exact ⟨ret_bool H.out.symm, _, rfl⟩
        · by_cases hqp : p ≤ q
          · exfalso; omega
          · have H := Lib.hid (show meetB x s y t = false by
              cases hm : meetB x s y t
              · rfl
              · have := HD.out.1 hm; omega)
            go_wp2_with (go_at_call 55; refine (rbytes_any _ _).mono ?_; rintro e w' ⟨rfl, rfl⟩)
            go_ret
            exact ⟨ret_bool ((decide_eq_false (by omega)).trans H.out.symm), _, rfl⟩
      · have hqp : p ≤ q := by omega
        by_cases hlt : q - p < bytesI s
        · have H := Lib.hid (show meetB x s y t = true from HD.out.2 (.inr ⟨hqp, hlt⟩))
          go_wp2_with (go_at_call 55; refine (rbytes_any _ _).mono ?_; rintro e w' ⟨rfl, rfl⟩)
          go_ret
          exact ⟨ret_bool H.out.symm, _, rfl⟩
        · have H := Lib.hid (show meetB x s y t = false by
            cases hm : meetB x s y t
            · rfl
            · have := HD.out.1 hm; omega)
          go_wp2_with (go_at_call 55; refine (rbytes_any _ _).mono ?_; rintro e w' ⟨rfl, rfl⟩)
          go_ret
          exact ⟨ret_bool ((decide_eq_false (by omega)).trans H.out.symm), _, rfl⟩
end Go.Proofs.Ytbhpljjogmagoaa.Fld
