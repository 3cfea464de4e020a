/-
  Contracts of the document's Target, status, tsb, Bit, Read of registers. Conditions: words are below 2 to the 64.
-/
import Derived.Test.YtohcmijgakijfaaDoorRSmall
namespace Go.Proofs.YtohcmijgakijfaaDoor.Rg
open Fld
open Go.ChangeShapes Go.WideShapes Go.ChangeAt Go.RowKit Go.Maps
set_option maxHeartbeats 1000000
set_option maxRecDepth 100000
theorem dtarget_any (x : Int) (h : U x) (w : World) :
    Calls Tryd.prog 26 #[.int .u64 x] w fun e w' => e = .returned (.int .u64 (tgtI x)) ∧ w = w' := by
  obtain ⟨h0, h1⟩ := h
  have E := Lib.hid (show x % 8192 * 281474976710656 + x / 4194304 = tgtI x from rfl)
  go_enter Tryd.func26, Tryd.ntmps26
  go_wp2
  go_ret
  exact ⟨ret_int E.out, rfl⟩
theorem dstatus_any (x : Int) (h : U x) (w : World) :
    Calls Tryd.prog 35 #[.int .u64 x] w fun e w' => e = .returned (.int .u64 (stI x)) ∧ w = w' := by
  obtain ⟨h0, h1⟩ := h
  have E := Lib.hid (show x % 16384 + x / 65536 % 256 * 65536 = stI x from rfl)
  go_enter Tryd.func35, Tryd.ntmps35
  go_wp2
  go_ret
  exact ⟨ret_int E.out, rfl⟩
theorem dtsb_any (x : Int) (h : U x) (w : World) :
    Calls Tryd.prog 36 #[.int .u64 x] w fun e w' => e = .returned (.int .u64 (tsI x)) ∧ w = w' := by
  obtain ⟨h0, h1⟩ := h
  have E := Lib.hid (show x / 4096 * 4096 + x % 8 = tsI x from rfl)
  go_enter Tryd.func36, Tryd.ntmps36
  go_wp2
  go_ret
  exact ⟨ret_int E.out, rfl⟩
theorem dbit_any (x i : Int) (h : U x) (i0 : 0 ≤ i) (i1 : i ≤ 1000) (w : World) :
    Calls Tryd.prog 18 #[.int .u64 x, .int .i64 i] w fun e w' => e = .returned (.bool (bitI x i == 1)) ∧ w = w' := by
  go_enter Tryd.func18, Tryd.ntmps18
  go_wp2_with fail
  refine (rbit_any x i h.1 h.2 i0 i1 _).mono ?_; rintro e w' ⟨rfl, rfl⟩
  go_wp2
  go_ret
  exact ⟨rfl, rfl⟩
theorem ret_ui' {a b c d : Int} (h : a = b) (k : c = d) : Ending.returned (.tuple #[.int .u64 a, .int .i64 c]) = .returned (.tuple #[.int .u64 b, .int .i64 d]) := by rw [h, k]
theorem dread_any (R : Reg) (h : R.Wf) (a p : Int) (w : World) :
    Calls Tryd.prog 25 #[.agg #[.int .u64 R.sI, .int .u64 R.tI, .int .u64 R.aI, .int .u64 R.pr, .int .u64 R.se, .int .u64 R.sD, .int .u64 R.ad, .int .u64 R.tD, .int .u64 R.aD], .int .i64 a, .int .u64 p] w fun e w' => e = .returned (.tuple #[.int .u64 (regV R a p), .int .i64 (regE a p)]) ∧ Below w.heap.size w w' := by
  by_cases h80 : a = 80
  · subst h80
    by_cases hp0 : p = 0
    · subst hp0
      rw [show regV R 80 0 = tgtI R.aI from rfl, show regE 80 0 = 0 from rfl]
      go_enter Tryd.func25, Tryd.ntmps25
      go_wp2_with fail
      refine (dtarget_any _ h.aI _).mono ?_; rintro e w' ⟨rfl, rfl⟩
      go_wp2_with fail
      go_ret2
      exact ⟨rfl, (Below.refl _ _).alloc (Nat.le_refl _) _⟩
    · skip
      by_cases hp24 : p = 24
      · subst hp24
        rw [show regV R 80 24 = R.sI from rfl, show regE 80 24 = 0 from rfl]
        go_enter Tryd.func25, Tryd.ntmps25
        go_wp2_with fail
        go_ret2
        exact ⟨rfl, (Below.refl _ _).alloc (Nat.le_refl _) _⟩
      · skip
        by_cases hp40 : p = 40
        · subst hp40
          rw [show regV R 80 40 = R.tI from rfl, show regE 80 40 = 0 from rfl]
          go_enter Tryd.func25, Tryd.ntmps25
          go_wp2_with fail
          go_ret2
          exact ⟨rfl, (Below.refl _ _).alloc (Nat.le_refl _) _⟩
        · skip
          by_cases hp48 : p = 48
          · subst hp48
            rw [show regV R 80 48 = R.aI from rfl, show regE 80 48 = 0 from rfl]
            go_enter Tryd.func25, Tryd.ntmps25
            go_wp2_with fail
            go_ret2
            exact ⟨rfl, (Below.refl _ _).alloc (Nat.le_refl _) _⟩
          · skip
            obtain hB : isB 80 p = false := by unfold isB; rw [decide_eq_false_iff_not]; omega
            rw [show regV R 80 p = 0 by unfold regV; rw [hB]; rfl, show regE 80 p = 10 by unfold regE; rw [hB]; rfl]
            clear hB
            go_enter Tryd.func25, Tryd.ntmps25
            go_wp2_with fail
            go_ret2
            exact ⟨rfl, (Below.refl _ _).alloc (Nat.le_refl _) _⟩
  · by_cases h88 : a = 88
    · subst h88
      clear h80
      by_cases hp0 : p = 0
      · subst hp0
        rw [show regV R 88 0 = tgtI R.aD from rfl, show regE 88 0 = 0 from rfl]
        go_enter Tryd.func25, Tryd.ntmps25
        go_wp2_with fail
        refine (dtarget_any _ h.aD _).mono ?_; rintro e w' ⟨rfl, rfl⟩
        go_wp2_with fail
        go_ret2
        exact ⟨rfl, (Below.refl _ _).alloc (Nat.le_refl _) _⟩
      · skip
        by_cases hp8 : p = 8
        · subst hp8
          rw [show regV R 88 8 = R.pr from rfl, show regE 88 8 = 0 from rfl]
          go_enter Tryd.func25, Tryd.ntmps25
          go_wp2_with fail
          go_ret2
          exact ⟨rfl, (Below.refl _ _).alloc (Nat.le_refl _) _⟩
        · skip
          by_cases hp16 : p = 16
          · subst hp16
            rw [show regV R 88 16 = R.se from rfl, show regE 88 16 = 0 from rfl]
            go_enter Tryd.func25, Tryd.ntmps25
            go_wp2_with fail
            go_ret2
            exact ⟨rfl, (Below.refl _ _).alloc (Nat.le_refl _) _⟩
          · skip
            by_cases hp24 : p = 24
            · subst hp24
              rw [show regV R 88 24 = R.sD from rfl, show regE 88 24 = 0 from rfl]
              go_enter Tryd.func25, Tryd.ntmps25
              go_wp2_with fail
              go_ret2
              exact ⟨rfl, (Below.refl _ _).alloc (Nat.le_refl _) _⟩
            · skip
              by_cases hp32 : p = 32
              · subst hp32
                rw [show regV R 88 32 = R.ad from rfl, show regE 88 32 = 0 from rfl]
                go_enter Tryd.func25, Tryd.ntmps25
                go_wp2_with fail
                go_ret2
                exact ⟨rfl, (Below.refl _ _).alloc (Nat.le_refl _) _⟩
              · skip
                by_cases hp40 : p = 40
                · subst hp40
                  rw [show regV R 88 40 = R.tD from rfl, show regE 88 40 = 0 from rfl]
                  go_enter Tryd.func25, Tryd.ntmps25
                  go_wp2_with fail
                  go_ret2
                  exact ⟨rfl, (Below.refl _ _).alloc (Nat.le_refl _) _⟩
                · skip
                  by_cases hp48 : p = 48
                  · subst hp48
                    rw [show regV R 88 48 = R.aD from rfl, show regE 88 48 = 0 from rfl]
                    go_enter Tryd.func25, Tryd.ntmps25
                    go_wp2_with fail
                    go_ret2
                    exact ⟨rfl, (Below.refl _ _).alloc (Nat.le_refl _) _⟩
                  · skip
                    obtain hB : isB 88 p = false := by unfold isB; rw [decide_eq_false_iff_not]; omega
                    rw [show regV R 88 p = 0 by unfold regV; rw [hB]; rfl, show regE 88 p = 10 by unfold regE; rw [hB]; rfl]
                    clear hB
                    go_enter Tryd.func25, Tryd.ntmps25
                    go_wp2_with fail
                    go_ret2
                    exact ⟨rfl, (Below.refl _ _).alloc (Nat.le_refl _) _⟩
    · obtain hB : isB a p = false := by unfold isB; rw [decide_eq_false_iff_not]; omega
      rw [show regV R a p = 0 by unfold regV; rw [hB]; rfl, show regE a p = 10 by unfold regE; rw [hB]; rfl]
      clear hB
      go_enter Tryd.func25, Tryd.ntmps25
      go_wp2_with fail
      go_ret2
      exact ⟨rfl, (Below.refl _ _).alloc (Nat.le_refl _) _⟩
end Go.Proofs.YtohcmijgakijfaaDoor.Rg
