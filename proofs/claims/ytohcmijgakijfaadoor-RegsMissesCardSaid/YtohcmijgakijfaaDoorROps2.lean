/-
  Contracts of Write, Miss, Fault, Clear of package regs. Conditions: the registers stand; words are below 2 to the 64, ints ints.
-/
import Derived.Test.YtohcmijgakijfaaDoorROps
namespace Go.Proofs.YtohcmijgakijfaaDoor.Rg
open Fld
open Go.ChangeShapes Go.WideShapes Go.ChangeAt Go.RowKit Go.Maps
set_option maxHeartbeats 1000000
set_option maxRecDepth 100000
theorem RegsTo.refl {w w' : World} {sb bm : Nat} {R : Reg} (h : RegsAt w sb bm R) (hb : Below w.heap.size w w') : RegsTo w w' sb bm R := ⟨h.below hb (Nat.le_refl _), (Turn.refl w bm).below hb⟩
theorem write_none (sb bm : Nat) (R : Reg) (a p v : Int) (w : World) (h : RegsAt w sb bm R) (hB : isB a p = false) :
    Calls Tryd.prog 19 #[.pointer (some ⟨sb, 0, none⟩), .int .i64 a, .int .u64 p, .int .u64 v] w fun e w' => e = .returned (.int .i64 10) ∧ Below w.heap.size w w' := by
  have C := Lib.hid (find_any a p w h.tab)
  rw [hB] at C
  go_enter Tryd.func19, Tryd.ntmps19
  go_wp2_with fail
  refine C.out.mono ?_; rintro e w1 ⟨⟨q, s, b, rfl, hs⟩, hb⟩
  clear hs
  have B1 := hb.alloc hb.size (.cells #[.int .u64 q, .int .u64 s, .bool b] 62)
  go_wp2_with fail
  go_ret
  exact ⟨rfl, B1⟩
theorem write_alone (sb bm : Nat) (R : Reg) (a p v : Int) (w : World) (h : RegsAt w sb bm R) (hB : isB a p = true) (hS : stayI (p / 8) = 0) :
    Calls Tryd.prog 19 #[.pointer (some ⟨sb, 0, none⟩), .int .i64 a, .int .u64 p, .int .u64 v] w fun e w' => e = .returned (.int .i64 11) ∧ Below w.heap.size w w' := by
  have C := Lib.hid (find_any a p w h.tab)
  rw [hB, hS] at C
  clear hB
  go_enter Tryd.func19, Tryd.ntmps19
  go_wp2_with fail
  refine C.out.mono ?_; rintro e w1 ⟨⟨q, s, b, rfl, hs⟩, hb⟩
  obtain rfl := hs trivial
  have B1 := hb.alloc hb.size (.cells #[.int .u64 q, .int .u64 0, .bool b] 62)
  go_wp2_with fail
  go_ret
  exact ⟨rfl, B1⟩
theorem isB_rows {a p : Int} (h : isB a p = true) : (p = 0 ∨ p = 32) ∧ stayI (p / 8) = 0 ∧ wrE a p = 11 ∨
    nineB a p = true ∧ wrE a p = 0 ∧ ((p = 8 ∨ p = 16) ∧ stayI (p / 8) = 8191 ∨ p = 24 ∧ stayI (p / 8) = 16728063 ∨ p = 40 ∧ stayI (p / 8) = 18446744073709547527 ∨ p = 48 ∧ stayI (p / 8) = 18446744073709551615) := by
  have hh := h
  unfold wrE
  rw [hh]
  simp only [isB, decide_eq_true_eq] at h
  rcases h with ⟨rfl, rfl | rfl | rfl | rfl⟩ | ⟨rfl, rfl | rfl | rfl | rfl | rfl | rfl | rfl⟩ <;> decide
theorem write_any (sb bm : Nat) (R : Reg) (a p v : Int) (hv : U v) (w : World) (h : RegsAt w sb bm R) :
    Calls Tryd.prog 19 #[.pointer (some ⟨sb, 0, none⟩), .int .i64 a, .int .u64 p, .int .u64 v] w fun e w' => e = .returned (.int .i64 (wrE a p)) ∧ RegsTo w w' sb bm (wrR R a p v) := by
  cases hB : isB a p
  · have e1 : wrE a p = 10 := by unfold wrE; rw [hB]; rfl
    have e2 : wrR R a p v = R := by unfold wrR; rw [e1]; rfl
    rw [e1, e2]
    exact (write_none sb bm R a p v w h hB).mono fun e w' ⟨h1, h2⟩ => ⟨h1, RegsTo.refl h h2⟩
  · rcases isB_rows hB with ⟨_, h1, e1⟩ | ⟨hn, e1, hK⟩
    · have e2 : wrR R a p v = R := by unfold wrR; rw [e1]; rfl
      rw [e1, e2]
      exact (write_alone sb bm R a p v w h hB h1).mono fun e w' ⟨h1, h2⟩ => ⟨h1, RegsTo.refl h h2⟩
    · have e2 : wrR R a p v = setR R a p (keepI p v) := by unfold wrR; rw [e1]; rfl
      rw [e1, e2]
      rcases hK with ⟨hp, hS⟩ | ⟨hp, hS⟩ | ⟨hp, hS⟩ | ⟨hp, hS⟩
      · exact write_one sb bm R a p v _ hv w h hB hS (by decide) hn (by rw [keep_ctx v hv]; unfold keepI; rw [if_pos hp])
      · exact write_one sb bm R a p v _ hv w h hB hS (by decide) hn (by rw [keep_status v hv]; subst hp; rfl)
      · exact write_one sb bm R a p v _ hv w h hB hS (by decide) hn (by rw [keep_tsb v hv]; subst hp; rfl)
      · exact write_one sb bm R a p v _ hv w h hB hS (by decide) hn (by rw [keep_all v hv]; subst hp; rfl)
theorem space_yes (u : Int) (h : uB u = true) (w : World) :
    Calls Tryd.prog 27 #[.int .i64 u] w fun e w' => e = .returned (.tuple #[.int .i64 (spI u), .bool true]) ∧ w = w' := by
  have := space_any u w; rw [h] at this; exact this
theorem space_no (u : Int) (h : uB u = false) (w : World) :
    Calls Tryd.prog 27 #[.int .i64 u] w fun e w' => e = .returned (.tuple #[.int .i64 0, .bool false]) ∧ w = w' := by
  have := space_any u w; rw [h] at this; exact this
theorem fits13 (n : Int) (n0 : -9223372036854775808 ≤ n) (n1 : n ≤ 9223372036854775807) (w : World) :
    Calls Tryd.prog 28 #[.int .i64 n, .int .i64 13] w fun e w' => e = .returned (.bool (decide (0 ≤ n ∧ n < 8192))) ∧ w = w' := fits_any n 13 8192 (by decide) rfl (by decide) n0 n1 w
theorem fits7 (n : Int) (n0 : -9223372036854775808 ≤ n) (n1 : n ≤ 9223372036854775807) (w : World) :
    Calls Tryd.prog 28 #[.int .i64 n, .int .i64 7] w fun e w' => e = .returned (.bool (decide (0 ≤ n ∧ n < 128))) ∧ w = w' := fits_any n 7 128 (by decide) rfl (by decide) n0 n1 w
theorem fits8 (n : Int) (n0 : -9223372036854775808 ≤ n) (n1 : n ≤ 9223372036854775807) (w : World) :
    Calls Tryd.prog 28 #[.int .i64 n, .int .i64 8] w fun e w' => e = .returned (.bool (decide (0 ≤ n ∧ n < 256))) ∧ w = w' := fits_any n 8 256 (by decide) rfl (by decide) n0 n1 w
theorem sp_nine (u : Int) (h : uB u = true) : nineB (spI u) 48 = true ∧ nineB (spI u) 24 = true ∧ nineB 88 32 = true := by
  unfold uB at h; rw [decide_eq_true_eq] at h
  rcases h with rfl | rfl <;> decide
/-- Clear. -/
theorem clear_any (sb bm : Nat) (R : Reg) (u : Int) (w : World) (h : RegsAt w sb bm R) :
    Calls Tryd.prog 17 #[.pointer (some ⟨sb, 0, none⟩), .int .i64 u] w fun e w' => e = .returned (.int .i64 (cleE u)) ∧ RegsTo w w' sb bm (cleR R u) := by
  cases hB : uB u
  · have e1 : cleE u = 1 := by unfold cleE; rw [hB]; rfl
    have e2 : cleR R u = R := by unfold cleR; rw [e1]; rfl
    rw [e1, e2]
    have C := Lib.hid (space_no u hB w)
    clear hB
    go_enter Tryd.func17, Tryd.ntmps17
    go_wp2_with fail
    refine C.out.mono ?_; rintro e w1 ⟨rfl, rfl⟩
    go_wp2_with fail
    go_ret
    exact ⟨rfl, RegsTo.refl h (Below.refl _ _)⟩
  · have e1 : cleE u = 0 := by unfold cleE; rw [hB]; rfl
    have e2 : cleR R u = setR R (spI u) 24 0 := by unfold cleR; rw [e1]; rfl
    rw [e1, e2]
    have C := Lib.hid (space_yes u hB w)
    obtain ⟨w2, hst, H2, G2⟩ := h.store (sp_nine u hB).2.1 U0
    have T2 := Lib.hid ((Turn.refl w bm).grown G2)
    obtain ⟨c0, f0⟩ := h.cells
    clear hB G2
    generalize spI u = x at *
    go_enter Tryd.func17, Tryd.ntmps17
    go_wp2_with fail
    refine C.out.mono ?_; rintro e w1 ⟨rfl, rfl⟩
    go_wp2_with fail
    go_ret
    exact ⟨rfl, H2, T2.out⟩
theorem put_low (va c : Int) (h : U va) (h0 : 0 ≤ c) (h1 : c < 8192) : putI va 0 13 c = misI va c := by
  obtain ⟨n, rfl⟩ := Int.eq_ofNat_of_zero_le h.1
  obtain ⟨m, rfl⟩ := Int.eq_ofNat_of_zero_le h0
  have hn : n < 18446744073709551616 := by have := h.2; omega
  have hm : m < 2 ^ 13 := by rw [show (2 : Nat) ^ 13 = 8192 from rfl]; omega
  rw [putI_of (mayB_mk (by omega))]
  simp only [Int.toNat_natCast, show Int.toNat 0 = 0 from rfl, show Int.toNat 13 = 13 from rfl]
  have e : putN n 0 13 m = n / 8192 * 8192 + m := by
    apply Nat.eq_of_testBit_eq; intro i
    have e1 : n / 8192 * 8192 + m = 2 ^ 13 * (n / 2 ^ 13) + m := by rw [show (2 : Nat) ^ 13 = 8192 from rfl]; omega
    rw [putN_testBit, e1, Nat.testBit_two_pow_mul_add _ hm, Nat.testBit_div_two_pow]
    by_cases hi : i < 13
    · simp [inF, hi]; intro; omega
    · rw [show i - 13 + 13 = i by omega]
      by_cases h64 : i < 64
      · simp [inF, hi, h64]
      · rw [testBit_hi hn (by omega)]; simp [hi, h64]
  rw [e]; unfold misI; omega
/-- Miss. -/
theorem miss_any (sb bm : Nat) (R : Reg) (u va c : Int) (hv : U va) (n0 : -9223372036854775808 ≤ c) (n1 : c ≤ 9223372036854775807) (w : World) (h : RegsAt w sb bm R) :
    Calls Tryd.prog 20 #[.pointer (some ⟨sb, 0, none⟩), .int .i64 u, .int .u64 va, .int .i64 c] w fun e w' => e = .returned (.int .i64 (misE u c)) ∧ RegsTo w w' sb bm (misR R u va c) := by
  cases hB : uB u
  · have e1 : misE u c = 1 := by unfold misE; rw [hB]; simp
    have e2 : misR R u va c = R := by unfold misR; rw [e1]; rfl
    rw [e1, e2]
    have C := Lib.hid (space_no u hB w)
    clear hB
    go_enter Tryd.func20, Tryd.ntmps20
    go_wp2_with fail
    refine C.out.mono ?_; rintro e w1 ⟨rfl, rfl⟩
    go_wp2_with fail
    go_ret
    exact ⟨rfl, RegsTo.refl h (Below.refl _ _)⟩
  · have C := Lib.hid (space_yes u hB w)
    by_cases hc : 0 ≤ c ∧ c < 8192
    · have e1 : misE u c = 0 := by unfold misE; rw [hB, if_pos ⟨rfl, hc.1, by omega⟩]
      have e2 : misR R u va c = setR R (spI u) 48 (misI va c) := by unfold misR; rw [e1]; rfl
      rw [e1, e2]
      have F := Lib.hid (fits13 c n0 n1 w)
      rw [decide_eq_true hc] at F
      obtain ⟨w2, hst, H2, G2⟩ := h.drew.store (sp_nine u hB).1 (misI_bd va c hv hc.1 (by omega))
      have T2 := Lib.hid ((Turn.refl w bm).drew.grown G2)
      obtain ⟨c0, f0⟩ := h.cells
      have E := Lib.hid (put_low va c hv hc.1 hc.2)
      obtain ⟨k0, k1⟩ := hc
      obtain ⟨v0, v1⟩ := hv
      obtain ⟨d0, _⟩ := H2.cells
      have wc : IntKind.u64.wrap c = c := by rw [IntKind.wrap_u64]; omega
      clear hB G2
      generalize spI u = x at *
      generalize hmm : misI va c = y at *
      clear hmm
      go_enter Tryd.func20, Tryd.ntmps20
      go_wp2_with fail
      refine C.out.mono ?_; rintro e w1 ⟨rfl, rfl⟩
      go_wp2_with fail
      refine F.out.mono ?_; rintro e w1 ⟨rfl, rfl⟩
      go_wp2_with fail
      go_region_held3 (fun w1 => w1.cell? ⟨sb, 0, none⟩ = some (.map (some bm))) (go_keep) (first | (go_at_call 34; (with_reducible refine (put_any va 0 13 c v0 v1 (by omega) (by omega) _).mono ?_); rintro r w' ⟨rfl, rfl⟩; rw [E.out]))
      all_goals go_wp2_with fail
      all_goals go_ret
      all_goals exact ⟨rfl, H2, T2.out⟩
    · have e1 : misE u c = 1 := by unfold misE; rw [hB, if_neg (by simp; omega)]
      have e2 : misR R u va c = R := by unfold misR; rw [e1]; rfl
      rw [e1, e2]
      have F := Lib.hid (fits13 c n0 n1 w)
      rw [decide_eq_false hc] at F
      clear hB hc
      generalize spI u = x at *
      go_enter Tryd.func20, Tryd.ntmps20
      go_wp2_with fail
      refine C.out.mono ?_; rintro e w1 ⟨rfl, rfl⟩
      go_wp2_with fail
      refine F.out.mono ?_; rintro e w1 ⟨rfl, rfl⟩
      go_wp2_with fail
      go_ret
      exact ⟨rfl, RegsTo.refl h (Below.refl _ _)⟩
end Go.Proofs.YtohcmijgakijfaaDoor.Rg
