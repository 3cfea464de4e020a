/-
  MemoryWords: for every place of a pair and every two words the law returns true, and its arguments read as before. Conditions: none.
-/
import Derived.Test.YtmhgofhclckdpaaRows
import Derived.WalkKit
import Derived.ProofKit
import Derived.OpenShut
import Derived.Test.YtmhgofhclckdpaaMHas
import Derived.ShutString
namespace Go.Proofs.Ytmhgofhclckdpaa.memoryWords
open Fld
open Go.ChangeShapes Go.WideShapes Go.ChangeAt Go.RowKit
open Go.ChangeMaps (open_string shut_string)
set_option linter.unusedVariables false

theorem own : ownKnob Try.prog.godebug = none := by kernel_rfl

open Mem
theorem zlt (a : Nat) : (fun _ : Nat => 0) a < 256 := Nat.zero_lt_succ _
/-- The bytes of a pair at A. -/
def two (A x y : Nat) : Nat → Nat := setW (setW (fun _ => 0) A x) (A + 8) y
theorem two_lt (A x y a : Nat) : two A x y a < 256 := setW_lt (setW_lt zlt A x) (A + 8) y a
theorem two_1 {A x y : Nat} (hA : A % 8 = 0) (hx : x < 18446744073709551616) : word (two A x y) A = x := by
  unfold two; rw [word_setW_other (by omega) hA (by omega), word_setW_same zlt _ hx]
theorem two_2 {A x y : Nat} (hy : y < 18446744073709551616) : word (two A x y) (A + 8) = y := word_setW_same (setW_lt zlt _ _) _ hy
theorem two_0 {A x y k : Nat} (hA : A % 8 = 0) (hk : k % 8 = 0) (h1 : k ≠ A) (h2 : k ≠ A + 8) : word (two A x y) k = 0 := by
  unfold two; rw [word_setW_other (by omega) hk h2, word_setW_other hA hk h1]; exact word_eq_zero (fun _ _ => rfl)
def sup (A x y : Nat) : List Nat := (if x = 0 then [] else [A]) ++ (if y = 0 then [] else [A + 8])
theorem sup_nodup (A x y : Nat) : (sup A x y).Nodup := by
  unfold sup; split <;> split <;> simp
theorem sup_mem {A x y : Nat} (hA : A % 8 = 0) (hx : x < 18446744073709551616) (hy : y < 18446744073709551616) : ∀ k, k ∈ sup A x y ↔ k % 8 = 0 ∧ word (two A x y) k ≠ 0 := fun k => by
  by_cases k1 : k = A
  · subst k1; rw [two_1 hA hx]; unfold sup; by_cases e : x = 0 <;> by_cases e2 : y = 0 <;> simp [e, e2, hA]
  · by_cases k2 : k = A + 8
    · subst k2; rw [two_2 hy]; unfold sup; by_cases e : x = 0 <;> by_cases e2 : y = 0 <;> simp [e, e2] <;> omega
    · constructor
      · intro h; unfold sup at h; by_cases e : x = 0 <;> by_cases e2 : y = 0 <;> simp [e, e2, k1, k2] at h
      · rintro ⟨h1, h2⟩; exact absurd (two_0 hA h1 k1 k2) h2
theorem setB_back {g : Nat → Nat} (k b : Nat) : setB (setB g k b) k (g k) = g := by
  funext a; unfold setB; split
  · rename_i h; rw [h]
  · rfl
/-! ### The walk -/
set_option maxHeartbeats 1000000 in
set_option maxRecDepth 100000 in
theorem walk (a0 : Int) (a1 : Int) (a2 : Int) (w0 : (Lit.int .u64 a0).wf = true) (w1 : (Lit.int .u64 a1).wf = true) (w2 : (Lit.int .u64 a2).wf = true) (w : World) :
    Calls Try.prog 7 #[.int .u64 a0, .int .u64 a1, .int .u64 a2] w fun e w' => e = .returned (.bool true) ∧ Below w.heap.size w w' := by
  obtain ⟨a00, a01⟩ := bounds_u64 w0
  obtain ⟨x0, x1⟩ := bounds_u64 w1
  obtain ⟨y0, y1⟩ := bounds_u64 w2
  clear w0 w1 w2
  have q0 : 0 ≤ a0 % 1000 * 16 := by omega
  have q1 : a0 % 1000 * 16 ≤ 15984 := by omega
  have q2 : a0 % 1000 * 16 % 16 = 0 := by omega
  have T1 := two_1 (A := (a0 % 1000 * 16).toNat) (x := a1.toNat) (y := a2.toNat) (by omega) (by omega)
  have T2 := two_2 (A := (a0 % 1000 * 16).toNat) (x := a1.toNat) (y := a2.toNat) (by omega)
  have SM := sup_mem (A := (a0 % 1000 * 16).toNat) (x := a1.toNat) (y := a2.toNat) (by omega) (by omega) (by omega)
  have SN := sup_nodup (a0 % 1000 * 16).toNat a1.toNat a2.toNat
  have SL : ((sup (a0 % 1000 * 16).toNat a1.toNat a2.toNat).length : Int) = (if a1 = 0 then 0 else 1) + (if a2 = 0 then 0 else 1) := by
    have e1 : a1.toNat = 0 ↔ a1 = 0 := by omega
    have e2 : a2.toNat = 0 ↔ a2 = 0 := by omega
    unfold sup; by_cases h1 : a1 = 0 <;> by_cases h2 : a2 = 0 <;> simp [h1, h2, e1, e2]
  generalize hg : two (a0 % 1000 * 16).toNat a1.toNat a2.toNat = g at T1 T2 SM
  have hg' : setW (setW (fun _ => 0) (a0 % 1000 * 16).toNat a1.toNat) ((a0 % 1000 * 16).toNat + 8) a2.toNat = g := hg
  have gl : ∀ a, g a < 256 := fun a => hg ▸ two_lt _ _ _ a
  clear hg
  have U1 : ((word g (a0 % 1000 * 16).toNat : Nat) : Int) = a1 := by rw [T1]; omega
  have U2 : ((word g ((a0 % 1000 * 16).toNat + 8) : Nat) : Int) = a2 := by rw [T2]; omega
  have U3 : ((word g (a0 % 1000 * 16 + 8).toNat : Nat) : Int) = a2 := by
    rw [show (a0 % 1000 * 16 + 8).toNat = (a0 % 1000 * 16).toNat + 8 by omega]; exact U2
  have HG := Lib.hid hg'
  clear T1 T2 hg'
  generalize hl : sup (a0 % 1000 * 16).toNat a1.toNat a2.toNat = l at SM SN SL
  clear hl
  have SM' := Lib.hid SM
  have SN' := Lib.hid SN
  have SL' := Lib.hid SL
  clear SM SN SL
  go_enter Try.func7, Try.ntmps7
  go_wp2_with (go_at_call 8; refine (hnew 20000 (by omega) _).mono ?_; rintro e w1 ⟨rfl, H1⟩)
  go_wp2_with (go_at_call 21; refine (hputPair H1 _ _ _ (by omega) (by omega) (by omega) (by omega) (by omega) (by omega) (by omega)).mono ?_; rintro e w3 ⟨rfl, H3⟩)
  rw [HG.out] at H3
  go_wp2_with (go_at_call 10; refine (hword H3 _ (by omega) (by omega) (by omega)).mono ?_; rintro e w' ⟨rfl, rfl⟩)
  go_loopw [13] (fun i wr => ∃ k : Nat, k ≤ 16 ∧ i = .int .u64 (k : Int) ∧ Has w wr (w.heap.size + 1) 20000 g) (fun i _ => 16 - (intOf i).toNat)
  case atStart => exact ⟨0, by omega, rfl, H3⟩
  case round =>
    obtain ⟨k, hk, rfl, H4⟩ := hrel
    by_cases hlt : k < 16
    · have b2 := gl (a0 % 1000 * 16 + (k : Int)).toNat
      go_wp2_with (go_at_call 11; refine (hbyte H4 _ (by omega) (by omega)).mono ?_; rintro e w5 ⟨rfl, H5⟩)
      go_wp2_with fail
      refine (hputByte H5 _ _ (by omega) (by omega) (by first | omega | (rw [IntKind.wrap_u8]; omega)) (by first | omega | (rw [IntKind.wrap_u8]; omega))).mono ?_
      rintro e w6 ⟨rfl, H6⟩
      go_wp2_with fail
      refine (hputByte H6 _ _ (by omega) (by omega) (by omega) (by omega)).mono ?_
      rintro e w7 ⟨rfl, H7⟩
      rw [Int.toNat_natCast, setB_back] at H7
      go_wp2
      go_roundw
      case rel => exact ⟨k + 1, by omega, by go_num, H7⟩
      case measure => simp [intOf]; omega
    · obtain rfl : k = 16 := by omega
      clear hlt
      by_cases e1 : a1 = 0 <;> by_cases e2 : a2 = 0
      all_goals
        have L := SL'.out
        have f1 : (a1 == 0) = decide (a1 = 0) := rfl
        have f2 : (a2 == 0) = decide (a2 = 0) := rfl
        simp only [e1, e2, decide_true, decide_false] at f1 f2
        simp only [e1, e2, if_true, if_false, Int.add_zero, Int.zero_add, show (1 : Int) + 1 = 2 from rfl] at L
        go_wp2_with (first | (go_at_call 14; refine (hpair H4 _ (by omega) (by omega) (by omega)).mono ?_; rintro e w5 ⟨rfl, H5⟩) | (go_at_call 20; refine (hused H5 l SN'.out SM'.out).mono ?_; rintro e w6 ⟨rfl, rfl⟩) | (go_at_call 12; refine (mlives_any _).mono ?_; rintro e w' ⟨rfl, hb⟩))
        go_ret
        exact ⟨rfl, H5.below.trans (hb.mono H5.below.size)⟩

/-! ### The row -/
set_option maxRecDepth 100000 in
theorem lifted (os : Os) (started : os.Started) (H : Type) (enc : TypeId × Value → H) :
    ReturnsInHanded {} Try.checked os 7 .any (Rows.memoryWordsSpec.pre6 enc Try.prog Try.f7 Rows.memoryWordsRow.domain false) (Rows.memoryWordsSpec.post enc Try.prog Try.f7 false true false false) := by
  refine returnsInHanded_of_change (C := Try.checked) own started (by kernel_rfl) Try.func7
    (ChangeSpec.witness6 (enc := enc) (C := Try.checked) false ⟨#[], #[.int .u64 0, .int .u64 0, .int .u64 0], []⟩ 8 (by kernel_rfl) (by kernel_rfl) (by kernel_rfl) (by kernel_rfl)) ?_
  intro W base args ds gs before hval0 hW hcnd _
  have hval : ∀ (j : Nat) t v, Try.f7.params[j]? = some t → args[j]? = some v → Value.okWide Try.prog W .any base t v := hval0
  have hW' := hW
  obtain ⟨p, q, hA0, hV, rfl, hfz, hnd⟩ := hW
  have hA : DataW.TrodAll enc Try.prog W 0 (fun _ => true) true Try.f7.params.toList args.toList ds p := hA0
  rw [Try.params7] at hA hval
  obtain ⟨v0, vs0, d0, ds0, p0, q0, hargs, rfl, rfl, h0, r0⟩ := trodAll_cons hA
  obtain ⟨v1, vs1, d1, ds1, p1, q1, rfl, rfl, rfl, h1, r1⟩ := trodAll_cons r0
  obtain ⟨v2, vs2, d2, ds2, p2, q2, rfl, rfl, rfl, h2, r2⟩ := trodAll_cons r1
  obtain ⟨rfl, rfl, rfl⟩ := trodAll_nil r2
  obtain rfl : args = #[v0, v1, v2] := by cases args; simp_all
  obtain ⟨rfl, rfl⟩ := trodVars_none hV
  obtain ⟨a0, rfl, rfl, rfl, w0⟩ := open_int Try.underlying22 (hval 0 22 v0 rfl rfl) h0
  obtain ⟨a1, rfl, rfl, rfl, w1⟩ := open_int Try.underlying22 (hval 1 22 v1 rfl rfl) h1
  obtain ⟨a2, rfl, rfl, rfl, w2⟩ := open_int Try.underlying22 (hval 2 22 v2 rfl rfl) h2
  clear hA0 hval0
  simp only [List.append_nil] at hW'
  refine (walk a0 a1 a2 w0 w1 w2 W).mono fun e W' ⟨he, hg⟩ => ?_
  subst he
  exact ⟨_, rfl, _, _, _, [], [], [], hW', trodAll_mk1 (shut_bool Try.underlying4 _), (trodAll_cons_mk (shut_int Try.underlying22 w0) (trodAll_cons_mk (shut_int Try.underlying22 w1) (trodAll_cons_mk (shut_int Try.underlying22 w2) trodAll_mk0))), rfl, hg.frame _, fun h => by cases h⟩

theorem over : Rows.memoryWordsRow.holds Try.pinned (OpenSpec.ofChange Rows.memoryWordsSpec) :=
  OpenClaim.holds_of_wide 7 Try.f7 rfl rfl rfl rfl rfl rfl rfl ⟨rfl, rfl, rfl, rfl, rfl⟩ rfl rfl rfl rfl rfl (by kernel_rfl) Try.func7 (by kernel_rfl)
    (of_decide_eq_true (by kernel_rfl)) (by unfold Func.isWrapper; first | (rw [if_pos (by decide +kernel)]; kernel_rfl) | (rw [if_neg (by decide +kernel)]; exact ⟨rfl, rfl⟩))
    (fun os started H enc _ => lifted os started H enc)

theorem proved : Rows.MemoryWordsSaid :=
  over
#print axioms proved
end Go.Proofs.Ytmhgofhclckdpaa.memoryWords
