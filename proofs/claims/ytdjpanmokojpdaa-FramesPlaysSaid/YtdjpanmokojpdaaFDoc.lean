/-
  Contracts of Is, none and Longest of the document's package for layer 5. Conditions: lists of at most 2 to the 20 numbers.
-/
import Derived.Test.YtdjpanmokojpdaaFDocM
import Derived.Test.YtdjpanmokojpdaaFTaken
namespace Go.Proofs.Ytdjpanmokojpdaa.Frm
open Fld
open Go.ChangeShapes Go.WideShapes Go.ChangeAt Go.RowKit
set_option maxHeartbeats 1000000
abbrev OwnI (w : World) (B : Nat) (ao : Option Addr) (cap : Nat) (L : List Int) : Prop := w.ownsRow B 3 1 (.slice ao L.length cap) L.length (intsV L)
theorem ownI_at {w : World} {B cap : Nat} {ao : Option Addr} {L : List Int} (h : OwnI w B ao cap L) (j : Nat) (hj : j < L.length) :
    ∃ g, ao = some ⟨g, 0, none⟩ ∧ L.length ≤ cap ∧ cap ≤ maxLen ∧ B ≤ g ∧ g < w.heap.size ∧ w.cell? ⟨g, j, none⟩ = some (.int .i64 L[j]) := by
  have hh := h
  rcases h.2 with ⟨_, h0⟩ | ⟨g, cap', cur, hv, hB, hg, h1, h2, _, _⟩
  · omega
  · obtain ⟨rfl, rfl⟩ : ao = some ⟨g, 0, none⟩ ∧ cap = cap' := by injection hv with a b c; exact ⟨a, c⟩
    have hc := hh.cellAt j (by omega)
    refine ⟨g, rfl, h1, h2, hB, (Array.getElem?_eq_some_iff.1 hg).1, ?_⟩
    rw [hc]
    simp [intsV, hj]
theorem ris_any (N B cap : Nat) (ao : Option Addr) (L : List Int) (i : Int) (w : World) (h : OwnI w B ao cap L) (hl : L.length ≤ 1048576) :
    Calls Try.prog 28 #[.agg #[.int .i64 (N : Int), .slice ao L.length cap], .int .i64 i] w fun e w' => e = .returned (.bool (decide (i ∈ L))) ∧ Below w.heap.size w w' := by
  have hb : Below w.heap.size w (w.alloc (.cells #[.int .i64 (N : Int), .slice ao L.length cap] 27)) := (Below.refl _ _).alloc (Nat.le_refl _) _
  have ho : OwnI (w.alloc (.cells #[.int .i64 (N : Int), .slice ao L.length cap] 27)) B ao cap L := h.alloc _
  go_enter Try.func28, Try.ntmps28
  go_wp2
  go_loop [5] (fun k => ∃ j : Nat, j ≤ L.length ∧ k = .int .i64 (j : Int) ∧ Hid (∀ q, q < j → L[q]? ≠ some i)) (fun k => L.length - (intOf k).toNat)
  case atStart => exact ⟨0, by omega, rfl, Lib.hid (fun q hq => by omega)⟩
  case round =>
    obtain ⟨j, hj, rfl, HJ⟩ := hrel
    by_cases hlt : (j : Int) < (L.length : Int)
    · obtain ⟨g, rfl, h1, h2, hB, hg, hc⟩ := ownI_at ho j (by omega)
      have HX := Lib.hid (show L[j]? = some L[j] from List.getElem?_eq_getElem (by omega))
      unfold maxLen at h2
      generalize L[j] = x at *
      by_cases hx : x = i
      · subst hx
        have HR := Lib.hid (show decide (x ∈ L) = true from decide_eq_true (List.mem_of_getElem? HX.out))
        go_wp2
        go_ret
        exact ⟨ret_bool HR.out.symm, hb⟩
      · have hx1 : (x == i) = false := by simp [hx]
        have HJ2 := Lib.hid (show ∀ q, q < j + 1 → L[q]? ≠ some i from fun q hq => by
          by_cases e : q = j
          · rw [e, HX.out]; simp [hx]
          · exact HJ.out q (by omega))
        clear HJ HX
        go_wp2
        go_round
        case rel => exact ⟨j + 1, by omega, by go_num, HJ2⟩
        case measure => simp [intOf]; omega
    · have HR := Lib.hid (show decide (i ∈ L) = false from decide_eq_false (fun hm => by
        obtain ⟨q, hq⟩ := List.getElem?_of_mem hm
        have := (List.getElem?_eq_some_iff.1 hq).1
        exact HJ.out q (by omega) hq))
      go_wp2
      go_ret
      exact ⟨ret_bool HR.out.symm, hb⟩
theorem rnone_any (N B cap : Nat) (ao : Option Addr) (L : List Int) (f k : Int) (f0 : 0 ≤ f) (k0 : 0 ≤ k) (fk : f + k ≤ 1048576) (w : World) (h : OwnI w B ao cap L) (hl : L.length ≤ 1048576) :
    Calls Try.prog 41 #[.agg #[.int .i64 (N : Int), .slice ao L.length cap], .int .i64 f, .int .i64 k] w fun e w' => e = .returned (.bool (L.all (fun x => !inR f k x))) ∧ Below w.heap.size w w' := by
  have hb : Below w.heap.size w (w.alloc (.cells #[.int .i64 (N : Int), .slice ao L.length cap] 27)) := (Below.refl _ _).alloc (Nat.le_refl _) _
  have ho : OwnI (w.alloc (.cells #[.int .i64 (N : Int), .slice ao L.length cap] 27)) B ao cap L := h.alloc _
  go_enter Try.func41, Try.ntmps41
  go_wp2
  go_loop [7] (fun r => ∃ j : Nat, j ≤ L.length ∧ r = .int .i64 (j : Int) ∧ Hid (∀ q x, q < j → L[q]? = some x → inR f k x = false)) (fun r => L.length - (intOf r).toNat)
  case atStart => exact ⟨0, by omega, rfl, Lib.hid (fun q x hq => by omega)⟩
  case round =>
    obtain ⟨j, hj, rfl, HJ⟩ := hrel
    by_cases hlt : (j : Int) < (L.length : Int)
    · obtain ⟨g, rfl, h1, h2, hB, hg, hc⟩ := ownI_at ho j (by omega)
      have HX := Lib.hid (show L[j]? = some L[j] from List.getElem?_eq_getElem (by omega))
      unfold maxLen at h2
      generalize L[j] = x at *
      by_cases hx : f ≤ x
      · by_cases hx2 : x < f + k
        · have HR := Lib.hid (show L.all (fun x => !inR f k x) = false by
            rw [List.all_eq_false]
            exact ⟨x, List.mem_of_getElem? HX.out, by simp [inR, hx, hx2]⟩)
          go_wp2
          go_ret
          exact ⟨ret_bool HR.out.symm, hb⟩
        · have HJ2 := Lib.hid (show ∀ q y, q < j + 1 → L[q]? = some y → inR f k y = false from fun q y hq hy => by
            by_cases e : q = j
            · rw [e, HX.out] at hy; injection hy with hy; subst hy; simp [inR]; omega
            · exact HJ.out q y (by omega) hy)
          clear HJ HX
          go_wp2
          go_round
          case rel => exact ⟨j + 1, by omega, by go_num, HJ2⟩
          case measure => simp [intOf]; omega
      · have HJ2 := Lib.hid (show ∀ q y, q < j + 1 → L[q]? = some y → inR f k y = false from fun q y hq hy => by
          by_cases e : q = j
          · rw [e, HX.out] at hy; injection hy with hy; subst hy; simp [inR]; omega
          · exact HJ.out q y (by omega) hy)
        clear HJ HX
        go_wp2
        go_round
        case rel => exact ⟨j + 1, by omega, by go_num, HJ2⟩
        case measure => simp [intOf]; omega
    · have HR := Lib.hid (show L.all (fun x => !inR f k x) = true by
        rw [List.all_eq_true]
        intro x hm
        obtain ⟨q, hq⟩ := List.getElem?_of_mem hm
        have := (List.getElem?_eq_some_iff.1 hq).1
        rw [HJ.out q x (by omega) hq]; rfl)
      go_wp2
      go_ret
      exact ⟨ret_bool HR.out.symm, hb⟩
theorem rlongest_any (N B cap : Nat) (ao : Option Addr) (T : Nat → Bool) (w : World) (h : OwnI w B ao cap (lst T N)) (hN : N ≤ 65536) :
    Calls Try.prog 14 #[.agg #[.int .i64 (N : Int), .slice ao (lst T N).length cap]] w fun e w' => e = .returned (.int .i64 (lng T N : Int)) ∧ Below w.heap.size w w' := by
  have hl : (lst T N).length ≤ 65536 := by have := lst_length T N; omega
  have S0 := longS_new T N
  generalize lst T N = L at *
  have hb : Below w.heap.size w (w.alloc (.cells #[.int .i64 (N : Int), .slice ao L.length cap] 27)) := (Below.refl _ _).alloc (Nat.le_refl _) _
  have ho : OwnI (w.alloc (.cells #[.int .i64 (N : Int), .slice ao L.length cap] 27)) B ao cap L := h.alloc _
  go_enter Try.func14, Try.ntmps14
  go_wp2
  go_loop [3, 4, 5] (fun b l k => ∃ j p : Nat, k = .int .i64 (j : Int) ∧ j ≤ L.length ∧ p ≤ N ∧ b = .int .i64 (lng T p : Int) ∧ l = .int .i64 ((p : Int) - 1) ∧ Hid (LongS T N (L.drop j) p) ∨ k = .int .i64 ((L.length + 1 : Nat) : Int) ∧ b = .int .i64 (lng T N : Int)) (fun _ _ k => L.length + 1 - (intOf k).toNat)
  case atStart => exact ⟨0, 0, .inl ⟨rfl, by omega, by omega, rfl, rfl, Lib.hid S0⟩⟩
  case round =>
    obtain ⟨j, p, ⟨rfl, hj, hp, rfl, rfl, HS⟩ | ⟨rfl, rfl⟩⟩ := hrel
    · have hpl := lng_le T p
      by_cases hlt : (j : Int) < (L.length : Int)
      · obtain ⟨g, rfl, h1, h2, hB, hg, hc⟩ := ownI_at ho j (by omega)
        have HS2 := HS.out
        rw [List.drop_eq_getElem_cons (by omega)] at HS2
        unfold maxLen at h2
        obtain ⟨q, hq1, hq2, hq3, hq4, hq5⟩ := HS2.step
        rw [hq1] at hc
        have HM := Lib.hid (show max (lng T p : Int) ((q : Int) - ((p : Int) - 1) - 1) = (lng T (q + 1) : Int) by rw [hq5]; omega)
        replace hq4 := Lib.hid hq4
        clear hq1 hq5 HS HS2
        go_wp2
        go_round
        case rel => exact ⟨j + 1, q + 1, .inl ⟨by go_num, by omega, by omega, by rw [HM.out], by go_num, hq4⟩⟩
        case measure => simp [intOf]; omega
      · have HS2 := HS.out
        rw [List.drop_of_length_le (by omega)] at HS2
        have HM := Lib.hid (show max (lng T p : Int) ((N : Int) - ((p : Int) - 1) - 1) = (lng T N : Int) by rw [HS2.last]; omega)
        obtain rfl : L.length = j := by omega
        clear HS HS2
        go_wp2
        go_round
        case rel => exact ⟨0, 0, .inr ⟨by go_num, by rw [HM.out]⟩⟩
        case measure => simp [intOf]
    · go_wp2
      go_ret
      exact ⟨rfl, hb⟩
end Go.Proofs.Ytdjpanmokojpdaa.Frm
