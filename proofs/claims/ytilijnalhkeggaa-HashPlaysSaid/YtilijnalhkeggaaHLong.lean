/-
  Contract of Longest of package hash. Conditions: a table that is there.
-/
import Derived.Test.YtilijnalhkeggaaHAll
import Derived.LoopTactic
namespace Go.Proofs.Ytilijnalhkeggaa.Hs
open Fld
open Go.ChangeShapes Go.WideShapes Go.ChangeAt Go.RowKit Go.Maps
set_option maxHeartbeats 1000000
set_option maxRecDepth 100000
theorem longest_any {sb bm n : Nat} {bl : Int} {L : Nat → List Bk} {V : Nat → Value} (w : World) (h : TabAt w sb bm n bl L V) :
    Calls Try.prog 25 #[.pointer (some ⟨sb, 0, none⟩)] w fun e w' => e = .returned (.int .i64 (lngL L n : Int)) ∧ Below w.heap.size w w' := by
  obtain ⟨c0, c1, c2, c3, fr⟩ := h.cells
  obtain ⟨D, hown, hM⟩ := h.map
  have hT := Lib.hid h
  clear h c0 c1 c2 fr
  go_enter Try.func25, Try.ntmps25
  go_wp2_with (at_range; refine wpList_range_own _ rfl _ 64 rfl 3 78 lawI Try.underlying64 _ bm _ D rfl hown ?_; intro w0 hrg0 hg0 hs0)
  go_frame
  have b0 : Below w.heap.size w w0 := ⟨hg0.os, hg0.tape, hg0.output, hg0.size, fun k hk => hg0.block k hk (by simp)⟩
  have HM := Lib.hid hM
  clear hg0 hs0 hM
  go_loopw [3] (fun v wr => ∃ (m : Nat) (left : Lit → Bool) (cnt : Nat), v = .int .i64 (m : Int) ∧ wr.ranges Try.prog 3 hdR bm w.heap.size (Maps.size D) D left cnt ∧ Below w.heap.size w wr ∧ (∀ i, i < n → V i ≠ nilS → left (keyL (i : Int)) = false → (L i).length ≤ m) ∧ (m = 0 ∨ ∃ i, i < n ∧ m = (L i).length))
    (fun _ wr => wr.rangeLeft bm w.heap.size)
  case atStart => exact ⟨0, _, _, rfl, hrg0, b0, fun i hi hv hl => absurd (HM.out.nz i hi hv) (by rw [hl]; simp), .inl rfl⟩
  case round =>
    clear hrg0 b0
    obtain ⟨m, left, cnt, rfl, hrg, hbel, hall, hone⟩ := hrel
    go_wp2_with (at_next; refine wpList_next_ranges _ rfl _ rfl 3 lawI hdR (Value.int .i64) id (fun key kl hk => by obtain ⟨x, hx, _⟩ := Maps.keyOf_int_inv Try.underlying3 hk; exact ⟨x, hx⟩) (fun v _ _ => ⟨v, rfl⟩) bm w.heap.size _ _ _ _ rfl hrg ?_ ?_)
    · intro hc0 hl0
      have hfin : m = lngL L n := lng_unique L n m (fun i hi => by
        by_cases hv : V i = nilS
        · rw [hT.out.nilV hi hv]; exact Nat.zero_le _
        · exact hall i hi hv (hl0 _)) hone
      go_wp2_with fail
      go_ret
      exact ⟨by rw [hfin]; rfl, hbel⟩
    · intro x c kl y yp w2 cnt2 hkey hlk hv hat hrg2 hlt hg2 hs2 hen
      obtain ⟨x', ex, rfl, _⟩ := Maps.keyOf_int_inv Try.underlying3 hkey
      cases ex
      obtain ⟨i, hi, hki, hvi⟩ := HM.out.has_ _ (has_true_of_atKey hat)
      have hxi : x = (i : Int) := by injection hki
      subst hxi
      have hc : c = V i := by
        have h1 := HM.out.at_ (i : Int)
        rw [hat, rowV_in hi] at h1
        have h2 := (hdR_inv hv).1
        have h3 : y = hdD c := congrArg Prod.fst h2
        exact hdD_inj hv (hdR_own (hT.out.rows i hi)) (by rw [← h3, h1])
      subst hc
      have hle := bk_few hT.out hi
      rcases own_form (hT.out.rows i hi) with ⟨hn, _⟩ | ⟨g, cap, hv2, _⟩
      · exact absurd hn hvi
      rw [hv2] at hen
      have hone' := hone
      have hb2 := hbel.grown hg2 hbel.size (fun j hj => by cases hj; exact Nat.le_refl _)
      have hA : ∀ i', i' < n → V i' ≠ nilS → (left (keyL (i' : Int)) && !(keyL (i' : Int)).sameKey (keyL (i : Int))) = false → (L i').length ≤ max m (L i).length := fun i' h1 h2 h3 => by
        cases hl : left (keyL (i' : Int))
        · have := hall i' h1 h2 hl; omega
        · rw [hl] at h3
          have : (i' : Int) = (i : Int) := by simpa [Lit.sameKey] using h3
          have : i' = i := by omega
          subst this; omega
      have hO : max m (L i).length = 0 ∨ ∃ i', i' < n ∧ max m (L i).length = (L i').length := by
        rcases Nat.le_total m (L i).length with h1 | h1
        · exact .inr ⟨i, hi, by omega⟩
        · rcases hone with h2 | ⟨i', h2, h3⟩
          · exact .inr ⟨i, hi, by omega⟩
          · exact .inr ⟨i', h2, by omega⟩
      have hmx := Lib.hid (show max (m : Int) ((L i).length : Int) = ((max m (L i).length : Nat) : Int) by omega)
      have HA := Lib.hid hA
      have HO := Lib.hid hO
      clear hA hO hall hone hkey hv hat hki
      have hm0 : (m : Int) ≤ 1073741824 := by
        rcases hone' with h2 | ⟨i', h2, h3⟩
        · omega
        · have := bk_few hT.out h2; omega
      go_wp2_with fail
      all_goals
        go_roundw
        case rel => exact ⟨max m (L i).length, _, cnt2, by rw [← hmx.out], hrg2, hb2, HA.out, HO.out⟩
        case measure => rw [hrg2.left_eq, hrg.left_eq]; exact hlt
end Go.Proofs.Ytilijnalhkeggaa.Hs
