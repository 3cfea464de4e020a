/-
  Contracts of the document's Hex and Read; what was in memory stays. Conditions: words are below 2 to the 64, texts no longer than Go lets them be.
-/
import Derived.Test.YtbodcjcnjbkcbaaNum
import Derived.Laws.Strings
import Derived.Lib.Strings
namespace Go.Proofs.Ytbodcjcnjbkcbaa.Fld
open Go.ChangeShapes Go.WideShapes Go.ChangeAt Go.RowKit
set_option maxHeartbeats 400000
theorem rhex_any (x : Int) (x0 : 0 ≤ x) (x1 : x ≤ 18446744073709551615) (w : World) :
    Calls Try.prog 25 #[.int .u64 x] w fun e w' => e = .returned (.string (hexS x)) ∧ Below w.heap.size w w' := by
  obtain ⟨i0, hi, hz0, hz1, hz2⟩ := info_parts infoByte
  go_enter Try.func25, Try.ntmps25
  go_wp2
  go_loopw [3, 4] (fun v p wr => ∃ k : Nat, k ≤ 16 ∧ p = .int .i64 (15 - (k : Int)) ∧ wr.ownsRow w.heap.size 5 1 v k (cellsOf (hexL x k)) ∧ Below w.heap.size w wr) (fun _ p _ => (intOf p + 1).toNat)
  case atStart => exact ⟨0, by omega, rfl, World.ownsRow_nil _ _ _ _, Below.refl _ _⟩
  case round =>
    obtain ⟨k, hk, rfl, hown, hbel⟩ := hrel
    by_cases hlt : k < 16
    · have hd := get4_bd x (60 - 4 * (k : Int))
      have E := Lib.hid (show getI x (4 * (15 - (k : Int))) 4 = getI x (60 - 4 * (k : Int)) 4 by rw [show 4 * (15 - (k : Int)) = 60 - 4 * (k : Int) by omega])
      have HV := Lib.hid (show hexAt x k = signOf (getI x (60 - 4 * (k : Int)) 4) from rfl)
      have hsz := hbel.size
      go_wp2_with fail
      refine (rget_any _ _ _ x0 x1 _).mono ?_
      rintro e w' ⟨rfl, rfl⟩
      rw [E.out]
      clear E
      generalize getI x (60 - 4 * (k : Int)) 4 = d at *
      by_cases hten : d < 10
      · have HC := Lib.hid (show cellsOf (hexL x (k + 1)) = cellsOf (hexL x k) ++ [.int .u8 (48 + d)] by rw [cellsOf_succ, HV.out, signOf_lo d hd.1 hten])
        go_wp2_with (at_builtin; refine wpList_append_own _ rfl _ _ 40 rfl w.heap.size 5 i0 (.int .u8 0) 1 1 Try.underlying40 hi hz0 hz1 hz2 rfl (by decide) _ _ _ rfl (by exact hown.alloc _) ⟨wr.heap.size, 0, none⟩ 1 1 [.int .u8 (48 + d)] rfl rfl ?c1 ?c2 ?c3 ?c4 ?c5 ?_)
        case c1 => exact news_one wr 0 _ _
        case c2 => intro u hu; simp at hu; subst hu; rfl
        case c3 => unfold maxLen; omega
        case c4 => omega
        case c5 => simp; omega
        · intro v' w1 hown' hgrow _
          have R1 : w1.ownsRow w.heap.size 5 1 v' (k + 1) (cellsOf (hexL x (k + 1))) := by rw [HC.out]; exact hown'
          have R2 : Below w.heap.size w w1 := (hbel.alloc (by omega) _).grown hgrow (by simp; omega) (fun g hg => (hown.lt g hg).1)
          clear hown' hgrow hown hbel
          go_wp2
          go_roundw
          case rel => exact ⟨k + 1, by omega, by go_num, R1, R2⟩
          case measure => simp [intOf]; omega
      · have HC := Lib.hid (show cellsOf (hexL x (k + 1)) = cellsOf (hexL x k) ++ [.int .u8 (87 + d)] by rw [cellsOf_succ, HV.out, signOf_hi d (by omega) hd.2])
        go_wp2_with (at_builtin; refine wpList_append_own _ rfl _ _ 40 rfl w.heap.size 5 i0 (.int .u8 0) 1 1 Try.underlying40 hi hz0 hz1 hz2 rfl (by decide) _ _ _ rfl (by exact hown.alloc _) ⟨wr.heap.size, 0, none⟩ 1 1 [.int .u8 (87 + d)] rfl rfl ?e1 ?e2 ?e3 ?e4 ?e5 ?_)
        case e1 => exact news_one wr 0 _ _
        case e2 => intro u hu; simp at hu; subst hu; rfl
        case e3 => unfold maxLen; omega
        case e4 => omega
        case e5 => simp; omega
        · intro v' w1 hown' hgrow _
          have R1 : w1.ownsRow w.heap.size 5 1 v' (k + 1) (cellsOf (hexL x (k + 1))) := by rw [HC.out]; exact hown'
          have R2 : Below w.heap.size w w1 := (hbel.alloc (by omega) _).grown hgrow (by simp; omega) (fun g hg => (hown.lt g hg).1)
          clear hown' hgrow hown hbel
          go_wp2
          go_roundw
          case rel => exact ⟨k + 1, by omega, by go_num, R1, R2⟩
          case measure => simp [intOf]; omega
    · obtain rfl : k = 16 := by omega
      have hcv := to_text 16 (hexL_length x 16).symm (by omega) hown
      go_wp2
      go_ret
      exact ⟨rfl, hbel⟩
theorem text_eq (a b : ByteArray) : (a.toList == b.toList) = true ↔ a = b := by
  rw [beq_iff_eq, Lib.toList_data, Lib.toList_data]
  constructor
  · intro h; rw [← Lib.mk_data a, ← Lib.mk_data b, h]
  · intro h; rw [h]
theorem digD_lo' (b : Int) (h : b < 97) : (IntKind.u64.wrap (b - 48)).tmod 16 = digD b := by
  rw [Int.tmod_eq_emod_of_nonneg (wrap_u64_nonneg _)]; exact digD_lo b h
theorem doc_test (s : ByteArray) : ((hexS (wordD s)).toList == s.toList) = readB s := by
  rw [Bool.eq_iff_iff, text_eq]; exact (read_docD s).1
theorem rread_any (s : ByteArray) (hs : s.size ≤ 1000) (w : World) :
    Calls Try.prog 24 #[.string s] w fun e w' => e = .returned (.tuple #[.int .u64 (readI s), .bool (readB s)]) ∧ Below w.heap.size w w' := by
  have wb := wordD_bd s
  have HD := Lib.hid (read_docD s)
  have HT := doc_test s
  have HW := Lib.hid (show wordD s = accD s.data.toList (min s.size 16) from rfl)
  go_enter Try.func24, Try.ntmps24
  go_wp2
  go_loop [4, 5, 6] (fun a i _ => ∃ k : Nat, k ≤ s.size ∧ k ≤ 16 ∧ i = .int .i64 (k : Int) ∧ a = .int .u64 (accD s.data.toList k)) (fun _ i _ => 16 - (intOf i).toNat)
  case atStart => exact ⟨0, by omega, by omega, rfl, rfl⟩
  case round =>
    obtain ⟨k, hk1, hk2, rfl, rfl⟩ := hrel
    by_cases hlt : k < s.size
    · by_cases hlt2 : k < 16
      · have hab := accD_bd16 s.data.toList k hlt2
        obtain ⟨b, hb⟩ : ∃ b : Int, (((s[k]'hlt).toNat : Nat) : Int) = b := ⟨_, rfl⟩
        have hbb : 0 ≤ b ∧ b ≤ 255 := by have := (s[k]'hlt).toNat_lt; omega
        have HA := Lib.hid (show accD s.data.toList (k + 1) = 16 * accD s.data.toList k + digD b from (accD_succ s.data.toList k (by simpa using hlt)).trans (by rw [← hb]; rfl))
        have hdb := digD_bd b
        by_cases h97 : 97 ≤ b
        · have hdg := digD_hi b h97
          go_wp2
          go_round
          case rel => exact ⟨k + 1, by omega, by omega, by go_num, by rw [HA.out]⟩
          case measure => simp [intOf]; omega
        · by_cases h48 : 48 ≤ b
          · have hdg := digD_mid b (by omega)
            go_wp2
            go_round
            case rel => exact ⟨k + 1, by omega, by omega, by go_num, by rw [HA.out]⟩
            case measure => simp [intOf]; omega
          · have hdg := digD_lo' b (by omega)
            go_wp2
            go_round
            case rel => exact ⟨k + 1, by omega, by omega, by go_num, by rw [HA.out]⟩
            case measure => simp [intOf]; omega
      · have HE := Lib.hid (show accD s.data.toList k = wordD s by rw [HW.out]; congr 1; omega)
        have hk16 : decide ((k : Int) < 16) = false := by rw [decide_eq_false_iff_not]; omega
        go_wp2_with fail
        rw [HE.out]
        refine (rhex_any _ wb.1 wb.2 _).mono ?_
        rintro e w' ⟨rfl, hb⟩
        cases hr : readB s
        · have HR := Lib.hid hr
          rw [hr] at HT
          clear hr
          go_wp2
          go_ret2
          exact ⟨ret_pair (readI_no s HR.out).symm HR.out.symm, hb⟩
        · have HR := Lib.hid hr
          rw [hr] at HT
          clear hr
          go_wp2
          go_ret2
          exact ⟨ret_pair (HD.out.2 (HD.out.1.2 HR.out)).symm HR.out.symm, hb⟩
    · have HE := Lib.hid (show accD s.data.toList k = wordD s by rw [HW.out]; congr 1; omega)
      go_wp2_with fail
      rw [HE.out]
      refine (rhex_any _ wb.1 wb.2 _).mono ?_
      rintro e w' ⟨rfl, hb⟩
      cases hr : readB s
      · have HR := Lib.hid hr
        rw [hr] at HT
        clear hr
        go_wp2
        go_ret2
        exact ⟨ret_pair (readI_no s HR.out).symm HR.out.symm, hb⟩
      · have HR := Lib.hid hr
        rw [hr] at HT
        clear hr
        go_wp2
        go_ret2
        exact ⟨ret_pair (HD.out.2 (HD.out.1.2 HR.out)).symm HR.out.symm, hb⟩
end Go.Proofs.Ytbodcjcnjbkcbaa.Fld
