/-
  Contracts of number and Read of package field, and of the document's Hex and Read; what was in memory stays. Conditions: words are below 2 to the 64, texts no longer than Go lets them be.
-/
import Derived.Test.YtbodcjcnjbkcbaaHex
import Derived.Test.YtbodcjcnjbkcbaaMathC
import Derived.Laws.RangeString
import Derived.Laws.RangeAny
import Derived.Lib.OthersKept
namespace Go.Proofs.Ytbodcjcnjbkcbaa.Fld
open Go.ChangeShapes Go.WideShapes Go.ChangeAt Go.RowKit
set_option maxHeartbeats 400000
theorem ret_pair {a b : Int} {c d : Bool} (h1 : a = b) (h2 : c = d) : Ending.returned (.tuple #[.int .u64 a, .bool c]) = .returned (.tuple #[.int .u64 b, .bool d]) := by rw [h1, h2]
theorem sig_at : ∀ k : Fin 16, ((⟨#[48, 49, 50, 51, 52, 53, 54, 55, 56, 57, 97, 98, 99, 100, 101, 102]⟩ : ByteArray)[k.val]'k.isLt).toNat < 128 ∧ ((((⟨#[48, 49, 50, 51, 52, 53, 54, 55, 56, 57, 97, 98, 99, 100, 101, 102]⟩ : ByteArray)[k.val]'k.isLt).toNat : Nat) : Int) = sgnI k.val := by decide
theorem next_sign (w : World) (k : Nat) (h : k < 16) (ty : TypeId) :
    (Instr.next (.pointer (some ⟨w.heap.size, 0, none⟩)) true ty).run Try.prog (w.iter ⟨#[48, 49, 50, 51, 52, 53, 54, 55, 56, 57, 97, 98, 99, 100, 101, 102]⟩ k) =
      .ok (.tuple #[.bool true, .int .i64 (k : Int), .int .i32 (sgnI k)]) (w.iter ⟨#[48, 49, 50, 51, 52, 53, 54, 55, 56, 57, 97, 98, 99, 100, 101, 102]⟩ (k + 1)) := by
  have hs := sig_at ⟨k, h⟩
  have e := run_next_ascii (P := Try.prog) w ⟨#[48, 49, 50, 51, 52, 53, 54, 55, 56, 57, 97, 98, 99, 100, 101, 102]⟩ k ty h hs.1
  rw [e, ← hs.2]
theorem number_any (r : Int) (w : World) :
    Calls Try.prog 28 #[.int .i32 r] w fun e w' => e = .returned (.tuple #[.int .u64 (numI r), .bool (numB r)]) ∧ Below w.heap.size w w' := by
  go_enter Try.func28, Try.ntmps28
  go_wp2
  go_loopw [4, 5] (fun _ _ wr => ∃ k : Nat, k ≤ 16 ∧ wr = w.iter ⟨#[48, 49, 50, 51, 52, 53, 54, 55, 56, 57, 97, 98, 99, 100, 101, 102]⟩ k ∧ Hid (∀ j, j < k → sgnI j ≠ r)) (fun _ _ wr => 16 - wr.iterPos w.heap.size)
  case atStart => exact ⟨0, by omega, rfl, Lib.hid (fun j h => by omega)⟩
  case round =>
    obtain ⟨k, hk, rfl, HN⟩ := hrel
    by_cases hlt : k < 16
    · have hnx := next_sign w k hlt
      by_cases hs : sgnI k = r
      · have hq : (sgnI k == r) = true := beq_iff_eq.2 hs
        have HF := Lib.hid (sgn_found k hlt)
        have HS := Lib.hid hs
        clear hs
        go_wp2
        go_ret2
        exact ⟨ret_pair (by rw [← HS.out]; exact HF.out.2.symm) (by rw [← HS.out]; exact HF.out.1.symm), (Below.refl _ _).alloc (Nat.le_refl _) _⟩
      · have hq : (sgnI k == r) = false := beq_eq_false_iff_ne.2 hs
        have HS := Lib.hid hs
        clear hs
        go_wp2
        go_roundw
        case rel => exact ⟨k + 1, by omega, rfl, Lib.hid (fun j h => by
          by_cases e : j = k
          · rw [e]; exact HS.out
          · exact HN.out j (by omega))⟩
        case measure => simp; omega
    · have hnx := fun ty => run_next_end (P := Try.prog) w ⟨#[48, 49, 50, 51, 52, 53, 54, 55, 56, 57, 97, 98, 99, 100, 101, 102]⟩ k ty hlt
      have HF := Lib.hid (sgn_none r (fun j hj => HN.out j (by omega)))
      go_wp2
      go_ret2
      exact ⟨ret_pair HF.out.2.symm HF.out.1.symm, (Below.refl _ _).alloc (Nat.le_refl _) _⟩
theorem byte_list (s : ByteArray) (k : Nat) (h : k < s.size) (h' : k < s.data.toList.length) : s.data.toList[k]'h' = s[k]'h := rfl
theorem read_no (s : ByteArray) (k : Nat) (hs : s.size = 16) (h : k < s.size) (hb : numB ((s[k]'h).toNat : Int) = false) : readB s = false := by
  have hl : k < s.data.toList.length := by simpa using h
  unfold readB
  rw [Bool.and_eq_false_iff]; right
  unfold signsB
  rw [List.take_of_length_le (by simp; omega), List.all_eq_false]
  exact ⟨s[k]'h, List.getElem_mem hl, by rw [hb]; decide⟩
theorem num_high (r : Int) (h : 128 ≤ r) : numB r = false := by
  unfold numB; rw [decide_eq_false_iff_not]; omega
theorem or_digit (a v : Int) (h0 : 0 ≤ a) (h1 : a ≤ 1152921504606846975) (g0 : 0 ≤ v) (g1 : v ≤ 15) : bits .or .u64 (a * 16) v = 16 * a + v := by
  have := bits_join .u64 64 (by decide) (fun n p q => by rw [IntKind.wrap_u64]; exact Int.emod_eq_of_lt p (by simpa using q)) 4 (a * 16) v (by omega) (by omega) (by omega) g0 (by omega) (by omega)
  rw [this]; omega
theorem read_any (s : ByteArray) (w : World) :
    Calls Try.prog 23 #[.string s] w fun e w' => e = .returned (.tuple #[.int .u64 (readI s), .bool (readB s)]) ∧ Below w.heap.size w w' := by
  by_cases h16 : s.size = 16
  · have hne : ((s.size : Int) != 16) = false := by rw [h16]; rfl
    have H16 := Lib.hid h16
    clear h16
    go_enter Try.func23, Try.ntmps23
    go_wp2
    go_loopw [4] (fun a wr => ∃ k : Nat, k ≤ 16 ∧ a = .int .u64 (accL s.data.toList k) ∧ Hid (wr.heap[w.heap.size]? = some (.stringIter s k)) ∧ Hid (signsB s.data.toList k = true) ∧ Below w.heap.size w wr ∧ w.heap.size < wr.heap.size) (fun _ wr => 16 - wr.iterPos w.heap.size)
    case atStart => exact ⟨0, by omega, rfl, Lib.hid (World.iter_heap w s 0), Lib.hid rfl, (Below.refl _ _).alloc (Nat.le_refl _) _, by simp [World.iter]⟩
    case round =>
      obtain ⟨k, hk, rfl, HI, HS, hbel, hsz⟩ := hrel
      by_cases hlt : k < 16
      · have hks : k < s.size := by rw [H16.out]; exact hlt
        by_cases ha : (s[k]'hks).toNat < 128
        · have hnx := fun ty => Lib.run_next_ascii_at (P := Try.prog) wr w.heap.size s k ty HI.out hks ha
          have HI2 := Lib.hid (Lib.iterAt_heap wr w.heap.size s k (k + 1) HI.out)
          have hb2 := Lib.below_iterAt hbel (Nat.le_refl _) s (k + 1)
          have hs2 := Nat.lt_of_lt_of_le hsz (Nat.le_of_eq (Lib.iterAt_size wr w.heap.size s (k + 1)).symm)
          have hab := accL_bd16 s.data.toList k hlt
          obtain ⟨b, hb⟩ : ∃ b : Int, (((s[k]'hks).toNat : Nat) : Int) = b := ⟨_, rfl⟩
          have HA := Lib.hid (show accL s.data.toList (k + 1) = 16 * accL s.data.toList k + numI b from (accL_succ s.data.toList k (by simpa using hks)).trans (by rw [← hb]; rfl))
          have HB := Lib.hid (show signsB s.data.toList (k + 1) = (signsB s.data.toList k && numB b) from (signsB_succ s.data.toList k (by simpa using hks)).trans (by rw [← hb]; rfl))
          have hnd := numI_bd b
          have hor := or_digit (accL s.data.toList k) (numI b) hab.1 hab.2 hnd.1 hnd.2
          rw [hb] at hnx
          cases hnb : numB b
          · have HR := Lib.hid (read_no s k H16.out hks (by rw [hb]; exact hnb))
            clear hb hor HA HB hbel
            generalize wr.iterAt w.heap.size s (k + 1) = w2 at *
            go_wp2_with fail
            refine (number_any _ _).mono ?_
            rintro e w3 ⟨rfl, hb3⟩
            go_wp2
            go_ret2
            exact ⟨ret_pair (readI_no s HR.out).symm HR.out.symm, hb2.trans (hb3.mono (by omega))⟩
          · have hsg := Lib.hid (show signsB s.data.toList (k + 1) = true by rw [HB.out, HS.out, hnb]; rfl)
            clear hb HB hbel
            generalize wr.iterAt w.heap.size s (k + 1) = w2 at *
            go_wp2_with fail
            refine (number_any _ _).mono ?_
            rintro e w3 ⟨rfl, hb3⟩
            have HI3 := Lib.hid ((hb3.block _ hs2).trans HI2.out)
            have hb4 := hb2.trans (hb3.mono (by omega))
            have hs4 := Nat.lt_of_lt_of_le hs2 hb3.size
            clear hb2 hb3 hs2
            go_wp2
            go_roundw
            case rel => exact ⟨k + 1, by omega, by rw [HA.out], HI3, hsg, hb4, hs4⟩
            case measure => rw [iterPos_of HI3.out, iterPos_of HI.out]; omega
        · have hnx := fun ty => Lib.run_next_any_at (P := Try.prog) wr w.heap.size s k ty HI.out hks
          have hb2 := Lib.below_iterAt hbel (Nat.le_refl _) s (k + (Utf8.decode s k).2)
          have hs2 := Nat.lt_of_lt_of_le hsz (Nat.le_of_eq (Lib.iterAt_size wr w.heap.size s (k + (Utf8.decode s k).2)).symm)
          have hhi := (decode_high s k hks (by omega)).1
          have HR := Lib.hid (read_no s k H16.out hks (num_high _ (by omega)))
          have hnb := num_high ((Utf8.decode s k).1 : Int) (by omega)
          clear hbel ha hhi
          generalize wr.iterAt w.heap.size s (k + (Utf8.decode s k).2) = w2 at *
          generalize ((Utf8.decode s k).1 : Int) = b at *
          go_wp2_with fail
          refine (number_any _ _).mono ?_
          rintro e w3 ⟨rfl, hb3⟩
          go_wp2
          go_ret2
          exact ⟨ret_pair (readI_no s HR.out).symm HR.out.symm, hb2.trans (hb3.mono (by omega))⟩
      · obtain rfl : k = 16 := by omega
        have hnx := fun ty => Lib.run_next_end_at (P := Try.prog) wr w.heap.size s 16 ty HI.out (by rw [H16.out]; omega)
        have HR := Lib.hid (show readB s = true by unfold readB; rw [H16.out, HS.out]; rfl)
        have HV := Lib.hid (show readI s = accL s.data.toList 16 by unfold readI; rw [if_pos HR.out])
        go_wp2
        go_ret2
        exact ⟨ret_pair HV.out.symm HR.out.symm, hbel⟩
  · have hne : ((s.size : Int) != 16) = true := by rw [bne_iff_ne]; omega
    have H := Lib.hid (show readB s = false by unfold readB; simp [h16])
    clear h16
    go_enter Try.func23, Try.ntmps23
    go_wp2
    go_ret2
    exact ⟨ret_pair (readI_no s H.out).symm H.out.symm, Below.refl _ _⟩
end Go.Proofs.Ytbodcjcnjbkcbaa.Fld
