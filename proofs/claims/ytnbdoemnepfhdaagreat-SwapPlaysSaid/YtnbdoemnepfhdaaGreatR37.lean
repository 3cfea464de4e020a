/-
  Contracts and plain facts: FList. Conditions: each says its own.
-/
import Derived.Test.YtnbdoemnepfhdaaGreatR30
import Derived.Lib.JoinLaws
namespace Go.Proofs.YtnbdoemnepfhdaaGreat.Frm
open Fld
open Go.ChangeShapes Go.WideShapes Go.ChangeAt Go.RowKit
set_option maxHeartbeats 1000000
theorem list_any {sb bb n : Nat} {T : Nat → Bool} (w : World) (h : FrAt w sb bb n T) :
    Calls Tryz.prog 33 #[.pointer (some ⟨sb, 0, none⟩)] w fun e w' => ∃ v, e = .returned v ∧ w'.ownsRow w.heap.size 3 1 v (lst T n).length (intsV (lst T n)) ∧ Below w.heap.size w w' := by
  obtain ⟨i0, hi, hz0, hz1, hz2⟩ := info_parts infoInt
  have hn := h.le
  obtain ⟨c, hc⟩ : ∃ c : Nat, (n : Int) - (cnt T n : Int) = (c : Int) := ⟨n - cnt T n, by have := cnt_le T n; omega⟩
  have hcn : c ≤ n := by omega
  have hl := cnt_le T n
  have c0 := h.c0
  have c1 := h.c1
  have hmk : ∀ w : World, (Instr.makeSlice 41 (.int .i64 0) (.int .i64 (c : Int))).run Tryz.prog w = .ok (.slice (some ⟨w.heap.size, 0, none⟩) 0 c) (w.alloc (.cells (madeCells #[.int .i64 0] c) 3)) := fun w =>
    run_make_room (P := Tryz.prog) 41 3 (.int .i64 0) 8 Tryz.underlying41 infoInt rfl .i64 .i64 c (by omega) (by omega) w
  go_enter Tryz.func33, Tryz.ntmps33
  go_wp2
  go_region
  obtain ⟨W1, hW1⟩ : ∃ W1, (w.alloc (.cells (madeCells #[.int .i64 0] c) 3)).drew = W1 := ⟨_, rfl⟩
  have hb1 : Below w.heap.size w W1 := by rw [← hW1]; exact below_drewN ((Below.refl _ w).alloc (Nat.le_refl _) _) 1
  have ho1 : W1.ownsRow w.heap.size 3 1 (.slice (some ⟨w.heap.size, 0, none⟩) 0 c) 0 [] := by
    rw [← hW1]
    have := World.ownsRow_made (base := w.heap.size) (e := 3) (size := 1) w (madeCells #[.int .i64 0] c) c (Nat.le_refl _) (by unfold maxLen; omega) (by rw [size_madeCells]; omega)
    exact this
  have hf1 : FrAt W1 sb bb n T := h.below hb1
  rw [hW1]
  clear hW1 c0 c1 hmk
  have c0 := hf1.c0
  go_wp2
  go_loopw [3, 22] (fun v i wr => ∃ j : Nat, j ≤ n ∧ i = .int .i64 (j : Int) ∧ wr.ownsRow w.heap.size 3 1 v (lst T j).length (intsV (lst T j)) ∧ Below w.heap.size w wr) (fun _ i _ => n - (intOf i).toNat)
  case atStart => exact ⟨0, by omega, rfl, ho1, hb1⟩
  case round =>
    obtain ⟨j, hj, rfl, hown, hbel⟩ := hrel
    have hsz := hbel.size
    have hlen : (lst T j).length ≤ n := by have := lst_length T j; omega
    obtain ⟨ao, cap, rfl⟩ := own_shape hown
    have hfr : FrAt wr sb bb n T := h.below hbel
    by_cases hlt : (j : Int) < (n : Int)
    · have cb := hfr.cb (j := j) (by omega)
      have HL := Lib.hid (lst_succ T j)
      cases ht : T j
      · rw [ht] at cb HL
        clear ht
        go_wp2
        go_roundw
        case rel => exact ⟨j + 1, by omega, by go_num, by rw [HL.out]; exact hown, hbel⟩
        case measure => simp [intOf]; omega
      · rw [ht] at cb HL
        clear ht
        obtain ⟨m, hm⟩ : ∃ m, (lst T j).length = m := ⟨_, rfl⟩
        rw [hm] at hown hlen ⊢
        have HM := Lib.hid hm
        clear hm
        go_wp2_with (at_builtin; (refine wpList_append_own _ rfl _ _ 41 rfl w.heap.size 3 i0 (.int .i64 0) 1 8 Tryz.underlying41 hi hz0 hz1 hz2 rfl (by decide) _ _ _ rfl (by exact hown.alloc _) ⟨wr.heap.size, 0, none⟩ 1 1 [.int .i64 (j : Int)] rfl rfl (by exact news_int wr _ _) (by intro u hu; simp at hu; subst hu; rfl) (by unfold maxLen; omega) (by omega) (by simp; omega) ?_))
        · intro v' w1 hown' hgrow _
          have R1 : w1.ownsRow w.heap.size 3 1 v' (lst T (j + 1)).length (intsV (lst T (j + 1))) := by
            rw [HL.out]; simp only [if_true]; rw [List.length_append, HM.out, intsV_snoc]; exact hown'
          have R2 : Below w.heap.size w w1 := (hbel.alloc (by omega) _).grown hgrow (by simp; omega) (fun g hg => (hown.lt g hg).1)
          clear hown' hgrow hown hbel
          go_wp2
          go_roundw
          case rel => exact ⟨j + 1, by omega, by go_num, R1, R2⟩
          case measure => simp [intOf]; omega
    · obtain rfl : n = j := by omega
      go_wp2
      go_ret
      exact ⟨_, rfl, hown, hbel⟩
end Go.Proofs.YtnbdoemnepfhdaaGreat.Frm

