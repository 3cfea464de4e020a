/-
  Contract of Fault of package regs. Conditions: the registers stand; words are below 2 to the 64, ints ints.
-/
import Derived.Test.YtohcmijgakijfaaDoorROps2
namespace Go.Proofs.YtohcmijgakijfaaDoor.Rg
open Fld
open Go.ChangeShapes Go.WideShapes Go.ChangeAt Go.RowKit Go.Maps
set_option maxHeartbeats 1000000
set_option maxRecDepth 100000
theorem bit_zero (x : Int) (h : 0 ≤ x) : (getI x 0 1 == 1) = decide (x % 2 = 1) := by
  obtain ⟨n, rfl⟩ := Int.eq_ofNat_of_zero_le h
  rw [getI_of (mayB_mk (by omega)), ← get_eq]
  simp only [Int.toNat_natCast, show Int.toNat 0 = 0 from rfl, show Int.toNat 1 = 1 from rfl, Nat.pow_zero, Nat.div_one]
  rw [Nat.and_two_pow_sub_one_eq_mod, Bool.eq_iff_iff]; simp
theorem fault_err (sb bm : Nat) (R : Reg) (u k a : Int) (st pr : Bool) (va : Int) (k0 : -9223372036854775808 ≤ k) (k1 : k ≤ 9223372036854775807) (a0 : -9223372036854775808 ≤ a) (a1 : a ≤ 9223372036854775807) (w : World) (h : RegsAt w sb bm R) (hE : ¬ fauE u k a = 0) :
    Calls Tryd.prog 15 #[.pointer (some ⟨sb, 0, none⟩), .int .i64 u, .int .i64 k, .int .i64 a, .bool st, .bool pr, .int .u64 va] w fun e w' => e = .returned (.int .i64 1) ∧ RegsTo w w' sb bm R := by
  have D := Lib.hid h
  clear h
  cases hB : uB u
  · have C := Lib.hid (space_no u hB w)
    clear hB hE
    go_enter Tryd.func15, Tryd.ntmps15
    go_wp2_with fail
    refine C.out.mono ?_; rintro e w1 ⟨rfl, rfl⟩
    go_wp2_with fail
    go_ret
    exact ⟨rfl, RegsTo.refl D.out (Below.refl _ _)⟩
  · have C := Lib.hid (space_yes u hB w)
    have F7 := Lib.hid (fits7 k k0 k1 w)
    have F8 := Lib.hid (fits8 a a0 a1 w)
    by_cases hk : 0 ≤ k ∧ k < 128
    · have ha : ¬ (0 ≤ a ∧ a < 256) := fun ha => hE (by unfold fauE; rw [hB, if_pos ⟨rfl, hk.1, by omega, ha.1, by omega⟩])
      rw [decide_eq_true hk] at F7
      rw [decide_eq_false ha] at F8
      clear hB hE hk ha
      generalize spI u = x at *
      go_enter Tryd.func15, Tryd.ntmps15
      go_wp2_with fail
      refine C.out.mono ?_; rintro e w1 ⟨rfl, rfl⟩
      go_wp2_with fail
      refine F7.out.mono ?_; rintro e w1 ⟨rfl, rfl⟩
      go_wp2_with fail
      refine F8.out.mono ?_; rintro e w1 ⟨rfl, rfl⟩
      go_wp2_with fail
      go_ret
      exact ⟨rfl, RegsTo.refl D.out (Below.refl _ _)⟩
    · rw [decide_eq_false hk] at F7
      clear hB hE hk
      generalize spI u = x at *
      go_enter Tryd.func15, Tryd.ntmps15
      go_wp2_with fail
      refine C.out.mono ?_; rintro e w1 ⟨rfl, rfl⟩
      go_wp2_with fail
      refine F7.out.mono ?_; rintro e w1 ⟨rfl, rfl⟩
      go_wp2_with fail
      go_ret
      exact ⟨rfl, RegsTo.refl D.out (Below.refl _ _)⟩
theorem two_cells {w : World} {g : Nat} {t : TypeId} {x0 x1 : Value} (h : w.heap[g]? = some (.cells #[x0, x1] t (0, 0))) : w.cell? ⟨g, 0, none⟩ = some x0 ∧ w.cell? ⟨g, 1, none⟩ = some x1 :=
  ⟨cell_of_row _ _ 0 _ _ _ h, cell_of_row _ _ 1 _ _ _ h⟩
theorem turn_box {w W w2 : World} {bm : Nat} (hB : Below w.heap.size w W) (n : Nat) (G : (W.drewN n).grownBy w2 (some bm)) : Turn w w2 bm :=
  (((Turn.refl w bm).below hB).drewN n).grown G
theorem fault_i (sb bm : Nat) (R : Reg) (k a : Int) (st pr : Bool) (va : Int) (k0 : 0 ≤ k) (k1 : k < 128) (a0 : 0 ≤ a) (a1 : a < 256) (w : World) (h : RegsAt w sb bm R) :
    Calls Tryd.prog 15 #[.pointer (some ⟨sb, 0, none⟩), .int .i64 0, .int .i64 k, .int .i64 a, .bool st, .bool pr, .int .u64 va] w fun e w' => e = .returned (.int .i64 0) ∧ RegsTo w w' sb bm (setR R 80 24 (fauI R.sI k a st pr)) := by
  have C := Lib.hid (space_yes 0 (by decide) w)
  have F7 := Lib.hid (fits7 k (by omega) (by omega) w)
  have F8 := Lib.hid (fits8 a (by omega) (by omega) w)
  rw [decide_eq_true (show 0 ≤ k ∧ k < 128 from ⟨k0, k1⟩)] at F7
  rw [decide_eq_true (show 0 ≤ a ∧ a < 256 from ⟨a0, a1⟩)] at F8
  rw [show spI 0 = 80 from rfl] at C
  have hw := h.wf.sI
  have W0 := Lib.hid (fauI_bd R.sI k a st pr (by omega) (by omega) (by omega) (by omega))
  have SW := Lib.hid ((congrArg (fun z => stW z st pr k a) (bit_zero R.sI hw.1)).trans (stW_eq R.sI st pr k a (by omega) (by omega) (by omega) (by omega)))
  have LT := h.lt
  have B1 : Below w.heap.size w (w.alloc (.cells #[.int .i64 80, .int .u64 24] 66)) := (Below.refl _ _).alloc (Nat.le_refl _) _
  have H1 := h.alloc (.cells #[.int .i64 80, .int .u64 24] 66)
  have N1 := two_cells (heap_alloc_new w (.cells #[.int .i64 80, .int .u64 24] 66))
  have hr : rawV R 80 24 = R.sI := rfl
  obtain ⟨x, hx⟩ : ∃ x, R.sI = x := ⟨_, rfl⟩
  rw [hx] at hw W0 SW hr ⊢
  clear h hx
  obtain ⟨hw0, hw1⟩ := hw
  go_enter Tryd.func15, Tryd.ntmps15
  go_wp2_with fail
  refine C.out.mono ?_; rintro e w1 ⟨rfl, rfl⟩
  go_wp2_with fail
  refine F7.out.mono ?_; rintro e w1 ⟨rfl, rfl⟩
  go_wp2_with fail
  refine F8.out.mono ?_; rintro e w1 ⟨rfl, rfl⟩
  have hlt : w.heap.size < (w.alloc (.cells #[.int .i64 80, .int .u64 24] 66)).heap.size := by simp
  obtain ⟨W, hW⟩ : ∃ W, w.alloc (.cells #[.int .i64 80, .int .u64 24] 66) = W := ⟨_, rfl⟩
  rw [hW] at B1 H1 N1 hlt
  obtain ⟨c0, f0⟩ := H1.cells
  obtain ⟨m0, m1⟩ := N1
  have hl := fun n => (H1.drewN n).look (a := 80) (p := 24) (by decide) (by decide)
  rw [hr] at hl
  go_wp2_with fail
  clear C F7 F8
  go_quiet ((go_at_call 29; exact Calls.quiet_of (bit_any x 0 hw0 hw1 _)))
  obtain ⟨b, hb⟩ : ∃ b, (getI x 0 1 == 1) = b := ⟨_, rfl⟩
  rw [hb] at SW
  obtain ⟨w2, hst, H2, G2⟩ := (H1.drewN (nq + 1)).store (a := 80) (p := 24) (v := fauI x k a st pr) (by decide) W0.out
  have T2 := Lib.hid (turn_box B1 (nq + 1) G2)
  obtain ⟨d0, g0⟩ := H2.cells
  have hbl : w2.heap[w.heap.size]? = W.heap[w.heap.size]? := G2.block w.heap.size hlt (by intro e; have := Option.some.inj e; omega)
  have q0 := (World.cell?_of_block (a := ⟨w.heap.size, 0, none⟩) hbl).trans m0
  have q1 := (World.cell?_of_block (a := ⟨w.heap.size, 1, none⟩) hbl).trans m1
  clear hl G2 hbl
  go_wp2_with fail
  go_region_held3 (fun w1 => w1.cell? ⟨sb, 0, none⟩ = some (.map (some bm)) ∧ w1.cell? ⟨w.heap.size, 0, none⟩ = some (.int .i64 80) ∧ w1.cell? ⟨w.heap.size, 1, none⟩ = some (.int .u64 24)) (go_keep) (first | (go_at_call 30; (with_reducible refine (statusOf_any b st pr k a (by omega) (by omega) (by omega) (by omega) _).mono ?_); rintro r w' ⟨rfl, rfl⟩; rw [SW.out]))
  all_goals go_wp2_with fail
  all_goals go_ret
  all_goals exact ⟨rfl, H2, T2.out⟩
theorem fault_d (sb bm : Nat) (R : Reg) (k a : Int) (st pr : Bool) (va : Int) (hv : U va) (k0 : 0 ≤ k) (k1 : k < 128) (a0 : 0 ≤ a) (a1 : a < 256) (w : World) (h : RegsAt w sb bm R) :
    Calls Tryd.prog 15 #[.pointer (some ⟨sb, 0, none⟩), .int .i64 1, .int .i64 k, .int .i64 a, .bool st, .bool pr, .int .u64 va] w fun e w' => e = .returned (.int .i64 0) ∧ RegsTo w w' sb bm (setR (setR R 88 24 (fauI R.sD k a st pr)) 88 32 va) := by
  have C := Lib.hid (space_yes 1 (by decide) w)
  have F7 := Lib.hid (fits7 k (by omega) (by omega) w)
  have F8 := Lib.hid (fits8 a (by omega) (by omega) w)
  rw [decide_eq_true (show 0 ≤ k ∧ k < 128 from ⟨k0, k1⟩)] at F7
  rw [decide_eq_true (show 0 ≤ a ∧ a < 256 from ⟨a0, a1⟩)] at F8
  rw [show spI 1 = 88 from rfl] at C
  have hw := h.wf.sD
  have W0 := Lib.hid (fauI_bd R.sD k a st pr (by omega) (by omega) (by omega) (by omega))
  have SW := Lib.hid ((congrArg (fun z => stW z st pr k a) (bit_zero R.sD hw.1)).trans (stW_eq R.sD st pr k a (by omega) (by omega) (by omega) (by omega)))
  have LT := h.lt
  have B1 : Below w.heap.size w (w.alloc (.cells #[.int .i64 88, .int .u64 24] 66)) := (Below.refl _ _).alloc (Nat.le_refl _) _
  have H1 := h.alloc (.cells #[.int .i64 88, .int .u64 24] 66)
  have N1 := two_cells (heap_alloc_new w (.cells #[.int .i64 88, .int .u64 24] 66))
  have hr : rawV R 88 24 = R.sD := rfl
  obtain ⟨x, hx⟩ : ∃ x, R.sD = x := ⟨_, rfl⟩
  rw [hx] at hw W0 SW hr ⊢
  clear h hx
  obtain ⟨hw0, hw1⟩ := hw
  go_enter Tryd.func15, Tryd.ntmps15
  go_wp2_with fail
  refine C.out.mono ?_; rintro e w1 ⟨rfl, rfl⟩
  go_wp2_with fail
  refine F7.out.mono ?_; rintro e w1 ⟨rfl, rfl⟩
  go_wp2_with fail
  refine F8.out.mono ?_; rintro e w1 ⟨rfl, rfl⟩
  have hlt : w.heap.size < (w.alloc (.cells #[.int .i64 88, .int .u64 24] 66)).heap.size := by simp
  obtain ⟨W, hW⟩ : ∃ W, w.alloc (.cells #[.int .i64 88, .int .u64 24] 66) = W := ⟨_, rfl⟩
  rw [hW] at B1 H1 N1 hlt
  obtain ⟨c0, f0⟩ := H1.cells
  obtain ⟨m0, m1⟩ := N1
  have hl := fun n => (H1.drewN n).look (a := 88) (p := 24) (by decide) (by decide)
  rw [hr] at hl
  go_wp2_with fail
  clear C F7 F8
  go_quiet ((go_at_call 29; exact Calls.quiet_of (bit_any x 0 hw0 hw1 _)))
  obtain ⟨b, hb⟩ : ∃ b, (getI x 0 1 == 1) = b := ⟨_, rfl⟩
  rw [hb] at SW
  obtain ⟨w2, hst, H2, G2⟩ := (H1.drewN (nq + 1)).store (a := 88) (p := 24) (v := fauI x k a st pr) (by decide) W0.out
  have T2 := Lib.hid (turn_box B1 (nq + 1) G2)
  obtain ⟨d0, g0⟩ := H2.cells
  have hbl : w2.heap[w.heap.size]? = W.heap[w.heap.size]? := G2.block w.heap.size hlt (by intro e; have := Option.some.inj e; omega)
  have q0 := (World.cell?_of_block (a := ⟨w.heap.size, 0, none⟩) hbl).trans m0
  have q1 := (World.cell?_of_block (a := ⟨w.heap.size, 1, none⟩) hbl).trans m1
  clear hl G2 hbl
  go_wp2_with fail
  go_region_held3 (fun w1 => w1.cell? ⟨sb, 0, none⟩ = some (.map (some bm)) ∧ w1.cell? ⟨w.heap.size, 0, none⟩ = some (.int .i64 88) ∧ w1.cell? ⟨w.heap.size, 1, none⟩ = some (.int .u64 24)) (go_keep) (first | (go_at_call 30; (with_reducible refine (statusOf_any b st pr k a (by omega) (by omega) (by omega) (by omega) _).mono ?_); rintro r w' ⟨rfl, rfl⟩; rw [SW.out]))
  all_goals (obtain ⟨w3, hst3, H3, G3⟩ := H2.store (a := 88) (p := 32) (v := va) (by decide) hv)
  all_goals (have T3 := Lib.hid (T2.out.grown G3))
  all_goals clear G3
  all_goals go_wp2_with fail
  all_goals go_ret
  all_goals exact ⟨rfl, H3, T3.out⟩
theorem fault_any (sb bm : Nat) (R : Reg) (u k a : Int) (st pr : Bool) (va : Int) (hv : U va) (k0 : -9223372036854775808 ≤ k) (k1 : k ≤ 9223372036854775807) (a0 : -9223372036854775808 ≤ a) (a1 : a ≤ 9223372036854775807) (w : World) (h : RegsAt w sb bm R) :
    Calls Tryd.prog 15 #[.pointer (some ⟨sb, 0, none⟩), .int .i64 u, .int .i64 k, .int .i64 a, .bool st, .bool pr, .int .u64 va] w fun e w' => e = .returned (.int .i64 (fauE u k a)) ∧ RegsTo w w' sb bm (fauR R u k a st pr va) := by
  by_cases hE : fauE u k a = 0
  · obtain ⟨hu, h1, h2, h3, h4⟩ := fauE_zero hE
    unfold fauR
    rw [hE, if_pos rfl]
    rcases hu with rfl | rfl
    · rw [if_neg (by decide)]; exact fault_i sb bm R k a st pr va h1 (by omega) h3 (by omega) w h
    · rw [if_pos rfl]; exact fault_d sb bm R k a st pr va hv h1 (by omega) h3 (by omega) w h
  · have e1 : fauE u k a = 1 := by unfold fauE at hE ⊢; split at hE <;> simp_all
    have e2 : fauR R u k a st pr va = R := by unfold fauR; rw [if_neg hE]
    rw [e1, e2]
    exact fault_err sb bm R u k a st pr va k0 k1 a0 a1 w h hE
end Go.Proofs.YtohcmijgakijfaaDoor.Rg
