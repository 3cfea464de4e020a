/-
  Contracts of New, Read, Primary, Write of package regs. Conditions: the registers stand; words are below 2 to the 64.
-/
import Derived.Test.YtohcmijgakijfaaDoorRSmall
namespace Go.Proofs.YtohcmijgakijfaaDoor.Rg
open Fld
open Go.ChangeShapes Go.WideShapes Go.ChangeAt Go.RowKit Go.Maps
set_option maxHeartbeats 1000000
set_option maxRecDepth 100000
theorem new_regs (w : World) (h : Tab w) : RegsAt ((w.alloc (Obj.map #[] 0)).alloc (.cells #[.map (some w.heap.size)] 53)) (w.heap.size + 1) w.heap.size Reg.zero where
  row := by
    have := heap_alloc_new (w.alloc (Obj.map #[] 0)) (.cells #[.map (some w.heap.size)] 53)
    simpa using this
  words := ⟨.map [], ((World.ownsMap_made _ _ _ _).alloc _).mono (by simp [Maps.size]), MapIs.empty⟩
  wf := Reg.zero_wf
  tab := (h.alloc _).alloc _
  apart := by have := h.1; exact ⟨by omega, by omega⟩
theorem new_any (w : World) (h : Tab w) :
    Calls Tryd.prog 8 #[] w fun e w' => e = .returned (.pointer (some ⟨w.heap.size + 1, 0, none⟩)) ∧ RegsAt w' (w.heap.size + 1) w.heap.size Reg.zero ∧ Below w.heap.size w w' := by
  have hmm := @run_makeMap Tryd.prog
  have M := new_regs w h
  go_enter Tryd.func8, Tryd.ntmps8
  go_wp2
  go_ret
  exact ⟨rfl, M, ((Below.refl _ _).alloc (Nat.le_refl _) _).alloc (by simp) _⟩
theorem ret_ui {a b c d : Int} (h : a = b) (k : c = d) : Ending.returned (.tuple #[.int .u64 a, .int .i64 c]) = .returned (.tuple #[.int .u64 b, .int .i64 d]) := by rw [h, k]
theorem read_any (sb bm : Nat) (R : Reg) (a p : Int) (ha : (Lit.int .i64 a).wf = true) (hp : (Lit.int .u64 p).wf = true) (w : World) (h : RegsAt w sb bm R) :
    Calls Tryd.prog 16 #[.pointer (some ⟨sb, 0, none⟩), .int .i64 a, .int .u64 p] w fun e w' => e = .returned (.tuple #[.int .u64 (regV R a p), .int .i64 (regE a p)]) ∧ Below w.heap.size w w' := by
  have C := Lib.hid (find_any a p w h.tab)
  cases hB : isB a p
  · rw [show regV R a p = 0 by unfold regV; rw [hB]; rfl, show regE a p = 10 by unfold regE; rw [hB]; rfl]
    rw [hB] at C
    go_enter Tryd.func16, Tryd.ntmps16
    go_wp2_with fail
    refine C.out.mono ?_; rintro e w1 ⟨⟨q, s, b, rfl, hs⟩, hb⟩
    clear hs
    have B1 := hb.alloc hb.size (.cells #[.int .u64 q, .int .u64 s, .bool b] 62)
    go_wp2_with fail
    go_ret2
    exact ⟨rfl, B1⟩
  · rw [show regE a p = 0 by unfold regE; rw [hB]; rfl]
    rw [hB] at C
    by_cases hp0 : p = 0
    · subst hp0
      have hr := rawV_bd R h.wf a 48
      have E := Lib.hid (show regV R a 0 = tgtI (rawV R a 48) by unfold regV; rw [hB]; rfl)
      clear hB
      go_enter Tryd.func16, Tryd.ntmps16
      go_wp2_with fail
      refine C.out.mono ?_; rintro e w1 ⟨⟨q, s, b, rfl, hs⟩, hb⟩
      clear hs
      have B1 := hb.alloc hb.size (.cells #[.int .u64 q, .int .u64 s, .bool b] 62)
      have H1 := (h.below hb (Nat.le_refl _)).alloc (.cells #[.int .u64 q, .int .u64 s, .bool b] 62)
      obtain ⟨W, hW⟩ : ∃ W, w1.alloc (.cells #[.int .u64 q, .int .u64 s, .bool b] 62) = W := ⟨_, rfl⟩
      rw [hW] at B1 H1
      obtain ⟨c0, f0⟩ := H1.cells
      have hl := H1.look (p := 48) ha (by decide)
      generalize rawV R a 48 = x at *
      go_wp2_with fail
      refine (targetOf_any x hr _).mono ?_; rintro e w2 ⟨rfl, n, rfl⟩
      go_wp2
      go_ret2
      rw [E.out]
      exact ⟨rfl, below_drewN B1 _⟩
    · have E := Lib.hid (show regV R a p = rawV R a p by unfold regV; rw [hB]; simp [hp0])
      have hp1 : (p == 0) = false := by simpa using hp0
      clear hB
      go_enter Tryd.func16, Tryd.ntmps16
      go_wp2_with fail
      refine C.out.mono ?_; rintro e w1 ⟨⟨q, s, b, rfl, hs⟩, hb⟩
      clear hs
      have B1 := hb.alloc hb.size (.cells #[.int .u64 q, .int .u64 s, .bool b] 62)
      have H1 := (h.below hb (Nat.le_refl _)).alloc (.cells #[.int .u64 q, .int .u64 s, .bool b] 62)
      obtain ⟨W, hW⟩ : ∃ W, w1.alloc (.cells #[.int .u64 q, .int .u64 s, .bool b] 62) = W := ⟨_, rfl⟩
      rw [hW] at B1 H1
      obtain ⟨c0, f0⟩ := H1.cells
      have hl := H1.look ha hp
      go_wp2_with fail
      go_ret2
      rw [E.out]
      exact ⟨rfl, B1⟩
theorem primary_any (sb bm : Nat) (R : Reg) (w : World) (h : RegsAt w sb bm R) :
    Calls Tryd.prog 13 #[.pointer (some ⟨sb, 0, none⟩)] w fun e w' => e = .returned (.int .i64 (wrap64 R.pr)) ∧ w = w' := by
  obtain ⟨c0, f0⟩ := h.cells
  have hl := h.look (a := 88) (p := 8) (by decide) (by decide)
  rw [show rawV R 88 8 = R.pr from rfl] at hl
  go_enter Tryd.func13, Tryd.ntmps13
  go_wp2
  go_ret
  exact ⟨rfl, rfl⟩
theorem write_one (sb bm : Nat) (R : Reg) (a p v S : Int) (hv : U v) (w : World) (h : RegsAt w sb bm R)
    (hB : isB a p = true) (hS : stayI (p / 8) = S) (hS0 : (S == 0) = false) (hn : nineB a p = true) (hK : bits .and .u64 v S = keepI p v) :
    Calls Tryd.prog 19 #[.pointer (some ⟨sb, 0, none⟩), .int .i64 a, .int .u64 p, .int .u64 v] w fun e w' => e = .returned (.int .i64 0) ∧ RegsTo w w' sb bm (setR R a p (keepI p v)) := by
  have C := Lib.hid (find_any a p w h.tab)
  rw [hB, hS] at C
  clear hB
  go_enter Tryd.func19, Tryd.ntmps19
  go_wp2_with fail
  refine C.out.mono ?_; rintro e w1 ⟨⟨q, s, b, rfl, hs⟩, hb⟩
  obtain rfl := hs trivial
  have B1 := hb.alloc hb.size (.cells #[.int .u64 q, .int .u64 s, .bool b] 62)
  have H1 := (h.below hb (Nat.le_refl _)).alloc (.cells #[.int .u64 q, .int .u64 s, .bool b] 62)
  have N1 := three_cells (heap_alloc_new w1 (.cells #[.int .u64 q, .int .u64 s, .bool b] 62))
  obtain ⟨W, hW⟩ : ∃ W, w1.alloc (.cells #[.int .u64 q, .int .u64 s, .bool b] 62) = W := ⟨_, rfl⟩
  rw [hW] at B1 H1 N1
  obtain ⟨c0, f0⟩ := H1.cells
  obtain ⟨n0, n1, n2⟩ := N1
  obtain ⟨w2, hst, H2, G2⟩ := H1.drew.store hn (keepI_bd p v hv)
  have T2 := Lib.hid (((Turn.refl w bm).below B1).drew.grown G2)
  clear G2
  go_wp2_with fail
  go_region
  all_goals go_wp2
  all_goals go_ret
  all_goals exact ⟨rfl, H2, T2.out⟩
end Go.Proofs.YtohcmijgakijfaaDoor.Rg
