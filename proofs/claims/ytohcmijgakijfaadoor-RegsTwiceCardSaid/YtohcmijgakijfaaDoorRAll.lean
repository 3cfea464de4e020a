/-
  Contract of All of package regs: a new list of the eleven. Conditions: the registers stand.
-/
import Derived.Test.YtohcmijgakijfaaDoorROps
import Derived.Deep.AppendLies
import Derived.Deep.LoopGhost
import Derived.Laws.OwnMore
namespace Go.Proofs.YtohcmijgakijfaaDoor.Rg
open Fld
open Go.ChangeShapes Go.WideShapes Go.ChangeAt Go.RowKit Go.Maps
set_option maxHeartbeats 1000000
set_option maxRecDepth 100000
theorem infoU : (Tryd.prog.info? 25).map (fun i => (i.zero, i.size, i.bytes)) = some (some (.int .u64 0), 1, 8) := by kernel_rfl
def vU (l : List Int) : List Value := l.map (Value.int .u64)
theorem vU_snoc (l : List Int) (x : Int) : vU (l ++ [x]) = vU l ++ [.int .u64 x] := by simp [vU]
theorem own_shape {w : World} {B : Nat} {e : TypeId} {z : Nat} {v : Value} {n : Nat} {xs : List Value} (h : w.ownsRow B e z v n xs) : ∃ ao cap, v = .slice ao n cap := by
  rcases h.2 with ⟨rfl, rfl⟩ | ⟨g, cap, cur, rfl, _⟩
  · exact ⟨none, 0, rfl⟩
  · exact ⟨_, _, rfl⟩
theorem own_below {w w' : World} {B : Nat} {e : TypeId} {z : Nat} {v : Value} {n : Nat} {xs : List Value} (h : w.ownsRow B e z v n xs) (hb : Below w.heap.size w w') : w'.ownsRow B e z v n xs := by
  refine ⟨h.1, ?_⟩
  rcases h.2 with hn | ⟨g, cap, cur, rfl, hb2, hg, rest⟩
  · exact .inl hn
  · refine .inr ⟨g, cap, cur, rfl, hb2, ?_, rest⟩
    rw [hb.block g (Array.getElem?_eq_some_iff.1 hg).1]; exact hg
theorem news_int (w : World) (t : TypeId) (v : Value) : ∀ j u, [v][j]? = some u → (w.alloc (.cells #[v] t)).cell? ((⟨w.heap.size, 0, none⟩ : Addr).add j) = some u := by
  intro j u hj
  match j, hj with
  | 0, hj =>
    simp at hj; subst hj
    exact (World.cell?_alloc_mark w #[v] t (0, 0) 0).trans rfl
/-- The registers of a space, as far as a place. -/
def preL (R : Reg) (a : Int) : Nat → List Int
  | 0 => []
  | j + 1 => preL R a j ++ (if isB a (8 * (j : Int)) then [regV R a (8 * (j : Int))] else [])
def allL (R : Reg) : List Int := [tgtI R.aI, R.sI, R.tI, R.aI, tgtI R.aD, R.pr, R.se, R.sD, R.ad, R.tD, R.aD]
theorem allL_eq (R : Reg) : preL R 80 7 ++ preL R 88 7 = allL R := rfl
theorem preL_len (R : Reg) (a : Int) : ∀ j, (preL R a j).length ≤ j
  | 0 => Nat.le_refl _
  | j + 1 => by
    have := preL_len R a j
    unfold preL; split <;> simp <;> omega
theorem index_asi (w : World) : (Instr.index 60 (.agg #[.int .i64 80, .int .i64 88]) (.int .i64 0)).run Tryd.prog w = .ok (.int .i64 80) w ∧ (Instr.index 60 (.agg #[.int .i64 80, .int .i64 88]) (.int .i64 1)).run Tryd.prog w = .ok (.int .i64 88) w :=
  ⟨by kernel_rfl, by kernel_rfl⟩
/-- A list under way. -/
structure Lst (w wr : World) (v : Value) (l : List Int) : Prop where
  own : wr.ownsRow w.heap.size 25 1 v l.length (vU l)
  below : Below w.heap.size w wr
theorem Lst.call {w wr w2 : World} {v : Value} {l : List Int} (h : Lst w wr v l) (hb : Below wr.heap.size wr w2) : Lst w w2 v l := ⟨own_below h.own hb, h.below.trans (hb.mono h.below.size)⟩
theorem preL_skip {R : Reg} {a : Int} {j : Nat} (h : isB a (8 * (j : Int)) = false) : preL R a (j + 1) = preL R a j := by
  show preL R a j ++ _ = _
  rw [h]; simp
theorem preL_more {R : Reg} {a : Int} {j : Nat} (h : isB a (8 * (j : Int)) = true) : preL R a (j + 1) = preL R a j ++ [regV R a (8 * (j : Int))] := by
  show preL R a j ++ _ = _
  rw [h]; simp
theorem all_any (sb bm : Nat) (R : Reg) (w : World) (h : RegsAt w sb bm R) :
    Calls Tryd.prog 11 #[.pointer (some ⟨sb, 0, none⟩)] w fun e w' => ∃ v, e = .returned v ∧ w'.ownsRow w.heap.size 25 1 v (allL R).length (vU (allL R)) ∧ Below w.heap.size w w' := by
  obtain ⟨i0, hi, hz0, hz1, hz2⟩ := info_parts infoU
  go_enter Tryd.func11, Tryd.ntmps11
  go_wp2_with fail
  go_loopg [3, 11] 2 (fun gk v i wr => ∃ o : Nat, o + gk = 2 ∧ i = .int .i64 (o : Int) ∧ Lst w wr v (if o = 0 then [] else if o = 1 then preL R 80 7 else allL R))
  case atStart => exact ⟨0, rfl, rfl, World.ownsRow_nil _ _ _ _, Below.refl _ _⟩
  case round =>
    obtain ⟨o, ho, rfl, hL⟩ := hrel
    have ho3 : o = 0 ∨ o = 1 ∨ o = 2 := by omega
    rcases ho3 with rfl | rfl | rfl
    · obtain rfl : gk = 2 := by omega
      have hix := fun w => (index_asi w).1
      have TR := (h.below hL.below (Nat.le_refl _)).tab
      have hL0 : Lst w wr u3 ([] ++ preL R 80 0) := by have := hL; simpa [preL] using this
      clear hL
      go_wp2_with (refine wpList_load_tab rfl _ rfl rfl TR ?_)
      go_loopg [3, 15] 7 (fun gj v i wr => ∃ j : Nat, j + gj = 7 ∧ i = .int .i64 (j : Int) ∧ Lst w wr v ([] ++ preL R 80 j))
      case atStart => exact ⟨0, rfl, rfl, hL0⟩
      case round =>
        clear hL0 hix TR
        obtain ⟨j, hj, rfl, hL⟩ := hrel
        have HR := h.below hL.below (Nat.le_refl _)
        by_cases hlt : j < 7
        · have hix := fun w => index_tab w j hlt
          have hlt' : (j : Int) < 7 := by omega
          have B1 : Below wr.heap.size wr (wr.alloc (.cells #[.int .u64 (8 * (j : Int)), .int .u64 (stayI j), .bool (bothB j)] 62)) := (Below.refl _ _).alloc (Nat.le_refl _) _
          have HW := HR.alloc (.cells #[.int .u64 (8 * (j : Int)), .int .u64 (stayI j), .bool (bothB j)] 62)
          obtain ⟨n0, n1, n2⟩ := three_cells (heap_alloc_new wr (.cells #[.int .u64 (8 * (j : Int)), .int .u64 (stayI j), .bool (bothB j)] 62))
          obtain ⟨W, hW⟩ : ∃ W, wr.alloc (.cells #[.int .u64 (8 * (j : Int)), .int .u64 (stayI j), .bool (bothB j)] 62) = W := ⟨_, rfl⟩
          rw [hW] at B1 HW n0 n1 n2
          have LW := hL.call B1
          have C := Lib.hid (read_any sb bm R 80 (8 * (j : Int)) (by decide) (wfU (by unfold U; omega)) W HW)
          have PL := Lib.hid (preL_len R 80 j)
          clear hL HR B1 HW
          cases hB : isB 80 (8 * (j : Int))
          · have E := Lib.hid (preL_skip (R := R) hB)
            rw [show regE 80 (8 * (j : Int)) = 10 by unfold regE; rw [hB]; rfl] at C
            clear hB
            generalize hV : regV R 80 (8 * (j : Int)) = V at *
            clear hV
            go_wp2_with fail
            refine C.out.mono ?_; rintro e w2 ⟨rfl, hb⟩
            go_wp2_with fail
            go_roundg (gk - 1)
            case measure => omega
            case rel => exact ⟨j + 1, by omega, by go_num, by rw [E.out]; exact LW.call hb⟩
          · have E := Lib.hid (preL_more (R := R) hB)
            rw [show regE 80 (8 * (j : Int)) = 0 by unfold regE; rw [hB]; rfl] at C
            clear hB
            generalize hV : regV R 80 (8 * (j : Int)) = V at *
            clear hV
            go_wp2_with fail
            refine C.out.mono ?_; rintro e w2 ⟨rfl, hb⟩
            have L2 := LW.call hb
            clear LW hb C n0 n1 n2 hix hW
            have HO := Lib.hid L2.own
            have HS := L2.below.size
            have PL2 : ([] ++ preL R 80 j).length ≤ 14 := by
              have := PL.out; simp; omega
            obtain ⟨ao, cap, rfl⟩ := own_shape L2.own
            generalize hY : [] ++ preL R 80 j = Y at *
            go_wp2_with (at_builtin; refine wpList_append_own _ rfl _ _ 33 rfl w.heap.size 25 i0 (.int .u64 0) 1 8 Tryd.underlying33 hi hz0 hz1 hz2 rfl (by decide) _ _ _ rfl (by exact HO.out.alloc _) ⟨w2.heap.size, 0, none⟩ 1 1 [.int .u64 V] rfl rfl (by exact news_int w2 _ _) (by intro u hu; simp at hu; subst hu; rfl) (by unfold maxLen; omega) (by omega) (by simp; omega) ?_; intro v' w3 ho3 hg3 _)
            have L3 : Lst w w3 v' (Y ++ [V]) := ⟨by rw [List.length_append, vU_snoc]; exact ho3, (L2.below.alloc (by omega) _).grown hg3 (by simp; omega) (fun g hg => (HO.out.lt g hg).1)⟩
            clear ho3 hg3 HO L2
            go_wp2_with fail
            go_roundg (gk - 1)
            case measure => omega
            case rel => exact ⟨j + 1, by omega, by go_num, by rw [E.out, ← List.append_assoc, hY]; exact L3⟩
        · obtain rfl : j = 7 := by omega
          go_wp2_with fail
          go_roundg 1
          case measure => decide
          case rel => exact ⟨1, rfl, rfl, by have := hL; simpa [allL_eq] using this⟩
    · obtain rfl : gk = 1 := by omega
      have hix := fun w => (index_asi w).2
      have TR := (h.below hL.below (Nat.le_refl _)).tab
      have hL0 : Lst w wr u3 (preL R 80 7 ++ preL R 88 0) := by have := hL; simpa [preL] using this
      clear hL
      go_wp2_with (refine wpList_load_tab rfl _ rfl rfl TR ?_)
      go_loopg [3, 15] 7 (fun gj v i wr => ∃ j : Nat, j + gj = 7 ∧ i = .int .i64 (j : Int) ∧ Lst w wr v (preL R 80 7 ++ preL R 88 j))
      case atStart => exact ⟨0, rfl, rfl, hL0⟩
      case round =>
        clear hL0 hix TR
        obtain ⟨j, hj, rfl, hL⟩ := hrel
        have HR := h.below hL.below (Nat.le_refl _)
        by_cases hlt : j < 7
        · have hix := fun w => index_tab w j hlt
          have hlt' : (j : Int) < 7 := by omega
          have B1 : Below wr.heap.size wr (wr.alloc (.cells #[.int .u64 (8 * (j : Int)), .int .u64 (stayI j), .bool (bothB j)] 62)) := (Below.refl _ _).alloc (Nat.le_refl _) _
          have HW := HR.alloc (.cells #[.int .u64 (8 * (j : Int)), .int .u64 (stayI j), .bool (bothB j)] 62)
          obtain ⟨n0, n1, n2⟩ := three_cells (heap_alloc_new wr (.cells #[.int .u64 (8 * (j : Int)), .int .u64 (stayI j), .bool (bothB j)] 62))
          obtain ⟨W, hW⟩ : ∃ W, wr.alloc (.cells #[.int .u64 (8 * (j : Int)), .int .u64 (stayI j), .bool (bothB j)] 62) = W := ⟨_, rfl⟩
          rw [hW] at B1 HW n0 n1 n2
          have LW := hL.call B1
          have C := Lib.hid (read_any sb bm R 88 (8 * (j : Int)) (by decide) (wfU (by unfold U; omega)) W HW)
          have PL := Lib.hid (preL_len R 88 j)
          clear hL HR B1 HW
          cases hB : isB 88 (8 * (j : Int))
          · have E := Lib.hid (preL_skip (R := R) hB)
            rw [show regE 88 (8 * (j : Int)) = 10 by unfold regE; rw [hB]; rfl] at C
            clear hB
            generalize hV : regV R 88 (8 * (j : Int)) = V at *
            clear hV
            go_wp2_with fail
            refine C.out.mono ?_; rintro e w2 ⟨rfl, hb⟩
            go_wp2_with fail
            go_roundg (gk - 1)
            case measure => omega
            case rel => exact ⟨j + 1, by omega, by go_num, by rw [E.out]; exact LW.call hb⟩
          · have E := Lib.hid (preL_more (R := R) hB)
            rw [show regE 88 (8 * (j : Int)) = 0 by unfold regE; rw [hB]; rfl] at C
            clear hB
            generalize hV : regV R 88 (8 * (j : Int)) = V at *
            clear hV
            go_wp2_with fail
            refine C.out.mono ?_; rintro e w2 ⟨rfl, hb⟩
            have L2 := LW.call hb
            clear LW hb C n0 n1 n2 hix hW
            have HO := Lib.hid L2.own
            have HS := L2.below.size
            have PL2 : (preL R 80 7 ++ preL R 88 j).length ≤ 14 := by
              have := PL.out; simp; have := preL_len R 80 7; omega
            obtain ⟨ao, cap, rfl⟩ := own_shape L2.own
            generalize hY : preL R 80 7 ++ preL R 88 j = Y at *
            go_wp2_with (at_builtin; refine wpList_append_own _ rfl _ _ 33 rfl w.heap.size 25 i0 (.int .u64 0) 1 8 Tryd.underlying33 hi hz0 hz1 hz2 rfl (by decide) _ _ _ rfl (by exact HO.out.alloc _) ⟨w2.heap.size, 0, none⟩ 1 1 [.int .u64 V] rfl rfl (by exact news_int w2 _ _) (by intro u hu; simp at hu; subst hu; rfl) (by unfold maxLen; omega) (by omega) (by simp; omega) ?_; intro v' w3 ho3 hg3 _)
            have L3 : Lst w w3 v' (Y ++ [V]) := ⟨by rw [List.length_append, vU_snoc]; exact ho3, (L2.below.alloc (by omega) _).grown hg3 (by simp; omega) (fun g hg => (HO.out.lt g hg).1)⟩
            clear ho3 hg3 HO L2
            go_wp2_with fail
            go_roundg (gk - 1)
            case measure => omega
            case rel => exact ⟨j + 1, by omega, by go_num, by rw [E.out, ← List.append_assoc, hY]; exact L3⟩
        · obtain rfl : j = 7 := by omega
          go_wp2_with fail
          go_roundg 0
          case measure => decide
          case rel => exact ⟨2, rfl, rfl, by have := hL; simpa [allL_eq] using this⟩
    · go_wp2_with fail
      go_ret
      exact ⟨_, rfl, hL.own, hL.below⟩
end Go.Proofs.YtohcmijgakijfaaDoor.Rg
