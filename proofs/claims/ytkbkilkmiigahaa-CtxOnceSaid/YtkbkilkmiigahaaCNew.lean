/-
  Contracts of bits.Mul, slices.Repeat (of one number, at most 8191 times) and New of package ctx. Conditions: none.
-/
import Derived.Test.YtkbkilkmiigahaaCOps
import Derived.Laws.CopyOwn
import Derived.Deep.RegionLaw
import Derived.Deep.OwnRows
namespace Go.Proofs.Ytkbkilkmiigahaa.Cx
open Fld
open Go.ChangeShapes Go.WideShapes Go.ChangeAt Go.RowKit Go.Maps
set_option maxHeartbeats 1000000
theorem mul64_any (n : Nat) (hn : n ≤ 8191) (w : World) :
    Calls Try.prog 45 #[.int .u64 1, .int .u64 (n : Int)] w fun e w' => e = .returned (.tuple #[.int .u64 0, .int .u64 (n : Int)]) ∧ w = w' := by
  have e1 : (n : Int) / 4294967296 = 0 := by omega
  have e2 : bits BinOp.and IntKind.u64 1 4294967295 = 1 := by decide
  have e3 : bits BinOp.and IntKind.u64 0 4294967295 = 0 := by decide
  have e4 : bits BinOp.and IntKind.u64 (n : Int) 4294967295 = (n : Int) := by
    refine (bits_and_u64_nat n 4294967295 (by omega) (by decide)).trans ?_
    rw [show 4294967295 = 2 ^ 32 - 1 by decide, Nat.and_two_pow_sub_one_eq_mod, Nat.mod_eq_of_lt (by omega)]
  go_enter Try.func45, Try.ntmps45
  go_wp2
  go_ret2
  exact ⟨rfl, rfl⟩
theorem mul_any (n : Nat) (hn : n ≤ 8191) (w : World) :
    Calls Try.prog 37 #[.int .u64 1, .int .u64 (n : Int)] w fun e w' => e = .returned (.tuple #[.int .u64 0, .int .u64 (n : Int)]) ∧ w = w' := by
  go_enter Try.func37, Try.ntmps37
  go_wp2_with (go_at_call 45; refine (mul64_any n hn _).mono ?_; rintro e w' ⟨rfl, rfl⟩)
  go_ret2
  exact ⟨rfl, rfl⟩
def fillL (f N : Nat) : List Value := List.replicate f (.int .i64 (-1)) ++ List.replicate (N - f) (.int .i64 0)
theorem fillL_length {f N : Nat} (h : f ≤ N) : (fillL f N).length = N := by simp [fillL]; omega
theorem fillL_splice {f N k : Nat} (h : f + k ≤ N) : splice (fillL f N) f (List.replicate k (.int .i64 (-1))) = fillL (f + k) N := by
  unfold splice fillL
  rw [List.take_left' (by simp), List.length_replicate, List.drop_append, List.length_replicate, List.drop_replicate, show f - (f + k) = 0 by omega, List.drop_replicate]
  rw [List.replicate_zero, List.nil_append, ← List.append_assoc, List.replicate_append_replicate, show N - f - (f + k - f) = N - (f + k) by omega]
theorem fillL_all (N : Nat) : (fillL N N).toArray = rowI (fun _ => -1) N := by
  unfold fillL rowI
  rw [Nat.sub_self, List.replicate_zero, List.append_nil, List.map_const', List.length_range]
theorem made_fillL (N : Nat) : madeCells #[Value.int .i64 0] N = (fillL 0 N).toArray := by
  apply Array.ext'
  rw [toList_madeCells_one]
  simp [fillL]
theorem step_builtin_is {P : Program} {ops : Array Oper} {o : Oper} {a : Act} {w : World} {K : Act → World → Prop} {Q : Exit → Act → World → Prop} {E : Prop} {b : Builtin} (f : Array TypeId → TypeId → Array Value → Sem Value) (hf : ∀ ats ty cs args, builtin b ats ty cs args = (do pure (.value (← f ats ty args))))
    (hg : o.guard = none) (d x : Operand) (dT sT : TypeId) (hop : o.op = Op.call { callee := Callee.builtin b, args := #[d, x], argTypes := #[dT, sT] })
    (v u : Value) (hd : a.eval d = v) (hx : a.eval x = u) {v' : Value} {w' : World} (hr : (f #[dT, sT] o.type #[v, u]).run P w = .ok v' w') (hK : K (a.put o.dst v') w') :
    if Region.wanted o (yielded ops a.tmps) = true then Oper.wp P o a w K Q else E := by
  have hw : Region.wanted o (yielded ops a.tmps) = true := by simp [Region.wanted, hg]
  rw [if_pos hw]
  exact wp_builtin_run w f hf d x dT sT hop v u hd hx hr hK
theorem copy_fill {W : World} {g f N dl dc sl sc k : Nat} {a : Addr} (hg : W.heap[g]? = some (.cells (fillL f N).toArray 3 (0, 0))) (hk : Nat.min sl dl = k) (hf : f + k ≤ N) (hsrc : ∀ j, j < k → W.cell? (a.add j) = some (.int .i64 (-1))) :
    ∃ W', (∀ ty, (Builtin.copy_ #[25, 25] ty #[.slice (some ⟨g, f, none⟩) dl dc, .slice (some a) sl sc]).run Try.prog W = .ok (.int .i64 (k : Int)) W') ∧ W'.heap[g]? = some (.cells (fillL (f + k) N).toArray 3 (0, 0)) ∧ ∀ B w0, Below B w0 W → B ≤ g → Below B w0 W' := by
  have hsz : (Try.prog.info? 3).map (·.size) = some 1 := by kernel_rfl
  have hrun := fun ty => run_copy_row (P := Try.prog) W 25 25 ty 3 g f dl dc a sl sc (fillL f N).toArray 3 (List.replicate k (.int .i64 (-1))) Try.underlying25 hsz hg (by rw [List.length_replicate, hk]) (fun j v hv => by
    rw [List.getElem?_replicate] at hv
    split at hv
    · rename_i hj; injection hv with hv; subst hv; exact hsrc j hj
    · cases hv) (by rw [List.length_replicate, List.size_toArray, fillL_length (by omega)]; omega) (by intro v hv; rw [List.eq_of_mem_replicate hv]; rfl)
  have hrow : (List.take f (fillL f N).toArray.toList ++ List.replicate k (Value.int .i64 (-1)) ++ List.drop (f + k) (fillL f N).toArray.toList) = fillL (f + k) N := by
    rw [← fillL_splice hf]
    unfold splice
    rw [List.length_replicate, List.append_assoc]
  simp only [List.length_replicate] at hrun
  rw [hrow] at hrun
  exact ⟨W.setRow g (fillL (f + k) N).toArray, hrun, setRow_heap W g (fillL f N).toArray _ _ _ hg, fun B w0 hb hBg => below_setRow hb hBg _⟩
theorem repeat_any (g0 N : Nat) (hN : N ≤ 8191) (w : World) (h : w.heap[g0]? = some (.cells #[.int .i64 (-1)] 3 (0, 0))) :
    Calls Try.prog 23 #[.slice (some ⟨g0, 0, none⟩) 1 1, .int .i64 (N : Int)] w fun e w' => e = .returned (.slice (some ⟨w.heap.size, 0, none⟩) N N) ∧ w'.heap[w.heap.size]? = some (.cells (rowI (fun _ => -1) N) 3 (0, 0)) ∧ Below w.heap.size w w' := by
  have hg0 : g0 < w.heap.size := (Array.getElem?_eq_some_iff.1 h).1
  have hmk : ∀ w : World, (Instr.makeSlice 25 (.int .i64 (N : Int)) (.int .i64 (N : Int))).run Try.prog w = .ok (.slice (some ⟨w.heap.size, 0, none⟩) N N) (w.alloc (.cells (fillL 0 N).toArray 3)) := fun w => by
    rw [← made_fillL]; exact run_make_row' (P := Try.prog) 25 3 (.int .i64 0) 8 Try.underlying25 infoInt rfl .i64 .i64 N (by omega) (by omega) w
  have hB0 : Below w.heap.size w (w.alloc (.cells (fillL 0 N).toArray 3)) := (Below.refl _ _).alloc (Nat.le_refl _) _
  have hg1 : (w.alloc (.cells (fillL 0 N).toArray 3)).heap[w.heap.size]? = some (.cells (fillL 0 N).toArray 3 (0, 0)) := heap_alloc_new _ _
  obtain ⟨k0, hk0⟩ : ∃ k0, Nat.min 1 N = k0 := ⟨_, rfl⟩
  have hk1 : k0 ≤ 1 := by rw [← hk0]; exact Nat.min_le_left 1 N
  have hkN : k0 ≤ N := by rw [← hk0]; exact Nat.min_le_right 1 N
  have hk2 : k0 = 0 → N = 0 := by
    intro e
    rcases Nat.eq_zero_or_pos N with h | h
    · exact h
    · have : Nat.min 1 N = 1 := Nat.min_eq_left h
      omega
  obtain ⟨W1, hc1, hg2, hB1⟩ := copy_fill (dc := N) (sc := 1) (a := ⟨g0, 0, none⟩) hg1 hk0 (by omega) (fun j hj => by
    obtain rfl : j = 0 := by omega
    have hb : (w.alloc (.cells (fillL 0 N).toArray 3)).heap[g0]? = some (.cells #[.int .i64 (-1)] 3 (0, 0)) := (Below.heap_alloc _ _ _ hg0).trans h
    simp [World.cell?, hb, Addr.add])
  have hB1 := hB1 _ _ hB0 (Nat.le_refl _)
  rw [Nat.zero_add] at hg2
  clear hg1 hB0 hk0
  have hg2 := Lib.hid hg2
  have hk2 := Lib.hid hk2
  go_enter Try.func23, Try.ntmps23
  go_wp2_with (go_at_call 37; refine (mul_any N hN _).mono ?_; rintro e w' ⟨rfl, rfl⟩)
  go_loopw [8] (fun i wr => ∃ f : Nat, f ≤ N ∧ (f = 0 → N = 0) ∧ i = .int .i64 (f : Int) ∧ wr.heap[w.heap.size]? = some (.cells (fillL f N).toArray 3 (0, 0)) ∧ Below w.heap.size w wr) (fun i _ => N - (intOf i).toNat)
  case atStart => exact ⟨k0, hkN, hk2.out, rfl, hg2.out, hB1⟩
  case round =>
    clear hc1 hmk hB1 hg2 hk2
    obtain ⟨f, hf, hz, rfl, hg, hb⟩ := hrel
    by_cases hlt : f < N
    · have hf0 : 0 < f := by
        rcases Nat.eq_zero_or_pos f with h | h
        · have := hz h; omega
        · exact h
      obtain ⟨k, hk⟩ : ∃ k, Nat.min f (N - f) = k := ⟨_, rfl⟩
      have hka : k ≤ f := by rw [← hk]; exact Nat.min_le_left _ _
      have hkb : k ≤ N - f := by rw [← hk]; exact Nat.min_le_right _ _
      have hkc : 0 < k := by
        rw [← hk]
        rcases Nat.le_total f (N - f) with h | h
        · rw [show Nat.min f (N - f) = f from Nat.min_eq_left h]; omega
        · rw [show Nat.min f (N - f) = N - f from Nat.min_eq_right h]; omega
      have hgd : wr.drew.heap[w.heap.size]? = some (.cells (fillL f N).toArray 3 (0, 0)) := hg
      obtain ⟨W2, hc2, hg3, hB2⟩ := copy_fill (dc := N - f) (sc := N) (a := ⟨w.heap.size, 0, none⟩) hgd hk (by omega) (fun j hj => by
        have ad : (⟨w.heap.size, 0, none⟩ : Addr).add j = ⟨w.heap.size, j, none⟩ := by unfold Addr.add; split <;> simp_all
        rw [ad]
        have e : (fillL f N)[j]? = some (.int .i64 (-1)) := by
          unfold fillL
          rw [List.getElem?_append_left (by simp; omega), List.getElem?_replicate, if_pos (by omega)]
        simp [World.cell?, hgd, e])
      have hB2 := hB2 _ _ (hb.trans ((Below.refl _ wr).drew)) (Nat.le_refl _)
      have hg3 := Lib.hid hg3
      have hz2 := Lib.hid (show f + k = 0 → N = 0 by omega)
      clear hg hgd hb hk hz
      have en : (f : Int).toNat = f := by simp
      have em : ((N : Int) - (f : Int)).toNat = N - f := by omega
      go_wp2
      go_region
      go_wp2
      go_roundw
      case rel => exact ⟨f + k, by omega, hz2.out, by go_num, hg3.out, hB2⟩
      case measure => simp [intOf]; omega
    · obtain rfl : f = N := by omega
      rw [fillL_all] at hg
      go_wp2
      go_ret
      exact ⟨rfl, hg, hb⟩
/-- How many numbers New makes. -/
def newN (n : Int) : Nat := (min (max n 0) 8191).toNat
theorem new_any (n : Int) (w : World) :
    Calls Try.prog 8 #[.int .i64 n] w fun e w' => ∃ pb bm ob, e = .returned (.pointer (some ⟨pb, 0, none⟩)) ∧ PoolAt w' pb bm ob (Pl.new (newN n)) ∧ w.heap.size ≤ bm ∧ Below w.heap.size w w' := by
  have hmm := @run_makeMap Try.prog
  obtain ⟨N, hN⟩ : ∃ N, newN n = N := ⟨_, rfl⟩
  have hle : N ≤ 8191 := by rw [← hN]; unfold newN; omega
  have hmn : min (max n 0) 8191 = (N : Int) := by rw [← hN]; unfold newN; omega
  rw [hN]
  clear hN
  have RA := repeat_any (w.heap.size + 1) N hle ((w.alloc (.map #[] 0)).alloc (.cells #[.int .i64 (-1)] 3)) (by
    have := heap_alloc_new (w.alloc (.map #[] 0)) (.cells #[.int .i64 (-1)] 3)
    simpa using this)
  have M0 : NumAt ((w.alloc (.map #[] 0)).alloc (.cells #[.int .i64 (-1)] 3)) w.heap.size N (fun _ => -1) := ⟨.map [], (World.ownsMap_made _ _ _ _).alloc _ |>.mono (by simp [Maps.size]), MapIs.empty _⟩
  have B0 : Below w.heap.size w ((w.alloc (.map #[] 0)).alloc (.cells #[.int .i64 (-1)] 3)) := ((Below.refl _ _).alloc (Nat.le_refl _) _).alloc (by simp) _
  have hs0 : ((w.alloc (.map #[] 0)).alloc (.cells #[.int .i64 (-1)] 3)).heap.size = w.heap.size + 1 + 1 := by simp
  rw [hs0] at RA
  go_enter Try.func8, Try.ntmps8
  go_wp2_with fail
  generalize (w.alloc (.map #[] 0)).alloc (.cells #[.int .i64 (-1)] 3) = W0 at *
  refine RA.mono ?_
  rintro e W1 ⟨rfl, hO, hb⟩
  have hs1 := hb.size
  have hob : w.heap.size + 1 + 1 < W1.heap.size := (Array.getElem?_eq_some_iff.1 hO).1
  have M1 := M0.same (hb.block w.heap.size (by omega))
  have B1 := B0.trans (hb.mono (by omega))
  have H : PoolAt (W1.alloc (.cells #[.map (some w.heap.size), .slice (some ⟨w.heap.size + 1 + 1, 0, none⟩) N N, .int .i64 1, .int .i64 0] 52)) W1.heap.size w.heap.size (w.heap.size + 1 + 1) (Pl.new N) :=
    ⟨heap_alloc_new _ _, (Below.heap_alloc _ _ _ hob).trans hO, M1.same (Below.heap_alloc _ _ _ M1.lt), ⟨by omega, by omega⟩, hle⟩
  have B2 := B1.alloc (by omega) (.cells #[.map (some w.heap.size), .slice (some ⟨w.heap.size + 1 + 1, 0, none⟩) N N, .int .i64 1, .int .i64 0] 52)
  clear M0 M1 B0 B1 hb RA hO
  go_wp2
  go_ret
  exact ⟨_, _, _, rfl, H, Nat.le_refl _, B2⟩
end Go.Proofs.Ytkbkilkmiigahaa.Cx
