/-
  YtbhpljjogmagoaaGF: the contracts and plain facts of several texts, laid together. Conditions: those that each theorem names.
-/
import Derived.Test.YtbhpljjogmagoaaGE
import Derived.Test.YtbhpljjogmagoaaTRRead
/-
  Contracts of New, with, Find and List of the document's package for layer 6. Conditions: lists of entries that are there; addresses are below 2 to the 64.
-/
namespace Go.Proofs.Ytbhpljjogmagoaa.Tl
open Fld
open Go.ChangeShapes Go.WideShapes Go.ChangeAt Go.RowKit Go.Shelf
set_option maxHeartbeats 2000000
set_option maxRecDepth 100000
theorem rnew_any (n : Int) (w : World) :
    Calls Try.prog 11 #[.int .i64 n] w fun e w' => ∃ v, e = .returned v ∧ DocAt w' w.heap.size v (newN n) (fun _ => Ent.zero) ∧ Below w.heap.size w w' := by
  obtain ⟨N, hN⟩ : ∃ N, newN n = N := ⟨_, rfl⟩
  have hbd := newN_bd n
  have hmn : min (max n 1) 64 = (N : Int) := by rw [← hN]; unfold newN; omega
  rw [hN] at hbd ⊢
  have hmk := fun w => run_makeE N hbd.2 w
  clear hN
  go_enter Try.func11, Try.ntmps11
  go_wp2
  go_ret
  refine ⟨_, rfl, ⟨by rw [rowL_length], .inr ⟨w.heap.size, N, rowT (fun _ => Ent.zero) N, rfl, Nat.le_refl _, heap_alloc_new _ _, Nat.le_refl _, by unfold maxLen; omega, by rw [rowT_size], ?_⟩⟩, box1 _ _⟩
  have : (rowT (fun _ => Ent.zero) N).toList = rowL (fun _ => Ent.zero) N := rfl
  rw [this, List.take_of_length_le (by rw [rowL_length]; omega)]
theorem with_any (B g cap n : Nat) (R : Nat → Ent) (i : Nat) (e : Ent) (w : World) (h : DocAt w B (.slice (some ⟨g, 0, none⟩) n cap) n R) (hn : n ≤ 64) (hi : i < n) :
    Calls Try.prog 57 #[.slice (some ⟨g, 0, none⟩) n cap, .int .i64 (i : Int), .agg #[.int .i64 e.size, .int .i64 e.ctx, .int .u64 e.va, .int .u64 e.pa, .bool e.att.write, .bool e.att.priv, .bool e.att.exec, .bool e.att.lock, .bool e.att.global, .bool e.att.quiet, .bool e.valid]] w fun r w' => ∃ v, r = .returned v ∧ DocAt w' w.heap.size v n (setE R i e) ∧ Below w.heap.size w w' := by
  obtain ⟨i0, hi0, hz0, hz1, hz2⟩ := info_parts infoE
  have hlt' : (i : Int) < (n : Int) := by omega
  obtain ⟨o, ho⟩ : ∃ o, i * 11 = o := ⟨_, rfl⟩
  have BE := box1 w (.cells #[.int .i64 e.size, .int .i64 e.ctx, .int .u64 e.va, .int .u64 e.pa, .bool e.att.write, .bool e.att.priv, .bool e.att.exec, .bool e.att.lock, .bool e.att.global, .bool e.att.quiet, .bool e.valid] 33)
  have RE := RowE.new w e
  have hD := doc_below h BE
  have hnw := Lib.hid (doc_news hD)
  have hon := Lib.hid (row_one R n)
  go_enter Try.func57, Try.ntmps57
  go_wp2_with (at_builtin; (refine wpList_append_own_at _ rfl _ _ 25 rfl (w.heap.size + 1) 33 i0 _ 11 40 Try.underlying25 hi0 hz0 hz1 hz2 rfl (by decide) (.slice none 0 0) 0 [] rfl (World.ownsRow_nil _ _ _ _) ⟨g, 0, none⟩ n cap (rowL R n) rfl (by rw [rowL_length]) hnw.out hon.out (by unfold maxLen; omega) (by omega) (by simp) ?_))
  intro v' w1 hown' hgrow _ _
  have hown' : w1.ownsRow (w.heap.size + 1) 33 11 v' n (rowL R n) := by first | exact hown' | (rw [Nat.zero_add, List.nil_append] at hown'; exact hown')
  have B1 := BE.grown hgrow (by simp) (fun g hg => by simp [Value.ownBlock] at hg)
  have R1 : RowE w1 w.heap.size e := ⟨(hgrow.block _ (by simp) (by simp [Value.ownBlock])).trans RE.row⟩
  have hd1 : DocAt w1 (w.heap.size + 1) v' n R := hown'
  obtain ⟨g1, cap1, rfl, k1, k2, k3, k4, k5, k6⟩ := doc_at hd1 (by omega)
  have hg1 : g1 ≠ w.heap.size := by omega
  clear hown' hgrow BE RE hD hnw hon h
  obtain ⟨r0, r1, r2, r3, r4, r5, r6, r7, r8, r9, r10⟩ := R1.cells
  obtain ⟨c0, c1, c2, c3, c4, c5, c6, c7, c8, c9, c10⟩ := k5 i o hi ho
  have hAE : (⟨g1, 0, none⟩ : Addr).add o = ⟨g1, o, none⟩ := by unfold Addr.add; split <;> simp_all
  have hd2 := Lib.hid (doc_put hd1 hi ho e)
  unfold maxLen at k2
  clear k5 hd1
  go_wp2_with fail
  go_ret
  refine ⟨_, rfl, doc_low hd2.out (Nat.le_succ _), ?_⟩
  iterate 11 refine below_setN ?_ (by omega)
  exact B1
theorem rfind_any (B g cap n : Nat) (R : Nat → Ent) (va ctx : Int) (x0 : 0 ≤ va) (x1 : va ≤ 18446744073709551615) (hwf : ∀ k, k < n → (R k).wf) (w : World) (h : DocAt w B (.slice (some ⟨g, 0, none⟩) n cap) n R) (hp : 1 ≤ n) (hn : n ≤ 64) :
    Calls Try.prog 36 #[.slice (some ⟨g, 0, none⟩) n cap, .int .u64 va, .int .i64 ctx] w fun r w' => r = .returned (.int .i64 (findI R n va ctx)) ∧ Below w.heap.size w w' := by
  go_enter Try.func36, Try.ntmps36
  go_wp2_with fail
  go_loopw [7] (fun i wr => ∃ j : Nat, j ≤ n ∧ i = .int .i64 (j : Int) ∧ (∀ k, k < j → (R k).hitsB va ctx = false) ∧ Below w.heap.size w wr) (fun i _ => n - (intOf i).toNat)
  case atStart => exact ⟨0, by omega, rfl, fun k hk => absurd hk (Nat.not_lt_zero k), Below.refl _ _⟩
  case round =>
    obtain ⟨j, hj, rfl, hno, hB⟩ := hrel
    have hD := doc_below h hB
    obtain ⟨g', cap', hv, k1, k2, k3, k4, k5, k6⟩ := doc_at hD hp
    simp only [Value.slice.injEq, Option.some.injEq, Addr.mk.injEq, and_true, true_and] at hv
    obtain ⟨rfl, rfl⟩ := hv
    unfold maxLen at k2
    by_cases hlt : j < n
    · obtain ⟨o, ho⟩ : ∃ o, j * 11 = o := ⟨_, rfl⟩
      obtain ⟨c0, c1, c2, c3, c4, c5, c6, c7, c8, c9, c10⟩ := k5 j o hlt ho
      have hw := (hwf j hlt).2.2.1
      have C := Lib.hid (fun W => rhits_any (R j) va ctx hw.1 hw.2 x0 x1 W)
      have hlt' : (j : Int) < (n : Int) := by omega
      have hAE : (⟨g, 0, none⟩ : Addr).add o = ⟨g, o, none⟩ := by unfold Addr.add; split <;> simp_all
      have hno := Lib.hid hno
      clear k5 k6 hD
      go_wp2_with fail
      refine (C.out _).mono ?_; rintro r w1 ⟨rfl, hb1⟩
      have hB1 := hB.trans (hb1.mono hB.size)
      clear hb1 C c0 c1 c2 c3 c4 c5 c6 c7 c8 c9 c10 hB
      cases hh : (R j).hitsB va ctx
      · go_wp2_with fail
        go_roundw
        case rel => exact ⟨j + 1, by omega, by go_num, fun k hk => (by by_cases e : k = j; rw [e]; exact hh; exact hno.out k (by omega)), hB1⟩
        case measure => simp [intOf]; omega
      · have hF : findN R n va ctx = j := fst_eq hj hno.out fun _ => hh
        have hI := Lib.hid (show findI R n va ctx = (j : Int) by unfold findI; rw [hF, if_pos hlt])
        go_wp2_with fail
        go_ret
        exact ⟨ret_int hI.out.symm, hB1⟩
    · obtain rfl : n = j := by omega
      have hF : findN R n va ctx = n := fst_none.2 hno
      have hI := Lib.hid (show findI R n va ctx = -1 by unfold findI; rw [hF, if_neg (by omega)])
      have hno := Lib.hid hno
      clear k5 k6 hD
      go_wp2_with fail
      go_ret
      exact ⟨ret_int hI.out.symm, hB⟩
theorem rlist_any (B g cap n : Nat) (R : Nat → Ent) (w : World) (h : DocAt w B (.slice (some ⟨g, 0, none⟩) n cap) n R) (hp : 1 ≤ n) (hn : n ≤ 64) :
    Calls Try.prog 38 #[.slice (some ⟨g, 0, none⟩) n cap] w fun r w' => ∃ v, r = .returned v ∧ ListAt w' w.heap.size v (vals R n) ∧ Below w.heap.size w w' := by
  obtain ⟨i0, hi, hz0, hz1, hz2⟩ := info_parts infoE
  go_enter Try.func38, Try.ntmps38
  go_wp2_with fail
  go_loopw [3, 4] (fun v i wr => ∃ j : Nat, j ≤ n ∧ i = .int .i64 (j : Int) ∧ ListAt wr w.heap.size v (vals R j) ∧ Below w.heap.size w wr) (fun _ i _ => n - (intOf i).toNat)
  case atStart => exact ⟨0, by omega, rfl, list_nil _ _, Below.refl _ _⟩
  case round =>
    obtain ⟨j, hj, rfl, hown, hB⟩ := hrel
    have hD := doc_below h hB
    obtain ⟨g', cap', hv, k1, k2, k3, k4, k5, k6⟩ := doc_at hD hp
    simp only [Value.slice.injEq, Option.some.injEq, Addr.mk.injEq, and_true, true_and] at hv
    obtain ⟨rfl, rfl⟩ := hv
    unfold maxLen at k2
    have hlen := vals_le R j
    obtain ⟨ao, cap2, rfl⟩ := own_shape hown
    by_cases hlt : j < n
    · obtain ⟨o, ho⟩ : ∃ o, j * 11 = o := ⟨_, rfl⟩
      obtain ⟨c0, c1, c2, c3, c4, c5, c6, c7, c8, c9, c10⟩ := k5 j o hlt ho
      have hlt' : (j : Int) < (n : Int) := by omega
      have hAE : (⟨g, 0, none⟩ : Addr).add o = ⟨g, o, none⟩ := by unfold Addr.add; split <;> simp_all
      clear k5 k6 hD
      cases hv : (R j).valid
      · have HM := Lib.hid (vals_miss (T := R) (n := j) hv)
        rw [hv] at c10
        go_wp2_with fail
        go_roundw
        case rel => exact ⟨j + 1, by omega, by go_num, by rw [HM.out]; exact hown, hB⟩
        case measure => simp [intOf]; omega
      · have HS := Lib.hid (vals_hit (T := R) (n := j) hv)
        have HC := Lib.hid (cell_eleven_new wr (R j) 33)
        have HE := Lib.hid (rowL_list (vals R j) (R j))
        have HO := Lib.hid (eleven_one (R j))
        rw [hv] at c10 HC
        obtain ⟨m, hm⟩ : ∃ m, (vals R j).length = m := ⟨_, rfl⟩
        have hO2 : wr.ownsRow w.heap.size 33 11 (.slice ao m cap2) m (rowL (nthE (vals R j)) m) := by rw [← hm]; exact hown
        rw [hm] at hlen ⊢
        have HMM := Lib.hid hm
        clear hm hown
        go_wp2_with (at_builtin; (refine wpList_append_own_at _ rfl _ _ 25 rfl w.heap.size 33 i0 _ 11 40 Try.underlying25 hi hz0 hz1 hz2 rfl (by decide) _ _ _ rfl (by exact hO2.alloc _) ⟨wr.heap.size, 0, none⟩ 1 1 (eleven (R j)) rfl rfl HC.out HO.out (by unfold maxLen; omega) (by omega) (by have := hB.size; simp; omega) ?_))
        · intro v' w1 hown' hgrow _ _
          have R1 : ListAt w1 w.heap.size v' (vals R (j + 1)) := by
            unfold ListAt DocAt
            rw [HS.out, HE.out, List.length_append, HMM.out]; exact hown'
          have R2 : Below w.heap.size w w1 := (hB.alloc hB.size _).grown hgrow (by have := hB.size; simp; omega) (fun g hg => (hO2.lt g hg).1)
          clear hown' hgrow hO2 hB HC HE HO c0 c1 c2 c3 c4 c5 c6 c7 c8 c9 c10
          go_wp2
          go_roundw
          case rel => exact ⟨j + 1, by omega, by go_num, R1, R2⟩
          case measure => simp [intOf]; omega
    · obtain rfl : n = j := by omega
      clear k5 k6 hD
      go_wp2_with fail
      go_ret
      exact ⟨_, rfl, hown, hB⟩
end Go.Proofs.Ytbhpljjogmagoaa.Tl
/-
  Contracts of Put and Clear of the document's package for layer 6. Conditions: lists of entries that are there; numbers are what Go's types hold.
-/
namespace Go.Proofs.Ytbhpljjogmagoaa.Tl
open Fld
open Go.ChangeShapes Go.WideShapes Go.ChangeAt Go.RowKit Go.Shelf
set_option maxHeartbeats 4000000
set_option maxRecDepth 100000
/-- A boxed entry, and a list of entries. -/
structure DE (w wr : World) (eb : Nat) (e : Ent) (B g cap n : Nat) (R : Nat → Ent) : Prop where
  bel : Below w.heap.size w wr
  row : RowE wr eb e
  doc : DocAt wr B (.slice (some ⟨g, 0, none⟩) n cap) n R
theorem DE.low {w wr w' : World} {eb B g cap n : Nat} {e : Ent} {R : Nat → Ent} (h : DE w wr eb e B g cap n R) (hb : Below wr.heap.size wr w') : DE w w' eb e B g cap n R :=
  ⟨h.bel.trans (hb.mono h.bel.size), h.row.below hb h.row.lt, doc_below h.doc hb⟩
theorem DE.drew {w wr : World} {eb B g cap n : Nat} {e : Ent} {R : Nat → Ent} (h : DE w wr eb e B g cap n R) : DE w wr.drew eb e B g cap n R := ⟨h.bel.drew, h.row.drew, h.doc⟩
theorem doc_cells {w : World} {B g cap n : Nat} {R : Nat → Ent} (h : DocAt w B (.slice (some ⟨g, 0, none⟩) n cap) n R) {i o : Nat} (hi : i < n) (ho : i * 11 = o) : w.cell? ⟨g, o, none⟩ = some (.int .i64 (R i).size) ∧ w.cell? ⟨g, o + 1, none⟩ = some (.int .i64 (R i).ctx) ∧ w.cell? ⟨g, o + 2, none⟩ = some (.int .u64 (R i).va) ∧ w.cell? ⟨g, o + 3, none⟩ = some (.int .u64 (R i).pa) ∧ w.cell? ⟨g, o + 4, none⟩ = some (.bool (R i).att.write) ∧ w.cell? ⟨g, o + 5, none⟩ = some (.bool (R i).att.priv) ∧ w.cell? ⟨g, o + 6, none⟩ = some (.bool (R i).att.exec) ∧ w.cell? ⟨g, o + 7, none⟩ = some (.bool (R i).att.lock) ∧ w.cell? ⟨g, o + 8, none⟩ = some (.bool (R i).att.global) ∧ w.cell? ⟨g, o + 9, none⟩ = some (.bool (R i).att.quiet) ∧ w.cell? ⟨g, o + 10, none⟩ = some (.bool (R i).valid) := by
  obtain ⟨g', cap', hv, _, _, _, _, k5, _⟩ := doc_at h (by omega)
  simp only [Value.slice.injEq, Option.some.injEq, Addr.mk.injEq, and_true, true_and] at hv
  obtain ⟨rfl, rfl⟩ := hv
  exact k5 i o hi ho
theorem doc_cap {w : World} {B g cap n : Nat} {R : Nat → Ent} (h : DocAt w B (.slice (some ⟨g, 0, none⟩) n cap) n R) (hn : 1 ≤ n) : n ≤ cap ∧ cap ≤ 9223372036854775807 ∧ B ≤ g ∧ g < w.heap.size := by
  obtain ⟨g', cap', hv, k1, k2, k3, k4, _, _⟩ := doc_at h hn
  simp only [Value.slice.injEq, Option.some.injEq, Addr.mk.injEq, and_true, true_and] at hv
  obtain ⟨rfl, rfl⟩ := hv
  unfold maxLen at k2
  exact ⟨k1, k2, k3, k4⟩
theorem DE.sc {w wr : World} {eb B g cap n : Nat} {e : Ent} {R : Nat → Ent} {i o : Nat} (hi : i < n) (ho : i * 11 = o) (h : DE w wr eb e B g cap n R) : wr.cell? ⟨eb, 0, none⟩ = some (.int .i64 e.size) ∧ wr.cell? ⟨eb, 1, none⟩ = some (.int .i64 e.ctx) ∧ wr.cell? ⟨eb, 2, none⟩ = some (.int .u64 e.va) ∧ wr.cell? ⟨eb, 3, none⟩ = some (.int .u64 e.pa) ∧ wr.cell? ⟨eb, 4, none⟩ = some (.bool e.att.write) ∧ wr.cell? ⟨eb, 5, none⟩ = some (.bool e.att.priv) ∧ wr.cell? ⟨eb, 6, none⟩ = some (.bool e.att.exec) ∧ wr.cell? ⟨eb, 7, none⟩ = some (.bool e.att.lock) ∧ wr.cell? ⟨eb, 8, none⟩ = some (.bool e.att.global) ∧ wr.cell? ⟨eb, 9, none⟩ = some (.bool e.att.quiet) ∧ wr.cell? ⟨eb, 10, none⟩ = some (.bool e.valid) ∧ wr.cell? ⟨g, o, none⟩ = some (.int .i64 (R i).size) ∧ wr.cell? ⟨g, o + 1, none⟩ = some (.int .i64 (R i).ctx) ∧ wr.cell? ⟨g, o + 2, none⟩ = some (.int .u64 (R i).va) ∧ wr.cell? ⟨g, o + 3, none⟩ = some (.int .u64 (R i).pa) ∧ wr.cell? ⟨g, o + 4, none⟩ = some (.bool (R i).att.write) ∧ wr.cell? ⟨g, o + 5, none⟩ = some (.bool (R i).att.priv) ∧ wr.cell? ⟨g, o + 6, none⟩ = some (.bool (R i).att.exec) ∧ wr.cell? ⟨g, o + 7, none⟩ = some (.bool (R i).att.lock) ∧ wr.cell? ⟨g, o + 8, none⟩ = some (.bool (R i).att.global) ∧ wr.cell? ⟨g, o + 9, none⟩ = some (.bool (R i).att.quiet) ∧ wr.cell? ⟨g, o + 10, none⟩ = some (.bool (R i).valid) := by
  obtain ⟨x0, x1, x2, x3, x4, x5, x6, x7, x8, x9, x10⟩ := h.row.cells
  exact ⟨x0, x1, x2, x3, x4, x5, x6, x7, x8, x9, x10, doc_cells h.doc hi ho⟩
theorem ret_vI {v : Value} {i k : Int} (g : i = k) : Ending.returned (.tuple #[v, .int .i64 k]) = .returned (.tuple #[v, .int .i64 i]) := by subst g; rfl
theorem ret_vB {v : Value} {i k : Bool} (g : i = k) : Ending.returned (.tuple #[v, .bool k]) = .returned (.tuple #[v, .bool i]) := by subst g; rfl
theorem rput_any (B g cap n : Nat) (R : Nat → Ent) (i : Int) (e : Ent) (we : e.wf) (hwf : ∀ k, k < n → (R k).wf) (w : World) (h : DocAt w B (.slice (some ⟨g, 0, none⟩) n cap) n R) (hB : B ≤ w.heap.size) (hp : 1 ≤ n) (hn : n ≤ 64) :
    Calls Try.prog 31 #[.slice (some ⟨g, 0, none⟩) n cap, .int .i64 i, .agg #[.int .i64 e.size, .int .i64 e.ctx, .int .u64 e.va, .int .u64 e.pa, .bool e.att.write, .bool e.att.priv, .bool e.att.exec, .bool e.att.lock, .bool e.att.global, .bool e.att.quiet, .bool e.valid]] w fun r w' => ∃ v, r = .returned (.tuple #[v, .int .i64 (putE R n i e)]) ∧ DocAt w' B v n (putT R n i e) ∧ Below w.heap.size w w' := by
  have B1 := box1 w (.cells #[.int .i64 e.size, .int .i64 e.ctx, .int .u64 e.va, .int .u64 e.pa, .bool e.att.write, .bool e.att.priv, .bool e.att.exec, .bool e.att.lock, .bool e.att.global, .bool e.att.quiet, .bool e.valid] 33)
  have R1 := RowE.new w e
  have C1 := Lib.hid (fun W => rmaye_any e we.2.2.1.1 we.2.2.1.2 we.2.2.2.1 we.2.2.2.2 W)
  have CP := Lib.hid (fun (o : Ent) (ho : o.wf) W => rparts_any e o we.2.2.1.1 we.2.2.1.2 ho.2.2.1.1 ho.2.2.1.2 W)
  have hEm := Lib.hid (show e.mayB = false → putE R n i e = 1 from fun h => by unfold putE; rw [h]; rfl)
  have hEr := Lib.hid (show e.mayB = true → hasB n i = false → putE R n i e = 5 from fun h g => by unfold putE; rw [h, g]; rfl)
  have hEx := Lib.hid (show e.mayB = true → hasB n i = true → putE R n i e = if putW n R i e < n then 9 else 0 from fun h g => by unfold putE; rw [h, g]; rfl)
  have hTn := Lib.hid (show putE R n i e ≠ 0 → putT R n i e = R from fun h => by unfold putT; rw [if_neg h])
  have hT0 := Lib.hid (show putE R n i e = 0 → putT R n i e = setE R i.toNat e from fun h => by unfold putT; rw [if_pos h])
  have hcap := doc_cap h hp
  go_enter Try.func31, Try.ntmps31
  go_wp2_with fail
  refine (C1.out _).mono ?_; rintro r w1 ⟨rfl, hb1⟩
  have D1 : DE w w1 w.heap.size e B g cap n R := DE.low ⟨B1, R1, doc_below h B1⟩ hb1
  clear B1 R1 hb1 C1
  cases hm : e.mayB
  · have hE := Lib.hid (hEm.out hm)
    have hT := Lib.hid (hTn.out (by rw [hE.out]; decide))
    clear hEm hEr hEx hTn hT0 h
    go_wp2_with fail
    go_ret2
    exact ⟨_, ret_vI hE.out, by rw [hT.out]; exact D1.doc, D1.bel⟩
  · cases hb : hasB n i
    · have hE := Lib.hid (hEr.out hm hb)
      have hT := Lib.hid (hTn.out (by rw [hE.out]; decide))
      have hb' : i < 0 ∨ (n : Int) ≤ i := by
        unfold hasB at hb; simp only [Bool.and_eq_false_iff, decide_eq_false_iff_not] at hb; omega
      clear hEm hEr hEx hTn hT0 h
      by_cases h0 : i < 0
      · go_wp2_with fail
        go_ret2
        exact ⟨_, ret_vI hE.out, by rw [hT.out]; exact D1.doc, D1.bel⟩
      · have h1 : (n : Int) ≤ i := by omega
        go_wp2_with fail
        go_ret2
        exact ⟨_, ret_vI hE.out, by rw [hT.out]; exact D1.doc, D1.bel⟩
    · have hE := Lib.hid (hEx.out hm hb)
      have hb' := hb
      unfold hasB at hb'
      simp only [Bool.and_eq_true, decide_eq_true_eq] at hb'
      obtain ⟨q, rfl⟩ : ∃ q : Nat, i = (q : Int) := ⟨i.toNat, by omega⟩
      have hq : q < n := by omega
      have hq' : (q : Int) < (n : Int) := by omega
      have hd1 : decide ((q : Int) < 0) = false := by simp
      have hd2 : decide (n ≤ q) = false := by simp; omega
      clear hEm hEr hEx hb' h
      go_wp2_with fail
      clear hd1 hd2
      go_loopw [9] (fun i wr => ∃ j : Nat, j ≤ n ∧ i = .int .i64 (j : Int) ∧ (∀ k, k < j → ((fun o : Ent => o.valid && wayB e o) (if (k : Int) = (q : Int) then Ent.zero else R k)) = false) ∧ DE w wr w.heap.size e B g cap n R) (fun i _ => n - (intOf i).toNat)
      case atStart => exact ⟨0, by omega, rfl, fun k hk => absurd hk (Nat.not_lt_zero k), D1⟩
      case round =>
        clear D1
        obtain ⟨j, hj, rfl, hno, hD⟩ := hrel
        have hno := Lib.hid hno
        by_cases hlt : j < n
        · obtain ⟨o, ho⟩ : ∃ o, j * 11 = o := ⟨_, rfl⟩
          have C := Lib.hid (fun W => CP.out (R j) (hwf j hlt) W)
          have hlt' : (j : Int) < (n : Int) := by omega
          have hAE : (⟨g, 0, none⟩ : Addr).add o = ⟨g, o, none⟩ := by unfold Addr.add; split <;> simp_all
          have hsc := hD.sc hlt ho
          have hno1 := Lib.hid (show (if (j : Int) = (q : Int) then false else ((R j).valid && wayB e (R j))) = false → ∀ k, k < j + 1 → ((fun o : Ent => o.valid && wayB e o) (if (k : Int) = (q : Int) then Ent.zero else R k)) = false from fun hh k hk => by
            by_cases ek : k = j
            · rw [ek]
              by_cases ejq : (j : Int) = (q : Int)
              · rw [if_pos ejq]; rfl
              · rw [if_neg ejq] at hh ⊢; exact hh
            · exact hno.out k (by omega))
          have hst := Lib.hid (fun (hne : ¬ ((j : Int) = (q : Int))) (hw : ((R j).valid && wayB e (R j)) = true) => (show putW n R (q : Int) e = j from fst_eq hj hno.out fun _ => by rw [if_neg hne]; exact hw))
          have hWay := Lib.hid (show wayB e (R j) = !partsB e (R j) from rfl)
          clear hno
          generalize wayB e (R j) = WY at *
          generalize partsB e (R j) = PP at *
          go_wp2_with fail
          go_cut [10] (fun p wx => p = .bool PP ∧ DE w wx w.heap.size e B g cap n R)
          case first =>
            go_region_held3 (fun w1 => w1.cell? ⟨w.heap.size, 0, none⟩ = some (.int .i64 e.size) ∧ w1.cell? ⟨w.heap.size, 1, none⟩ = some (.int .i64 e.ctx) ∧ w1.cell? ⟨w.heap.size, 2, none⟩ = some (.int .u64 e.va) ∧ w1.cell? ⟨w.heap.size, 3, none⟩ = some (.int .u64 e.pa) ∧ w1.cell? ⟨w.heap.size, 4, none⟩ = some (.bool e.att.write) ∧ w1.cell? ⟨w.heap.size, 5, none⟩ = some (.bool e.att.priv) ∧ w1.cell? ⟨w.heap.size, 6, none⟩ = some (.bool e.att.exec) ∧ w1.cell? ⟨w.heap.size, 7, none⟩ = some (.bool e.att.lock) ∧ w1.cell? ⟨w.heap.size, 8, none⟩ = some (.bool e.att.global) ∧ w1.cell? ⟨w.heap.size, 9, none⟩ = some (.bool e.att.quiet) ∧ w1.cell? ⟨w.heap.size, 10, none⟩ = some (.bool e.valid) ∧ w1.cell? ⟨g, o, none⟩ = some (.int .i64 (R j).size) ∧ w1.cell? ⟨g, o + 1, none⟩ = some (.int .i64 (R j).ctx) ∧ w1.cell? ⟨g, o + 2, none⟩ = some (.int .u64 (R j).va) ∧ w1.cell? ⟨g, o + 3, none⟩ = some (.int .u64 (R j).pa) ∧ w1.cell? ⟨g, o + 4, none⟩ = some (.bool (R j).att.write) ∧ w1.cell? ⟨g, o + 5, none⟩ = some (.bool (R j).att.priv) ∧ w1.cell? ⟨g, o + 6, none⟩ = some (.bool (R j).att.exec) ∧ w1.cell? ⟨g, o + 7, none⟩ = some (.bool (R j).att.lock) ∧ w1.cell? ⟨g, o + 8, none⟩ = some (.bool (R j).att.global) ∧ w1.cell? ⟨g, o + 9, none⟩ = some (.bool (R j).att.quiet) ∧ w1.cell? ⟨g, o + 10, none⟩ = some (.bool (R j).valid)) ((refine DE.sc (w := w) (B := B) (cap := cap) hlt ho ?_; (repeat (first | (with_reducible assumption) | (with_reducible refine DE.drew ?_) | (with_reducible refine DE.low ?_ (by assumption))))))
              ((go_at_call 19; (with_reducible refine (C.out _).mono ?_); rintro r w' ⟨rfl, hb⟩))
            all_goals
              go_wp2_with fail
              go_meet
              refine ⟨rfl, ?_⟩; (repeat (first | (with_reducible assumption) | (with_reducible refine DE.drew ?_) | (with_reducible refine DE.low ?_ (by assumption))))
          case rest =>
            obtain ⟨rfl, hD2⟩ := hcut
            clear hD hsc C
            obtain ⟨c0, c1, c2, c3, c4, c5, c6, c7, c8, c9, c10⟩ := doc_cells hD2.doc hlt ho
            by_cases hjq : (j : Int) = (q : Int)
            · have hn1 := Lib.hid (hno1.out (by rw [if_pos hjq]))
              obtain rfl : q = j := by omega
              clear hno1 hst hjq
              go_wp2_with fail
              go_roundw
              case rel => exact ⟨q + 1, by omega, by go_num, hn1.out, hD2⟩
              case measure => simp [intOf]; omega
            · rw [if_neg hjq] at hno1
              cases hv : (R j).valid
              · have hn1 := Lib.hid (hno1.out (by rw [hv]; rfl))
                clear hno1 hst
                rw [hv] at c10
                go_wp2_with fail
                go_roundw
                case rel => exact ⟨j + 1, by omega, by go_num, hn1.out, hD2⟩
                case measure => simp [intOf]; omega
              · cases PP
                · have hW := hst.out hjq (by rw [hv, hWay.out]; rfl)
                  have hE2 := hE.out
                  rw [hW, if_pos hlt] at hE2
                  have hE2 := Lib.hid hE2
                  have hT := Lib.hid (hTn.out (by rw [hE2.out]; decide))
                  clear hno1 hst hW hTn hT0 hE
                  rw [hv] at c10
                  go_wp2_with fail
                  go_ret2
                  exact ⟨_, ret_vI hE2.out, by rw [hT.out]; exact hD2.doc, hD2.bel⟩
                · have hn1 := Lib.hid (hno1.out (by rw [hv, hWay.out]; rfl))
                  clear hno1 hst
                  rw [hv] at c10
                  go_wp2_with fail
                  go_roundw
                  case rel => exact ⟨j + 1, by omega, by go_num, hn1.out, hD2⟩
                  case measure => simp [intOf]; omega
        · obtain rfl : n = j := by omega
          have hW : putW n R (q : Int) e = n := fst_none.2 hno.out
          have hE2 := hE.out
          rw [hW, if_neg (by omega)] at hE2
          have hT := hT0.out hE2
          rw [Int.toNat_natCast] at hT
          have hT := Lib.hid hT
          have hE2 := Lib.hid hE2
          clear hno hW hTn hT0 hE
          obtain ⟨x0, x1, x2, x3, x4, x5, x6, x7, x8, x9, x10⟩ := hD.row.cells
          go_wp2_with fail
          refine (with_any B g cap n R q e wr hD.doc hn hq).mono ?_; rintro r w3 ⟨v, rfl, hd3, hb3⟩
          have hb4 := hD.bel.trans (hb3.mono hD.bel.size)
          have hd4 := doc_low hd3 (Nat.le_trans hB hD.bel.size)
          clear hd3 hb3 hD x0 x1 x2 x3 x4 x5 x6 x7 x8 x9 x10
          go_wp2_with fail
          go_ret2
          exact ⟨_, ret_vI hE2.out, by rw [hT.out]; exact hd4, hb4⟩
theorem rclear_any (B g cap n : Nat) (R : Nat → Ent) (i : Int) (w : World) (h : DocAt w B (.slice (some ⟨g, 0, none⟩) n cap) n R) (hB : B ≤ w.heap.size) (hp : 1 ≤ n) (hn : n ≤ 64) :
    Calls Try.prog 35 #[.slice (some ⟨g, 0, none⟩) n cap, .int .i64 i] w fun r w' => ∃ v, r = .returned (.tuple #[v, .bool (atE R n i).valid]) ∧ DocAt w' B v n (clearT R n i) ∧ Below w.heap.size w w' := by
  have hcap := doc_cap h hp
  cases hb : hasB n i
  · have hA := Lib.hid (show (atE R n i).valid = false by unfold atE; rw [hb]; rfl)
    have hT := Lib.hid (show clearT R n i = R by unfold clearT; rw [hA.out]; rfl)
    have hb' : i < 0 ∨ (n : Int) ≤ i := by
      unfold hasB at hb; simp only [Bool.and_eq_false_iff, decide_eq_false_iff_not] at hb; omega
    by_cases h0 : i < 0
    · go_enter Try.func35, Try.ntmps35
      go_wp2_with fail
      go_ret2
      exact ⟨_, ret_vB hA.out, by rw [hT.out]; exact h, Below.refl _ _⟩
    · have h1 : (n : Int) ≤ i := by omega
      go_enter Try.func35, Try.ntmps35
      go_wp2_with fail
      go_ret2
      exact ⟨_, ret_vB hA.out, by rw [hT.out]; exact h, Below.refl _ _⟩
  · have hb' := hb
    unfold hasB at hb'
    simp only [Bool.and_eq_true, decide_eq_true_eq] at hb'
    obtain ⟨q, rfl⟩ : ∃ q : Nat, i = (q : Int) := ⟨i.toNat, by omega⟩
    have hq : q < n := by omega
    have hq' : (q : Int) < (n : Int) := by omega
    obtain ⟨o, ho⟩ : ∃ o, q * 11 = o := ⟨_, rfl⟩
    obtain ⟨c0, c1, c2, c3, c4, c5, c6, c7, c8, c9, c10⟩ := doc_cells h hq ho
    have hAE : (⟨g, 0, none⟩ : Addr).add o = ⟨g, o, none⟩ := by unfold Addr.add; split <;> simp_all
    have hAt : atE R n (q : Int) = R q := by unfold atE; rw [hb]; simp
    cases hv : (R q).valid
    · have hA := Lib.hid (show (atE R n (q : Int)).valid = false by rw [hAt]; exact hv)
      have hT := Lib.hid (show clearT R n (q : Int) = R by unfold clearT; rw [hA.out]; rfl)
      rw [hv] at c10
      clear hAt hb
      go_enter Try.func35, Try.ntmps35
      go_wp2_with fail
      go_ret2
      exact ⟨_, ret_vB hA.out, by rw [hT.out]; exact h, Below.refl _ _⟩
    · have hA := Lib.hid (show (atE R n (q : Int)).valid = true by rw [hAt]; exact hv)
      have hT := Lib.hid (show clearT R n (q : Int) = setE R q Ent.zero by unfold clearT; rw [hA.out, if_pos rfl, Int.toNat_natCast])
      rw [hv] at c10
      have HW := Lib.hid (with_any B g cap n R q Ent.zero w h hn hq)
      clear hAt hb h
      go_enter Try.func35, Try.ntmps35
      go_wp2_with fail
      refine HW.out.mono ?_; rintro r w3 ⟨v, rfl, hd3, hb3⟩
      have hd4 := doc_low hd3 hB
      clear hd3 HW c0 c1 c2 c3 c4 c5 c6 c7 c8 c9 c10
      go_wp2_with fail
      go_ret2
      exact ⟨_, ret_vB hA.out, by rw [hT.out]; exact hd4, hb3⟩
end Go.Proofs.Ytbhpljjogmagoaa.Tl
/-
  Contracts of Demap and Same of the document's package for layer 6. Conditions: lists of entries that are there; addresses are below 2 to the 64.
-/
namespace Go.Proofs.Ytbhpljjogmagoaa.Tl
open Fld
open Go.ChangeShapes Go.WideShapes Go.ChangeAt Go.RowKit Go.Shelf
set_option maxHeartbeats 4000000
set_option maxRecDepth 100000
theorem hits_and (e : Ent) (va ctx : Int) : (e.valid && e.hitsB va ctx) = e.hitsB va ctx := by
  cases h : e.hitsB va ctx
  · simp
  · rw [hits_valid h]; rfl
/-- Demap under way: what is left of the list, and how many are gone. -/
structure DM (w wr : World) (B n : Nat) (R : Nat → Ent) (p : Ent → Bool) (j : Nat) (v : Value) : Prop where
  bel : Below w.heap.size w wr
  out : DocAt wr B v n (dropE R p j)
theorem DM.low {w wr w' : World} {B n j : Nat} {R : Nat → Ent} {p : Ent → Bool} {v : Value} (h : DM w wr B n R p j v) (hb : Below wr.heap.size wr w') : DM w w' B n R p j v := ⟨h.bel.trans (hb.mono h.bel.size), doc_below h.out hb⟩
theorem rdpage_any (B g cap n : Nat) (R : Nat → Ent) (va ctx : Int) (x0 : 0 ≤ va) (x1 : va ≤ 18446744073709551615) (hwf : ∀ k, k < n → (R k).wf) (w : World) (h : DocAt w B (.slice (some ⟨g, 0, none⟩) n cap) n R) (hB : B ≤ w.heap.size) (hp : 1 ≤ n) (hn : n ≤ 64) :
    Calls Try.prog 33 #[.slice (some ⟨g, 0, none⟩) n cap, .int .i64 0, .int .u64 va, .int .i64 ctx] w fun r w' => ∃ v, r = .returned (.tuple #[v, .int .i64 (cntE R (fun e => e.hitsB va ctx) n : Int)]) ∧ DocAt w' B v n (dropE R (fun e => e.hitsB va ctx) n) ∧ Below w.heap.size w w' := by
  obtain ⟨p, hpd⟩ : ∃ p : Ent → Bool, p = (fun e => e.hitsB va ctx) := ⟨_, rfl⟩
  have HP := Lib.hid (fun e => (congrFun hpd e : p e = _))
  rw [← hpd]
  clear hpd
  have hcap := doc_cap h hp
  go_enter Try.func33, Try.ntmps33
  go_wp2_with fail
  go_loopw [10, 11, 12] (fun v c i wr => ∃ j : Nat, j ≤ n ∧ i = .int .i64 (j : Int) ∧ c = .int .i64 (cntE R p j : Int) ∧ DM w wr B n R p j v) (fun _ _ i _ => n - (intOf i).toNat)
  case atStart => exact ⟨0, by omega, rfl, rfl, Below.refl _ _, by rw [dropE_zero]; exact h⟩
  case round =>
    obtain ⟨j, hj, rfl, rfl, hM⟩ := hrel
    have hcl := cntE_le R p j
    obtain ⟨g2, cap2, rfl, m1, m2, m3, m4, _, _⟩ := doc_at hM.out hp
    unfold maxLen at m2
    by_cases hlt : j < n
    · obtain ⟨o, ho⟩ : ∃ o, j * 11 = o := ⟨_, rfl⟩
      obtain ⟨c0, c1, c2, c3, c4, c5, c6, c7, c8, c9, c10⟩ := doc_cells (doc_below h hM.bel) hlt ho
      have hw := (hwf j hlt).2.2.1
      have C := Lib.hid (fun W => rhits_any (R j) va ctx hw.1 hw.2 x0 x1 W)
      have hlt' : (j : Int) < (n : Int) := by omega
      have hAE : (⟨g, 0, none⟩ : Addr).add o = ⟨g, o, none⟩ := by unfold Addr.add; split <;> simp_all
      have hcnt := Lib.hid (show cntE R p (j + 1) = cntE R p j + if (R j).valid && p (R j) then 1 else 0 from rfl)
      have hmiss := Lib.hid (fun h => dropE_miss (T := R) (p := p) (n := j) h)
      have hhit := Lib.hid (fun h => dropE_hit (T := R) (p := p) (n := j) h)
      go_wp2_with fail
      refine (C.out _).mono ?_; rintro r w1 ⟨rfl, hb1⟩
      have hM1 := hM.low hb1
      clear c0 c1 c2 c3 c4 c5 c6 c7 c8 c9 c10 hM
      obtain ⟨c0, c1, c2, c3, c4, c5, c6, c7, c8, c9, c10⟩ := doc_cells (doc_below h hM1.bel) hlt ho
      clear hb1 C
      cases hh : (R j).hitsB va ctx
      · have hv0 : ((R j).valid && p (R j)) = false := by rw [HP.out, hits_and]; exact hh
        have hcnt2 := Lib.hid (show cntE R p (j + 1) = cntE R p j from by rw [hcnt.out, hv0]; rfl)
        have hm2 := Lib.hid (hmiss.out hv0)
        clear hcnt hmiss hhit hv0
        generalize cntE R p j = c at *
        go_wp2_with fail
        go_roundw
        case rel => exact ⟨j + 1, by omega, by go_num, by rw [hcnt2.out], hM1.bel, by rw [← hm2.out]; exact hM1.out⟩
        case measure => simp [intOf]; omega
      · have hv0 : ((R j).valid && p (R j)) = true := by rw [HP.out, hits_and]; exact hh
        have hcnt2 := Lib.hid (show cntE R p (j + 1) = cntE R p j + 1 from by rw [hcnt.out, hv0]; rfl)
        have hh2 := Lib.hid (hhit.out hv0)
        clear hcnt hmiss hhit hv0
        generalize cntE R p j = c at *
        have HW := with_any B g2 cap2 n (dropE R p j) j Ent.zero w1 hM1.out hn hlt
        rw [hh2.out] at HW
        have HW := Lib.hid HW
        clear hh2
        go_wp2_with fail
        refine HW.out.mono ?_; rintro r w3 ⟨v3, rfl, hd3, hb3⟩
        have hM3 : DM w w3 B n R p (j + 1) v3 := ⟨hM1.bel.trans (hb3.mono hM1.bel.size), doc_low hd3 (Nat.le_trans hB hM1.bel.size)⟩
        clear hM1 hd3 hb3 HW c0 c1 c2 c3 c4 c5 c6 c7 c8 c9 c10
        go_wp2_with fail
        go_roundw
        case rel => exact ⟨j + 1, by omega, by go_num, by rw [hcnt2.out]; go_num, hM3⟩
        case measure => simp [intOf]; omega
    · obtain rfl : n = j := by omega
      go_wp2_with fail
      go_ret2
      exact ⟨_, rfl, hM.out, hM.bel⟩
theorem rdctx_any (B g cap n : Nat) (R : Nat → Ent) (ctx : Int) (hwf : ∀ k, k < n → (R k).wf) (w : World) (h : DocAt w B (.slice (some ⟨g, 0, none⟩) n cap) n R) (hB : B ≤ w.heap.size) (hp : 1 ≤ n) (hn : n ≤ 64) :
    Calls Try.prog 33 #[.slice (some ⟨g, 0, none⟩) n cap, .int .i64 1, .int .u64 0, .int .i64 ctx] w fun r w' => ∃ v, r = .returned (.tuple #[v, .int .i64 (cntE R (fun e => !e.att.global && e.ctx == ctx) n : Int)]) ∧ DocAt w' B v n (dropE R (fun e => !e.att.global && e.ctx == ctx) n) ∧ Below w.heap.size w w' := by
  obtain ⟨p, hpd⟩ : ∃ p : Ent → Bool, p = (fun e => !e.att.global && e.ctx == ctx) := ⟨_, rfl⟩
  have HP := Lib.hid (fun e => (congrFun hpd e : p e = _))
  rw [← hpd]
  clear hpd
  have hcap := doc_cap h hp
  go_enter Try.func33, Try.ntmps33
  go_wp2_with fail
  go_loopw [10, 11, 12] (fun v c i wr => ∃ j : Nat, j ≤ n ∧ i = .int .i64 (j : Int) ∧ c = .int .i64 (cntE R p j : Int) ∧ DM w wr B n R p j v) (fun _ _ i _ => n - (intOf i).toNat)
  case atStart => exact ⟨0, by omega, rfl, rfl, Below.refl _ _, by rw [dropE_zero]; exact h⟩
  case round =>
    obtain ⟨j, hj, rfl, rfl, hM⟩ := hrel
    have hcl := cntE_le R p j
    obtain ⟨g2, cap2, rfl, m1, m2, m3, m4, _, _⟩ := doc_at hM.out hp
    unfold maxLen at m2
    by_cases hlt : j < n
    · obtain ⟨o, ho⟩ : ∃ o, j * 11 = o := ⟨_, rfl⟩
      obtain ⟨c0, c1, c2, c3, c4, c5, c6, c7, c8, c9, c10⟩ := doc_cells (doc_below h hM.bel) hlt ho
      have hw := (hwf j hlt).2.2.1
      have C := Lib.hid (fun W => rhits_any (R j) 0 ctx hw.1 hw.2 (by decide) (by decide) W)
      have hlt' : (j : Int) < (n : Int) := by omega
      have hAE : (⟨g, 0, none⟩ : Addr).add o = ⟨g, o, none⟩ := by unfold Addr.add; split <;> simp_all
      have hcnt := Lib.hid (show cntE R p (j + 1) = cntE R p j + if (R j).valid && p (R j) then 1 else 0 from rfl)
      have hmiss := Lib.hid (fun h => dropE_miss (T := R) (p := p) (n := j) h)
      have hhit := Lib.hid (fun h => dropE_hit (T := R) (p := p) (n := j) h)
      go_wp2_with fail
      refine (C.out _).mono ?_; rintro r w1 ⟨rfl, hb1⟩
      have hM1 := hM.low hb1
      clear c0 c1 c2 c3 c4 c5 c6 c7 c8 c9 c10 hM
      obtain ⟨c0, c1, c2, c3, c4, c5, c6, c7, c8, c9, c10⟩ := doc_cells (doc_below h hM1.bel) hlt ho
      clear hb1 C
      generalize (R j).hitsB 0 ctx = A at *
      cases hv : (R j).valid
      · rw [hv] at c10
        have hv0 : ((R j).valid && p (R j)) = false := by rw [hv]; rfl
        have hcnt2 := Lib.hid (show cntE R p (j + 1) = cntE R p j from by rw [hcnt.out, hv0]; rfl)
        have hm2 := Lib.hid (hmiss.out hv0)
        clear hcnt hmiss hhit hv0
        generalize cntE R p j = c at *
        go_wp2_with fail
        go_roundw
        case rel => exact ⟨j + 1, by omega, by go_num, by rw [hcnt2.out], hM1.bel, by rw [← hm2.out]; exact hM1.out⟩
        case measure => simp [intOf]; omega
      · rw [hv] at c10
        cases hg : (R j).att.global
        · rw [hg] at c8
          cases he : ((R j).ctx == ctx)
          · have he2 : (R j).ctx ≠ ctx := by simpa using he
            have hv0 : ((R j).valid && p (R j)) = false := by rw [HP.out, hv, hg, he]; rfl
            have hcnt2 := Lib.hid (show cntE R p (j + 1) = cntE R p j from by rw [hcnt.out, hv0]; rfl)
            have hm2 := Lib.hid (hmiss.out hv0)
            clear hcnt hmiss hhit hv0
            generalize cntE R p j = c at *
            go_wp2_with fail
            go_roundw
            case rel => exact ⟨j + 1, by omega, by go_num, by rw [hcnt2.out], hM1.bel, by rw [← hm2.out]; exact hM1.out⟩
            case measure => simp [intOf]; omega
          · have he2 : (R j).ctx = ctx := by simpa using he
            rw [he2] at c1
            have hv0 : ((R j).valid && p (R j)) = true := by rw [HP.out, hv, hg, he]; rfl
            have hcnt2 := Lib.hid (show cntE R p (j + 1) = cntE R p j + 1 from by rw [hcnt.out, hv0]; rfl)
            have hh2 := Lib.hid (hhit.out hv0)
            clear hcnt hmiss hhit hv0
            generalize cntE R p j = c at *
            have HW := with_any B g2 cap2 n (dropE R p j) j Ent.zero w1 hM1.out hn hlt
            rw [hh2.out] at HW
            have HW := Lib.hid HW
            clear hh2
            go_wp2_with fail
            refine HW.out.mono ?_; rintro r w3 ⟨v3, rfl, hd3, hb3⟩
            have hM3 : DM w w3 B n R p (j + 1) v3 := ⟨hM1.bel.trans (hb3.mono hM1.bel.size), doc_low hd3 (Nat.le_trans hB hM1.bel.size)⟩
            clear hM1 hd3 hb3 HW c0 c1 c2 c3 c4 c5 c6 c7 c8 c9 c10
            go_wp2_with fail
            go_roundw
            case rel => exact ⟨j + 1, by omega, by go_num, by rw [hcnt2.out]; go_num, hM3⟩
            case measure => simp [intOf]; omega
        · rw [hg] at c8
          have hv0 : ((R j).valid && p (R j)) = false := by rw [HP.out, hv, hg]; rfl
          have hcnt2 := Lib.hid (show cntE R p (j + 1) = cntE R p j from by rw [hcnt.out, hv0]; rfl)
          have hm2 := Lib.hid (hmiss.out hv0)
          clear hcnt hmiss hhit hv0
          generalize cntE R p j = c at *
          go_wp2_with fail
          go_roundw
          case rel => exact ⟨j + 1, by omega, by go_num, by rw [hcnt2.out], hM1.bel, by rw [← hm2.out]; exact hM1.out⟩
          case measure => simp [intOf]; omega
    · obtain rfl : n = j := by omega
      go_wp2_with fail
      go_ret2
      exact ⟨_, rfl, hM.out, hM.bel⟩
theorem rdall_any (B g cap n : Nat) (R : Nat → Ent) (hwf : ∀ k, k < n → (R k).wf) (w : World) (h : DocAt w B (.slice (some ⟨g, 0, none⟩) n cap) n R) (hB : B ≤ w.heap.size) (hp : 1 ≤ n) (hn : n ≤ 64) :
    Calls Try.prog 33 #[.slice (some ⟨g, 0, none⟩) n cap, .int .i64 2, .int .u64 0, .int .i64 0] w fun r w' => ∃ v, r = .returned (.tuple #[v, .int .i64 (cntE R (fun e => !e.att.lock) n : Int)]) ∧ DocAt w' B v n (dropE R (fun e => !e.att.lock) n) ∧ Below w.heap.size w w' := by
  obtain ⟨p, hpd⟩ : ∃ p : Ent → Bool, p = (fun e => !e.att.lock) := ⟨_, rfl⟩
  have HP := Lib.hid (fun e => (congrFun hpd e : p e = _))
  rw [← hpd]
  clear hpd
  have hcap := doc_cap h hp
  go_enter Try.func33, Try.ntmps33
  go_wp2_with fail
  go_loopw [10, 11, 12] (fun v c i wr => ∃ j : Nat, j ≤ n ∧ i = .int .i64 (j : Int) ∧ c = .int .i64 (cntE R p j : Int) ∧ DM w wr B n R p j v) (fun _ _ i _ => n - (intOf i).toNat)
  case atStart => exact ⟨0, by omega, rfl, rfl, Below.refl _ _, by rw [dropE_zero]; exact h⟩
  case round =>
    obtain ⟨j, hj, rfl, rfl, hM⟩ := hrel
    have hcl := cntE_le R p j
    obtain ⟨g2, cap2, rfl, m1, m2, m3, m4, _, _⟩ := doc_at hM.out hp
    unfold maxLen at m2
    by_cases hlt : j < n
    · obtain ⟨o, ho⟩ : ∃ o, j * 11 = o := ⟨_, rfl⟩
      obtain ⟨c0, c1, c2, c3, c4, c5, c6, c7, c8, c9, c10⟩ := doc_cells (doc_below h hM.bel) hlt ho
      have hw := (hwf j hlt).2.2.1
      have C := Lib.hid (fun W => rhits_any (R j) 0 0 hw.1 hw.2 (by decide) (by decide) W)
      have hlt' : (j : Int) < (n : Int) := by omega
      have hAE : (⟨g, 0, none⟩ : Addr).add o = ⟨g, o, none⟩ := by unfold Addr.add; split <;> simp_all
      have hcnt := Lib.hid (show cntE R p (j + 1) = cntE R p j + if (R j).valid && p (R j) then 1 else 0 from rfl)
      have hmiss := Lib.hid (fun h => dropE_miss (T := R) (p := p) (n := j) h)
      have hhit := Lib.hid (fun h => dropE_hit (T := R) (p := p) (n := j) h)
      go_wp2_with fail
      refine (C.out _).mono ?_; rintro r w1 ⟨rfl, hb1⟩
      have hM1 := hM.low hb1
      clear c0 c1 c2 c3 c4 c5 c6 c7 c8 c9 c10 hM
      obtain ⟨c0, c1, c2, c3, c4, c5, c6, c7, c8, c9, c10⟩ := doc_cells (doc_below h hM1.bel) hlt ho
      clear hb1 C
      generalize (R j).hitsB 0 0 = A at *
      cases hv : (R j).valid
      · rw [hv] at c10
        have hv0 : ((R j).valid && p (R j)) = false := by rw [hv]; rfl
        have hcnt2 := Lib.hid (show cntE R p (j + 1) = cntE R p j from by rw [hcnt.out, hv0]; rfl)
        have hm2 := Lib.hid (hmiss.out hv0)
        clear hcnt hmiss hhit hv0
        generalize cntE R p j = c at *
        go_wp2_with fail
        go_roundw
        case rel => exact ⟨j + 1, by omega, by go_num, by rw [hcnt2.out], hM1.bel, by rw [← hm2.out]; exact hM1.out⟩
        case measure => simp [intOf]; omega
      · rw [hv] at c10
        cases hg : (R j).att.lock
        · rw [hg] at c7
          have hv0 : ((R j).valid && p (R j)) = true := by rw [HP.out, hv, hg]; rfl
          have hcnt2 := Lib.hid (show cntE R p (j + 1) = cntE R p j + 1 from by rw [hcnt.out, hv0]; rfl)
          have hh2 := Lib.hid (hhit.out hv0)
          clear hcnt hmiss hhit hv0
          generalize cntE R p j = c at *
          have HW := with_any B g2 cap2 n (dropE R p j) j Ent.zero w1 hM1.out hn hlt
          rw [hh2.out] at HW
          have HW := Lib.hid HW
          clear hh2
          go_wp2_with fail
          refine HW.out.mono ?_; rintro r w3 ⟨v3, rfl, hd3, hb3⟩
          have hM3 : DM w w3 B n R p (j + 1) v3 := ⟨hM1.bel.trans (hb3.mono hM1.bel.size), doc_low hd3 (Nat.le_trans hB hM1.bel.size)⟩
          clear hM1 hd3 hb3 HW c0 c1 c2 c3 c4 c5 c6 c7 c8 c9 c10
          go_wp2_with fail
          go_roundw
          case rel => exact ⟨j + 1, by omega, by go_num, by rw [hcnt2.out]; go_num, hM3⟩
          case measure => simp [intOf]; omega
        · rw [hg] at c7
          have hv0 : ((R j).valid && p (R j)) = false := by rw [HP.out, hv, hg]; rfl
          have hcnt2 := Lib.hid (show cntE R p (j + 1) = cntE R p j from by rw [hcnt.out, hv0]; rfl)
          have hm2 := Lib.hid (hmiss.out hv0)
          clear hcnt hmiss hhit hv0
          generalize cntE R p j = c at *
          go_wp2_with fail
          go_roundw
          case rel => exact ⟨j + 1, by omega, by go_num, by rw [hcnt2.out], hM1.bel, by rw [← hm2.out]; exact hM1.out⟩
          case measure => simp [intOf]; omega
    · obtain rfl : n = j := by omega
      go_wp2_with fail
      go_ret2
      exact ⟨_, rfl, hM.out, hM.bel⟩
theorem rsame_any (l : List Ent) (u v : Value) (B C : Nat) (w : World) (hl : l.length ≤ 64) (h1 : ListAt w B u l) (h2 : ListAt w C v l) :
    Calls Try.prog 37 #[u, v] w fun r w' => r = .returned (.bool true) ∧ Below w.heap.size w w' := by
  obtain ⟨ao, cap, rfl⟩ := own_shape h1
  obtain ⟨ao2, cap2, rfl⟩ := own_shape h2
  obtain ⟨m, hm⟩ : ∃ m, l.length = m := ⟨_, rfl⟩
  have HC := Lib.hid (fun (j o : Nat) (hj : j < m) (ho : j * 11 = o) => (by
    subst hm
    obtain ⟨g, c, hv, a1, a2, _, _, a3, _⟩ := doc_at h1 (by omega)
    obtain ⟨g', c', hv', b1, b2, _, _, b3, _⟩ := doc_at h2 (by omega)
    simp only [Value.slice.injEq, true_and] at hv hv'
    obtain ⟨rfl, rfl⟩ := hv
    obtain ⟨rfl, rfl⟩ := hv'
    exact ⟨g, g', rfl, rfl, a1, a2, b1, b2, a3 j o hj ho, b3 j o hj ho⟩ : ∃ g g', ao = some ⟨g, 0, none⟩ ∧ ao2 = some ⟨g', 0, none⟩ ∧ m ≤ cap ∧ cap ≤ maxLen ∧ m ≤ cap2 ∧ cap2 ≤ maxLen ∧ (w.cell? ⟨g, o, none⟩ = some (.int .i64 (nthE l j).size) ∧ w.cell? ⟨g, o + 1, none⟩ = some (.int .i64 (nthE l j).ctx) ∧ w.cell? ⟨g, o + 2, none⟩ = some (.int .u64 (nthE l j).va) ∧ w.cell? ⟨g, o + 3, none⟩ = some (.int .u64 (nthE l j).pa) ∧ w.cell? ⟨g, o + 4, none⟩ = some (.bool (nthE l j).att.write) ∧ w.cell? ⟨g, o + 5, none⟩ = some (.bool (nthE l j).att.priv) ∧ w.cell? ⟨g, o + 6, none⟩ = some (.bool (nthE l j).att.exec) ∧ w.cell? ⟨g, o + 7, none⟩ = some (.bool (nthE l j).att.lock) ∧ w.cell? ⟨g, o + 8, none⟩ = some (.bool (nthE l j).att.global) ∧ w.cell? ⟨g, o + 9, none⟩ = some (.bool (nthE l j).att.quiet) ∧ w.cell? ⟨g, o + 10, none⟩ = some (.bool (nthE l j).valid)) ∧ (w.cell? ⟨g', o, none⟩ = some (.int .i64 (nthE l j).size) ∧ w.cell? ⟨g', o + 1, none⟩ = some (.int .i64 (nthE l j).ctx) ∧ w.cell? ⟨g', o + 2, none⟩ = some (.int .u64 (nthE l j).va) ∧ w.cell? ⟨g', o + 3, none⟩ = some (.int .u64 (nthE l j).pa) ∧ w.cell? ⟨g', o + 4, none⟩ = some (.bool (nthE l j).att.write) ∧ w.cell? ⟨g', o + 5, none⟩ = some (.bool (nthE l j).att.priv) ∧ w.cell? ⟨g', o + 6, none⟩ = some (.bool (nthE l j).att.exec) ∧ w.cell? ⟨g', o + 7, none⟩ = some (.bool (nthE l j).att.lock) ∧ w.cell? ⟨g', o + 8, none⟩ = some (.bool (nthE l j).att.global) ∧ w.cell? ⟨g', o + 9, none⟩ = some (.bool (nthE l j).att.quiet) ∧ w.cell? ⟨g', o + 10, none⟩ = some (.bool (nthE l j).valid))))
  rw [hm] at hl ⊢
  clear h1 h2 hm
  go_enter Try.func37, Try.ntmps37
  go_wp2_with fail
  go_loopw [5] (fun i wr => ∃ j : Nat, j ≤ m ∧ i = .int .i64 (j : Int) ∧ Below w.heap.size w wr) (fun i _ => m - (intOf i).toNat)
  case atStart => exact ⟨0, by omega, rfl, Below.refl _ _⟩
  case round =>
    obtain ⟨j, hj, rfl, hB⟩ := hrel
    by_cases hlt : j < m
    · obtain ⟨o, ho⟩ : ∃ o, j * 11 = o := ⟨_, rfl⟩
      obtain ⟨g, g', rfl, rfl, k1, k2, k3, k4, hx, hy⟩ := HC.out j o hlt ho
      unfold maxLen at k2 k4
      have hcl : ∀ {b o : Nat} {v : Value}, w.cell? ⟨b, o, none⟩ = some v → wr.cell? ⟨b, o, none⟩ = some v := fun {b o v} hc => (hB.cell (p := ⟨b, o, none⟩) (lt_cell hc)).trans hc
      obtain ⟨x0, x1, x2, x3, x4, x5, x6, x7, x8, x9, x10⟩ := hx
      obtain ⟨y0, y1, y2, y3, y4, y5, y6, y7, y8, y9, y10⟩ := hy
      replace x0 := hcl x0; replace x1 := hcl x1; replace x2 := hcl x2; replace x3 := hcl x3; replace x4 := hcl x4; replace x5 := hcl x5; replace x6 := hcl x6; replace x7 := hcl x7; replace x8 := hcl x8; replace x9 := hcl x9; replace x10 := hcl x10
      replace y0 := hcl y0; replace y1 := hcl y1; replace y2 := hcl y2; replace y3 := hcl y3; replace y4 := hcl y4; replace y5 := hcl y5; replace y6 := hcl y6; replace y7 := hcl y7; replace y8 := hcl y8; replace y9 := hcl y9; replace y10 := hcl y10
      have hlt' : (j : Int) < (m : Int) := by omega
      have hAE : (⟨g, 0, none⟩ : Addr).add o = ⟨g, o, none⟩ := by unfold Addr.add; split <;> simp_all
      have hAE' : (⟨g', 0, none⟩ : Addr).add o = ⟨g', o, none⟩ := by unfold Addr.add; split <;> simp_all
      generalize nthE l j = e at *
      clear HC hcl
      go_wp2_with fail
      go_quiet (fail)
      have hBq := below_drewN hB nq
      clear x0 x1 x2 x3 x4 x5 x6 x7 x8 x9 x10 y0 y1 y2 y3 y4 y5 y6 y7 y8 y9 y10 hB
      go_wp2_with fail
      go_roundw
      case rel => exact ⟨j + 1, by omega, by go_num, hBq⟩
      case measure => simp [intOf]; omega
    · obtain rfl : m = j := by omega
      go_wp2_with fail
      go_ret
      exact ⟨rfl, hB⟩
end Go.Proofs.Ytbhpljjogmagoaa.Tl
