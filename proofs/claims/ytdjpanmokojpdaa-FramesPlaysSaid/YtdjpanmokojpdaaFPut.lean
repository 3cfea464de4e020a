/-
  Contract of put of the document's package for layer 5. Conditions: lists of at most 2 to the 16 numbers.
-/
import Derived.Test.YtdjpanmokojpdaaFDoc
namespace Go.Proofs.Ytdjpanmokojpdaa.Frm
open Fld
open Go.ChangeShapes Go.WideShapes Go.ChangeAt Go.RowKit
set_option maxHeartbeats 1000000
theorem run_append0 (base xo : Option Addr) (n cap xc : Nat) (h : n ≤ cap) (w : World) : (Builtin.append_ #[25, 25] 25 #[.slice base n cap, .slice xo 0 xc]).run Try.prog w = .ok (.slice base n cap) w := by
  obtain ⟨i0, hi, hz0, hz1, hz2⟩ := info_parts infoInt
  cases base <;> cases xo <;> simp [Builtin.append_, run_underlying Try.underlying25, sizeOf, typeInfo, hi, Builtin.lenOf, h, Builtin.firstCells, storeCells, loadCells, loadCellsFrom]
theorem wpList_append0 {w : World} {ops : Array Oper} {rest : List Oper} {o : Oper} {a : Act} {Q : Exit → Act → World → Prop} (hgd : o.guard = none) (s x : Operand)
    (ho : o.op = .call { callee := .builtin .append, args := #[s, x], argTypes := #[25, 25] }) (hty : o.type = 25) (base xo : Option Addr) (n cap xc : Nat) (h0 : n ≤ cap)
    (hs : a.eval s = .slice base n cap) (hx : a.eval x = .slice xo 0 xc) (h : wpList Try.prog ops Q rest (a.put o.dst (.slice base n cap)) w) : wpList Try.prog ops Q (o :: rest) a w := by
  refine wpList_plain hgd fun K hK => ?_
  unfold Oper.wp execOp
  simp only [ho, resolve, invoke, builtin, Sem.run_bind, Sem.run_pure, Result.andThen_ok, List.map_toArray, List.map_cons, List.map_nil, hs, hx, hty, run_append0 base xo n cap xc h0]
  exact hK _ _ h
/-- Since w: the boxed frames, the result's place, and a list that is made. -/
structure FD (w wr : World) (N : Nat) (v v' : Value) (P : List Int) : Prop where
  bel : Below w.heap.size w wr
  m : wr.heap[w.heap.size]? = some (.cells #[.int .i64 (N : Int), v] 27 (0, 0))
  r : wr.heap[w.heap.size + 1]? = some (.cells #[.int .i64 0, .slice none 0 0] 27 (0, 0))
  own : wr.ownsRow (w.heap.size + 2) 3 1 v' P.length (intsV P)
  two : w.heap.size + 2 ≤ wr.heap.size
theorem FD.start (w : World) (N : Nat) (v : Value) : FD w ((w.alloc (.cells #[.int .i64 (N : Int), v] 27)).alloc (.cells #[.int .i64 0, .slice none 0 0] 27)) N v (.slice none 0 0) [] where
  bel := ((Below.refl _ _).alloc (Nat.le_refl _) _).alloc (by simp) _
  m := by rw [Below.heap_alloc _ _ _ (by simp)]; exact heap_alloc_new _ _
  r := by
    have := heap_alloc_new (w.alloc (.cells #[.int .i64 (N : Int), v] 27)) (.cells #[.int .i64 0, .slice none 0 0] 27)
    simpa using this
  own := World.ownsRow_nil _ _ _ _
  two := by simp
theorem FD.alloc {w wr : World} {N : Nat} {v v' : Value} {P : List Int} (h : FD w wr N v v' P) (o : Obj) : FD w (wr.alloc o) N v v' P :=
  ⟨h.bel.alloc h.bel.size _, (Below.heap_alloc _ _ _ (by have := h.two; omega)).trans h.m, (Below.heap_alloc _ _ _ (by have := h.two; omega)).trans h.r, h.own.alloc _, by have := h.two; simp; omega⟩
theorem FD.grow {w wr w1 : World} {N : Nat} {v v' v1 : Value} {P Q : List Int} (h : FD w wr N v v' P) (hg : wr.grownBy w1 v'.ownBlock) (ho : w1.ownsRow (w.heap.size + 2) 3 1 v1 Q.length (intsV Q)) : FD w w1 N v v1 Q := by
  have h2 := h.two
  have kp : ∀ i, i < w.heap.size + 2 → w1.heap[i]? = wr.heap[i]? := fun i hi =>
    hg.block i (by omega) (fun e => by have := (h.own.lt i e.symm).1; omega)
  exact ⟨h.bel.grown hg h.bel.size (fun j hj => by have := (h.own.lt j hj).1; omega), (kp _ (by omega)).trans h.m, (kp _ (by omega)).trans h.r, ho, Nat.le_trans h2 hg.size⟩
theorem FD.cells {w wr : World} {N : Nat} {v v' : Value} {P : List Int} (h : FD w wr N v v' P) : wr.cell? ⟨w.heap.size, 0, none⟩ = some (.int .i64 (N : Int)) ∧ wr.cell? ⟨w.heap.size, 1, none⟩ = some v ∧ wr.frozen? ⟨w.heap.size, 0, none⟩ = false ∧ wr.frozen? ⟨w.heap.size, 1, none⟩ = false ∧ wr.cell? ⟨w.heap.size + 1, 0, none⟩ = some (.int .i64 0) ∧ wr.cell? ⟨w.heap.size + 1, 1, none⟩ = some (.slice none 0 0) ∧ wr.frozen? ⟨w.heap.size + 1, 0, none⟩ = false ∧ wr.frozen? ⟨w.heap.size + 1, 1, none⟩ = false :=
  ⟨by simp [World.cell?, h.m], by simp [World.cell?, h.m], by simp [World.frozen?, h.m], by simp [World.frozen?, h.m], by simp [World.cell?, h.r], by simp [World.cell?, h.r], by simp [World.frozen?, h.r], by simp [World.frozen?, h.r]⟩
theorem own_set {w : World} {B e z n b o : Nat} {v : Value} {xs : List Value} (h : w.ownsRow B e z v n xs) (hb : b < B) (u : Value) : (w.setCell ⟨b, o, none⟩ u).ownsRow B e z v n xs := by
  refine ⟨h.1, ?_⟩
  rcases h.2 with hn | ⟨g, cap, cur, rfl, hb2, hg, rest⟩
  · exact .inl hn
  · exact .inr ⟨g, cap, cur, rfl, hb2, (Below.heap_setCell _ _ _ _ (by show g ≠ b; omega)).trans hg, rest⟩
theorem own_low {w : World} {B C e z n : Nat} {v : Value} {xs : List Value} (h : w.ownsRow B e z v n xs) (hC : C ≤ B) : w.ownsRow C e z v n xs := by
  refine ⟨h.1, ?_⟩
  rcases h.2 with hn | ⟨g, cap, cur, rfl, hb2, rest⟩
  · exact .inl hn
  · exact .inr ⟨g, cap, cur, rfl, by omega, rest⟩
/-- What a function of the document does that answers frames: a number of them, and the taken ones. -/
def GivesD (w : World) (N : Nat) (P : List Int) (x : Value) (w' : World) : Prop := ∃ ao cap, x = .agg #[.int .i64 (N : Int), .slice ao P.length cap] ∧ OwnI w' w.heap.size ao cap P ∧ Below w.heap.size w w'
/-- The end: the list is laid into the boxed frames, these into the result's place. -/
theorem FD.last {w wr : World} {N : Nat} {v v' : Value} {P : List Int} (h : FD w wr N v v' P) :
    (((wr.setCell ⟨w.heap.size, 1, none⟩ v').setCell ⟨w.heap.size + 1, 0, none⟩ (.int .i64 (N : Int))).setCell ⟨w.heap.size + 1, 1, none⟩ v').heap[w.heap.size + 1]? = some (.cells #[.int .i64 (N : Int), v'] 27 (0, 0)) ∧
    (((wr.setCell ⟨w.heap.size, 1, none⟩ v').setCell ⟨w.heap.size + 1, 0, none⟩ (.int .i64 (N : Int))).setCell ⟨w.heap.size + 1, 1, none⟩ v').ownsRow w.heap.size 3 1 v' P.length (intsV P) ∧
    Below w.heap.size w (((wr.setCell ⟨w.heap.size, 1, none⟩ v').setCell ⟨w.heap.size + 1, 0, none⟩ (.int .i64 (N : Int))).setCell ⟨w.heap.size + 1, 1, none⟩ v') := by
  refine ⟨?_, ?_, ?_⟩
  · have h1 : (wr.setCell ⟨w.heap.size, 1, none⟩ v').heap[w.heap.size + 1]? = some (.cells #[.int .i64 0, .slice none 0 0] 27 (0, 0)) := (Below.heap_setCell _ _ _ _ (by simp)).trans h.r
    rw [heap_set (heap_set h1 _) _]; rfl
  · exact own_low (own_set (own_set (own_set h.own (by omega) _) (by omega) _) (by omega) _) (by omega)
  · exact ((h.bel.setCell (Nat.le_refl _) _).setCell (by simp) _).setCell (by simp) _
theorem own_cap {w : World} {B e z n cap : Nat} {ao : Option Addr} {xs : List Value} (h : w.ownsRow B e z (.slice ao n cap) n xs) : n ≤ cap := by
  rcases h.2 with ⟨hn, h0⟩ | ⟨g, cap', cur, hv, _, _, h1, _⟩
  · omega
  · injection hv with a b c; omega
theorem own_or {w : World} {B e z n cap : Nat} {ao : Option Addr} {xs : List Value} (h : w.ownsRow B e z (.slice ao n cap) n xs) : (ao = none ∧ n = 0 ∧ cap = 0) ∨ ∃ g, ao = some ⟨g, 0, none⟩ ∧ n ≤ cap ∧ cap ≤ maxLen := by
  rcases h.2 with ⟨hn, h0⟩ | ⟨g, cap', cur, hv, _, _, h1, h2, _⟩
  · injection hn with a b c; exact .inl ⟨a, h0, c⟩
  · injection hv with a b c; exact .inr ⟨g, a, by omega, by omega⟩
theorem rput_any (N B cap f k : Nat) (ao : Option Addr) (A C : List Int) (w : World) (h : OwnI w B ao cap (A ++ C)) (hA : ∀ x ∈ A, x < (f : Int)) (hC : ∀ x ∈ C, (f : Int) ≤ x) (hl : (A ++ C).length ≤ 65536) (hf : f + k ≤ 65536) :
    Calls Try.prog 42 #[.agg #[.int .i64 (N : Int), .slice ao (A ++ C).length cap], .int .i64 (f : Int), .int .i64 (k : Int)] w fun e w' => ∃ x, e = .returned x ∧ GivesD w N (A ++ ((List.range k).map (fun j : Nat => (f : Int) + (j : Int)) ++ C)) x w' := by
  obtain ⟨i0, hi, hz0, hz1, hz2⟩ := info_parts infoInt
  have F0 := FD.start w N (.slice ao (A ++ C).length cap)
  have hAl : A.length ≤ (A ++ C).length := by simp
  obtain ⟨m, hm⟩ : ∃ m, (A ++ C).length = m := ⟨_, rfl⟩
  rw [hm] at F0 hAl hl ⊢
  go_enter Try.func42, Try.ntmps42
  go_wp2
  go_loopw [7, 8] (fun v' i wr => ∃ j : Nat, j ≤ A.length ∧ i = .int .i64 (j : Int) ∧ FD w wr N (.slice ao m cap) v' (A.take j)) (fun _ i _ => A.length - (intOf i).toNat)
  case atStart => exact ⟨0, by omega, rfl, F0⟩
  case round =>
    obtain ⟨j, hj, rfl, F⟩ := hrel
    clear F0
    obtain ⟨ao', cap', rfl⟩ := own_shape F.own
    obtain ⟨m1, m2, m3, m4, r1, r2, r3, r4⟩ := F.cells
    have pl : (A.take j).length = j := by simp; omega
    have hrow : OwnI wr B ao cap (A ++ C) := own_below h (F.bel)
    by_cases hlt : j < A.length
    · obtain ⟨g, rfl, h1, h2, hB, hg, hc⟩ := ownI_at hrow j (by omega)
      have hx : (A ++ C)[j]'(by omega) = A[j] := List.getElem_append_left hlt
      rw [hx] at hc
      have hlt2 := hA A[j] (List.getElem_mem _)
      have ST := Lib.hid (show A.take (j + 1) = A.take j ++ [A[j]] from by rw [List.take_add_one, List.getElem?_eq_getElem hlt]; rfl)
      unfold maxLen at h2
      rw [hm] at h1
      have hjm : (j : Int) < (m : Int) := by omega
      generalize A[j] = x at *
      rw [pl] at *
      have hbase := F.two
      have PL := Lib.hid pl
      clear pl hx hrow
      go_wp2_with (at_builtin; refine wpList_append_own _ rfl _ _ 25 rfl (w.heap.size + 2) 3 i0 (.int .i64 0) 1 8 Try.underlying25 hi hz0 hz1 hz2 rfl (by decide) _ _ _ rfl (by have := F.own; rw [PL.out] at this; exact this.alloc _) ⟨wr.heap.size, 0, none⟩ 1 1 [.int .i64 x] rfl rfl (by exact news_int wr _ _) (by intro u hu; simp at hu; subst hu; rfl) (by unfold maxLen; omega) (by omega) (by simp; omega) ?_; intro v1 w1 ho1 hg1 _)
      go_roundw
      case rel => exact ⟨j + 1, by omega, by go_num, (F.alloc _).grow hg1 (by rw [ST.out, List.length_append, PL.out, intsV_snoc]; exact ho1)⟩
      case measure => simp [intOf]; omega
    · obtain rfl : A.length = j := by omega
      rw [pl] at F ⊢
      have F1 : FD w wr N (.slice ao m cap) (.slice ao' A.length cap') (A ++ (List.range 0).map (fun j : Nat => (f : Int) + (j : Int))) := by
        have := F
        rw [List.take_length] at this
        simpa using this
      cases C with
      | nil =>
        obtain rfl : m = A.length := by simp at hm; omega
        replace hm := Lib.hid hm
        go_wp2
        clear F
        go_loopw [7, 9] (fun v' i wr => ∃ q : Nat, q ≤ k ∧ i = .int .i64 (q : Int) ∧ FD w wr N (.slice ao A.length cap) v' (A ++ (List.range q).map (fun j : Nat => (f : Int) + (j : Int)))) (fun _ i _ => k - (intOf i).toNat)
        case atStart => exact ⟨0, by omega, rfl, F1⟩
        case round =>
          clear F1
          obtain ⟨q, hq, rfl, F⟩ := hrel
          obtain ⟨ao2, cap2, rfl⟩ := own_shape F.own
          obtain ⟨m1, m2, m3, m4, r1, r2, r3, r4⟩ := F.cells
          have hbase := F.two
          have ho := F.own
          have PL := Lib.hid (show (A ++ (List.range q).map (fun j : Nat => (f : Int) + (j : Int))).length = A.length + q by simp)
          have ST := Lib.hid (show A ++ (List.range (q + 1)).map (fun j : Nat => (f : Int) + (j : Int)) = (A ++ (List.range q).map (fun j : Nat => (f : Int) + (j : Int))) ++ [(f : Int) + (q : Int)] by rw [List.range_succ]; simp)
          by_cases hqk : (q : Int) < (k : Int)
          · generalize hY : A ++ (List.range q).map (fun j : Nat => (f : Int) + (j : Int)) = Y at *
            clear hY
            rw [PL.out] at ho F ⊢
            go_wp2_with (at_builtin; refine wpList_append_own _ rfl _ _ 25 rfl (w.heap.size + 2) 3 i0 (.int .i64 0) 1 8 Try.underlying25 hi hz0 hz1 hz2 rfl (by decide) _ _ _ rfl (by exact ho.alloc _) ⟨wr.heap.size, 0, none⟩ 1 1 [.int .i64 ((f : Int) + (q : Int))] rfl rfl (by exact news_int wr _ _) (by intro u hu; simp at hu; subst hu; rfl) (by unfold maxLen; omega) (by omega) (by simp; omega) ?_; intro v1 w1 ho1 hg1 _)
            go_roundw
            case rel => exact ⟨q + 1, by omega, by go_num, (F.alloc _).grow hg1 (by rw [ST.out, List.length_append, PL.out, intsV_snoc]; exact ho1)⟩
            case measure => simp [intOf]; omega
          · obtain rfl : k = q := by omega
            clear ST
            have hcl := own_cap (by have := F.own; rwa [PL.out] at this)
            obtain ⟨L1, L2, L3⟩ := F.last
            rw [PL.out] at F L1 L2 L3 ⊢
            rcases own_or h with ⟨rfl, hz, rfl⟩ | ⟨g, rfl, h1, h2⟩
            · obtain rfl : A = [] := List.eq_nil_of_length_eq_zero (by simpa using hz)
              simp only [List.length_nil, Nat.zero_add, List.nil_append] at m2 L1 L2 L3 hcl F ⊢
              have HL := Lib.hid L1
              clear L1
              go_wp2_with (at_builtin; refine wpList_append0 rfl _ _ rfl rfl ao2 _ _ cap2 _ hcl rfl rfl ?_)
              refine bodyPost_ret (results_cell_row rfl _ _ _ _ #[.int .i64 (N : Int), .slice ao2 k cap2] (0, 0) _ rfl HL.out Try.underlying27 (by kernel_rfl) (by kernel_rfl)) rfl ⟨_, rfl, ao2, cap2, by simp, ?_, L3⟩
              have e : ((List.range k).map (fun j : Nat => (f : Int) + (j : Int))).length = k := by simp
              unfold OwnI
              rw [e]
              exact L2
            · simp only [List.append_nil] at h1
              unfold maxLen at h2
              have HL := Lib.hid L1
              clear L1
              go_wp2_with (at_builtin; refine wpList_append0 rfl _ _ rfl rfl ao2 _ _ cap2 _ hcl rfl rfl ?_)
              all_goals
                refine bodyPost_ret (results_cell_row rfl _ _ _ _ #[.int .i64 (N : Int), .slice ao2 (A.length + k) cap2] (0, 0) _ rfl HL.out Try.underlying27 (by kernel_rfl) (by kernel_rfl)) rfl ⟨_, rfl, ao2, cap2, by simp, ?_, L3⟩
                unfold OwnI
                rw [PL.out]
                exact L2
      | cons c0 C0 =>
        have hm2 : A.length + (C0.length + 1) = m := by simpa using hm
        obtain ⟨g, rfl, h1, h2, hB, hg, hc⟩ := ownI_at hrow A.length (by omega)
        have hx : (A ++ c0 :: C0)[A.length]'(by simp) = c0 := by simp
        rw [hx] at hc
        have hle := hC c0 (by simp)
        unfold maxLen at h2
        rw [hm] at h1
        have hjm : (A.length : Int) < (m : Int) := by omega
        have hnl : ¬ (c0 < (f : Int)) := by omega
        clear hx hrow
        replace hm := Lib.hid hm
        go_wp2
        clear F
        go_loopw [7, 9] (fun v' i wr => ∃ q : Nat, q ≤ k ∧ i = .int .i64 (q : Int) ∧ FD w wr N (.slice (some ⟨g, 0, none⟩) m cap) v' (A ++ (List.range q).map (fun j : Nat => (f : Int) + (j : Int)))) (fun _ i _ => k - (intOf i).toNat)
        case atStart => exact ⟨0, by omega, rfl, F1⟩
        case round =>
          clear F1
          obtain ⟨q, hq, rfl, F⟩ := hrel
          obtain ⟨ao2, cap2, rfl⟩ := own_shape F.own
          obtain ⟨m1, m2, m3, m4, r1, r2, r3, r4⟩ := F.cells
          have hbase := F.two
          have ho := F.own
          have PL := Lib.hid (show (A ++ (List.range q).map (fun j : Nat => (f : Int) + (j : Int))).length = A.length + q by simp)
          have ST := Lib.hid (show A ++ (List.range (q + 1)).map (fun j : Nat => (f : Int) + (j : Int)) = (A ++ (List.range q).map (fun j : Nat => (f : Int) + (j : Int))) ++ [(f : Int) + (q : Int)] by rw [List.range_succ]; simp)
          by_cases hqk : (q : Int) < (k : Int)
          · generalize hY : A ++ (List.range q).map (fun j : Nat => (f : Int) + (j : Int)) = Y at *
            clear hY
            rw [PL.out] at ho F ⊢
            go_wp2_with (at_builtin; refine wpList_append_own _ rfl _ _ 25 rfl (w.heap.size + 2) 3 i0 (.int .i64 0) 1 8 Try.underlying25 hi hz0 hz1 hz2 rfl (by decide) _ _ _ rfl (by exact ho.alloc _) ⟨wr.heap.size, 0, none⟩ 1 1 [.int .i64 ((f : Int) + (q : Int))] rfl rfl (by exact news_int wr _ _) (by intro u hu; simp at hu; subst hu; rfl) (by unfold maxLen; omega) (by omega) (by simp; omega) ?_; intro v1 w1 ho1 hg1 _)
            go_roundw
            case rel => exact ⟨q + 1, by omega, by go_num, (F.alloc _).grow hg1 (by rw [ST.out, List.length_append, PL.out, intsV_snoc]; exact ho1)⟩
            case measure => simp [intOf]; omega
          · obtain rfl : k = q := by omega
            clear ST
            have hrow : OwnI wr B (some ⟨g, 0, none⟩) cap (A ++ c0 :: C0) := own_below h F.bel
            have hnews : ∀ j u, (intsV (c0 :: C0))[j]? = some u → wr.cell? ((⟨g, A.length, none⟩ : Addr).add j) = some u := fun j u hj => by
              have hj2 : j < C0.length + 1 := by have := (List.getElem?_eq_some_iff.1 hj).1; simpa [intsV] using this
              obtain ⟨g', e, _, _, _, _, hc'⟩ := ownI_at hrow (A.length + j) (by simp; omega)
              obtain rfl : g = g' := by injection e with e; injection e
              have e2 : ((⟨g, A.length, none⟩ : Addr).add j) = ⟨g, A.length + j, none⟩ := by cases j <;> simp [Addr.add]
              rw [e2, hc']
              rw [List.getElem_append_right (by omega)]
              simp only [intsV, List.getElem?_map] at hj
              obtain ⟨y, hy, rfl⟩ := Option.map_eq_some_iff.1 hj
              obtain ⟨hy1, hy2⟩ := List.getElem?_eq_some_iff.1 hy
              congr 2
              rw [← hy2]
              congr 1
              omega
            have ho := F.own
            rw [PL.out] at F ho ⊢
            clear hC h
            have hmA : m - A.length = C0.length + 1 := by omega
            go_wp2_with (at_builtin; (refine wpList_append_own _ rfl _ _ 25 rfl (w.heap.size + 2) 3 i0 (.int .i64 0) 1 8 Try.underlying25 hi hz0 hz1 hz2 rfl (by decide) _ _ _ rfl ho ⟨g, A.length, none⟩ (C0.length + 1) (cap - A.length) (intsV (c0 :: C0)) rfl (by simp [intsV]) hnews (by intro u hu; simp [intsV] at hu; rcases hu with rfl | ⟨y, _, rfl⟩ <;> rfl) (by unfold maxLen; omega) (by omega) (by omega) ?_); intro v1 w1 ho1 hg1 _; have F1 := F.grow (Q := A ++ ((List.range k).map (fun j : Nat => (f : Int) + (j : Int)) ++ c0 :: C0)) hg1 (by rw [← List.append_assoc, List.length_append, PL.out]; simpa [intsV] using ho1); obtain ⟨ao3, cap3, rfl⟩ := own_shape F1.own; obtain ⟨m1, m2, m3, m4, r1, r2, r3, r4⟩ := F1.cells)
            obtain ⟨L1, L2, L3⟩ := F1.last
            have e : (A ++ ((List.range k).map (fun j : Nat => (f : Int) + (j : Int)) ++ c0 :: C0)).length = A.length + (k + (C0.length + 1)) := by simp
            rw [e] at L1 L2 L3
            refine bodyPost_ret (results_cell_row rfl _ _ _ _ #[.int .i64 (N : Int), .slice ao3 (A.length + (k + (C0.length + 1))) cap3] (0, 0) _ rfl L1 Try.underlying27 (by kernel_rfl) (by kernel_rfl)) rfl ⟨_, rfl, ao3, cap3, by simp, ?_, L3⟩
            unfold OwnI
            rw [e]
            exact L2
end Go.Proofs.Ytdjpanmokojpdaa.Frm
