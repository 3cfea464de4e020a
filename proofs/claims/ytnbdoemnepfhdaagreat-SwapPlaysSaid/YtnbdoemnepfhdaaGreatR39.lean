/-
  Contracts and plain facts: FTaken, FDoc, FPut, FTk, FTk2, FGive. Conditions: each says its own.
-/
import Derived.Test.YtnbdoemnepfhdaaGreatR38
import Derived.Maps.AppendAt
import Derived.WalkSmall
import Derived.Test.YtnbdoemnepfhdaaGreatR29
namespace Go.Proofs.YtnbdoemnepfhdaaGreat.Frm
open Fld
open Go.ChangeShapes Go.WideShapes Go.ChangeAt Go.RowKit
set_option maxHeartbeats 400000
theorem own_turn {w wr w' : World} {e z n k : Nat} {v : Value} {xs : List Value} (h : wr.ownsRow (w.heap.size + 2) e z v n xs) (ht : Turn wr w' (w.heap.size + 1) w.heap.size) (_ : k = k) : w'.ownsRow (w.heap.size + 2) e z v n xs := by
  refine ⟨h.1, ?_⟩
  rcases h.2 with hn | ⟨g, cap, cur, rfl, hb2, hg, rest⟩
  · exact .inl hn
  · refine .inr ⟨g, cap, cur, rfl, hb2, ?_, rest⟩
    rw [ht.block g (Array.getElem?_eq_some_iff.1 hg).1 (by omega) (by omega)]; exact hg
/-! ### Runs that do not meet -/
/-- The runs are there, do not meet, and are just what is taken. -/
structure Apart (n : Nat) (T : Nat → Bool) (l : List (Nat × Nat)) : Prop where
  inn : ∀ p ∈ l, 0 < p.2 ∧ p.1 + p.2 ≤ n
  is : ∀ q, q < n → (T q = true ↔ ∃ p ∈ l, p.1 ≤ q ∧ q < p.1 + p.2)
  no : l.Pairwise (fun p r => p.1 + p.2 ≤ r.1 ∨ r.1 + r.2 ≤ p.1)
theorem Apart.miss {n : Nat} {T : Nat → Bool} {l : List (Nat × Nat)} (h : Apart n T l) {i k : Nat} (hk : i + k ≤ n) (h0 : 0 < k) (ha : allB T i k false = true) {p : Nat × Nat} (hp : p ∈ l) : i + k ≤ p.1 ∨ p.1 + p.2 ≤ i := by
  apply Classical.byContradiction
  intro hc
  obtain ⟨a1, a2⟩ := h.inn p hp
  rw [allB_mem] at ha
  have h1 := ha (max i p.1) (by omega) (by omega)
  have h2 := (h.is (max i p.1) (by omega)).2 ⟨p, hp, by omega, by omega⟩
  rw [h1] at h2; cases h2
theorem Apart.take {n : Nat} {T : Nat → Bool} {l : List (Nat × Nat)} (h : Apart n T l) {i k : Nat} (hk : i + k ≤ n) (h0 : 0 < k) (ha : allB T i k false = true) : Apart n (setT T i k true) (l ++ [(i, k)]) := by
  refine ⟨?_, ?_, ?_⟩
  · intro p hp
    rcases List.mem_append.1 hp with hp | hp
    · exact h.inn p hp
    · simp at hp; subst hp; exact ⟨h0, hk⟩
  · intro q hq
    by_cases hi : i ≤ q ∧ q < i + k
    · rw [setT_in hi.1 hi.2]; simp only [true_iff]; exact ⟨(i, k), by simp, hi⟩
    · rw [setT_out (by omega), h.is q hq]
      constructor
      · rintro ⟨p, hp, h2⟩; exact ⟨p, by simp [hp], h2⟩
      · rintro ⟨p, hp, h2⟩
        rcases List.mem_append.1 hp with hp | hp
        · exact ⟨p, hp, h2⟩
        · simp at hp; subst hp; exact absurd h2 hi
  · rw [List.pairwise_append]
    refine ⟨h.no, by simp, fun p hp r hr => ?_⟩
    simp at hr; subst hr
    have := h.miss hk h0 ha hp
    show p.1 + p.2 ≤ i ∨ i + k ≤ p.1
    omega
theorem Apart.last {n : Nat} {T : Nat → Bool} (h : Apart n T []) : cnt T n = n ∧ lng T n = n ∧ lst T n = [] := by
  have e : ∀ q, q < n → T q = false := fun q hq => by
    have := h.is q hq
    simp at this
    exact this
  have h1 : cnt T n = n := (cnt_congr (U := fun _ => false) e).trans (cnt_new n)
  refine ⟨h1, lng_eq ⟨0, by omega, allB_mem.2 fun q _ hq => e q (by omega)⟩ (fun i k h2 _ => by omega), ?_⟩
  have := lst_length T n
  exact List.eq_nil_of_length_eq_zero (by omega)
theorem give_ok {T : Nat → Bool} {n i k : Nat} (h0 : 0 < k) (h : i + k ≤ n) (ha : allB T i k true = true) : giveE T n (i : Int) (k : Int) = 0 ∧ giveT T n (i : Int) (k : Int) = setT T i k false := by
  have e : giveE T n (i : Int) (k : Int) = 0 := by unfold giveE; rw [if_neg (by omega), if_neg (by omega)]; simp [ha]
  exact ⟨e, by unfold giveT; rw [e]; simp⟩
end Go.Proofs.YtnbdoemnepfhdaaGreat.Frm

namespace Go.Proofs.YtnbdoemnepfhdaaGreat.Frm
open Fld
open Go.ChangeShapes Go.WideShapes Go.ChangeAt Go.RowKit
set_option maxHeartbeats 1000000
set_option maxRecDepth 100000
abbrev OwnI (w : World) (B : Nat) (ao : Option Addr) (cap : Nat) (L : List Int) : Prop := w.ownsRow B 3 1 (.slice ao L.length cap) L.length (intsV L)
theorem ownI_at {w : World} {B cap : Nat} {ao : Option Addr} {L : List Int} (h : OwnI w B ao cap L) (j : Nat) (hj : j < L.length) :
    ∃ g, ao = some ⟨g, 0, none⟩ ∧ L.length ≤ cap ∧ cap ≤ maxLen ∧ B ≤ g ∧ g < w.heap.size ∧ w.cell? ⟨g, j, none⟩ = some (.int .i64 L[j]) := by
  have hh := h
  rcases h.2 with ⟨_, h0⟩ | ⟨g, cap', cur, hv, hB, hg, h1, h2, _, _⟩
  · omega
  · obtain ⟨rfl, rfl⟩ : ao = some ⟨g, 0, none⟩ ∧ cap = cap' := by injection hv with a b c; exact ⟨a, c⟩
    have hc := hh.cellAt j (by omega)
    refine ⟨g, rfl, h1, h2, hB, (Array.getElem?_eq_some_iff.1 hg).1, ?_⟩
    rw [hc]
    simp [intsV, hj]
theorem rnone_any (N B cap : Nat) (ao : Option Addr) (L : List Int) (f k : Int) (f0 : 0 ≤ f) (k0 : 0 ≤ k) (fk : f + k ≤ 1048576) (w : World) (h : OwnI w B ao cap L) (hl : L.length ≤ 1048576) :
    Calls Tryz.prog 83 #[.agg #[.int .i64 (N : Int), .slice ao L.length cap], .int .i64 f, .int .i64 k] w fun e w' => e = .returned (.bool (L.all (fun x => !inR f k x))) ∧ Below w.heap.size w w' := by
  have hb : Below w.heap.size w (w.alloc (.cells #[.int .i64 (N : Int), .slice ao L.length cap] 43)) := (Below.refl _ _).alloc (Nat.le_refl _) _
  have ho : OwnI (w.alloc (.cells #[.int .i64 (N : Int), .slice ao L.length cap] 43)) B ao cap L := h.alloc _
  go_enter Tryz.func83, Tryz.ntmps83
  go_wp2
  go_loop [7] (fun r => ∃ j : Nat, j ≤ L.length ∧ r = .int .i64 (j : Int) ∧ Hid (∀ q x, q < j → L[q]? = some x → inR f k x = false)) (fun r => L.length - (intOf r).toNat)
  case atStart => exact ⟨0, by omega, rfl, Lib.hid (fun q x hq => by omega)⟩
  case round =>
    obtain ⟨j, hj, rfl, HJ⟩ := hrel
    by_cases hlt : (j : Int) < (L.length : Int)
    · obtain ⟨g, rfl, h1, h2, hB, hg, hc⟩ := ownI_at ho j (by omega)
      have HX := Lib.hid (show L[j]? = some L[j] from List.getElem?_eq_getElem (by omega))
      unfold maxLen at h2
      generalize L[j] = x at *
      by_cases hx : f ≤ x
      · by_cases hx2 : x < f + k
        · have HR := Lib.hid (show L.all (fun x => !inR f k x) = false by
            rw [List.all_eq_false]
            exact ⟨x, List.mem_of_getElem? HX.out, by simp [inR, hx, hx2]⟩)
          go_wp2
          go_ret
          exact ⟨ret_bool HR.out.symm, hb⟩
        · have HJ2 := Lib.hid (show ∀ q y, q < j + 1 → L[q]? = some y → inR f k y = false from fun q y hq hy => by
            by_cases e : q = j
            · rw [e, HX.out] at hy; injection hy with hy; subst hy; simp [inR]; omega
            · exact HJ.out q y (by omega) hy)
          clear HJ HX
          go_wp2
          go_round
          case rel => exact ⟨j + 1, by omega, by go_num, HJ2⟩
          case measure => simp [intOf]; omega
      · have HJ2 := Lib.hid (show ∀ q y, q < j + 1 → L[q]? = some y → inR f k y = false from fun q y hq hy => by
          by_cases e : q = j
          · rw [e, HX.out] at hy; injection hy with hy; subst hy; simp [inR]; omega
          · exact HJ.out q y (by omega) hy)
        clear HJ HX
        go_wp2
        go_round
        case rel => exact ⟨j + 1, by omega, by go_num, HJ2⟩
        case measure => simp [intOf]; omega
    · have HR := Lib.hid (show L.all (fun x => !inR f k x) = true by
        rw [List.all_eq_true]
        intro x hm
        obtain ⟨q, hq⟩ := List.getElem?_of_mem hm
        have := (List.getElem?_eq_some_iff.1 hq).1
        rw [HJ.out q x (by omega) hq]; rfl)
      go_wp2
      go_ret
      exact ⟨ret_bool HR.out.symm, hb⟩
end Go.Proofs.YtnbdoemnepfhdaaGreat.Frm

namespace Go.Proofs.YtnbdoemnepfhdaaGreat.Frm
open Fld
open Go.ChangeShapes Go.WideShapes Go.ChangeAt Go.RowKit
set_option maxHeartbeats 1000000
set_option maxRecDepth 100000
theorem run_append0 (base xo : Option Addr) (n cap xc : Nat) (h : n ≤ cap) (w : World) : (Builtin.append_ #[41, 41] 41 #[.slice base n cap, .slice xo 0 xc]).run Tryz.prog w = .ok (.slice base n cap) w := by
  obtain ⟨i0, hi, hz0, hz1, hz2⟩ := info_parts infoInt
  cases base <;> cases xo <;> simp [Builtin.append_, run_underlying Tryz.underlying41, sizeOf, typeInfo, hi, Builtin.lenOf, h, Builtin.firstCells, storeCells, loadCells, loadCellsFrom]
theorem wpList_append0 {w : World} {ops : Array Oper} {rest : List Oper} {o : Oper} {a : Act} {Q : Exit → Act → World → Prop} (hgd : o.guard = none) (s x : Operand)
    (ho : o.op = .call { callee := .builtin .append, args := #[s, x], argTypes := #[41, 41] }) (hty : o.type = 41) (base xo : Option Addr) (n cap xc : Nat) (h0 : n ≤ cap)
    (hs : a.eval s = .slice base n cap) (hx : a.eval x = .slice xo 0 xc) (h : wpList Tryz.prog ops Q rest (a.put o.dst (.slice base n cap)) w) : wpList Tryz.prog ops Q (o :: rest) a w := by
  refine wpList_plain hgd fun K hK => ?_
  unfold Oper.wp execOp
  simp only [ho, resolve, invoke, builtin, Sem.run_bind, Sem.run_pure, Result.andThen_ok, List.map_toArray, List.map_cons, List.map_nil, hs, hx, hty, run_append0 base xo n cap xc h0]
  exact hK _ _ h
/-- Since w: the boxed frames, the result's place, and a list that is made. -/
structure FD (w wr : World) (N : Nat) (v v' : Value) (P : List Int) : Prop where
  bel : Below w.heap.size w wr
  m : wr.heap[w.heap.size]? = some (.cells #[.int .i64 (N : Int), v] 43 (0, 0))
  r : wr.heap[w.heap.size + 1]? = some (.cells #[.int .i64 0, .slice none 0 0] 43 (0, 0))
  own : wr.ownsRow (w.heap.size + 2) 3 1 v' P.length (intsV P)
  two : w.heap.size + 2 ≤ wr.heap.size
theorem FD.start (w : World) (N : Nat) (v : Value) : FD w ((w.alloc (.cells #[.int .i64 (N : Int), v] 43)).alloc (.cells #[.int .i64 0, .slice none 0 0] 43)) N v (.slice none 0 0) [] where
  bel := ((Below.refl _ _).alloc (Nat.le_refl _) _).alloc (by simp) _
  m := by rw [Below.heap_alloc _ _ _ (by simp)]; exact heap_alloc_new _ _
  r := by
    have := heap_alloc_new (w.alloc (.cells #[.int .i64 (N : Int), v] 43)) (.cells #[.int .i64 0, .slice none 0 0] 43)
    simpa using this
  own := World.ownsRow_nil _ _ _ _
  two := by simp
theorem FD.alloc {w wr : World} {N : Nat} {v v' : Value} {P : List Int} (h : FD w wr N v v' P) (o : Obj) : FD w (wr.alloc o) N v v' P :=
  ⟨h.bel.alloc h.bel.size _, (Below.heap_alloc _ _ _ (by have := h.two; omega)).trans h.m, (Below.heap_alloc _ _ _ (by have := h.two; omega)).trans h.r, h.own.alloc _, by have := h.two; simp; omega⟩
theorem FD.grow {w wr w1 : World} {N : Nat} {v v' v1 : Value} {P Q : List Int} (h : FD w wr N v v' P) (hg : wr.grownBy w1 v'.ownBlock) (ho : w1.ownsRow (w.heap.size + 2) 3 1 v1 Q.length (intsV Q)) : FD w w1 N v v1 Q := by
  have h2 := h.two
  have kp : ∀ i, i < w.heap.size + 2 → w1.heap[i]? = wr.heap[i]? := fun i hi =>
    hg.block i (by omega) (fun e => by have := (h.own.lt i e.symm).1; omega)
  exact ⟨h.bel.grown hg h.bel.size (fun j hj => by have := (h.own.lt j hj).1; omega), (kp _ (by omega)).trans h.m, (kp _ (by omega)).trans h.r, ho, Nat.le_trans h2 hg.size⟩
theorem FD.cells {w wr : World} {N : Nat} {v v' : Value} {P : List Int} (h : FD w wr N v v' P) : wr.cell? ⟨w.heap.size, 0, none⟩ = some (.int .i64 (N : Int)) ∧ wr.cell? ⟨w.heap.size, 1, none⟩ = some v ∧ wr.frozen? ⟨w.heap.size, 0, none⟩ = false ∧ wr.frozen? ⟨w.heap.size, 1, none⟩ = false ∧ wr.cell? ⟨w.heap.size + 1, 0, none⟩ = some (.int .i64 0) ∧ wr.cell? ⟨w.heap.size + 1, 1, none⟩ = some (.slice none 0 0) ∧ wr.frozen? ⟨w.heap.size + 1, 0, none⟩ = false ∧ wr.frozen? ⟨w.heap.size + 1, 1, none⟩ = false :=
  ⟨by simp [World.cell?, h.m], by simp [World.cell?, h.m], by simp [World.frozen?, h.m], by simp [World.frozen?, h.m], by simp [World.cell?, h.r], by simp [World.cell?, h.r], by simp [World.frozen?, h.r], by simp [World.frozen?, h.r]⟩
theorem own_set {w : World} {B e z n b o : Nat} {v : Value} {xs : List Value} (h : w.ownsRow B e z v n xs) (hb : b < B) (u : Value) : (w.setCell ⟨b, o, none⟩ u).ownsRow B e z v n xs := by
  refine ⟨h.1, ?_⟩
  rcases h.2 with hn | ⟨g, cap, cur, rfl, hb2, hg, rest⟩
  · exact .inl hn
  · exact .inr ⟨g, cap, cur, rfl, hb2, (Below.heap_setCell _ _ _ _ (by show g ≠ b; omega)).trans hg, rest⟩
theorem own_low {w : World} {B C e z n : Nat} {v : Value} {xs : List Value} (h : w.ownsRow B e z v n xs) (hC : C ≤ B) : w.ownsRow C e z v n xs := by
  refine ⟨h.1, ?_⟩
  rcases h.2 with hn | ⟨g, cap, cur, rfl, hb2, rest⟩
  · exact .inl hn
  · exact .inr ⟨g, cap, cur, rfl, by omega, rest⟩
/-- What a function of the document does that answers frames: a number of them, and the taken ones. -/
def GivesD (w : World) (N : Nat) (P : List Int) (x : Value) (w' : World) : Prop := ∃ ao cap, x = .agg #[.int .i64 (N : Int), .slice ao P.length cap] ∧ OwnI w' w.heap.size ao cap P ∧ Below w.heap.size w w'
/-- The end: the list is laid into the boxed frames, these into the result's place. -/
theorem FD.last {w wr : World} {N : Nat} {v v' : Value} {P : List Int} (h : FD w wr N v v' P) :
    (((wr.setCell ⟨w.heap.size, 1, none⟩ v').setCell ⟨w.heap.size + 1, 0, none⟩ (.int .i64 (N : Int))).setCell ⟨w.heap.size + 1, 1, none⟩ v').heap[w.heap.size + 1]? = some (.cells #[.int .i64 (N : Int), v'] 43 (0, 0)) ∧
    (((wr.setCell ⟨w.heap.size, 1, none⟩ v').setCell ⟨w.heap.size + 1, 0, none⟩ (.int .i64 (N : Int))).setCell ⟨w.heap.size + 1, 1, none⟩ v').ownsRow w.heap.size 3 1 v' P.length (intsV P) ∧
    Below w.heap.size w (((wr.setCell ⟨w.heap.size, 1, none⟩ v').setCell ⟨w.heap.size + 1, 0, none⟩ (.int .i64 (N : Int))).setCell ⟨w.heap.size + 1, 1, none⟩ v') := by
  refine ⟨?_, ?_, ?_⟩
  · have h1 : (wr.setCell ⟨w.heap.size, 1, none⟩ v').heap[w.heap.size + 1]? = some (.cells #[.int .i64 0, .slice none 0 0] 43 (0, 0)) := (Below.heap_setCell _ _ _ _ (by simp)).trans h.r
    rw [heap_set (heap_set h1 _) _]; rfl
  · exact own_low (own_set (own_set (own_set h.own (by omega) _) (by omega) _) (by omega) _) (by omega)
  · exact ((h.bel.setCell (Nat.le_refl _) _).setCell (by simp) _).setCell (by simp) _
theorem own_cap {w : World} {B e z n cap : Nat} {ao : Option Addr} {xs : List Value} (h : w.ownsRow B e z (.slice ao n cap) n xs) : n ≤ cap := by
  rcases h.2 with ⟨hn, h0⟩ | ⟨g, cap', cur, hv, _, _, h1, _⟩
  · omega
  · injection hv with a b c; omega
theorem own_or {w : World} {B e z n cap : Nat} {ao : Option Addr} {xs : List Value} (h : w.ownsRow B e z (.slice ao n cap) n xs) : (ao = none ∧ n = 0 ∧ cap = 0) ∨ ∃ g, ao = some ⟨g, 0, none⟩ ∧ n ≤ cap ∧ cap ≤ maxLen := by
  rcases h.2 with ⟨hn, h0⟩ | ⟨g, cap', cur, hv, _, _, h1, h2, _⟩
  · injection hn with a b c; exact .inl ⟨a, h0, c⟩
  · injection hv with a b c; exact .inr ⟨g, a, by omega, by omega⟩
theorem rput_any (N B cap f k : Nat) (ao : Option Addr) (A C : List Int) (w : World) (h : OwnI w B ao cap (A ++ C)) (hA : ∀ x ∈ A, x < (f : Int)) (hC : ∀ x ∈ C, (f : Int) ≤ x) (hl : (A ++ C).length ≤ 65536) (hf : f + k ≤ 65536) :
    Calls Tryz.prog 84 #[.agg #[.int .i64 (N : Int), .slice ao (A ++ C).length cap], .int .i64 (f : Int), .int .i64 (k : Int)] w fun e w' => ∃ x, e = .returned x ∧ GivesD w N (A ++ ((List.range k).map (fun j : Nat => (f : Int) + (j : Int)) ++ C)) x w' := by
  obtain ⟨i0, hi, hz0, hz1, hz2⟩ := info_parts infoInt
  have F0 := FD.start w N (.slice ao (A ++ C).length cap)
  have hAl : A.length ≤ (A ++ C).length := by simp
  obtain ⟨m, hm⟩ : ∃ m, (A ++ C).length = m := ⟨_, rfl⟩
  rw [hm] at F0 hAl hl ⊢
  go_enter Tryz.func84, Tryz.ntmps84
  go_wp2
  go_loopw [7, 8] (fun v' i wr => ∃ j : Nat, j ≤ A.length ∧ i = .int .i64 (j : Int) ∧ FD w wr N (.slice ao m cap) v' (A.take j)) (fun _ i _ => A.length - (intOf i).toNat)
  case atStart => exact ⟨0, by omega, rfl, F0⟩
  case round =>
    obtain ⟨j, hj, rfl, F⟩ := hrel
    clear F0
    obtain ⟨ao', cap', rfl⟩ := own_shape F.own
    obtain ⟨m1, m2, m3, m4, r1, r2, r3, r4⟩ := F.cells
    have pl : (A.take j).length = j := by simp; omega
    have hrow : OwnI wr B ao cap (A ++ C) := own_below h (F.bel)
    by_cases hlt : j < A.length
    · obtain ⟨g, rfl, h1, h2, hB, hg, hc⟩ := ownI_at hrow j (by omega)
      have hx : (A ++ C)[j]'(by omega) = A[j] := List.getElem_append_left hlt
      rw [hx] at hc
      have hlt2 := hA A[j] (List.getElem_mem _)
      have ST := Lib.hid (show A.take (j + 1) = A.take j ++ [A[j]] from by rw [List.take_add_one, List.getElem?_eq_getElem hlt]; rfl)
      unfold maxLen at h2
      rw [hm] at h1
      have hjm : (j : Int) < (m : Int) := by omega
      generalize A[j] = x at *
      rw [pl] at *
      have hbase := F.two
      have PL := Lib.hid pl
      clear pl hx hrow
      go_wp2_with (at_builtin; refine wpList_append_own _ rfl _ _ 41 rfl (w.heap.size + 2) 3 i0 (.int .i64 0) 1 8 Tryz.underlying41 hi hz0 hz1 hz2 rfl (by decide) _ _ _ rfl (by have := F.own; rw [PL.out] at this; exact this.alloc _) ⟨wr.heap.size, 0, none⟩ 1 1 [.int .i64 x] rfl rfl (by exact news_int wr _ _) (by intro u hu; simp at hu; subst hu; rfl) (by unfold maxLen; omega) (by omega) (by simp; omega) ?_; intro v1 w1 ho1 hg1 _)
      go_roundw
      case rel => exact ⟨j + 1, by omega, by go_num, (F.alloc _).grow hg1 (by rw [ST.out, List.length_append, PL.out, intsV_snoc]; exact ho1)⟩
      case measure => simp [intOf]; omega
    · obtain rfl : A.length = j := by omega
      rw [pl] at F ⊢
      have F1 : FD w wr N (.slice ao m cap) (.slice ao' A.length cap') (A ++ (List.range 0).map (fun j : Nat => (f : Int) + (j : Int))) := by
        have := F
        rw [List.take_length] at this
        simpa using this
      cases C with
      | nil =>
        obtain rfl : m = A.length := by simp at hm; omega
        replace hm := Lib.hid hm
        go_wp2
        clear F
        go_loopw [7, 9] (fun v' i wr => ∃ q : Nat, q ≤ k ∧ i = .int .i64 (q : Int) ∧ FD w wr N (.slice ao A.length cap) v' (A ++ (List.range q).map (fun j : Nat => (f : Int) + (j : Int)))) (fun _ i _ => k - (intOf i).toNat)
        case atStart => exact ⟨0, by omega, rfl, F1⟩
        case round =>
          clear F1
          obtain ⟨q, hq, rfl, F⟩ := hrel
          obtain ⟨ao2, cap2, rfl⟩ := own_shape F.own
          obtain ⟨m1, m2, m3, m4, r1, r2, r3, r4⟩ := F.cells
          have hbase := F.two
          have ho := F.own
          have PL := Lib.hid (show (A ++ (List.range q).map (fun j : Nat => (f : Int) + (j : Int))).length = A.length + q by simp)
          have ST := Lib.hid (show A ++ (List.range (q + 1)).map (fun j : Nat => (f : Int) + (j : Int)) = (A ++ (List.range q).map (fun j : Nat => (f : Int) + (j : Int))) ++ [(f : Int) + (q : Int)] by rw [List.range_succ]; simp)
          by_cases hqk : (q : Int) < (k : Int)
          · generalize hY : A ++ (List.range q).map (fun j : Nat => (f : Int) + (j : Int)) = Y at *
            clear hY
            rw [PL.out] at ho F ⊢
            go_wp2_with (at_builtin; refine wpList_append_own _ rfl _ _ 41 rfl (w.heap.size + 2) 3 i0 (.int .i64 0) 1 8 Tryz.underlying41 hi hz0 hz1 hz2 rfl (by decide) _ _ _ rfl (by exact ho.alloc _) ⟨wr.heap.size, 0, none⟩ 1 1 [.int .i64 ((f : Int) + (q : Int))] rfl rfl (by exact news_int wr _ _) (by intro u hu; simp at hu; subst hu; rfl) (by unfold maxLen; omega) (by omega) (by simp; omega) ?_; intro v1 w1 ho1 hg1 _)
            go_roundw
            case rel => exact ⟨q + 1, by omega, by go_num, (F.alloc _).grow hg1 (by rw [ST.out, List.length_append, PL.out, intsV_snoc]; exact ho1)⟩
            case measure => simp [intOf]; omega
          · obtain rfl : k = q := by omega
            clear ST
            have hcl := own_cap (by have := F.own; rwa [PL.out] at this)
            obtain ⟨L1, L2, L3⟩ := F.last
            rw [PL.out] at F L1 L2 L3 ⊢
            rcases own_or h with ⟨rfl, hz, rfl⟩ | ⟨g, rfl, h1, h2⟩
            · obtain rfl : A = [] := List.eq_nil_of_length_eq_zero (by simpa using hz)
              simp only [List.length_nil, Nat.zero_add, List.nil_append] at m2 L1 L2 L3 hcl F ⊢
              have HL := Lib.hid L1
              clear L1
              go_wp2_with (at_builtin; refine wpList_append0 rfl _ _ rfl rfl ao2 _ _ cap2 _ hcl rfl rfl ?_)
              refine bodyPost_ret (results_cell_row rfl _ _ _ _ #[.int .i64 (N : Int), .slice ao2 k cap2] (0, 0) _ rfl HL.out Tryz.underlying43 (by kernel_rfl) (by kernel_rfl)) rfl ⟨_, rfl, ao2, cap2, by simp, ?_, L3⟩
              have e : ((List.range k).map (fun j : Nat => (f : Int) + (j : Int))).length = k := by simp
              unfold OwnI
              rw [e]
              exact L2
            · simp only [List.append_nil] at h1
              unfold maxLen at h2
              have HL := Lib.hid L1
              clear L1
              go_wp2_with (at_builtin; refine wpList_append0 rfl _ _ rfl rfl ao2 _ _ cap2 _ hcl rfl rfl ?_)
              all_goals
                refine bodyPost_ret (results_cell_row rfl _ _ _ _ #[.int .i64 (N : Int), .slice ao2 (A.length + k) cap2] (0, 0) _ rfl HL.out Tryz.underlying43 (by kernel_rfl) (by kernel_rfl)) rfl ⟨_, rfl, ao2, cap2, by simp, ?_, L3⟩
                unfold OwnI
                rw [PL.out]
                exact L2
      | cons c0 C0 =>
        have hm2 : A.length + (C0.length + 1) = m := by simpa using hm
        obtain ⟨g, rfl, h1, h2, hB, hg, hc⟩ := ownI_at hrow A.length (by omega)
        have hx : (A ++ c0 :: C0)[A.length]'(by simp) = c0 := by simp
        rw [hx] at hc
        have hle := hC c0 (by simp)
        unfold maxLen at h2
        rw [hm] at h1
        have hjm : (A.length : Int) < (m : Int) := by omega
        have hnl : ¬ (c0 < (f : Int)) := by omega
        clear hx hrow
        replace hm := Lib.hid hm
        go_wp2
        clear F
        go_loopw [7, 9] (fun v' i wr => ∃ q : Nat, q ≤ k ∧ i = .int .i64 (q : Int) ∧ FD w wr N (.slice (some ⟨g, 0, none⟩) m cap) v' (A ++ (List.range q).map (fun j : Nat => (f : Int) + (j : Int)))) (fun _ i _ => k - (intOf i).toNat)
        case atStart => exact ⟨0, by omega, rfl, F1⟩
        case round =>
          clear F1
          obtain ⟨q, hq, rfl, F⟩ := hrel
          obtain ⟨ao2, cap2, rfl⟩ := own_shape F.own
          obtain ⟨m1, m2, m3, m4, r1, r2, r3, r4⟩ := F.cells
          have hbase := F.two
          have ho := F.own
          have PL := Lib.hid (show (A ++ (List.range q).map (fun j : Nat => (f : Int) + (j : Int))).length = A.length + q by simp)
          have ST := Lib.hid (show A ++ (List.range (q + 1)).map (fun j : Nat => (f : Int) + (j : Int)) = (A ++ (List.range q).map (fun j : Nat => (f : Int) + (j : Int))) ++ [(f : Int) + (q : Int)] by rw [List.range_succ]; simp)
          by_cases hqk : (q : Int) < (k : Int)
          · generalize hY : A ++ (List.range q).map (fun j : Nat => (f : Int) + (j : Int)) = Y at *
            clear hY
            rw [PL.out] at ho F ⊢
            go_wp2_with (at_builtin; refine wpList_append_own _ rfl _ _ 41 rfl (w.heap.size + 2) 3 i0 (.int .i64 0) 1 8 Tryz.underlying41 hi hz0 hz1 hz2 rfl (by decide) _ _ _ rfl (by exact ho.alloc _) ⟨wr.heap.size, 0, none⟩ 1 1 [.int .i64 ((f : Int) + (q : Int))] rfl rfl (by exact news_int wr _ _) (by intro u hu; simp at hu; subst hu; rfl) (by unfold maxLen; omega) (by omega) (by simp; omega) ?_; intro v1 w1 ho1 hg1 _)
            go_roundw
            case rel => exact ⟨q + 1, by omega, by go_num, (F.alloc _).grow hg1 (by rw [ST.out, List.length_append, PL.out, intsV_snoc]; exact ho1)⟩
            case measure => simp [intOf]; omega
          · obtain rfl : k = q := by omega
            clear ST
            have hrow : OwnI wr B (some ⟨g, 0, none⟩) cap (A ++ c0 :: C0) := own_below h F.bel
            have hnews : ∀ j u, (intsV (c0 :: C0))[j]? = some u → wr.cell? ((⟨g, A.length, none⟩ : Addr).add j) = some u := fun j u hj => by
              have hj2 : j < C0.length + 1 := by have := (List.getElem?_eq_some_iff.1 hj).1; simpa [intsV] using this
              obtain ⟨g', e, _, _, _, _, hc'⟩ := ownI_at hrow (A.length + j) (by simp; omega)
              obtain rfl : g = g' := by injection e with e; injection e
              have e2 : ((⟨g, A.length, none⟩ : Addr).add j) = ⟨g, A.length + j, none⟩ := by cases j <;> simp [Addr.add]
              rw [e2, hc']
              rw [List.getElem_append_right (by omega)]
              simp only [intsV, List.getElem?_map] at hj
              obtain ⟨y, hy, rfl⟩ := Option.map_eq_some_iff.1 hj
              obtain ⟨hy1, hy2⟩ := List.getElem?_eq_some_iff.1 hy
              congr 2
              rw [← hy2]
              congr 1
              omega
            have ho := F.own
            rw [PL.out] at F ho ⊢
            clear hC h
            have hmA : m - A.length = C0.length + 1 := by omega
            go_wp2_with (at_builtin; (refine wpList_append_own _ rfl _ _ 41 rfl (w.heap.size + 2) 3 i0 (.int .i64 0) 1 8 Tryz.underlying41 hi hz0 hz1 hz2 rfl (by decide) _ _ _ rfl ho ⟨g, A.length, none⟩ (C0.length + 1) (cap - A.length) (intsV (c0 :: C0)) rfl (by simp [intsV]) hnews (by intro u hu; simp [intsV] at hu; rcases hu with rfl | ⟨y, _, rfl⟩ <;> rfl) (by unfold maxLen; omega) (by omega) (by omega) ?_); intro v1 w1 ho1 hg1 _; have F1 := F.grow (Q := A ++ ((List.range k).map (fun j : Nat => (f : Int) + (j : Int)) ++ c0 :: C0)) hg1 (by rw [← List.append_assoc, List.length_append, PL.out]; simpa [intsV] using ho1); obtain ⟨ao3, cap3, rfl⟩ := own_shape F1.own; obtain ⟨m1, m2, m3, m4, r1, r2, r3, r4⟩ := F1.cells)
            obtain ⟨L1, L2, L3⟩ := F1.last
            have e : (A ++ ((List.range k).map (fun j : Nat => (f : Int) + (j : Int)) ++ c0 :: C0)).length = A.length + (k + (C0.length + 1)) := by simp
            rw [e] at L1 L2 L3
            refine bodyPost_ret (results_cell_row rfl _ _ _ _ #[.int .i64 (N : Int), .slice ao3 (A.length + (k + (C0.length + 1))) cap3] (0, 0) _ rfl L1 Tryz.underlying43 (by kernel_rfl) (by kernel_rfl)) rfl ⟨_, rfl, ao3, cap3, by simp, ?_, L3⟩
            unfold OwnI
            rw [e]
            exact L2
end Go.Proofs.YtnbdoemnepfhdaaGreat.Frm

namespace Go.Proofs.YtnbdoemnepfhdaaGreat.Frm
open Fld
open Go.ChangeShapes Go.WideShapes Go.ChangeAt Go.RowKit
set_option maxHeartbeats 1000000
set_option maxRecDepth 100000
theorem each_none {T : Nat → Bool} {n k e j : Nat} (h : ∀ i, i < j → okAt T n k e (i * e) = false) (hf : n < j * e + k) : pick T n k e = none := by
  refine pick_eq_none fun p => ?_
  cases ho : okAt T n k e p
  · rfl
  · obtain ⟨h1, h2, _⟩ := okAt_iff.1 ho
    obtain ⟨i, rfl⟩ : ∃ i, p = i * e := ⟨p / e, (Nat.div_mul_cancel (Nat.dvd_of_mod_eq_zero h1)).symm⟩
    by_cases hi : i < j
    · rw [h i hi] at ho; cases ho
    · have := Nat.mul_le_mul_right e (Nat.le_of_not_lt hi); omega
theorem each_some {T : Nat → Bool} {n k e j : Nat} (h : ∀ i, i < j → okAt T n k e (i * e) = false) (hf : j * e + k ≤ n) (ha : allB T (j * e) k false = true) : pick T n k e = some (j * e) := by
  refine pick_eq (okAt_iff.2 ⟨Nat.mul_mod_left j e, hf, ha⟩) fun p hp => ?_
  cases ho : okAt T n k e p
  · rfl
  · obtain ⟨h1, h2, _⟩ := okAt_iff.1 ho
    obtain ⟨i, rfl⟩ : ∃ i, p = i * e := ⟨p / e, (Nat.div_mul_cancel (Nat.dvd_of_mod_eq_zero h1)).symm⟩
    have hi : i < j := Nat.lt_of_mul_lt_mul_right hp
    rw [h i hi] at ho; cases ho
theorem each_next {T : Nat → Bool} {n k e j : Nat} (h : ∀ i, i < j → okAt T n k e (i * e) = false) (ha : allB T (j * e) k false = false) : ∀ i, i < j + 1 → okAt T n k e (i * e) = false := by
  intro i hi
  by_cases e1 : i = j
  · subst e1; unfold okAt; rw [ha, Bool.and_false]
  · exact h i (by omega)
theorem FD.below {w wr w' : World} {N : Nat} {v v' : Value} {P : List Int} (h : FD w wr N v v' P) (hb : Below wr.heap.size wr w') : FD w w' N v v' P :=
  ⟨h.bel.trans (hb.mono h.bel.size), (hb.block _ (by have := h.two; omega)).trans h.m, (hb.block _ (by have := h.two; omega)).trans h.r, own_below h.own hb, Nat.le_trans h.two hb.size⟩
/-- Frames as the document has them: a number, and the taken ones in a row from base B on. -/
def IsD (w : World) (B N : Nat) (P : List Int) (x : Value) : Prop := ∃ ao cap, x = .agg #[.int .i64 (N : Int), .slice ao P.length cap] ∧ OwnI w B ao cap P
theorem IsD.below {w w' : World} {B N : Nat} {P : List Int} {x : Value} (h : IsD w B N P x) (hb : Below w.heap.size w w') : IsD w' B N P x := by
  obtain ⟨ao, cap, e, ho⟩ := h
  exact ⟨ao, cap, e, own_below ho hb⟩
/-- The end: frames are laid into the result's place. -/
theorem FD.ret {w wr : World} {N : Nat} {v v' : Value} {P : List Int} (h : FD w wr N v v' P) (y : Value) :
    ((wr.setCell ⟨w.heap.size + 1, 0, none⟩ (.int .i64 (N : Int))).setCell ⟨w.heap.size + 1, 1, none⟩ y).heap[w.heap.size + 1]? = some (.cells #[.int .i64 (N : Int), y] 43 (0, 0)) ∧
    Below w.heap.size w ((wr.setCell ⟨w.heap.size + 1, 0, none⟩ (.int .i64 (N : Int))).setCell ⟨w.heap.size + 1, 1, none⟩ y) :=
  ⟨by rw [heap_set (heap_set h.r _) _]; rfl, (h.bel.setCell (by simp) _).setCell (by simp) _⟩
theorem retOwn {w wr : World} {B cap : Nat} {Q : List Int} {ao : Option Addr} (ho : OwnI wr B ao cap Q) (y z : Value) (hne : ∀ g, ao = some ⟨g, 0, none⟩ → g ≠ w.heap.size + 1) :
    OwnI ((wr.setCell ⟨w.heap.size + 1, 0, none⟩ y).setCell ⟨w.heap.size + 1, 1, none⟩ z) B ao cap Q := by
  refine ⟨ho.1, ?_⟩
  rcases ho.2 with hn | ⟨g, cap', cur, hv, hb2, hg, rest⟩
  · exact .inl hn
  · have hgn := hne g (by injection hv)
    exact .inr ⟨g, cap', cur, hv, hb2, ((Below.heap_setCell _ _ _ _ (by show g ≠ w.heap.size + 1; exact hgn)).trans (Below.heap_setCell _ _ _ _ (by show g ≠ w.heap.size + 1; exact hgn))).trans hg, rest⟩
theorem own_block_ne {wr : World} {B cap b : Nat} {ao : Option Addr} {Q : List Int} {c : Array Value} (ho : OwnI wr B ao cap Q) (hb : wr.heap[b]? = some (.cells c 43 (0, 0))) : ∀ g, ao = some ⟨g, 0, none⟩ → g ≠ b := by
  rintro g rfl rfl
  rcases ho.2 with ⟨hn, _⟩ | ⟨g', cap', cur, hv, _, hg, _⟩
  · injection hn with a; cases a
  · obtain rfl : g = g' := by injection hv with a; injection a with a; injection a
    rw [hb] at hg
    injection hg with hg
    injection hg with _ e _
    exact absurd e (by decide)
theorem rtk_any (N B cap k each : Nat) (ao : Option Addr) (T : Nat → Bool) (w : World) (h : OwnI w B ao cap (lst T N)) (hB : B ≤ w.heap.size) (hN : N ≤ 65536) (k1 : k ≤ 9223372036854775807) (e0 : 0 < each) (e1 : each ≤ 512) :
    Calls Tryz.prog 50 #[.agg #[.int .i64 (N : Int), .slice ao (lst T N).length cap], .int .i64 (k : Int), .int .i64 (each : Int)] w fun e w' => ∃ x, e = .returned (.tuple #[x, .int .i64 (pickI (pick T N k each)), .int .i64 (pickE (pick T N k each))]) ∧ IsD w' B N (lst (pickT T k (pick T N k each)) N) x ∧ Below w.heap.size w w' := by
  have hl : (lst T N).length ≤ 65536 := by have := lst_length T N; omega
  have F0 := FD.start w N (.slice ao (lst T N).length cap)
  go_enter Tryz.func50, Tryz.ntmps50
  go_wp2
  go_loopw [9] (fun i wr => ∃ j : Nat, i = .int .i64 ((j * each : Nat) : Int) ∧ j * each ≤ N + 512 ∧ FD w wr N (.slice ao (lst T N).length cap) (.slice none 0 0) [] ∧ Hid (∀ i, i < j → okAt T N k each (i * each) = false)) (fun i _ => N + 1024 - (intOf i).toNat)
  case atStart => exact ⟨0, by simp, by omega, F0, Lib.hid (fun i hi => absurd hi (Nat.not_lt_zero i))⟩
  case round =>
    obtain ⟨j, rfl, hj, F, HJ⟩ := hrel
    clear F0
    obtain ⟨m1, m2, m3, m4, r1, r2, r3, r4⟩ := F.cells
    have hsucc : (j + 1) * each = j * each + each := Nat.succ_mul j each
    have HS := Lib.hid hsucc
    clear hsucc
    by_cases c1 : (k : Int) ≤ (N : Int)
    · by_cases c2 : ((j * each : Nat) : Int) ≤ (N : Int) - (k : Int)
      · have hrow : OwnI wr B ao cap (lst T N) := own_below h F.bel
        have NN := rnone_any N B cap ao (lst T N) ((j * each : Nat) : Int) (k : Int) (by omega) (by omega) (by omega) wr hrow (by omega)
        rw [lst_none (by omega)] at NN
        cases ha : allB T (j * each) k false
        · have H2 := Lib.hid (each_next HJ.out ha)
          rw [ha] at NN
          clear HJ ha
          generalize j * each = q at *
          go_wp2_with (go_at_call 83; refine NN.mono ?_; rintro e w2 ⟨rfl, hb2⟩; have F2 := F.below hb2)
          go_roundw
          case rel => exact ⟨j + 1, by rw [HS.out]; simp, by rw [HS.out]; omega, F2, H2⟩
          case measure => simp [intOf]; omega
        · have H2 := Lib.hid (each_some HJ.out (by omega) ha)
          obtain ⟨s1, s2⟩ := lst_take (T := T) (n := N) (i := j * each) (k := k) (by omega) ha
          rw [ha] at NN
          have hA : ∀ x ∈ seg T 0 (j * each), x < ((j * each : Nat) : Int) := fun x hx => by
            obtain ⟨q, _, b, _, rfl⟩ := seg_mem.1 hx; omega
          have hC : ∀ x ∈ seg T (j * each + k) (N - (j * each + k)), ((j * each : Nat) : Int) ≤ x := fun x hx => by
            obtain ⟨q, b, _, _, rfl⟩ := seg_mem.1 hx; omega
          have PU := fun W (hW : OwnI W B ao cap (lst T N)) => rput_any N B cap (j * each) k ao (seg T 0 (j * each)) (seg T (j * each + k) (N - (j * each + k))) W (by rw [← s1]; exact hW) hA hC (by rw [← s1]; exact hl) (by omega)
          rw [← s1, ← s2] at PU
          clear HJ ha s1 s2 hA hC
          generalize j * each = q at *
          go_wp2_with (first | (go_at_call 83; refine NN.mono ?_; rintro e w2 ⟨rfl, hb2⟩; have F2 := F.below hb2; obtain ⟨m1, m2, m3, m4, r1, r2, r3, r4⟩ := F2.cells; have hrow2 := own_below hrow hb2) | (go_at_call 84; refine (PU _ hrow2).mono ?_; rintro e w3 ⟨x, rfl, ao3, cap3, rfl, ho3, hb3⟩; have F3 := F2.below hb3; obtain ⟨m1, m2, m3, m4, r1, r2, r3, r4⟩ := F3.cells))
          obtain ⟨Lr, Lb⟩ := F3.ret (.slice ao3 (lst (setT T q k true) N).length cap3)
          have x1 : ((w3.setCell ⟨w.heap.size + 1, 0, none⟩ (.int .i64 (N : Int))).setCell ⟨w.heap.size + 1, 1, none⟩ (.slice ao3 (lst (setT T q k true) N).length cap3)).cell? ⟨w.heap.size + 1, 0, none⟩ = some (.int .i64 (N : Int)) := by simp [World.cell?, Lr]
          have x2 : ((w3.setCell ⟨w.heap.size + 1, 0, none⟩ (.int .i64 (N : Int))).setCell ⟨w.heap.size + 1, 1, none⟩ (.slice ao3 (lst (setT T q k true) N).length cap3)).cell? ⟨w.heap.size + 1, 1, none⟩ = some (.slice ao3 (lst (setT T q k true) N).length cap3) := by simp [World.cell?, Lr]
          have hw2 := F2.bel.size
          have ho4 := own_low ho3 (C := B) (by omega)
          refine bodyPost_ret (v := .tuple #[.agg #[.int .i64 (N : Int), .slice ao3 (lst (setT T q k true) N).length cap3], .int .i64 (q : Int), .int .i64 0]) (by simp [results, Tryz.results50, go_sem, x1, x2]) rfl ⟨_, by rw [H2.out]; rfl, ⟨ao3, cap3, ?_, ?_⟩, Lb⟩
          · rw [H2.out]; rfl
          · rw [H2.out]; exact retOwn ho4 _ _ (own_block_ne ho4 F3.r)
      · have hrow : OwnI wr B ao cap (lst T N) := own_below h F.bel
        have H2 := Lib.hid (each_none (T := T) (n := N) (k := k) (e := each) HJ.out (by omega))
        clear HJ
        obtain ⟨Lr, Lb⟩ := F.ret (.slice ao (lst T N).length cap)
        have x1 : ((wr.setCell ⟨w.heap.size + 1, 0, none⟩ (.int .i64 (N : Int))).setCell ⟨w.heap.size + 1, 1, none⟩ (.slice ao (lst T N).length cap)).cell? ⟨w.heap.size + 1, 0, none⟩ = some (.int .i64 (N : Int)) := by simp [World.cell?, Lr]
        have x2 : ((wr.setCell ⟨w.heap.size + 1, 0, none⟩ (.int .i64 (N : Int))).setCell ⟨w.heap.size + 1, 1, none⟩ (.slice ao (lst T N).length cap)).cell? ⟨w.heap.size + 1, 1, none⟩ = some (.slice ao (lst T N).length cap) := by simp [World.cell?, Lr]
        replace x1 := Lib.hid x1
        replace x2 := Lib.hid x2
        replace Lr := Lib.hid Lr
        go_wp2
        refine bodyPost_ret (v := .tuple #[.agg #[.int .i64 (N : Int), .slice ao (lst T N).length cap], .int .i64 0, .int .i64 6]) (by simp [results, Tryz.results50, go_sem, x1.out, x2.out]) rfl ⟨_, by rw [H2.out]; rfl, ⟨ao, cap, ?_, ?_⟩, Lb⟩
        · rw [H2.out]; rfl
        · rw [H2.out]; exact retOwn hrow _ _ (own_block_ne hrow F.r)
    · have hrow : OwnI wr B ao cap (lst T N) := own_below h F.bel
      have H2 := Lib.hid (each_none (T := T) (n := N) (k := k) (e := each) HJ.out (by omega))
      clear HJ
      obtain ⟨Lr, Lb⟩ := F.ret (.slice ao (lst T N).length cap)
      have x1 : ((wr.setCell ⟨w.heap.size + 1, 0, none⟩ (.int .i64 (N : Int))).setCell ⟨w.heap.size + 1, 1, none⟩ (.slice ao (lst T N).length cap)).cell? ⟨w.heap.size + 1, 0, none⟩ = some (.int .i64 (N : Int)) := by simp [World.cell?, Lr]
      have x2 : ((wr.setCell ⟨w.heap.size + 1, 0, none⟩ (.int .i64 (N : Int))).setCell ⟨w.heap.size + 1, 1, none⟩ (.slice ao (lst T N).length cap)).cell? ⟨w.heap.size + 1, 1, none⟩ = some (.slice ao (lst T N).length cap) := by simp [World.cell?, Lr]
      replace x1 := Lib.hid x1
      replace x2 := Lib.hid x2
      replace Lr := Lib.hid Lr
      go_wp2
      refine bodyPost_ret (v := .tuple #[.agg #[.int .i64 (N : Int), .slice ao (lst T N).length cap], .int .i64 0, .int .i64 6]) (by simp [results, Tryz.results50, go_sem, x1.out, x2.out]) rfl ⟨_, by rw [H2.out]; rfl, ⟨ao, cap, ?_, ?_⟩, Lb⟩
      · rw [H2.out]; rfl
      · rw [H2.out]; exact retOwn hrow _ _ (own_block_ne hrow F.r)
end Go.Proofs.YtnbdoemnepfhdaaGreat.Frm

namespace Go.Proofs.YtnbdoemnepfhdaaGreat.Frm
open Fld
open Go.ChangeShapes Go.WideShapes Go.ChangeAt Go.RowKit
set_option maxHeartbeats 1000000
set_option maxRecDepth 100000
theorem rmany_any (N B cap : Nat) (ao : Option Addr) (T : Nat → Bool) (s : Int) (s1 : s ≤ 9223372036854775807) (w : World) (h : OwnI w B ao cap (lst T N)) (hB : B ≤ w.heap.size) (hN : N ≤ 65536) :
    Calls Tryz.prog 24 #[.agg #[.int .i64 (N : Int), .slice ao (lst T N).length cap], .int .i64 s] w fun e w' => ∃ x, e = .returned (.tuple #[x, .int .i64 (manyI T N s), .int .i64 (manyE T N s)]) ∧ IsD w' B N (lst (manyT T N s) N) x ∧ Below w.heap.size w w' := by
  have F0 := FD.start w N (.slice ao (lst T N).length cap)
  obtain ⟨m1, m2, m3, m4, r1, r2, r3, r4⟩ := F0.cells
  by_cases hs : s < 1
  · have HT := Lib.hid (show manyT T N s = T by unfold manyT; rw [if_pos hs])
    have HE := Lib.hid (show manyE T N s = 1 by unfold manyE; rw [if_pos hs])
    have HI := Lib.hid (show manyI T N s = 0 by unfold manyI; rw [if_pos hs])
    go_enter Tryz.func24, Tryz.ntmps24
    go_wp2
    refine bodyPost_ret (v := .tuple #[.agg #[.int .i64 (N : Int), .slice ao (lst T N).length cap], .int .i64 0, .int .i64 1]) (by simp [results, Tryz.results24, go_sem]) rfl ⟨_, by rw [HI.out, HE.out], ⟨ao, cap, by rw [HT.out], by rw [HT.out]; exact (h.alloc _).alloc _⟩, ((Below.refl _ _).alloc (Nat.le_refl _) _).alloc (by simp) _⟩
  · have HT : manyT T N s = pickT T s.toNat (pick T N s.toNat 1) := by unfold manyT manyO; rw [if_neg hs]
    have HE : manyE T N s = pickE (pick T N s.toNat 1) := by unfold manyE manyO; rw [if_neg hs]
    have HI : manyI T N s = pickI (pick T N s.toNat 1) := by unfold manyI manyO; rw [if_neg hs]
    rw [HT, HE, HI]
    obtain ⟨q, rfl⟩ : ∃ q : Nat, s = (q : Int) := ⟨s.toNat, by omega⟩
    rw [Int.toNat_natCast]
    clear HT HE HI
    have TK := rtk_any N B cap q 1 ao T _ (own_below h F0.bel) (Nat.le_trans hB F0.bel.size) hN (by omega) (by omega) (by omega)
    rw [show (((1 : Nat) : Int)) = 1 from rfl] at TK
    generalize pick T N q 1 = p at *
    generalize hPT : pickT T q p = PT at *
    generalize hPI : pickI p = PI at *
    generalize hPE : pickE p = PE at *
    clear hPT hPI hPE
    go_enter Tryz.func24, Tryz.ntmps24
    go_wp2_with (first | (go_at_call 50; refine TK.mono ?_; rintro e w3 ⟨x, rfl, ⟨ao3, cap3, rfl, ho3⟩, hb3⟩; have F3 := F0.below hb3; obtain ⟨m1, m2, m3, m4, r1, r2, r3, r4⟩ := F3.cells))
    obtain ⟨Lr, Lb⟩ := F3.ret (.slice ao3 (lst PT N).length cap3)
    have x1 : ((w3.setCell ⟨w.heap.size + 1, 0, none⟩ (.int .i64 (N : Int))).setCell ⟨w.heap.size + 1, 1, none⟩ (.slice ao3 (lst PT N).length cap3)).cell? ⟨w.heap.size + 1, 0, none⟩ = some (.int .i64 (N : Int)) := by simp [World.cell?, Lr]
    have x2 : ((w3.setCell ⟨w.heap.size + 1, 0, none⟩ (.int .i64 (N : Int))).setCell ⟨w.heap.size + 1, 1, none⟩ (.slice ao3 (lst PT N).length cap3)).cell? ⟨w.heap.size + 1, 1, none⟩ = some (.slice ao3 (lst PT N).length cap3) := by simp [World.cell?, Lr]
    refine bodyPost_ret (v := .tuple #[.agg #[.int .i64 (N : Int), .slice ao3 (lst PT N).length cap3], .int .i64 PI, .int .i64 PE]) (by simp [results, Tryz.results24, go_sem, x1, x2]) rfl ⟨_, rfl, ⟨ao3, cap3, rfl, retOwn ho3 _ _ (own_block_ne ho3 F3.r)⟩, Lb⟩
end Go.Proofs.YtnbdoemnepfhdaaGreat.Frm

namespace Go.Proofs.YtnbdoemnepfhdaaGreat.Frm
open Fld
open Go.ChangeShapes Go.WideShapes Go.ChangeAt Go.RowKit
set_option maxHeartbeats 1000000
set_option maxRecDepth 100000
theorem take_filter {L : List Int} {j : Nat} {x : Int} (h : L[j]? = some x) (p : Int → Bool) : (L.take (j + 1)).filter p = (L.take j).filter p ++ (if p x then [x] else []) := by
  rw [List.take_add_one, h, List.filter_append]
  cases hp : p x <;> simp [hp]
theorem rgive_any (N B cap : Nat) (ao : Option Addr) (T : Nat → Bool) (f k : Int) (f0 : -9223372036854775808 ≤ f) (f1 : f ≤ 9223372036854775807) (k0 : -9223372036854775808 ≤ k) (k1 : k ≤ 9223372036854775807) (w : World) (h : OwnI w B ao cap (lst T N)) (hB : B ≤ w.heap.size) (hN : N ≤ 65536) :
    Calls Tryz.prog 62 #[.agg #[.int .i64 (N : Int), .slice ao (lst T N).length cap], .int .i64 f, .int .i64 k] w fun e w' => ∃ x, e = .returned (.tuple #[x, .int .i64 (giveE T N f k)]) ∧ IsD w' B N (lst (giveT T N f k) N) x ∧ Below w.heap.size w w' := by
  have F0 := FD.start w N (.slice ao (lst T N).length cap)
  have hl : (lst T N).length ≤ 65536 := by have := lst_length T N; omega
  by_cases a1 : k < 1
  · have HE := Lib.hid (show giveE T N f k = 1 by unfold giveE; rw [if_pos a1])
    have HT := Lib.hid (show giveT T N f k = T by unfold giveT; rw [HE.out]; rfl)
    go_enter Tryz.func62, Tryz.ntmps62
    go_wp2
    refine bodyPost_ret (v := .tuple #[.agg #[.int .i64 (N : Int), .slice ao (lst T N).length cap], .int .i64 1]) (by simp [results, Tryz.results62, go_sem]) rfl ⟨_, by rw [HE.out], ⟨ao, cap, by rw [HT.out], by rw [HT.out]; exact (h.alloc _).alloc _⟩, ((Below.refl _ _).alloc (Nat.le_refl _) _).alloc (by simp) _⟩
  · by_cases a2 : f < 0
    · have HE := Lib.hid (show giveE T N f k = 5 by unfold giveE; rw [if_neg a1, if_pos (.inl a2)])
      have HT := Lib.hid (show giveT T N f k = T by unfold giveT; rw [HE.out]; rfl)
      go_enter Tryz.func62, Tryz.ntmps62
      go_wp2
      refine bodyPost_ret (v := .tuple #[.agg #[.int .i64 (N : Int), .slice ao (lst T N).length cap], .int .i64 5]) (by simp [results, Tryz.results62, go_sem]) rfl ⟨_, by rw [HE.out], ⟨ao, cap, by rw [HT.out], by rw [HT.out]; exact (h.alloc _).alloc _⟩, ((Below.refl _ _).alloc (Nat.le_refl _) _).alloc (by simp) _⟩
    · by_cases a3 : (N : Int) < k
      · have HE := Lib.hid (show giveE T N f k = 5 by unfold giveE; rw [if_neg a1, if_pos (.inr (by omega))])
        have HT := Lib.hid (show giveT T N f k = T by unfold giveT; rw [HE.out]; rfl)
        go_enter Tryz.func62, Tryz.ntmps62
        go_wp2
        refine bodyPost_ret (v := .tuple #[.agg #[.int .i64 (N : Int), .slice ao (lst T N).length cap], .int .i64 5]) (by simp [results, Tryz.results62, go_sem]) rfl ⟨_, by rw [HE.out], ⟨ao, cap, by rw [HT.out], by rw [HT.out]; exact (h.alloc _).alloc _⟩, ((Below.refl _ _).alloc (Nat.le_refl _) _).alloc (by simp) _⟩
      · by_cases a4 : (N : Int) - k < f
        · have HE := Lib.hid (show giveE T N f k = 5 by unfold giveE; rw [if_neg a1, if_pos (.inr a4)])
          have HT := Lib.hid (show giveT T N f k = T by unfold giveT; rw [HE.out]; rfl)
          go_enter Tryz.func62, Tryz.ntmps62
          go_wp2
          refine bodyPost_ret (v := .tuple #[.agg #[.int .i64 (N : Int), .slice ao (lst T N).length cap], .int .i64 5]) (by simp [results, Tryz.results62, go_sem]) rfl ⟨_, by rw [HE.out], ⟨ao, cap, by rw [HT.out], by rw [HT.out]; exact (h.alloc _).alloc _⟩, ((Below.refl _ _).alloc (Nat.le_refl _) _).alloc (by simp) _⟩
        · obtain ⟨p, rfl⟩ : ∃ p : Nat, f = (p : Int) := ⟨f.toNat, by omega⟩
          obtain ⟨q, rfl⟩ : ∃ q : Nat, k = (q : Int) := ⟨k.toNat, by omega⟩
          obtain ⟨v1, v2⟩ := filter_in T (n := N) (i := p) (k := q) (by omega)
          have HV1 := Lib.hid v1
          have HV2 := Lib.hid v2
          clear v1 v2
          have hpq : (p : Int) + (q : Int) ≤ 65536 := by omega
          obtain ⟨i0, hi, hz0, hz1, hz2⟩ := info_parts infoInt
          go_enter Tryz.func62, Tryz.ntmps62
          go_wp2
          go_loopw [8, 9, 10] (fun v' hd i wr => ∃ j : Nat, j ≤ (lst T N).length ∧ i = .int .i64 (j : Int) ∧ hd = .int .i64 ((((lst T N).take j).filter (inR (p : Int) (q : Int))).length : Int) ∧ FD w wr N (.slice ao (lst T N).length cap) v' (((lst T N).take j).filter (fun x => !inR (p : Int) (q : Int) x))) (fun _ _ i _ => (lst T N).length - (intOf i).toNat)
          case atStart => exact ⟨0, by omega, rfl, by simp, F0⟩
          case round =>
            obtain ⟨j, hj, rfl, rfl, F⟩ := hrel
            clear F0
            obtain ⟨ao', cap', rfl⟩ := own_shape F.own
            obtain ⟨m1, m2, m3, m4, r1, r2, r3, r4⟩ := F.cells
            have b1 : (((lst T N).take j).filter (inR (p : Int) (q : Int))).length ≤ 65536 := Nat.le_trans (List.length_filter_le _ _) (by simp; omega)
            have b2 : (((lst T N).take j).filter (fun x => !inR (p : Int) (q : Int) x)).length ≤ 65536 := Nat.le_trans (List.length_filter_le _ _) (by simp; omega)
            by_cases hlt : (j : Int) < ((lst T N).length : Int)
            · have hrow : OwnI wr B ao cap (lst T N) := own_below h F.bel
              obtain ⟨g, rfl, h1, h2, hB2, hg, hc⟩ := ownI_at hrow j (by omega)
              have HX : (lst T N)[j]? = some (lst T N)[j] := List.getElem?_eq_getElem (by omega)
              have S1 := Lib.hid (take_filter HX (inR (p : Int) (q : Int)))
              have S2 := Lib.hid (take_filter HX (fun x => !inR (p : Int) (q : Int) x))
              unfold maxLen at h2
              generalize (lst T N)[j] = x at *
              clear HX hrow
              generalize (((lst T N).take j).filter (inR (p : Int) (q : Int))) = Y1 at *
              generalize (((lst T N).take j).filter (fun x => !inR (p : Int) (q : Int) x)) = Y2 at *
              have hbase := F.two
              by_cases hx : (p : Int) ≤ x
              · by_cases hx2 : x < (p : Int) + (q : Int)
                · have HI : inR (p : Int) (q : Int) x = true := by simp [inR, hx, hx2]
                  rw [HI] at S1 S2
                  clear HI
                  go_wp2
                  go_roundw
                  case rel => exact ⟨j + 1, by omega, by go_num, by rw [S1.out]; simp, by rw [S2.out]; simpa using F⟩
                  case measure => simp [intOf]; omega
                · have HI : inR (p : Int) (q : Int) x = false := by simp [inR]; omega
                  rw [HI] at S1 S2
                  clear HI
                  go_wp2_with (at_builtin; refine wpList_append_own _ rfl _ _ 41 rfl (w.heap.size + 2) 3 i0 (.int .i64 0) 1 8 Tryz.underlying41 hi hz0 hz1 hz2 rfl (by decide) _ _ _ rfl (by exact F.own.alloc _) ⟨wr.heap.size, 0, none⟩ 1 1 [.int .i64 x] rfl rfl (by exact news_int wr _ _) (by intro u hu; simp at hu; subst hu; rfl) (by unfold maxLen; omega) (by omega) (by simp; omega) ?_; intro v1 w1 ho1 hg1 _)
                  go_roundw
                  case rel => exact ⟨j + 1, by omega, by go_num, by rw [S1.out]; simp, by rw [S2.out]; exact (F.alloc _).grow hg1 (by simpa [intsV] using ho1)⟩
                  case measure => simp [intOf]; omega
              · have HI : inR (p : Int) (q : Int) x = false := by simp [inR]; omega
                rw [HI] at S1 S2
                clear HI
                go_wp2_with (at_builtin; refine wpList_append_own _ rfl _ _ 41 rfl (w.heap.size + 2) 3 i0 (.int .i64 0) 1 8 Tryz.underlying41 hi hz0 hz1 hz2 rfl (by decide) _ _ _ rfl (by exact F.own.alloc _) ⟨wr.heap.size, 0, none⟩ 1 1 [.int .i64 x] rfl rfl (by exact news_int wr _ _) (by intro u hu; simp at hu; subst hu; rfl) (by unfold maxLen; omega) (by omega) (by simp; omega) ?_; intro v1 w1 ho1 hg1 _)
                go_roundw
                case rel => exact ⟨j + 1, by omega, by go_num, by rw [S1.out]; simp, by rw [S2.out]; exact (F.alloc _).grow hg1 (by simpa [intsV] using ho1)⟩
                case measure => simp [intOf]; omega
            · obtain rfl : (lst T N).length = j := by omega
              have e1 : ((lst T N).take (lst T N).length).filter (inR (p : Int) (q : Int)) = seg T p q := by rw [List.take_length]; exact HV1.out
              have e2 : ((lst T N).take (lst T N).length).filter (fun x => !inR (p : Int) (q : Int) x) = lst (setT T p q false) N := by rw [List.take_length, lst_give (by omega)]; exact HV2.out
              rw [e1] at b1 ⊢
              rw [e2] at F b2 ⊢
              clear e1 e2 HV1 HV2
              have hsl := seg_length_le T p q
              have hall := Lib.hid (seg_length_all (T := T) (a := p) (m := q))
              by_cases hf : ((seg T p q).length : Int) < (q : Int)
              · have HE := Lib.hid (show giveE T N (p : Int) (q : Int) = 11 by
                  unfold giveE
                  rw [if_neg (by omega), if_neg (by omega)]
                  rw [Int.toNat_natCast, Int.toNat_natCast, if_neg]
                  intro hb
                  have := hall.out.2 (fun z z1 z2 => allB_mem.1 hb z z1 z2)
                  omega)
                have HT := Lib.hid (show giveT T N (p : Int) (q : Int) = T by unfold giveT; rw [HE.out]; rfl)
                clear hall
                have hrow : OwnI wr B ao cap (lst T N) := own_below h F.bel
                obtain ⟨Lr, Lb⟩ := F.ret (.slice ao (lst T N).length cap)
                have x1 : ((wr.setCell ⟨w.heap.size + 1, 0, none⟩ (.int .i64 (N : Int))).setCell ⟨w.heap.size + 1, 1, none⟩ (.slice ao (lst T N).length cap)).cell? ⟨w.heap.size + 1, 0, none⟩ = some (.int .i64 (N : Int)) := by simp [World.cell?, Lr]
                have x2 : ((wr.setCell ⟨w.heap.size + 1, 0, none⟩ (.int .i64 (N : Int))).setCell ⟨w.heap.size + 1, 1, none⟩ (.slice ao (lst T N).length cap)).cell? ⟨w.heap.size + 1, 1, none⟩ = some (.slice ao (lst T N).length cap) := by simp [World.cell?, Lr]
                replace x1 := Lib.hid x1
                replace x2 := Lib.hid x2
                replace Lr := Lib.hid Lr
                go_wp2
                refine bodyPost_ret (v := .tuple #[.agg #[.int .i64 (N : Int), .slice ao (lst T N).length cap], .int .i64 11]) (by simp [results, Tryz.results62, go_sem, x1.out, x2.out]) rfl ⟨_, by rw [HE.out], ⟨ao, cap, by rw [HT.out], by rw [HT.out]; exact retOwn hrow _ _ (own_block_ne hrow F.r)⟩, Lb⟩
              · have HE := Lib.hid (show giveE T N (p : Int) (q : Int) = 0 by
                  unfold giveE
                  rw [if_neg (by omega), if_neg (by omega)]
                  rw [Int.toNat_natCast, Int.toNat_natCast, if_pos]
                  exact allB_mem.2 (hall.out.1 (by omega)))
                have HT := Lib.hid (show giveT T N (p : Int) (q : Int) = setT T p q false by unfold giveT; rw [HE.out, Int.toNat_natCast, Int.toNat_natCast]; rfl)
                clear hall
                obtain ⟨L1, L2, L3⟩ := F.last
                generalize setT T p q false = U at *
                have x1 : (((wr.setCell ⟨w.heap.size, 1, none⟩ (.slice ao' (lst U N).length cap')).setCell ⟨w.heap.size + 1, 0, none⟩ (.int .i64 (N : Int))).setCell ⟨w.heap.size + 1, 1, none⟩ (.slice ao' (lst U N).length cap')).cell? ⟨w.heap.size + 1, 0, none⟩ = some (.int .i64 (N : Int)) := by simp [World.cell?, L1]
                have x2 : (((wr.setCell ⟨w.heap.size, 1, none⟩ (.slice ao' (lst U N).length cap')).setCell ⟨w.heap.size + 1, 0, none⟩ (.int .i64 (N : Int))).setCell ⟨w.heap.size + 1, 1, none⟩ (.slice ao' (lst U N).length cap')).cell? ⟨w.heap.size + 1, 1, none⟩ = some (.slice ao' (lst U N).length cap') := by simp [World.cell?, L1]
                replace x1 := Lib.hid x1
                replace x2 := Lib.hid x2
                clear L1
                go_wp2
                exact bodyPost_ret (v := .tuple #[.agg #[.int .i64 (N : Int), .slice ao' (lst U N).length cap'], .int .i64 0]) (by simp [results, Tryz.results62, go_sem, x1.out, x2.out]) rfl ⟨_, by rw [HE.out], ⟨ao', cap', by rw [HT.out], by rw [HT.out]; exact own_low L2 hB⟩, L3⟩
end Go.Proofs.YtnbdoemnepfhdaaGreat.Frm

