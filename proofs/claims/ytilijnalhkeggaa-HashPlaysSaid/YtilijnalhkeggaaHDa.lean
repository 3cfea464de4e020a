/-
  The document's tables of layer 11: what it means that a world holds one; Len, at, Longest. Conditions: a table that is there.
-/
import Derived.Test.YtilijnalhkeggaaHList
namespace Go.Proofs.Ytilijnalhkeggaa.Hs
open Fld
open Go.ChangeShapes Go.WideShapes Go.ChangeAt Go.RowKit Go.Maps
set_option maxHeartbeats 1000000
set_option maxRecDepth 100000
abbrev POwn (w : World) (v : Value) (l : List Bk) : Prop := w.ownsRow 0 73 4 v l.length (bkL l)
/-- The chains of a table of the document's: s is the slice, U the chains' slices. -/
structure ChW (w : World) (s : Value) (n : Nat) (L : Nat → List Bk) (U : Nat → Value) : Prop where
  outer : w.ownsRow 0 58 1 s n ((List.range n).map U)
  rows : ∀ i, i < n → POwn w (U i) (L i)
  n0 : 1 ≤ n
  n1 : n ≤ 1000000
  few : lenL L n ≤ 1073741824
/-- Its blocks. -/
def DocB (s : Value) (n : Nat) (U : Nat → Value) (k : Nat) : Prop := s.ownBlock = some k ∨ ∃ i, i < n ∧ (U i).ownBlock = some k
section
variable {w w' : World} {s : Value} {n : Nat} {L : Nat → List Bk} {U : Nat → Value}
theorem ChW.lt (h : ChW w s n L U) {k : Nat} (hk : DocB s n U k) : k < w.heap.size := by
  rcases hk with hk | ⟨i, hi, hk⟩
  · exact (h.outer.lt k hk).2
  · exact ((h.rows i hi).lt k hk).2
theorem ChW.same (h : ChW w s n L U) (hk : ∀ k, DocB s n U k → w'.heap[k]? = w.heap[k]?) : ChW w' s n L U :=
  ⟨own_same h.outer (fun g hg => hk g (.inl hg)), fun i hi => own_same (h.rows i hi) (fun g hg => hk g (.inr ⟨i, hi, hg⟩)), h.n0, h.n1, h.few⟩
theorem ChW.low (h : ChW w s n L U) (hb : Below w.heap.size w w') : ChW w' s n L U := h.same (fun k hk => hb.block k (h.lt hk))
theorem ChW.drew (h : ChW w s n L U) : ChW w.drew s n L U := h.low (Below.refl _ w).drew
theorem ChW.drewN (h : ChW w s n L U) (m : Nat) : ChW (w.drewN m) s n L U := h.low (below_drewN (Below.refl _ w) m)
theorem ChW.alloc (h : ChW w s n L U) (o : Obj) : ChW (w.alloc o) s n L U := h.low ((Below.refl _ w).alloc (Nat.le_refl _) o)
theorem ChW.form (h : ChW w s n L U) : ∃ g cap, s = .slice (some ⟨g, 0, none⟩) n cap ∧ s.ownBlock = some g ∧ n ≤ cap ∧ cap ≤ 9223372036854775807 := by
  rcases own_form h.outer with ⟨_, h0⟩ | ⟨g, cap, hv, hg, a, b⟩
  · have := h.n0; omega
  · exact ⟨g, cap, hv, hg, a, by simpa [maxLen] using b⟩
theorem ChW.cell (h : ChW w s n L U) {g : Nat} (hg : s.ownBlock = some g) {i : Nat} (hi : i < n) : w.cell? ⟨g, i, none⟩ = some (U i) := by
  have h1 := h.outer.cells hg i (U i) (by simp [hi])
  rwa [addr_lit, Nat.zero_add] at h1
theorem pown_shape {v : Value} {l : List Bk} (h : POwn w v l) : ∃ ao cap, v = .slice ao l.length cap := own_shape3 h
theorem pown_cells {v : Value} {l : List Bk} {g : Nat} (h : POwn w v l) (hg : v.ownBlock = some g) {i : Nat} (hi : i < l.length) : RowC w g l i := own_rowC h hg hi
theorem len_le (L : Nat → List Bk) : ∀ {j n : Nat}, j ≤ n → lenL L j ≤ lenL L n := by
  intro j n h
  induction n with
  | zero => obtain rfl : j = 0 := by omega
            exact Nat.le_refl _
  | succ n ih =>
    by_cases e : j = n + 1
    · rw [e]; exact Nat.le_refl _
    · rw [len_succ]; have := ih (by omega); omega
theorem lng_succ (L : Nat → List Bk) (n : Nat) : lngL L (n + 1) = max (lngL L n) (L n).length := rfl
end
theorem tlen_any {s : Value} {n : Nat} {L : Nat → List Bk} {U : Nat → Value} (bl : Int) (w : World) (h : ChW w s n L U) :
    Calls Try.prog 38 #[.agg #[.int .i64 bl, s]] w fun e w' => e = .returned (.int .i64 (lenL L n : Int)) ∧ Below w.heap.size w w' := by
  obtain ⟨g, cap, rfl, hg, hnc, hcm⟩ := h.form
  have hn1 := h.n1
  have hfew := h.few
  have b1 : Below w.heap.size w (w.alloc (.cells #[.int .i64 bl, .slice (some ⟨g, 0, none⟩) n cap] 27)) := (Below.refl _ _).alloc (Nat.le_refl _) _
  have H1 := h.alloc (.cells #[.int .i64 bl, .slice (some ⟨g, 0, none⟩) n cap] 27)
  have x1 := heap_alloc_new w (.cells #[.int .i64 bl, .slice (some ⟨g, 0, none⟩) n cap] 27)
  clear h
  go_enter Try.func38, Try.ntmps38
  go_wp2_with fail
  generalize World.alloc w _ = W1 at *
  have y1 : W1.cell? ⟨w.heap.size, 1, none⟩ = some (.slice (some ⟨g, 0, none⟩) n cap) := by simp [World.cell?, x1]
  clear x1
  go_loopw [3, 4] (fun a i wr => ∃ j : Nat, a = .int .i64 (lenL L j : Int) ∧ i = .int .i64 (j : Int) ∧ j ≤ n ∧ wr = W1) (fun _ i _ => n - (RowKit.intOf i).toNat)
  case atStart => exact ⟨0, rfl, rfl, Nat.zero_le _, rfl⟩
  case round =>
    obtain ⟨j, rfl, rfl, hj, rfl⟩ := hrel
    by_cases hlt : j < n
    · have hc := H1.cell hg hlt
      obtain ⟨ao, capj, hU⟩ := pown_shape (H1.rows j hlt)
      rw [hU] at hc
      have hlt' : (j : Int) < (n : Int) := by omega
      have hs := Lib.hid (len_succ L j)
      have hle := len_le L (show j + 1 ≤ n by omega)
      rw [hs.out] at hle
      clear hU
      generalize lenL L j = a at *
      generalize (L j).length = b at *
      go_wp2_with fail
      go_roundw
      case rel => exact ⟨j + 1, by rw [hs.out]; go_num, by go_num, by omega, by trivial⟩
      case measure => simp [RowKit.intOf]; omega
    · obtain rfl : n = j := by omega
      go_wp2_with fail
      go_ret
      exact ⟨rfl, b1⟩
theorem tlong_any {s : Value} {n : Nat} {L : Nat → List Bk} {U : Nat → Value} (bl : Int) (w : World) (h : ChW w s n L U) :
    Calls Try.prog 39 #[.agg #[.int .i64 bl, s]] w fun e w' => e = .returned (.int .i64 (lngL L n : Int)) ∧ Below w.heap.size w w' := by
  obtain ⟨g, cap, rfl, hg, hnc, hcm⟩ := h.form
  have hn1 := h.n1
  have hfew := h.few
  have b1 : Below w.heap.size w (w.alloc (.cells #[.int .i64 bl, .slice (some ⟨g, 0, none⟩) n cap] 27)) := (Below.refl _ _).alloc (Nat.le_refl _) _
  have H1 := h.alloc (.cells #[.int .i64 bl, .slice (some ⟨g, 0, none⟩) n cap] 27)
  have x1 := heap_alloc_new w (.cells #[.int .i64 bl, .slice (some ⟨g, 0, none⟩) n cap] 27)
  clear h
  go_enter Try.func39, Try.ntmps39
  go_wp2_with fail
  generalize World.alloc w _ = W1 at *
  have y1 : W1.cell? ⟨w.heap.size, 1, none⟩ = some (.slice (some ⟨g, 0, none⟩) n cap) := by simp [World.cell?, x1]
  clear x1
  go_loopw [3, 4] (fun a i wr => ∃ j : Nat, a = .int .i64 (lngL L j : Int) ∧ i = .int .i64 (j : Int) ∧ j ≤ n ∧ wr = W1) (fun _ i _ => n - (RowKit.intOf i).toNat)
  case atStart => exact ⟨0, rfl, rfl, Nat.zero_le _, rfl⟩
  case round =>
    obtain ⟨j, rfl, rfl, hj, rfl⟩ := hrel
    by_cases hlt : j < n
    · have hc := H1.cell hg hlt
      obtain ⟨ao, capj, hU⟩ := pown_shape (H1.rows j hlt)
      rw [hU] at hc
      have hlt' : (j : Int) < (n : Int) := by omega
      have hs := Lib.hid (lng_succ L j)
      have hmx : ((lngL L (j + 1) : Nat) : Int) = max (lngL L j : Int) ((L j).length : Int) := by rw [hs.out]; omega
      have HX := Lib.hid hmx
      clear hU hmx
      generalize lngL L j = a at *
      generalize (L j).length = b at *
      go_wp2_with fail
      go_roundw
      case rel => exact ⟨j + 1, by rw [HX.out], by go_num, by omega, by trivial⟩
      case measure => simp [RowKit.intOf]; omega
    · obtain rfl : n = j := by omega
      go_wp2_with fail
      go_ret
      exact ⟨rfl, b1⟩
theorem ret_place {a b : Int} (h : a = b) : Ending.returned (.int .i64 b) = .returned (.int .i64 a) := by rw [h]
theorem rat_any (v : Value) (l : List Bk) (k : Ky) (w : World) (h : POwn w v l) (hl : l.length ≤ 1073741824) :
    Calls Try.prog 49 #[v, .agg #[.int .i64 k.sp, .int .u64 k.va, .int .i64 k.sz]] w fun e w' => e = .returned (.int .i64 (placeI l k)) ∧ Below w.heap.size w w' := by
  have b1 : Below w.heap.size w (w.alloc (.cells #[.int .i64 k.sp, .int .u64 k.va, .int .i64 k.sz] 33)) := (Below.refl _ _).alloc (Nat.le_refl _) _
  have h1 := own_same h (w' := w.alloc (.cells #[.int .i64 k.sp, .int .u64 k.va, .int .i64 k.sz] 33)) (fun q hq => Below.heap_alloc w _ q (h.lt q hq).2)
  obtain ⟨x0, x1, x2⟩ := key_cells (heap_alloc_new w (.cells #[.int .i64 k.sp, .int .u64 k.va, .int .i64 k.sz] 33))
  rcases own_form h1 with ⟨rfl, h0⟩ | ⟨g, cap, rfl, hgb, hnc, hcm⟩
  · obtain rfl : l = [] := List.eq_nil_of_length_eq_zero h0
    clear h h1 x0 x1 x2
    go_enter Try.func49, Try.ntmps49
    go_wp2_with fail
    go_loopw [5] (fun i wr => i = .int .i64 0 ∧ wr = w.alloc (.cells #[.int .i64 k.sp, .int .u64 k.va, .int .i64 k.sz] 33)) (fun _ _ => 0)
    case atStart => exact ⟨rfl, rfl⟩
    case round =>
      obtain ⟨rfl, rfl⟩ := hrel
      go_wp2_with fail
      go_ret
      exact ⟨rfl, b1⟩
  · have hcell := fun i hi => pown_cells h1 hgb (i := i) hi
    unfold maxLen at hcm
    clear h h1 hgb
    go_enter Try.func49, Try.ntmps49
    go_wp2_with fail
    generalize World.alloc w _ = W1 at *
    go_loopw [5] (fun i wr => ∃ j m : Nat, j ≤ l.length ∧ i = .int .i64 (j : Int) ∧ (∀ i, i < j → keyEq (at_ l i).k k = false) ∧ wr = W1.drewN m) (fun i _ => l.length - (RowKit.intOf i).toNat)
    case atStart => exact ⟨0, 0, by omega, rfl, fun k hk => absurd hk (Nat.not_lt_zero k), rfl⟩
    case round =>
      obtain ⟨j, m, hj, rfl, hno, rfl⟩ := hrel
      by_cases hlt : j < l.length
      · obtain ⟨y0, y1, y2, y3⟩ := hcell j hlt
        have hlt' : (j : Int) < (l.length : Int) := by omega
        have HK := kk_is (at_ l j).k k
        have HN := Lib.hid hno
        clear hno hcell
        go_wp2_with fail
        cases hq : keyEq (at_ l j).k k
        · rw [hq] at HK
          go_quiet (fail)
          go_wp2_with fail
          go_roundw
          case rel => exact ⟨j + 1, m + nq, by omega, by go_num, fun k hk => (by by_cases e : k = j; rw [e]; exact hq; exact HN.out k (by omega)), rfl⟩
          case measure => simp [RowKit.intOf]; omega
        · rw [hq] at HK
          obtain ⟨_, _, p3⟩ := place_here hlt HN.out hq
          go_quiet (fail)
          go_wp2_with fail
          go_ret
          exact ⟨ret_place p3, by rw [World.drewN_drewN]; exact below_drewN b1 _⟩
      · obtain rfl : l.length = j := by omega
        obtain ⟨_, p⟩ := place_none (l := l) (k := k) (fun i hi => hno i hi)
        clear hno hcell
        go_wp2_with fail
        go_ret
        exact ⟨ret_place p, below_drewN b1 _⟩
end Go.Proofs.Ytilijnalhkeggaa.Hs
