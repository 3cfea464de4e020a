/-
  Contracts and plain facts: FState, FProg, FProg2. Conditions: each says its own.
-/
import Derived.Test.YtnbdoemnepfhdaaGreatR29
import Derived.Test.YtnbdoemnepfhdaaGreatR20
import Derived.Lib.MinMax
import Derived.Deep.OwnRows
import Derived.RegionTactic
import Derived.ChangeAlike
import Derived.BigQuiet
namespace Go.Proofs.YtnbdoemnepfhdaaGreat.Frm
open Fld
open Go.ChangeShapes Go.WideShapes Go.ChangeAt Go.RowKit
def rowB (T : Nat → Bool) (n : Nat) : Array Value := ((List.range n).map fun i => Value.bool (T i)).toArray
theorem rowB_size (T : Nat → Bool) (n : Nat) : (rowB T n).size = n := by simp [rowB]
theorem rowB_get (T : Nat → Bool) {n j : Nat} (h : j < n) : (rowB T n)[j]? = some (.bool (T j)) := by simp [rowB, h]
theorem rowB_set (T U : Nat → Bool) {n j : Nat} (v : Bool) (hU : ∀ k, k < n → U k = if k = j then v else T k) : (rowB T n).setIfInBounds j (.bool v) = rowB U n := by
  apply Array.ext_getElem?
  intro k
  rw [Array.getElem?_setIfInBounds]
  by_cases hk : k < n
  · rw [rowB_get U hk, rowB_get T hk, hU k hk]
    by_cases e : j = k
    · subst e; rw [if_pos rfl, if_pos (by simp [rowB_size]; omega), if_pos rfl]
    · rw [if_neg e, if_neg (by omega)]
  · have h1 : ∀ V : Nat → Bool, (rowB V n)[k]? = none := fun V => by simp [rowB]; omega
    rw [h1, h1]
    split
    · split
      · rename_i e h2; simp [rowB_size] at h2; omega
      · rfl
    · rfl
theorem rowB_congr {T U : Nat → Bool} {n : Nat} (h : ∀ k, k < n → T k = U k) : rowB T n = rowB U n := by
  apply Array.ext_getElem?
  intro k
  by_cases hk : k < n
  · rw [rowB_get U hk, rowB_get T hk, h k hk]
  · simp [rowB, hk]
theorem made_rowB (n : Nat) : madeCells #[Value.bool false] n = rowB (fun _ => false) n := by
  apply Array.ext'
  rw [toList_madeCells_one]
  simp [rowB, List.map_const']
/-- Frames at block sb of w, whose list of bools is block bb: n of them, T says which are taken; the number beside it is fr. -/
structure FrRow (w : World) (sb bb n : Nat) (T : Nat → Bool) (fr : Int) : Prop where
  s : w.heap[sb]? = some (.cells #[.slice (some ⟨bb, 0, none⟩) n n, .int .i64 fr] 90 (0, 0))
  b : w.heap[bb]? = some (.cells (rowB T n) 4 (0, 0))
  le : n ≤ 65536
abbrev FrAt (w : World) (sb bb n : Nat) (T : Nat → Bool) : Prop := FrRow w sb bb n T (cnt T n : Int)
/-- Of what was in w all stays but blocks sb and bb. -/
structure Turn (w w' : World) (sb bb : Nat) : Prop where
  os : w'.os = w.os
  tape : w'.tape = w.tape
  output : w'.output = w.output
  size : w.heap.size ≤ w'.heap.size
  block : ∀ k, k < w.heap.size → k ≠ sb → k ≠ bb → w'.heap[k]? = w.heap[k]?
theorem FrRow.ne {w : World} {sb bb n : Nat} {T : Nat → Bool} {fr : Int} (h : FrRow w sb bb n T fr) : sb ≠ bb := by
  rintro rfl
  have e := h.s.symm.trans h.b
  injection e with e
  injection e with e _ _
  cases n with
  | zero => have := congrArg Array.size e; simp [rowB] at this
  | succ n =>
    have := congrArg (fun a => a[0]?) e
    simp only [rowB_get T (Nat.succ_pos n)] at this
    simp at this
theorem FrRow.lt {w : World} {sb bb n : Nat} {T : Nat → Bool} {fr : Int} (h : FrRow w sb bb n T fr) : sb < w.heap.size ∧ bb < w.heap.size :=
  ⟨(Array.getElem?_eq_some_iff.1 h.s).1, (Array.getElem?_eq_some_iff.1 h.b).1⟩
theorem FrRow.same {w w' : World} {sb bb n : Nat} {T : Nat → Bool} {fr : Int} (h : FrRow w sb bb n T fr) (h1 : w'.heap[sb]? = w.heap[sb]?) (h2 : w'.heap[bb]? = w.heap[bb]?) : FrRow w' sb bb n T fr := ⟨h1.trans h.s, h2.trans h.b, h.le⟩
theorem FrRow.below {w w' : World} {sb bb n : Nat} {T : Nat → Bool} {fr : Int} (h : FrRow w sb bb n T fr) (k : Below w.heap.size w w') : FrRow w' sb bb n T fr := h.same (k.block _ h.lt.1) (k.block _ h.lt.2)
theorem FrRow.drewN {w : World} {sb bb n : Nat} {T : Nat → Bool} {fr : Int} (h : FrRow w sb bb n T fr) (m : Nat) : FrRow (w.drewN m) sb bb n T fr := h.same rfl rfl
theorem FrRow.c0 {w : World} {sb bb n : Nat} {T : Nat → Bool} {fr : Int} (h : FrRow w sb bb n T fr) : w.cell? ⟨sb, 0, none⟩ = some (.slice (some ⟨bb, 0, none⟩) n n) := by simp [World.cell?, h.s]
theorem FrRow.c1 {w : World} {sb bb n : Nat} {T : Nat → Bool} {fr : Int} (h : FrRow w sb bb n T fr) : w.cell? ⟨sb, 1, none⟩ = some (.int .i64 fr) := by simp [World.cell?, h.s]
theorem FrRow.f1 {w : World} {sb bb n : Nat} {T : Nat → Bool} {fr : Int} (h : FrRow w sb bb n T fr) : w.frozen? ⟨sb, 1, none⟩ = false := by simp [World.frozen?, h.s]
theorem FrRow.cb {w : World} {sb bb n : Nat} {T : Nat → Bool} {fr : Int} (h : FrRow w sb bb n T fr) {j : Nat} (hj : j < n) : w.cell? ⟨bb, j, none⟩ = some (.bool (T j)) := by simp [World.cell?, h.b, rowB_get T hj]
theorem FrRow.fb {w : World} {sb bb n : Nat} {T : Nat → Bool} {fr : Int} (h : FrRow w sb bb n T fr) (j : Nat) : w.frozen? ⟨bb, j, none⟩ = false := by simp [World.frozen?, h.b]
theorem heap_set {w : World} {b o : Nat} {c : Array Value} {e : TypeId} {f : Nat × Nat} (h : w.heap[b]? = some (.cells c e f)) (v : Value) : (w.setCell ⟨b, o, none⟩ v).heap[b]? = some (.cells (c.setIfInBounds o v) e f) := by
  simp [World.setCell, Array.getElem?_modify, h]
theorem FrRow.putB {w : World} {sb bb n : Nat} {T U : Nat → Bool} {fr : Int} (h : FrRow w sb bb n T fr) (j : Nat) (v : Bool) (hU : ∀ k, k < n → U k = if k = j then v else T k) : FrRow (w.setCell ⟨bb, j, none⟩ (.bool v)) sb bb n U fr :=
  ⟨(Below.heap_setCell _ _ _ _ h.ne).trans h.s, by rw [heap_set h.b, rowB_set T U v hU], h.le⟩
theorem FrRow.putF {w : World} {sb bb n : Nat} {T : Nat → Bool} {fr : Int} (h : FrRow w sb bb n T fr) (g : Int) : FrRow (w.setCell ⟨sb, 1, none⟩ (.int .i64 g)) sb bb n T g :=
  ⟨by rw [heap_set h.s]; rfl, (Below.heap_setCell _ _ _ _ h.ne.symm).trans h.b, h.le⟩
theorem FrRow.congr {w : World} {sb bb n : Nat} {T U : Nat → Bool} {fr gr : Int} (h : FrRow w sb bb n T fr) (hT : ∀ k, k < n → T k = U k) (hg : fr = gr) : FrRow w sb bb n U gr := ⟨hg ▸ h.s, by rw [h.b, rowB_congr hT], h.le⟩
theorem Turn.refl (w : World) (sb bb : Nat) : Turn w w sb bb := ⟨rfl, rfl, rfl, Nat.le_refl _, fun _ _ _ _ => rfl⟩
theorem Turn.trans {a b c : World} {sb bb : Nat} (h : Turn a b sb bb) (k : Turn b c sb bb) : Turn a c sb bb :=
  ⟨k.os.trans h.os, k.tape.trans h.tape, k.output.trans h.output, Nat.le_trans h.size k.size, fun i hi h1 h2 =>
    (k.block i (Nat.lt_of_lt_of_le hi h.size) h1 h2).trans (h.block i hi h1 h2)⟩
theorem Turn.of_below {a b : World} (sb bb : Nat) (k : Below a.heap.size a b) : Turn a b sb bb := ⟨k.os, k.tape, k.output, k.size, fun i hi _ _ => k.block i hi⟩
theorem Turn.drewN {a b : World} {sb bb : Nat} (h : Turn a b sb bb) (m : Nat) : Turn a (b.drewN m) sb bb := ⟨h.os, h.tape, h.output, h.size, h.block⟩
theorem Turn.alloc {a b : World} {sb bb : Nat} (h : Turn a b sb bb) (o : Obj) : Turn a (b.alloc o) sb bb :=
  h.trans (Turn.of_below _ _ ((Below.refl _ _).alloc (Nat.le_refl _) o))
theorem Turn.setCell {a b : World} {sb bb : Nat} (h : Turn a b sb bb) (p : Addr) (hp : p.block = sb ∨ p.block = bb ∨ a.heap.size ≤ p.block) (u : Value) : Turn a (b.setCell p u) sb bb :=
  ⟨h.os, h.tape, h.output, by simpa [World.setCell] using h.size, fun i hi h1 h2 => (Below.heap_setCell _ _ _ _ (by omega)).trans (h.block i hi h1 h2)⟩
/-- Frames that were made behind B: nothing below B has turned. -/
theorem Turn.to_below {a b : World} {sb bb B : Nat} (h : Turn a b sb bb) (h1 : B ≤ sb) (h2 : B ≤ bb) (hB : B ≤ a.heap.size) : Below B a b :=
  ⟨h.os, h.tape, h.output, h.size, fun k hk => h.block k (by omega) (by omega) (by omega)⟩
theorem ret_none {fn : Func} {R : Ending → World → Prop} {a : Act} {w : World} (h : fn.results = #[]) (hd : a.defers = []) (hR : R (.returned (.tuple #[])) w) : bodyPost Tryz.prog fn R .ret a w := bodyPost_ret (results_none h _ _ _) hd hR
end Go.Proofs.YtnbdoemnepfhdaaGreat.Frm

namespace Go.Proofs.YtnbdoemnepfhdaaGreat.Frm
open Fld
open Go.ChangeShapes Go.WideShapes Go.ChangeAt Go.RowKit
set_option maxHeartbeats 400000
theorem infoB : (Tryz.prog.info? 4).map (fun i => (i.zero, i.size, i.bytes)) = some (some (.bool false), 1, 1) := by kernel_rfl
/-- How many frames New makes. -/
def newN (n : Int) : Nat := (min (max n 0) 65536).toNat
theorem new_any (n : Int) (w : World) :
    Calls Tryz.prog 22 #[.int .i64 n] w fun e w' => e = .returned (.pointer (some ⟨w.heap.size + 1, 0, none⟩)) ∧ FrAt w' (w.heap.size + 1) w.heap.size (newN n) (fun _ => false) ∧ Below w.heap.size w w' := by
  obtain ⟨N, hN⟩ : ∃ N, newN n = N := ⟨_, rfl⟩
  have hle : N ≤ 65536 := by rw [← hN]; unfold newN; omega
  have hmn : min (max n 0) 65536 = (N : Int) := by rw [← hN]; unfold newN; omega
  have hmk : ∀ w : World, (Instr.makeSlice 88 (.int .i64 (N : Int)) (.int .i64 (N : Int))).run Tryz.prog w = .ok (.slice (some ⟨w.heap.size, 0, none⟩) N N) (w.alloc (.cells (rowB (fun _ => false) N) 4)) := fun w => by
    rw [← made_rowB]; exact run_make_row' (P := Tryz.prog) 88 4 (.bool false) 1 Tryz.underlying88 infoB rfl .i64 .i64 N (by omega) (by omega) w
  rw [hN]
  clear hN
  go_enter Tryz.func22, Tryz.ntmps22
  go_wp2
  go_ret
  refine ⟨rfl, ⟨?_, ?_, hle⟩, ((Below.refl _ _).alloc (Nat.le_refl _) _).alloc (by simp) _⟩
  · rw [cnt_new]
    have := heap_alloc_new (w.alloc (.cells (rowB (fun _ => false) N) 4)) (.cells #[.slice (some ⟨w.heap.size, 0, none⟩) N N, .int .i64 (N : Int)] 90)
    simpa using this
  · have := heap_alloc_new w (.cells (rowB (fun _ => false) N) 4)
    exact (Below.heap_alloc _ _ _ (by simp)).trans this
theorem free_any {sb bb n : Nat} {T : Nat → Bool} {fr : Int} (w : World) (h : FrRow w sb bb n T fr) :
    Calls Tryz.prog 17 #[.pointer (some ⟨sb, 0, none⟩)] w fun e w' => e = .returned (.int .i64 fr) ∧ w = w' := by
  have c1 := h.c1
  go_enter Tryz.func17, Tryz.ntmps17
  go_wp2
  go_ret
  exact ⟨rfl, rfl⟩
end Go.Proofs.YtnbdoemnepfhdaaGreat.Frm

namespace Go.Proofs.YtnbdoemnepfhdaaGreat.Frm
open Fld
open Go.ChangeShapes Go.WideShapes Go.ChangeAt Go.RowKit
set_option maxHeartbeats 400000
theorem all_any {sb bb n : Nat} {T : Nat → Bool} {fr : Int} (f k : Nat) (v : Bool) (hk : f + k ≤ n) (w : World) (h : FrRow w sb bb n T fr) :
    Calls Tryz.prog 78 #[.pointer (some ⟨sb, 0, none⟩), .int .i64 (f : Int), .int .i64 (k : Int), .bool v] w fun e w' => e = .returned (.bool (allB T f k v)) ∧ w = w' := by
  have c0 := h.c0
  have hn := h.le
  by_cases hnf : n = f
  · obtain rfl : k = 0 := by omega
    subst hnf
    go_enter Tryz.func78, Tryz.ntmps78
    go_wp2
    go_loop [21] (fun i => i = .int .i64 0) (fun _ => 0)
    case atStart => rfl
    case round =>
      obtain rfl := hrel
      go_wp2
      go_ret
      exact ⟨rfl, rfl⟩
  go_enter Tryz.func78, Tryz.ntmps78
  go_wp2
  go_loop [21] (fun i => ∃ j : Nat, j ≤ k ∧ i = .int .i64 (j : Int) ∧ Hid (∀ q, q < j → T (f + q) = v)) (fun i => k - (intOf i).toNat)
  case atStart => exact ⟨0, by omega, rfl, Lib.hid (fun q hq => by omega)⟩
  case round =>
    obtain ⟨j, hj, rfl, HJ⟩ := hrel
    by_cases hlt : (j : Int) < (k : Int)
    · have cb := h.cb (j := f + j) (by omega)
      by_cases hv : T (f + j) = v
      · have HJ2 := Lib.hid (show ∀ q, q < j + 1 → T (f + q) = v from fun q hq => by
          by_cases e : q = j
          · rw [e]; exact hv
          · exact HJ.out q (by omega))
        rw [hv] at cb
        clear hv HJ
        go_wp2
        go_round
        case rel => exact ⟨j + 1, by omega, by go_num, HJ2⟩
        case measure => simp [intOf]; omega
      · have E := Lib.hid (show allB T f k v = false from allB_not.2 ⟨j, by omega, hv⟩)
        have hv2 : T (f + j) = !v := by cases hT : T (f + j) <;> cases v <;> simp_all
        rw [hv2] at cb
        clear hv hv2 HJ
        go_wp2
        go_ret
        exact ⟨ret_bool E.out.symm, rfl⟩
    · obtain rfl : k = j := by omega
      have E := Lib.hid (show allB T f k v = true from allB_iff.2 HJ.out)
      clear HJ
      go_wp2
      go_ret
      exact ⟨ret_bool E.out.symm, rfl⟩
theorem mark_any {sb bb n : Nat} {T : Nat → Bool} {fr : Int} (f k : Nat) (v : Bool) (hk : f + k ≤ n) (w : World) (h : FrRow w sb bb n T fr) :
    Calls Tryz.prog 79 #[.pointer (some ⟨sb, 0, none⟩), .int .i64 (f : Int), .int .i64 (k : Int), .bool v] w fun e w' => e = .returned (.tuple #[]) ∧ FrRow w' sb bb n (setT T f k v) fr ∧ Turn w w' sb bb := by
  have hn := h.le
  go_enter Tryz.func79, Tryz.ntmps79
  go_wp2
  go_loopw [10] (fun i wr => ∃ j : Nat, j ≤ k ∧ i = .int .i64 (j : Int) ∧ FrRow wr sb bb n (setT T f j v) fr ∧ Turn w wr sb bb) (fun i _ => k - (intOf i).toNat)
  case atStart => exact ⟨0, by omega, rfl, by rw [setT_zero]; exact h, Turn.refl _ _ _⟩
  case round =>
    obtain ⟨j, hj, rfl, hr, ht⟩ := hrel
    by_cases hlt : (j : Int) < (k : Int)
    · have c0 := hr.c0
      have cb := hr.cb (j := f + j) (by omega)
      have fb := hr.fb (f + j)
      have hr2 := hr.putB (U := setT T f (j + 1) v) (f + j) v (fun q hq => setT_succ T f j v q)
      have ht2 := ht.setCell ⟨bb, f + j, none⟩ (.inr (.inl rfl)) (.bool v)
      clear hr ht
      go_wp2
      go_roundw
      case rel => exact ⟨j + 1, by omega, by go_num, hr2, ht2⟩
      case measure => simp [intOf]; omega
    · obtain rfl : k = j := by omega
      go_wp2
      go_end0
      exact ⟨rfl, hr, ht⟩
theorem take_any {sb bb n : Nat} {T : Nat → Bool} (f k : Nat) (hk : f + k ≤ n) (ha : allB T f k false = true) (w : World) (h : FrAt w sb bb n T) :
    Calls Tryz.prog 52 #[.pointer (some ⟨sb, 0, none⟩), .int .i64 (f : Int), .int .i64 (k : Int)] w fun e w' => e = .returned (.tuple #[]) ∧ FrAt w' sb bb n (setT T f k true) ∧ Turn w w' sb bb := by
  have hn := h.le
  have hc := cnt_take hk ha
  have hl := cnt_le T n
  go_enter Tryz.func52, Tryz.ntmps52
  go_wp2_with (go_at_call 79; refine (mark_any _ _ _ hk _ h).mono ?_; rintro e w' ⟨rfl, hr, ht⟩; have c1 := hr.c1; have f1 := hr.f1)
  go_end0
  refine ⟨rfl, (hr.putF _).congr (fun _ _ => rfl) (by omega), ht.setCell ⟨sb, 1, none⟩ (.inl rfl) _⟩
theorem next_any {sb bb n : Nat} {T : Nat → Bool} {fr : Int} (f : Nat) (v : Bool) (hf : f ≤ n) (w : World) (h : FrRow w sb bb n T fr) :
    Calls Tryz.prog 85 #[.pointer (some ⟨sb, 0, none⟩), .int .i64 (f : Int), .bool v] w fun e w' => e = .returned (.int .i64 (nxt T n f v : Int)) ∧ w = w' := by
  have hn := h.le
  have c0 := h.c0
  go_enter Tryz.func85, Tryz.ntmps85
  go_wp2
  go_loop [1] (fun i => ∃ j : Nat, f ≤ j ∧ j ≤ n ∧ i = .int .i64 (j : Int) ∧ Hid (∀ q, f ≤ q → q < j → T q ≠ v)) (fun i => n - (intOf i).toNat)
  case atStart => exact ⟨f, by omega, by omega, rfl, Lib.hid (fun q _ hq => by omega)⟩
  case round =>
    obtain ⟨j, hfj, hj, rfl, HJ⟩ := hrel
    by_cases hlt : (j : Int) < (n : Int)
    · have cb := h.cb (j := j) (by omega)
      by_cases hv : T j = v
      · have E := Lib.hid (nxt_eq hf hfj hj HJ.out (fun _ => hv))
        rw [hv] at cb
        clear hv HJ
        go_wp2
        go_ret
        exact ⟨ret_int (by rw [E.out]), rfl⟩
      · have HJ2 := Lib.hid (show ∀ q, f ≤ q → q < j + 1 → T q ≠ v from fun q h1 hq => by
          by_cases e : q = j
          · rw [e]; exact hv
          · exact HJ.out q h1 (by omega))
        have hv2 : T j = !v := by cases hT : T j <;> cases v <;> simp_all
        rw [hv2] at cb
        clear hv hv2 HJ
        go_wp2
        go_round
        case rel => exact ⟨j + 1, by omega, by omega, by go_num, HJ2⟩
        case measure => simp [intOf]; omega
    · obtain rfl : n = j := by omega
      have E := Lib.hid (nxt_eq hf hf (Nat.le_refl _) HJ.out (fun h => absurd h (by omega)))
      clear HJ
      go_wp2
      go_ret
      exact ⟨ret_int (by rw [E.out]), rfl⟩
/-- Give's error, as a number, and what is taken then. -/
def giveE (T : Nat → Bool) (n : Nat) (f k : Int) : Int := if k < 1 then 1 else if f < 0 ∨ (n : Int) - k < f then 5 else if allB T f.toNat k.toNat true then 0 else 11
def giveT (T : Nat → Bool) (n : Nat) (f k : Int) : Nat → Bool := if giveE T n f k = 0 then setT T f.toNat k.toNat false else T
theorem give_any {sb bb n : Nat} {T : Nat → Bool} (f k : Int) (f0 : -9223372036854775808 ≤ f) (f1 : f ≤ 9223372036854775807) (k0 : -9223372036854775808 ≤ k) (k1 : k ≤ 9223372036854775807) (w : World) (h : FrAt w sb bb n T) :
    Calls Tryz.prog 48 #[.pointer (some ⟨sb, 0, none⟩), .int .i64 f, .int .i64 k] w fun e w' => e = .returned (.int .i64 (giveE T n f k)) ∧ FrAt w' sb bb n (giveT T n f k) ∧ Turn w w' sb bb := by
  have hn := h.le
  have c0 := h.c0
  by_cases a1 : k < 1
  · have E := Lib.hid (show giveE T n f k = 1 by unfold giveE; rw [if_pos a1])
    have hT : giveT T n f k = T := by unfold giveT; rw [E.out]; rfl
    rw [hT]
    clear hT
    go_enter Tryz.func48, Tryz.ntmps48
    go_wp2
    go_ret
    exact ⟨ret_int E.out.symm, h, Turn.refl _ _ _⟩
  · by_cases a2 : f < 0
    · have E := Lib.hid (show giveE T n f k = 5 by unfold giveE; rw [if_neg a1, if_pos (.inl a2)])
      have hT : giveT T n f k = T := by unfold giveT; rw [E.out]; rfl
      rw [hT]
      clear hT
      go_enter Tryz.func48, Tryz.ntmps48
      go_wp2
      go_ret
      exact ⟨ret_int E.out.symm, h, Turn.refl _ _ _⟩
    · by_cases a3 : (n : Int) - k < f
      · have E := Lib.hid (show giveE T n f k = 5 by unfold giveE; rw [if_neg a1, if_pos (.inr a3)])
        have hT : giveT T n f k = T := by unfold giveT; rw [E.out]; rfl
        rw [hT]
        clear hT
        go_enter Tryz.func48, Tryz.ntmps48
        go_wp2
        go_ret
        exact ⟨ret_int E.out.symm, h, Turn.refl _ _ _⟩
      · obtain ⟨F, rfl⟩ : ∃ F : Nat, f = (F : Int) := ⟨f.toNat, by omega⟩
        obtain ⟨K, rfl⟩ : ∃ K : Nat, k = (K : Int) := ⟨k.toNat, by omega⟩
        have hFK : F + K ≤ n := by omega
        cases ha : allB T F K true
        · have E := Lib.hid (show giveE T n F K = 11 by unfold giveE; rw [if_neg a1, if_neg (by omega)]; simp [ha])
          have hT : giveT T n F K = T := by unfold giveT; rw [E.out]; rfl
          rw [hT]
          clear hT
          go_enter Tryz.func48, Tryz.ntmps48
          go_wp2_with (go_at_call 78; refine (all_any _ _ _ hFK _ h).mono ?_; rintro e w' ⟨rfl, rfl⟩)
          go_ret
          exact ⟨ret_int E.out.symm, h, Turn.refl _ _ _⟩
        · have E := Lib.hid (show giveE T n F K = 0 by unfold giveE; rw [if_neg a1, if_neg (by omega)]; simp [ha])
          have hT : giveT T n F K = setT T F K false := by unfold giveT; rw [E.out]; simp
          have hc := cnt_give hFK ha
          have hl := cnt_le T n
          rw [hT]
          clear hT
          go_enter Tryz.func48, Tryz.ntmps48
          go_wp2_with (first | (go_at_call 78; refine (all_any _ _ _ hFK _ h).mono ?_; rintro e w' ⟨rfl, rfl⟩) | (go_at_call 79; refine (mark_any _ _ _ hFK _ h).mono ?_; rintro e w' ⟨rfl, hr, ht⟩; have c1 := hr.c1; have f1 := hr.f1))
          go_ret
          exact ⟨ret_int E.out.symm, (hr.putF _).congr (fun _ _ => rfl) (by omega), ht.setCell ⟨sb, 1, none⟩ (.inl rfl) _⟩
end Go.Proofs.YtnbdoemnepfhdaaGreat.Frm

