/-
  Contracts and plain facts: FIter, FLong, FTake, FMany. Conditions: each says its own.
-/
import Derived.Test.YtnbdoemnepfhdaaGreatR31
import Derived.RangeFuncBound
import Derived.WalkKit
import Derived.BigRegionIn
namespace Go.Proofs.YtnbdoemnepfhdaaGreat.Frm
open Fld
open Go.ChangeShapes Go.WideShapes Go.ChangeAt Go.RowKit Go.Shelf
attribute [local go_sem] Oper.semAt_some
theorem wide_fn (f : Nat) : Fence.wide.fn f := trivial
def sF (T : Nat → Bool) (N e : Nat) : Nat := nxt T N e false
def sZ (T : Nat → Bool) (N e : Nat) : Nat := nxt T N (nxt T N e false) true
def sEnc (T : Nat → Bool) (N e : Nat) : Array Value := #[.int .i64 (sF T N e : Int), .int .i64 ((sZ T N e : Int) - (sF T N e : Int))]
def sAt (T : Nat → Bool) (N e : Nat) : Prop := e ≤ N ∧ (e = 0 ∨ e = N ∨ T e = true)
theorem sAt_next {T : Nat → Bool} {N e : Nat} (h : sAt T N e) : sAt T N (sZ T N e) ∧ sF T N e ≤ sZ T N e ∧ e ≤ sF T N e ∧ sF T N e ≤ N ∧ (sF T N e < N → sF T N e < sZ T N e) := by
  obtain ⟨a1, a2, a3, a4⟩ := nxt_spec (T := T) (v := false) h.1
  obtain ⟨b1, b2, b3, b4⟩ := nxt_spec (T := T) (v := true) (i := nxt T N e false) (N := N) (by omega)
  refine ⟨⟨b2, ?_⟩, b1, a1, a2, fun hf => ?_⟩
  · by_cases h : sZ T N e < N
    · exact .inr (.inr (b4 h))
    · exact .inr (.inl (by unfold sZ at *; omega))
  · have := a4 hf
    unfold sF sZ at *
    by_cases e2 : nxt T N e false = nxt T N (nxt T N e false) true
    · rw [e2, b4 (by omega)] at this; cases this
    · omega
set_option maxRecDepth 100000 in
set_option maxHeartbeats 2000000 in
theorem stretches_iter (n : Nat) {sb bb N n₀ : Nat} {T : Nat → Bool} {fr : Int} (w : World) (h : FrRow w sb bb N T fr) (h1 : sb < n₀) (h2 : bb < n₀) :
    Iter n 51 #[.pointer (some ⟨sb, 0, none⟩)] #[] (sEnc T N) (sZ T N) (fun e => sAt T N e ∧ sF T N e < N) (fun e => sAt T N e ∧ sF T N e = N) 0 n₀ w := by
  intro l J Jx W hW hJd hY h0
  have hle := h.le
  have hfr : FrRow W sb bb N T fr := h.below hW
  refine callsIn_of_wp Tryz.func51 rfl (wide_fn _) ?_ rfl
  simp only [Tryz.ntmps51, List.size_toArray, List.length_cons, List.length_nil, Nat.reduceAdd, Nat.reduceSub, Array.replicate_succ, Array.replicate_zero, List.push_toArray, List.append_toArray, List.nil_append, List.cons_append]
  gi_wp2
  gi_loopw [4] (fun i wr => ∃ e : Nat, i = .int .i64 (e : Int) ∧ sAt T N e ∧ J e wr ∧ Below n₀ W wr) (fun i _ => N - (intOf i).toNat)
  case atStart => exact ⟨0, rfl, ⟨Nat.zero_le _, .inl rfl⟩, h0, Below.refl _ _⟩
  case round =>
    obtain ⟨e, rfl, hat, hJs, hbw⟩ := hrel
    have hfw : FrRow wr sb bb N T fr := hfr.same (hbw.block _ h1) (hbw.block _ h2)
    have c0 := hfw.c0
    obtain ⟨hat2, k1, k2, k3, k4⟩ := sAt_next hat
    by_cases hf : sF T N e = N
    · have E1 : nxt T N e false = N := hf
      gi_wp2_with ((first | (refine ⟨trivial, ?_⟩; gi_at_call 85) | (refine ⟨trivial, fun h => absurd h (by decide), ?_⟩; gi_at_call 85)); refine (callsIn_wide.2 (next_any _ _ hat.1 _ hfw)).mono ?_; rintro e w' ⟨rfl, rfl⟩)
      refine ret_none rfl rfl ?_
      exact ⟨⟨_, rfl⟩, .inl ⟨e, ⟨hat, hf⟩, hJs⟩⟩
    · obtain ⟨fn, tmps, assign, body, hy, hR⟩ := hY e wr hJs ⟨hat, by omega⟩
      unfold sEnc at hy
      have e1 : e ≤ N := hat.1
      clear hat h0 hY
      obtain ⟨f, Ef⟩ : ∃ f, sF T N e = f := ⟨_, rfl⟩
      obtain ⟨z, Ez⟩ : ∃ z, sZ T N e = z := ⟨_, rfl⟩
      have E1 : nxt T N e false = f := Ef
      have E2 : nxt T N f true = z := by rw [← E1]; exact Ez
      simp only [Ef, Ez] at hy hf hat2 k1 k2 k3 k4 hR
      clear Ef Ez
      have E1 := Lib.hid E1
      have E2 := Lib.hid E2
      have hlt : f < N := by omega
      have hz := hat2.1
      gi_wp2_with (refine ⟨trivial, fun h => absurd h (by decide), ?_⟩; gi_at_call 85; refine (callsIn_wide.2 (next_any _ _ (by omega) _ hfw)).mono ?_; (first | rw [E1.out] | rw [E2.out]); rintro e w' ⟨rfl, rfl⟩)
      refine ⟨fun h => absurd h (by decide), hR.mono ?_⟩
      rintro e W3 (⟨rfl, hJ3, hk3⟩ | ⟨rfl, hJx3⟩)
      · gi_wp2
        go_roundw
        case rel => exact ⟨z, rfl, hat2, hJ3, hbw.trans hk3⟩
        case measure => simp [intOf]; omega
      · gi_wp2
        refine ret_none rfl rfl ?_
        exact ⟨⟨_, rfl⟩, .inr hJx3⟩
end Go.Proofs.YtnbdoemnepfhdaaGreat.Frm

namespace Go.Proofs.YtnbdoemnepfhdaaGreat.Frm
open Fld
open Go.ChangeShapes Go.WideShapes Go.ChangeAt Go.RowKit Go.Shelf
attribute [local go_sem] Oper.semAt_some
theorem boxed_own1 {σ : Type} (B : Nat) (t : TypeId) (f : σ → Value) : Own (fun (s : σ) W => Boxed W B t (f s)) := fun s W W' row hs hg hr =>
  hs.kept hg (fun e => by
    obtain ⟨o, ho, hc⟩ := hr _ e.symm
    rw [show W.heap[B]? = _ from hs] at ho
    injection ho with ho
    rw [← ho] at hc
    cases hc)
theorem row_own {σ : Type} (B sb bb n : Nat) (T : Nat → Bool) (fr : Int) (h1 : sb < B) (h2 : bb < B) : OwnFrom B (fun (_ : σ) W => FrRow W sb bb n T fr) := fun s W W' row hs hg hr =>
  hs.same (hg.block _ hs.lt.1 (fun e => by have := (hr _ e.symm).1; omega)) (hg.block _ hs.lt.2 (fun e => by have := (hr _ e.symm).1; omega))
end Go.Proofs.YtnbdoemnepfhdaaGreat.Frm

namespace Go.Proofs.YtnbdoemnepfhdaaGreat.Frm
open Fld
open Go.ChangeShapes Go.WideShapes Go.ChangeAt Go.RowKit Go.Shelf
attribute [local go_sem] Oper.semAt_some
theorem Turn.keeps {W W' : World} {sb bb B : Nat} (h : Turn W W' sb bb) (h1 : sb < B) (h2 : bb < B) : KeepsFrom B W W' :=
  ⟨h.size, fun k o hB hk _ => (h.block k (Array.getElem?_eq_some_iff.1 hk).1 (by omega) (by omega)).trans hk⟩
theorem turn_own {σ : Type} (w : World) (sb bb B : Nat) (hB : w.heap.size ≤ B) : OwnFrom B (fun (_ : σ) W => Turn w W sb bb) := fun s W W' row hs hg hr =>
  ⟨hg.os.trans hs.os, hg.tape.trans hs.tape, hg.output.trans hs.output, Nat.le_trans hs.size hg.size, fun k hk h1 h2 =>
    (hg.block k (Nat.lt_of_lt_of_le hk hs.size) (fun e => by have := (hr _ e.symm).1; omega)).trans (hs.block k hk h1 h2)⟩
theorem boxTurn {W W' : World} {sb bb B : Nat} {t : TypeId} {v : Value} (h : Boxed W B t v) (k : Turn W W' sb bb) (h1 : B ≠ sb) (h2 : B ≠ bb) : Boxed W' B t v := (k.block B h.lt h1 h2).trans h
/-- What is told of the first place that was found. -/
def pickE (o : Option Nat) : Int := if o.isSome then 0 else 6
def pickI (o : Option Nat) : Int := (o.getD 0 : Nat)
def pickT (T : Nat → Bool) (k : Nat) (o : Option Nat) : Nat → Bool := match o with | some i => setT T i k true | none => T
/-- Between two rounds of Take: nothing has been found. -/
structure TakI (w : World) (z sb bb n k : Nat) (T : Nat → Bool) (j : Nat) (W : World) : Prop where
  fr : FrAt W sb bb n T
  b0 : Boxed W z 39 (.pointer (some ⟨sb, 0, none⟩))
  b1 : Boxed W (z + 1) 3 (.int .i64 0)
  b2 : Boxed W (z + 1 + 1) 49 (.int .i64 0)
  b3 : Boxed W (z + 1 + 1 + 1) 3 (.int .i64 (k : Int))
  tn : Turn w W sb bb
  no : ∀ i, i < j → okAt T n k k (i * k) = false
/-- So many have been found, and are taken. -/
structure TakX (w : World) (z sb bb n k each : Nat) (T : Nat → Bool) (W : World) : Prop where
  is : ∃ i, pick T n k each = some i ∧ FrAt W sb bb n (setT T i k true) ∧ Boxed W (z + 1) 3 (.int .i64 (i : Int))
  b2 : Boxed W (z + 1 + 1) 49 (.int .i64 0)
  tn : Turn w W sb bb
theorem takX_own (w : World) (z sb bb n k each : Nat) (T : Nat → Bool) (B : Nat) (h1 : sb < B) (h2 : bb < B) (hB : w.heap.size ≤ B) : OwnFrom B (fun (_ : Unit) W => TakX w z sb bb n k each T W) := fun j W W' row hs hg hr =>
  ⟨hs.is.imp fun _ ⟨a, b, c⟩ => ⟨a, row_own (σ := Unit) B sb bb n _ _ h1 h2 j W W' row b hg hr, (boxed_own1 (σ := Unit) _ _ (fun _ => _)).from B j W W' row c hg hr⟩, (boxed_own1 (σ := Unit) _ _ (fun _ => _)).from B j W W' row hs.b2 hg hr, turn_own (σ := Unit) w sb bb B hB j W W' row hs.tn hg hr⟩
theorem boxPut {W : World} {B D : Nat} {t : TypeId} {v : Value} (h : Boxed W B t v) (o : Obj) {x : Option (List Deferred)} (hD : W.heap[D]? = some (.deferred x)) : Boxed (W.putObj D o) B t v :=
  (World.putObj_heap_other (fun e => by subst e; rw [show W.heap[B]? = _ from h] at hD; injection hD with hD; cases hD)).trans h
theorem FrRow.putObj {W : World} {sb bb n D : Nat} {T : Nat → Bool} {fr : Int} (h : FrRow W sb bb n T fr) (o : Obj) (h1 : sb < D) (h2 : bb < D) : FrRow (W.putObj D o) sb bb n T fr :=
  h.same (World.putObj_heap_other (by omega)) (World.putObj_heap_other (by omega))
theorem Turn.putObj {w W : World} {sb bb D : Nat} (h : Turn w W sb bb) (o : Obj) (hD : w.heap.size ≤ D) : Turn w (W.putObj D o) sb bb :=
  ⟨h.os, h.tape, h.output, by simpa using h.size, fun k hk h1 h2 => (World.putObj_heap_other (by omega)).trans (h.block k hk h1 h2)⟩
theorem FrRow.alloc {W : World} {sb bb n : Nat} {T : Nat → Bool} {fr : Int} (h : FrRow W sb bb n T fr) (o : Obj) : FrRow (W.alloc o) sb bb n T fr := h.below ((Below.refl _ W).alloc (Nat.le_refl _) o)
end Go.Proofs.YtnbdoemnepfhdaaGreat.Frm

namespace Go.Proofs.YtnbdoemnepfhdaaGreat.Frm
open Fld
open Go.ChangeShapes Go.WideShapes Go.ChangeAt Go.RowKit Go.Shelf
attribute [local go_sem] Oper.semAt_some
/-- Between two rounds of TakeMany: nothing has been found. -/
structure ManI (w : World) (z sb bb n k : Nat) (T : Nat → Bool) (j : Nat) (W : World) : Prop where
  fr : FrAt W sb bb n T
  b0 : Boxed W z 39 (.pointer (some ⟨sb, 0, none⟩))
  b1 : Boxed W (z + 1) 3 (.int .i64 (k : Int))
  b2 : Boxed W (z + 1 + 1) 3 (.int .i64 0)
  b3 : Boxed W (z + 1 + 1 + 1) 49 (.int .i64 0)
  tn : Turn w W sb bb
  no : ∀ i, i < j → okAt T n k 1 i = false
theorem manI_own (w : World) (z sb bb n k : Nat) (T : Nat → Bool) (B : Nat) (h1 : sb < B) (h2 : bb < B) (hB : w.heap.size ≤ B) : OwnFrom B (ManI w z sb bb n k T) := fun j W W' row hs hg hr =>
  ⟨row_own (σ := Nat) B sb bb n T _ h1 h2 j W W' row hs.fr hg hr, (boxed_own1 (σ := Nat) _ _ (fun _ => _)).from B j W W' row hs.b0 hg hr, (boxed_own1 (σ := Nat) _ _ (fun _ => _)).from B j W W' row hs.b1 hg hr, (boxed_own1 (σ := Nat) _ _ (fun _ => _)).from B j W W' row hs.b2 hg hr, (boxed_own1 (σ := Nat) _ _ (fun _ => _)).from B j W W' row hs.b3 hg hr, turn_own (σ := Nat) w sb bb B hB j W W' row hs.tn hg hr, hs.no⟩
def manyO (T : Nat → Bool) (n : Nat) (k : Int) : Option Nat := pick T n k.toNat 1
def manyE (T : Nat → Bool) (n : Nat) (k : Int) : Int := if k < 1 then 1 else pickE (manyO T n k)
def manyI (T : Nat → Bool) (n : Nat) (k : Int) : Int := if k < 1 then 0 else pickI (manyO T n k)
def manyT (T : Nat → Bool) (n : Nat) (k : Int) : Nat → Bool := if k < 1 then T else pickT T k.toNat (manyO T n k)
set_option maxRecDepth 100000 in
set_option maxHeartbeats 2000000 in
theorem fmany_any {sb bb n : Nat} {T : Nat → Bool} (s : Int) (w : World) (h : FrAt w sb bb n T) :
    Calls Tryz.prog 25 #[.pointer (some ⟨sb, 0, none⟩), .int .i64 s] w fun e w' => e = .returned (.tuple #[.int .i64 (manyI T n s), .int .i64 (manyE T n s)]) ∧ FrAt w' sb bb n (manyT T n s) ∧ Turn w w' sb bb := by
  have hn := h.le
  by_cases hs : s < 1
  · have hT : manyT T n s = T := by unfold manyT; rw [if_pos hs]
    have hE := Lib.hid (show manyE T n s = 1 by unfold manyE; rw [if_pos hs])
    have hI := Lib.hid (show manyI T n s = 0 by unfold manyI; rw [if_pos hs])
    rw [hT]
    refine (callsIn_wide (n := 3)).1 ?_
    refine callsIn_of_wp_marks Tryz.func25 rfl trivial ?_ rfl; simp only [Tryz.ntmps25, List.size_toArray, List.length_cons, List.length_nil, Nat.reduceAdd, Nat.reduceSub, Array.replicate_succ, Array.replicate_zero, List.push_toArray, List.append_toArray, List.nil_append, List.cons_append]
    gi_wp2
    have b1 := (Boxed.new ((w.alloc (.cells #[.pointer (some ⟨sb, 0, none⟩)] 39)).alloc (.cells #[.int .i64 s] 3)) 3 (.int .i64 0)).alloc (.cells #[.int .i64 1] 49)
    have b2 := Boxed.new (((w.alloc (.cells #[.pointer (some ⟨sb, 0, none⟩)] 39)).alloc (.cells #[.int .i64 s] 3)).alloc (.cells #[.int .i64 0] 3)) 49 (.int .i64 1)
    have c1 := b1.cell
    have c2 := b2.cell
    simp only [World.size_alloc] at c1 c2
    refine ⟨.tuple #[.int .i64 0, .int .i64 1], ?_, by rw [hI.out, hE.out], (((h.alloc _).alloc _).alloc _).alloc _, (((Turn.refl w sb bb).alloc _).alloc _).alloc _ |>.alloc _⟩
    simp [results, Tryz.f25, go_sem, c1, c2]
  · have hT : manyT T n s = pickT T s.toNat (manyO T n s) := by unfold manyT; rw [if_neg hs]
    have hE := (show manyE T n s = pickE (manyO T n s) by unfold manyE; rw [if_neg hs])
    have hI := (show manyI T n s = pickI (manyO T n s) by unfold manyI; rw [if_neg hs])
    have hO : manyO T n s = pick T n s.toNat 1 := rfl
    rw [hT, hE, hI, hO]
    obtain ⟨k, rfl⟩ : ∃ k : Nat, s = (k : Int) := ⟨s.toNat, by omega⟩
    have k0 : 0 < k := by omega
    clear hT hE hI hO
    rw [Int.toNat_natCast]
    refine (callsIn_wide (n := 3)).1 ?_
    refine callsIn_of_wp_marks Tryz.func25 rfl trivial ?_ rfl; simp only [Tryz.ntmps25, List.size_toArray, List.length_cons, List.length_nil, Nat.reduceAdd, Nat.reduceSub, Array.replicate_succ, Array.replicate_zero, List.push_toArray, List.append_toArray, List.nil_append, List.cons_append]
    gi_wp2
    obtain ⟨hsb, hbb⟩ := h.lt
    obtain ⟨W0, hW0⟩ : ∃ W0, (((w.alloc (.cells #[.pointer (some ⟨sb, 0, none⟩)] 39)).alloc (.cells #[.int .i64 (k : Int)] 3)).alloc (.cells #[.int .i64 0] 3)).alloc (.cells #[.int .i64 0] 49) = W0 := ⟨_, rfl⟩
    have hi : ManI w w.heap.size sb bb n k T 0 W0 := by
      rw [← hW0]
      refine ⟨(((h.alloc _).alloc _).alloc _).alloc _, ?_, ?_, ?_, ?_, (((Turn.refl w sb bb).alloc _).alloc _).alloc _ |>.alloc _, fun i hi => absurd hi (Nat.not_lt_zero i)⟩
      · exact (((Boxed.new w _ _).alloc _).alloc _).alloc _
      · have := ((Boxed.new (w.alloc (.cells #[.pointer (some ⟨sb, 0, none⟩)] 39)) 3 (.int .i64 (k : Int))).alloc (.cells #[.int .i64 0] 3)).alloc (.cells #[.int .i64 0] 49)
        simpa only [World.size_alloc] using this
      · have := (Boxed.new ((w.alloc (.cells #[.pointer (some ⟨sb, 0, none⟩)] 39)).alloc (.cells #[.int .i64 (k : Int)] 3)) 3 (.int .i64 0)).alloc (.cells #[.int .i64 0] 49)
        simpa only [World.size_alloc] using this
      · have := Boxed.new (((w.alloc (.cells #[.pointer (some ⟨sb, 0, none⟩)] 39)).alloc (.cells #[.int .i64 (k : Int)] 3)).alloc (.cells #[.int .i64 0] 3)) 49 (.int .i64 0)
        simpa only [World.size_alloc] using this
    have hsz : W0.heap.size = w.heap.size + 1 + 1 + 1 + 1 := by rw [← hW0]; simp
    rw [hW0]
    clear hW0
    refine range_iter (n := 3) (gf := 51) (bnd := #[.pointer (some ⟨sb, 0, none⟩)]) (lb := #[]) rfl (enters_of Tryz.func51 (by kernel_rfl) rfl)
      (n₀ := W0.heap.size) (Nat.le_refl _) (stretches_iter 2 W0 hi.fr (by omega) (by omega)) (fun _ => rfl)
      (ManI w w.heap.size sb bb n k T) (TakX w (w.heap.size + 1) sb bb n k 1 T)
      (manI_own _ _ _ _ _ _ _ _ (by omega) (by omega) (by omega)) (takX_own _ _ _ _ _ _ _ _ _ (by omega) (by omega) (by omega)) hi
      (fun e => { tmps := #[.pointer (some ⟨sb, 0, none⟩), .int .i64 (k : Int), .pointer (some ⟨w.heap.size, 0, none⟩), .pointer (some ⟨w.heap.size + 1, 0, none⟩), .pointer (some ⟨w.heap.size + 1 + 1, 0, none⟩), .pointer (some ⟨w.heap.size + 1 + 1 + 1, 0, none⟩), .int .i64 (sF T n e : Int), .int .i64 ((sZ T n e : Int) - (sF T n e : Int)), .int .i64 (k : Int), .bool false, .pointer (some ⟨sb, 0, none⟩), .func (.func 51) #[.pointer (some ⟨sb, 0, none⟩)] #[], .int .i64 (sF T n e : Int), .int .i64 ((sZ T n e : Int) - (sF T n e : Int)), undef, undef, undef, undef, undef, undef, undef, undef], defers := [] }) ?assign ?body ?done ?stop
    case assign =>
      intro l e W K hK
      unfold sEnc
      gi_wp2
      exact hK
    case body =>
      rintro l e W H ⟨hat, hlt⟩
      have c0 := H.b0.cell
      have c1 := H.b1.cell
      obtain ⟨_, y1, _, _, _⟩ := sAt_next hat
      by_cases hl : k ≤ sZ T n e - sF T n e
      · have N : pick T n k 1 = some (sF T n e) := many_here hat.1 k0 H.no hl
        obtain ⟨_, o1, o2⟩ := okAt_iff.1 (pick_some N).1
        have B := take_any (sF T n e) k o1 o2 W H.fr
        have hl2 : (k : Int) ≤ (sZ T n e : Int) - (sF T n e : Int) := by omega
        have N := Lib.hid N
        clear o2 hat hlt
        generalize sF T n e = f at *
        generalize sZ T n e = z at *
        gi_wp2_with fail
        refine ⟨trivial, ?_⟩
        refine (CallsIn.inRound l (callsIn_wide.2 B)).mono ?_
        rintro e w' ⟨rfl, hf2, ht2⟩
        have d1 := boxTurn H.b2 ht2 (by omega) (by omega)
        have d2 := boxTurn H.b3 ht2 (by omega) (by omega)
        have e1 := d1.cell
        have e2 := d2.cell
        have f1 := d1.frozen
        have f2 := d2.frozen
        gi_wp2
        have u1 := (d1.set (.int .i64 (f : Int))).other (B' := w.heap.size + 1 + 1 + 1) (by omega) (.int .i64 0)
        have u2 := (d2.other (B' := w.heap.size + 1 + 1) (by omega) (.int .i64 (f : Int))).set (.int .i64 0)
        refine ⟨((ht2.keeps (by omega) (by omega)).trans ((KeepsOthers.setCell _ _ _).from _)).trans ((KeepsOthers.setCell _ _ _).from _), ⟨f, N.out, ?_, u1⟩, u2, ?_⟩
        · exact hf2.same ((Below.heap_setCell _ _ _ _ (by show sb ≠ w.heap.size + 1 + 1 + 1; omega)).trans (Below.heap_setCell _ _ _ _ (by show sb ≠ w.heap.size + 1 + 1; omega))) ((Below.heap_setCell _ _ _ _ (by show bb ≠ w.heap.size + 1 + 1 + 1; omega)).trans (Below.heap_setCell _ _ _ _ (by show bb ≠ w.heap.size + 1 + 1; omega)))
        · exact ((H.tn.trans ht2).setCell ⟨w.heap.size + 1 + 1, 0, none⟩ (.inr (.inr (by show _ ≤ w.heap.size + 1 + 1; omega))) _).setCell ⟨w.heap.size + 1 + 1 + 1, 0, none⟩ (.inr (.inr (by show _ ≤ w.heap.size + 1 + 1 + 1; omega))) _
      · have N := Lib.hid (show ∀ i, i < sZ T n e → okAt T n k 1 i = false from many_step hat.1 H.no (Nat.lt_of_not_le hl) hlt)
        have hl2 : ¬ ((k : Int) ≤ (sZ T n e : Int) - (sF T n e : Int)) := by omega
        clear hat hlt
        generalize sF T n e = f at *
        generalize sZ T n e = z at *
        gi_wp2
        exact ⟨KeepsFrom.refl _ _, Below.refl _ _, H.fr, H.b0, H.b1, H.b2, H.b3, H.tn, N.out⟩
    case done =>
      rintro e W ⟨hat, hf⟩ H hK
      have hp := Lib.hid (many_end (T := T) hat.1 k0 H.no hf)
      have e1 := H.b2.cell
      have e2 := H.b3.cell
      have f1 := H.b2.frozen
      have f2 := H.b3.frozen
      unfold lastMark
      gi_wp2
      have u1 := (H.b2.set (.int .i64 0)).other (B' := w.heap.size + 1 + 1 + 1) (by omega) (.int .i64 6)
      have u2 := (H.b3.other (B' := w.heap.size + 1 + 1) (by omega) (.int .i64 0)).set (.int .i64 6)
      have hf2 : FrAt ((W.setCell ⟨w.heap.size + 1 + 1, 0, none⟩ (.int .i64 0)).setCell ⟨w.heap.size + 1 + 1 + 1, 0, none⟩ (.int .i64 6)) sb bb n T := H.fr.same ((Below.heap_setCell _ _ _ _ (by show sb ≠ w.heap.size + 1 + 1 + 1; omega)).trans (Below.heap_setCell _ _ _ _ (by show sb ≠ w.heap.size + 1 + 1; omega))) ((Below.heap_setCell _ _ _ _ (by show bb ≠ w.heap.size + 1 + 1 + 1; omega)).trans (Below.heap_setCell _ _ _ _ (by show bb ≠ w.heap.size + 1 + 1; omega)))
      have ht2 := (H.tn.setCell ⟨w.heap.size + 1 + 1, 0, none⟩ (.inr (.inr (by show _ ≤ w.heap.size + 1 + 1; omega))) (.int .i64 0)).setCell ⟨w.heap.size + 1 + 1 + 1, 0, none⟩ (.inr (.inr (by show _ ≤ w.heap.size + 1 + 1 + 1; omega))) (.int .i64 6)
      have hK' := ((KeepsOthers.setCell W ⟨w.heap.size + 1 + 1, 0, none⟩ (.int .i64 0)).trans (KeepsOthers.setCell _ ⟨w.heap.size + 1 + 1 + 1, 0, none⟩ (.int .i64 6))).same _ _ hK rfl
      refine ⟨by simp, .inl ⟨_, _, rfl, run_takeDeferred hK', ?_⟩⟩
      have v1 := (boxPut u1 (.deferred none) hK').cell
      have v2 := (boxPut u2 (.deferred none) hK').cell
      refine ⟨.tuple #[.int .i64 0, .int .i64 6], ?_, by rw [hp.out]; rfl, by rw [hp.out]; exact hf2.putObj _ (by omega) (by omega), ht2.putObj _ (by omega)⟩
      simp [results, Tryz.f25, go_sem, v1, v2]
    case stop =>
      rintro W H hK
      obtain ⟨i, h1, h2, h3⟩ := H.is
      have h1 := Lib.hid h1
      unfold lastMark
      gi_wp2
      refine ⟨by simp, .inl ⟨_, _, rfl, run_takeDeferred hK, ?_⟩⟩
      have v1 := (boxPut h3 (.deferred none) hK).cell
      have v2 := (boxPut H.b2 (.deferred none) hK).cell
      refine ⟨.tuple #[.int .i64 (i : Int), .int .i64 0], ?_, by rw [h1.out]; rfl, by rw [h1.out]; exact h2.putObj _ (by omega) (by omega), H.tn.putObj _ (by omega)⟩
      simp [results, Tryz.f25, go_sem, v1, v2]
end Go.Proofs.YtnbdoemnepfhdaaGreat.Frm

