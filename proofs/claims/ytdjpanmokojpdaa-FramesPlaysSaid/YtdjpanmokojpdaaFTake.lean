/-
  Contracts of Take and TakeMany of package frames. Conditions: they read frames that are there.
-/
import Derived.Test.YtdjpanmokojpdaaFLong
namespace Go.Proofs.Ytdjpanmokojpdaa.Frm
open Fld
open Go.ChangeShapes Go.WideShapes Go.ChangeAt Go.RowKit Go.Shelf
attribute [local go_sem] Oper.semAt_some
theorem Turn.keeps {W W' : World} {sb bb B : Nat} (h : Turn W W' sb bb) (h1 : sb < B) (h2 : bb < B) : KeepsFrom B W W' :=
  ⟨h.size, fun k o hB hk _ => (h.block k (Array.getElem?_eq_some_iff.1 hk).1 (by omega) (by omega)).trans hk⟩
theorem turn_own {σ : Type} (w : World) (sb bb B : Nat) (hB : w.heap.size ≤ B) : OwnFrom B (fun (_ : σ) W => Turn w W sb bb) := fun s W W' row hs hg hr =>
  ⟨hg.os.trans hs.os, hg.tape.trans hs.tape, hg.output.trans hs.output, Nat.le_trans hs.size hg.size, fun k hk h1 h2 =>
    (hg.block k (Nat.lt_of_lt_of_le hk hs.size) (fun e => by have := (hr _ e.symm).1; omega)).trans (hs.block k hk h1 h2)⟩
theorem boxTurn {W W' : World} {sb bb B : Nat} {t : TypeId} {v : Value} (h : Boxed W B t v) (k : Turn W W' sb bb) (h1 : B ≠ sb) (h2 : B ≠ bb) : Boxed W' B t v := (k.block B h.lt h1 h2).trans h
/-- What is told of the first place that was found. -/
def pickE (o : Option Nat) : Int := if o.isSome then 0 else 6
def pickI (o : Option Nat) : Int := (o.getD 0 : Nat)
def pickT (T : Nat → Bool) (k : Nat) (o : Option Nat) : Nat → Bool := match o with | some i => setT T i k true | none => T
def takeO (T : Nat → Bool) (n : Nat) (s : Int) : Option Nat := pick T n (runI s).toNat (runI s).toNat
def takeE (T : Nat → Bool) (n : Nat) (s : Int) : Int := if sizeB s then pickE (takeO T n s) else 1
def takeI (T : Nat → Bool) (n : Nat) (s : Int) : Int := if sizeB s then pickI (takeO T n s) else 0
def takeT (T : Nat → Bool) (n : Nat) (s : Int) : Nat → Bool := if sizeB s then pickT T (runI s).toNat (takeO T n s) else T
theorem runs_none {T : Nat → Bool} {n k j : Nat} (h : ∀ i, i < j → okAt T n k k (i * k) = false) (hf : n < j * k + k) : pick T n k k = none := by
  refine pick_eq_none fun p => ?_
  cases e : okAt T n k k p
  · rfl
  · obtain ⟨h1, h2, _⟩ := okAt_iff.1 e
    obtain ⟨i, rfl⟩ : ∃ i, p = i * k := ⟨p / k, (Nat.div_mul_cancel (Nat.dvd_of_mod_eq_zero h1)).symm⟩
    by_cases hi : i < j
    · rw [h i hi] at e; cases e
    · have := Nat.mul_le_mul_right k (Nat.le_of_not_lt hi); omega
theorem runs_some {T : Nat → Bool} {n k j : Nat} (h : ∀ i, i < j → okAt T n k k (i * k) = false) (hf : j * k + k ≤ n) (ha : allB T (j * k) k false = true) : pick T n k k = some (j * k) := by
  refine pick_eq (okAt_iff.2 ⟨Nat.mul_mod_left j k, hf, ha⟩) fun p hp => ?_
  cases e : okAt T n k k p
  · rfl
  · obtain ⟨h1, h2, _⟩ := okAt_iff.1 e
    obtain ⟨i, rfl⟩ : ∃ i, p = i * k := ⟨p / k, (Nat.div_mul_cancel (Nat.dvd_of_mod_eq_zero h1)).symm⟩
    have hi : i < j := Nat.lt_of_mul_lt_mul_right hp
    rw [h i hi] at e; cases e
theorem runs_next {T : Nat → Bool} {n k j : Nat} (h : ∀ i, i < j → okAt T n k k (i * k) = false) (ha : allB T (j * k) k false = false) : ∀ i, i < j + 1 → okAt T n k k (i * k) = false := by
  intro i hi
  by_cases e : i = j
  · subst e; unfold okAt; rw [ha, Bool.and_false]
  · exact h i (by omega)
/-- Between two rounds of Take: nothing has been found. -/
structure TakI (w : World) (z sb bb n k : Nat) (T : Nat → Bool) (j : Nat) (W : World) : Prop where
  fr : FrAt W sb bb n T
  b0 : Boxed W z 23 (.pointer (some ⟨sb, 0, none⟩))
  b1 : Boxed W (z + 1) 3 (.int .i64 0)
  b2 : Boxed W (z + 1 + 1) 41 (.int .i64 0)
  b3 : Boxed W (z + 1 + 1 + 1) 3 (.int .i64 (k : Int))
  tn : Turn w W sb bb
  no : ∀ i, i < j → okAt T n k k (i * k) = false
/-- So many have been found, and are taken. -/
structure TakX (w : World) (z sb bb n k each : Nat) (T : Nat → Bool) (W : World) : Prop where
  is : ∃ i, pick T n k each = some i ∧ FrAt W sb bb n (setT T i k true) ∧ Boxed W (z + 1) 3 (.int .i64 (i : Int))
  b2 : Boxed W (z + 1 + 1) 41 (.int .i64 0)
  tn : Turn w W sb bb
theorem takI_own (w : World) (z sb bb n k : Nat) (T : Nat → Bool) (B : Nat) (h1 : sb < B) (h2 : bb < B) (hB : w.heap.size ≤ B) : OwnFrom B (TakI w z sb bb n k T) := fun j W W' row hs hg hr =>
  ⟨row_own (σ := Nat) B sb bb n T _ h1 h2 j W W' row hs.fr hg hr, (boxed_own1 (σ := Nat) _ _ (fun _ => _)).from B j W W' row hs.b0 hg hr, (boxed_own1 (σ := Nat) _ _ (fun _ => _)).from B j W W' row hs.b1 hg hr, (boxed_own1 (σ := Nat) _ _ (fun _ => _)).from B j W W' row hs.b2 hg hr, (boxed_own1 (σ := Nat) _ _ (fun _ => _)).from B j W W' row hs.b3 hg hr, turn_own (σ := Nat) w sb bb B hB j W W' row hs.tn hg hr, hs.no⟩
theorem takX_own (w : World) (z sb bb n k each : Nat) (T : Nat → Bool) (B : Nat) (h1 : sb < B) (h2 : bb < B) (hB : w.heap.size ≤ B) : OwnFrom B (fun (_ : Unit) W => TakX w z sb bb n k each T W) := fun j W W' row hs hg hr =>
  ⟨hs.is.imp fun _ ⟨a, b, c⟩ => ⟨a, row_own (σ := Unit) B sb bb n _ _ h1 h2 j W W' row b hg hr, (boxed_own1 (σ := Unit) _ _ (fun _ => _)).from B j W W' row c hg hr⟩, (boxed_own1 (σ := Unit) _ _ (fun _ => _)).from B j W W' row hs.b2 hg hr, turn_own (σ := Unit) w sb bb B hB j W W' row hs.tn hg hr⟩
theorem boxPut {W : World} {B D : Nat} {t : TypeId} {v : Value} (h : Boxed W B t v) (o : Obj) {x : Option (List Deferred)} (hD : W.heap[D]? = some (.deferred x)) : Boxed (W.putObj D o) B t v :=
  (World.putObj_heap_other (fun e => by subst e; rw [show W.heap[B]? = _ from h] at hD; injection hD with hD; cases hD)).trans h
theorem FrRow.putObj {W : World} {sb bb n D : Nat} {T : Nat → Bool} {fr : Int} (h : FrRow W sb bb n T fr) (o : Obj) (h1 : sb < D) (h2 : bb < D) : FrRow (W.putObj D o) sb bb n T fr :=
  h.same (World.putObj_heap_other (by omega)) (World.putObj_heap_other (by omega))
theorem Turn.putObj {w W : World} {sb bb D : Nat} (h : Turn w W sb bb) (o : Obj) (hD : w.heap.size ≤ D) : Turn w (W.putObj D o) sb bb :=
  ⟨h.os, h.tape, h.output, by simpa using h.size, fun k hk h1 h2 => (World.putObj_heap_other (by omega)).trans (h.block k hk h1 h2)⟩
theorem FrRow.alloc {W : World} {sb bb n : Nat} {T : Nat → Bool} {fr : Int} (h : FrRow W sb bb n T fr) (o : Obj) : FrRow (W.alloc o) sb bb n T fr := h.below ((Below.refl _ W).alloc (Nat.le_refl _) o)
set_option maxRecDepth 100000 in
set_option maxHeartbeats 2000000 in
theorem ftake_any {sb bb n : Nat} {T : Nat → Bool} (s : Int) (w : World) (h : FrAt w sb bb n T) :
    Calls Try.prog 19 #[.pointer (some ⟨sb, 0, none⟩), .int .i64 s] w fun e w' => e = .returned (.tuple #[.int .i64 (takeI T n s), .int .i64 (takeE T n s)]) ∧ FrAt w' sb bb n (takeT T n s) ∧ Turn w w' sb bb := by
  have hn := h.le
  cases hs : sizeB s
  · have hT : takeT T n s = T := by unfold takeT; rw [hs]; rfl
    have hE := Lib.hid (show takeE T n s = 1 by unfold takeE; rw [hs]; rfl)
    have hI := Lib.hid (show takeI T n s = 0 by unfold takeI; rw [hs]; rfl)
    rw [hT]
    refine (callsIn_wide (n := 3)).1 ?_
    refine callsIn_of_wp_marks Try.func19 rfl trivial ?_ rfl; simp only [Try.ntmps19, List.size_toArray, List.length_cons, List.length_nil, Nat.reduceAdd, Nat.reduceSub, Array.replicate_succ, Array.replicate_zero, List.push_toArray, List.append_toArray, List.nil_append, List.cons_append]
    have M := pmay_any s
    rw [hs] at M
    gi_wp2_with ((first | (refine ⟨trivial, ?_⟩; gi_at_call 30) | (refine ⟨trivial, fun h => absurd h (by decide), ?_⟩; gi_at_call 30)); refine (callsIn_wide.2 (M _)).mono ?_; rintro e w' ⟨rfl, rfl⟩)
    have b1 := (Boxed.new (w.alloc (.cells #[.pointer (some ⟨sb, 0, none⟩)] 23)) 3 (.int .i64 0)).alloc (.cells #[.int .i64 1] 41)
    have b2 := Boxed.new ((w.alloc (.cells #[.pointer (some ⟨sb, 0, none⟩)] 23)).alloc (.cells #[.int .i64 0] 3)) 41 (.int .i64 1)
    have c1 := b1.cell
    have c2 := b2.cell
    simp only [World.size_alloc] at c1 c2
    refine ⟨.tuple #[.int .i64 0, .int .i64 1], ?_, by rw [hI.out, hE.out], ((h.alloc _).alloc _).alloc _, ((Turn.refl w sb bb).alloc _).alloc _ |>.alloc _⟩
    simp [results, Try.f19, go_sem, c1, c2]
  · have hk : 0 < (runI s).toNat ∧ (runI s).toNat ≤ 512 ∧ runI s = ((runI s).toNat : Int) := by
      unfold sizeB at hs
      rcases runI_cases s with ⟨_, e⟩ | ⟨_, e⟩ | ⟨_, e⟩ | ⟨_, e⟩ | ⟨_, e⟩ <;> rw [e] <;> simp at hs ⊢
      omega
    have hT : takeT T n s = pickT T (runI s).toNat (takeO T n s) := by unfold takeT; rw [hs]; rfl
    have hE := (show takeE T n s = pickE (takeO T n s) by unfold takeE; rw [hs]; rfl)
    have hI := (show takeI T n s = pickI (takeO T n s) by unfold takeI; rw [hs]; rfl)
    have hO : takeO T n s = pick T n (runI s).toNat (runI s).toNat := rfl
    have R := run_any s
    obtain ⟨k0, k1, k2⟩ := hk
    rw [hT, hE, hI, hO]
    rw [k2] at R
    generalize (runI s).toNat = k at *
    clear hT hE hI hO k2
    have M := pmay_any s
    rw [hs] at M
    refine (callsIn_wide (n := 3)).1 ?_
    refine callsIn_of_wp_marks Try.func19 rfl trivial ?_ rfl; simp only [Try.ntmps19, List.size_toArray, List.length_cons, List.length_nil, Nat.reduceAdd, Nat.reduceSub, Array.replicate_succ, Array.replicate_zero, List.push_toArray, List.append_toArray, List.nil_append, List.cons_append]
    gi_wp2_with first | ((first | (refine ⟨trivial, ?_⟩; gi_at_call 30) | (refine ⟨trivial, fun h => absurd h (by decide), ?_⟩; gi_at_call 30)); refine (callsIn_wide.2 (M _)).mono ?_; rintro e w' ⟨rfl, rfl⟩) | ((first | (refine ⟨trivial, ?_⟩; gi_at_call 20) | (refine ⟨trivial, fun h => absurd h (by decide), ?_⟩; gi_at_call 20)); refine (callsIn_wide.2 (R _)).mono ?_; rintro e w' ⟨rfl, rfl⟩) | ((first | (refine ⟨trivial, ?_⟩; gi_at_call 31) | (refine ⟨trivial, fun h => absurd h (by decide), ?_⟩; gi_at_call 31)); refine (callsIn_wide.2 (runs_any _ _ _)).mono ?_; rintro e w' ⟨rfl, rfl⟩)
    obtain ⟨hsb, hbb⟩ := h.lt
    obtain ⟨W0, hW0⟩ : ∃ W0, (((((w.alloc (.cells #[.pointer (some ⟨sb, 0, none⟩)] 23)).alloc (.cells #[.int .i64 0] 3)).alloc (.cells #[.int .i64 0] 41)).alloc (.cells #[.int .i64 (k : Int)] 3)).alloc (.cells #[.pointer (some ⟨sb, 0, none⟩)] 23)).alloc (.cells #[.int .i64 (k : Int)] 3) = W0 := ⟨_, rfl⟩
    have hi : TakI w w.heap.size sb bb n k T 0 W0 := by
      rw [← hW0]
      refine ⟨(((((h.alloc _).alloc _).alloc _).alloc _).alloc _).alloc _, ?_, ?_, ?_, ?_, (((((Turn.refl w sb bb).alloc _).alloc _).alloc _).alloc _).alloc _ |>.alloc _, fun i hi => absurd hi (Nat.not_lt_zero i)⟩
      · exact (((((Boxed.new w _ _).alloc _).alloc _).alloc _).alloc _).alloc _
      · have := ((((Boxed.new (w.alloc (.cells #[.pointer (some ⟨sb, 0, none⟩)] 23)) 3 (.int .i64 0)).alloc (.cells #[.int .i64 0] 41)).alloc (.cells #[.int .i64 (k : Int)] 3)).alloc (.cells #[.pointer (some ⟨sb, 0, none⟩)] 23)).alloc (.cells #[.int .i64 (k : Int)] 3)
        simpa only [World.size_alloc] using this
      · have := (((Boxed.new ((w.alloc (.cells #[.pointer (some ⟨sb, 0, none⟩)] 23)).alloc (.cells #[.int .i64 0] 3)) 41 (.int .i64 0)).alloc (.cells #[.int .i64 (k : Int)] 3)).alloc (.cells #[.pointer (some ⟨sb, 0, none⟩)] 23)).alloc (.cells #[.int .i64 (k : Int)] 3)
        simpa only [World.size_alloc] using this
      · have := ((Boxed.new (((w.alloc (.cells #[.pointer (some ⟨sb, 0, none⟩)] 23)).alloc (.cells #[.int .i64 0] 3)).alloc (.cells #[.int .i64 0] 41)) 3 (.int .i64 (k : Int))).alloc (.cells #[.pointer (some ⟨sb, 0, none⟩)] 23)).alloc (.cells #[.int .i64 (k : Int)] 3)
        simpa only [World.size_alloc] using this
    have g1 : W0.cell? ⟨w.heap.size + 1 + 1 + 1 + 1 + 1, 0, none⟩ = some (.int .i64 (k : Int)) := by
      have := (Boxed.new (((((w.alloc (.cells #[.pointer (some ⟨sb, 0, none⟩)] 23)).alloc (.cells #[.int .i64 0] 3)).alloc (.cells #[.int .i64 0] 41)).alloc (.cells #[.int .i64 (k : Int)] 3)).alloc (.cells #[.pointer (some ⟨sb, 0, none⟩)] 23)) 3 (.int .i64 (k : Int))).cell
      rw [hW0] at this
      simpa only [World.size_alloc] using this
    have g2 : W0.cell? ⟨w.heap.size + 1 + 1 + 1 + 1, 0, none⟩ = some (.pointer (some ⟨sb, 0, none⟩)) := by
      have := ((Boxed.new ((((w.alloc (.cells #[.pointer (some ⟨sb, 0, none⟩)] 23)).alloc (.cells #[.int .i64 0] 3)).alloc (.cells #[.int .i64 0] 41)).alloc (.cells #[.int .i64 (k : Int)] 3)) 23 (.pointer (some ⟨sb, 0, none⟩))).alloc (.cells #[.int .i64 (k : Int)] 3)).cell
      rw [hW0] at this
      simpa only [World.size_alloc] using this
    have hsz : W0.heap.size = w.heap.size + 1 + 1 + 1 + 1 + 1 + 1 := by rw [← hW0]; simp
    rw [hW0]
    clear hW0 M R
    refine range_iter (n := 3) (gf := 38) (bnd := #[]) (lb := #[.pointer (some ⟨w.heap.size + 1 + 1 + 1 + 1 + 1, 0, none⟩), .pointer (some ⟨w.heap.size + 1 + 1 + 1 + 1, 0, none⟩)]) rfl (enters_of Try.func38 (by kernel_rfl) rfl)
      (n₀ := W0.heap.size) (Nat.le_refl _) (runs_iter 2 k _ _ k0 k1 W0 hi.fr (by omega) (by omega) (Nat.le_refl _) (by omega) (by omega) g1 g2) (fun _ => rfl)
      (TakI w w.heap.size sb bb n k T) (TakX w w.heap.size sb bb n k k T)
      (takI_own _ _ _ _ _ _ _ _ (by omega) (by omega) (by omega)) (takX_own _ _ _ _ _ _ _ _ _ (by omega) (by omega) (by omega)) hi
      (fun j => { tmps := #[.pointer (some ⟨sb, 0, none⟩), .int .i64 s, .pointer (some ⟨w.heap.size, 0, none⟩), undef, .pointer (some ⟨w.heap.size + 1, 0, none⟩), .pointer (some ⟨w.heap.size + 1 + 1, 0, none⟩), .pointer (some ⟨w.heap.size + 1 + 1 + 1, 0, none⟩), .int .i64 ((j * k : Nat) : Int), .int .i64 s, .bool true, .bool false, .int .i64 s, .int .i64 (k : Int), .pointer (some ⟨sb, 0, none⟩), .int .i64 (k : Int), .func (.func 38) #[] #[.pointer (some ⟨w.heap.size + 1 + 1 + 1 + 1 + 1, 0, none⟩), .pointer (some ⟨w.heap.size + 1 + 1 + 1 + 1, 0, none⟩)], .int .i64 ((j * k : Nat) : Int), undef, undef, undef, undef, undef, undef, undef, undef, undef], defers := [] }) ?assign ?body ?done ?stop
    case assign =>
      intro l e W K hK
      gi_wp2
      exact hK
    case body =>
      rintro l j W H hlive
      have c0 := H.b0.cell
      have c3 := H.b3.cell
      cases ha : allB T (j * k) k false
      · have N := runs_next H.no ha
        have A := all_any (j * k) k false hlive W H.fr
        rw [ha] at A
        clear ha
        generalize j * k = q at *
        gi_wp2_with ((first | (refine ⟨trivial, ?_⟩; gi_at_call 32) | (refine ⟨trivial, fun h => absurd h (by decide), ?_⟩; gi_at_call 32)); refine (CallsIn.inRound l (callsIn_wide.2 (A))).mono ?_; rintro e w' ⟨rfl, rfl⟩)
        exact ⟨KeepsFrom.refl _ _, Below.refl _ _, H.fr, H.b0, H.b1, H.b2, H.b3, H.tn, N⟩
      · have N := runs_some H.no hlive ha
        have A := all_any (j * k) k false hlive W H.fr
        rw [ha] at A
        have B := take_any (j * k) k hlive ha W H.fr
        clear ha
        generalize j * k = q at *
        gi_wp2_with ((first | (refine ⟨trivial, ?_⟩; gi_at_call 32) | (refine ⟨trivial, fun h => absurd h (by decide), ?_⟩; gi_at_call 32)); refine (CallsIn.inRound l (callsIn_wide.2 (A))).mono ?_; rintro e w' ⟨rfl, rfl⟩)
        refine ⟨trivial, ?_⟩
        refine (CallsIn.inRound l (callsIn_wide.2 B)).mono ?_
        rintro e w' ⟨rfl, hf2, ht2⟩
        have d1 := boxTurn H.b1 ht2 (by omega) (by omega)
        have d2 := boxTurn H.b2 ht2 (by omega) (by omega)
        have e1 := d1.cell
        have e2 := d2.cell
        have f1 := d1.frozen
        have f2 := d2.frozen
        gi_wp2
        have u1 := (d1.set (.int .i64 (q : Int))).other (B' := w.heap.size + 1 + 1) (by omega) (.int .i64 0)
        have u2 := (d2.other (B' := w.heap.size + 1) (by omega) (.int .i64 (q : Int))).set (.int .i64 0)
        refine ⟨((ht2.keeps (by omega) (by omega)).trans ((KeepsOthers.setCell _ _ _).from _)).trans ((KeepsOthers.setCell _ _ _).from _), ⟨q, N, ?_, u1⟩, u2, ?_⟩
        · exact hf2.same ((Below.heap_setCell _ _ _ _ (by show sb ≠ w.heap.size + 1 + 1; omega)).trans (Below.heap_setCell _ _ _ _ (by show sb ≠ w.heap.size + 1; omega))) ((Below.heap_setCell _ _ _ _ (by show bb ≠ w.heap.size + 1 + 1; omega)).trans (Below.heap_setCell _ _ _ _ (by show bb ≠ w.heap.size + 1; omega)))
        · exact ((H.tn.trans ht2).setCell ⟨w.heap.size + 1, 0, none⟩ (.inr (.inr (by show _ ≤ w.heap.size + 1; omega))) _).setCell ⟨w.heap.size + 1 + 1, 0, none⟩ (.inr (.inr (by show _ ≤ w.heap.size + 1 + 1; omega))) _
    case done =>
      rintro j W hfin H hK
      have hp := Lib.hid (runs_none H.no hfin)
      have e1 := H.b1.cell
      have e2 := H.b2.cell
      have f1 := H.b1.frozen
      have f2 := H.b2.frozen
      unfold lastMark
      gi_wp2
      have u1 := (H.b1.set (.int .i64 0)).other (B' := w.heap.size + 1 + 1) (by omega) (.int .i64 6)
      have u2 := (H.b2.other (B' := w.heap.size + 1) (by omega) (.int .i64 0)).set (.int .i64 6)
      have hf2 : FrAt ((W.setCell ⟨w.heap.size + 1, 0, none⟩ (.int .i64 0)).setCell ⟨w.heap.size + 1 + 1, 0, none⟩ (.int .i64 6)) sb bb n T := H.fr.same ((Below.heap_setCell _ _ _ _ (by show sb ≠ w.heap.size + 1 + 1; omega)).trans (Below.heap_setCell _ _ _ _ (by show sb ≠ w.heap.size + 1; omega))) ((Below.heap_setCell _ _ _ _ (by show bb ≠ w.heap.size + 1 + 1; omega)).trans (Below.heap_setCell _ _ _ _ (by show bb ≠ w.heap.size + 1; omega)))
      have ht2 := (H.tn.setCell ⟨w.heap.size + 1, 0, none⟩ (.inr (.inr (by show _ ≤ w.heap.size + 1; omega))) (.int .i64 0)).setCell ⟨w.heap.size + 1 + 1, 0, none⟩ (.inr (.inr (by show _ ≤ w.heap.size + 1 + 1; omega))) (.int .i64 6)
      have hK' := ((KeepsOthers.setCell W ⟨w.heap.size + 1, 0, none⟩ (.int .i64 0)).trans (KeepsOthers.setCell _ ⟨w.heap.size + 1 + 1, 0, none⟩ (.int .i64 6))).same _ _ hK rfl
      refine ⟨by simp, .inl ⟨_, _, rfl, run_takeDeferred hK', ?_⟩⟩
      have v1 := (boxPut u1 (.deferred none) hK').cell
      have v2 := (boxPut u2 (.deferred none) hK').cell
      refine ⟨.tuple #[.int .i64 0, .int .i64 6], ?_, by rw [hp.out]; rfl, by rw [hp.out]; exact hf2.putObj _ (by omega) (by omega), ht2.putObj _ (by omega)⟩
      simp [results, Try.f19, go_sem, v1, v2]
    case stop =>
      rintro W H hK
      obtain ⟨i, h1, h2, h3⟩ := H.is
      have h1 := Lib.hid h1
      unfold lastMark
      gi_wp2
      refine ⟨by simp, .inl ⟨_, _, rfl, run_takeDeferred hK, ?_⟩⟩
      have v1 := (boxPut h3 (.deferred none) hK).cell
      have v2 := (boxPut H.b2 (.deferred none) hK).cell
      refine ⟨.tuple #[.int .i64 (i : Int), .int .i64 0], ?_, by rw [h1.out]; rfl, by rw [h1.out]; exact h2.putObj _ (by omega) (by omega), H.tn.putObj _ (by omega)⟩
      simp [results, Try.f19, go_sem, v1, v2]
end Go.Proofs.Ytdjpanmokojpdaa.Frm
