/-
  Contract of Take of package ctx. Conditions: a pool that is there and is as it must be.
-/
import Derived.Test.YtkbkilkmiigahaaCOps
namespace Go.Proofs.Ytkbkilkmiigahaa.Cx
open Fld
open Go.ChangeShapes Go.WideShapes Go.ChangeAt Go.RowKit Go.Shelf Go.Maps
attribute [local go_sem] Oper.semAt_some
/-- Between two rounds of Take: none was free so far. -/
structure TakI (w : World) (z pb bm ob : Nat) (P : Pl) (x : Int) (j : Nat) (W : World) : Prop where
  pool : PoolAt W pb bm ob P
  b0 : Boxed W z 23 (.pointer (some ⟨pb, 0, none⟩))
  b1 : Boxed W (z + 1) 3 (.int .i64 x)
  b2 : Boxed W (z + 1 + 1) 3 (.int .i64 0)
  b3 : Boxed W (z + 1 + 1 + 1) 40 (.int .i64 0)
  tn : Turn w W pb bm ob
  no : P.free = seek (fun i => decide (P.T i < 0)) P.n (rot P.n P.h j) (P.n - j)
/-- One has been found, and is the space's. -/
structure TakX (w : World) (z pb bm ob : Nat) (P : Pl) (x : Int) (W : World) : Prop where
  pool : PoolAt W pb bm ob (P.own P.free x)
  ne : P.free ≠ 0
  b2 : Boxed W (z + 1 + 1) 3 (.int .i64 (P.free : Int))
  b3 : Boxed W (z + 1 + 1 + 1) 40 (.int .i64 0)
  tn : Turn w W pb bm ob
theorem takI_own (w : World) (z pb bm ob : Nat) (P : Pl) (x : Int) (B : Nat) (h1 : pb < B) (hB : w.heap.size ≤ B) : OwnFrom B (TakI w z pb bm ob P x) := fun j W W' row hs hg hr =>
  ⟨pool_own (σ := Unit) B pb bm ob P.n P.T P.T (fun _ => _) (fun _ => _) h1 () W W' row hs.pool hg hr, (boxed_own (β := Nat) _ _ (fun _ => _)).from B j W W' row hs.b0 hg hr, (boxed_own (β := Nat) _ _ (fun _ => _)).from B j W W' row hs.b1 hg hr, (boxed_own (β := Nat) _ _ (fun _ => _)).from B j W W' row hs.b2 hg hr, (boxed_own (β := Nat) _ _ (fun _ => _)).from B j W W' row hs.b3 hg hr, turn_own (σ := Nat) w pb bm ob B hB j W W' row hs.tn hg hr, hs.no⟩
theorem takX_own (w : World) (z pb bm ob : Nat) (P : Pl) (x : Int) (B : Nat) (h1 : pb < B) (hB : w.heap.size ≤ B) : OwnFrom B (fun (_ : Unit) W => TakX w z pb bm ob P x W) := fun _ W W' row hs hg hr =>
  ⟨pool_own (σ := Unit) B pb bm ob _ _ _ (fun _ => _) (fun _ => _) h1 () W W' row hs.pool hg hr, hs.ne, (boxed_own (β := Nat) _ _ (fun _ => _)).from B 0 W W' row hs.b2 hg hr, (boxed_own (β := Nat) _ _ (fun _ => _)).from B 0 W W' row hs.b3 hg hr, turn_own (σ := Unit) w pb bm ob B hB () W W' row hs.tn hg hr⟩
theorem PoolRow.setOut {W : World} {pb bm ob n h R : Nat} {T M : Nat → Int} (H : PoolRow W pb bm ob n T M h R) (p : Addr) (hp : pb < p.block) (u : Value) : PoolRow (W.setCell p u) pb bm ob n T M h R :=
  H.same (fun k hk => Below.heap_setCell _ _ _ _ (by have := H.ord; rcases hk with rfl | rfl | rfl <;> omega))
theorem boxPut {W : World} {B D : Nat} {t : TypeId} {v : Value} (h : Boxed W B t v) (o : Obj) {x : Option (List Deferred)} (hD : W.heap[D]? = some (.deferred x)) : Boxed (W.putObj D o) B t v :=
  (World.putObj_heap_other (fun e => by subst e; rw [show W.heap[B]? = _ from h] at hD; injection hD with hD; cases hD)).trans h
set_option maxRecDepth 100000 in
set_option maxHeartbeats 2000000 in
theorem take_any {pb bm ob : Nat} {P : Pl} (w : World) (H : PoolAt w pb bm ob P) (ok : P.Ok) {x : Int} (h0 : -9223372036854775808 ≤ x) (h1 : x ≤ 9223372036854775807) (hR : P.R ≤ 1000000000) :
    Calls Try.prog 17 #[.pointer (some ⟨pb, 0, none⟩), .int .i64 x] w fun e w' => e = .returned (.tuple #[.int .i64 (P.takeI x : Int), .int .i64 (P.takeE x)]) ∧ PoolAt w' pb bm ob (P.take x) ∧ Turn w w' pb bm ob := by
  have hn := H.le
  have hpb := H.lt
  have hord := H.ord
  by_cases x0 : x < 0
  · have e1 : P.takeI x = 0 := by unfold Pl.takeI; rw [if_pos x0]
    have e2 : P.takeE x = 1 := by unfold Pl.takeE; rw [if_pos x0]
    have e3 : P.take x = P := by unfold Pl.take; rw [if_pos (.inl x0)]
    rw [e1, e2, e3]
    clear e1 e2 e3 ok
    have b2 := (Boxed.new ((w.alloc (.cells #[.pointer (some ⟨pb, 0, none⟩)] 23)).alloc (.cells #[.int .i64 x] 3)) 3 (.int .i64 0)).alloc (.cells #[.int .i64 1] 40)
    have b3 := Boxed.new (((w.alloc (.cells #[.pointer (some ⟨pb, 0, none⟩)] 23)).alloc (.cells #[.int .i64 x] 3)).alloc (.cells #[.int .i64 0] 3)) 40 (.int .i64 1)
    have c2 := b2.cell
    have c3 := b3.cell
    simp only [World.size_alloc] at c2 c3
    clear b2 b3
    refine (callsIn_wide (n := 3)).1 ?_
    refine callsIn_of_wp_marks Try.func17 rfl trivial ?_ rfl; simp only [Try.ntmps17, List.size_toArray, List.length_cons, List.length_nil, Nat.reduceAdd, Nat.reduceSub, Array.replicate_succ, Array.replicate_zero, List.push_toArray, List.append_toArray, List.nil_append, List.cons_append]
    gi_wp2
    refine ⟨.tuple #[.int .i64 0, .int .i64 1], ?_, rfl, (((H.alloc _).alloc _).alloc _).alloc _, ((((Turn.refl w pb bm ob).alloc _).alloc _).alloc _).alloc _⟩
    simp [results, Try.f17, go_sem, c2, c3]
  · have a0 := (((Boxed.new w 23 (.pointer (some ⟨pb, 0, none⟩))).alloc (.cells #[.int .i64 x] 3)).alloc (.cells #[.int .i64 0] 3)).alloc (.cells #[.int .i64 0] 40)
    have a1 := ((Boxed.new (w.alloc (.cells #[.pointer (some ⟨pb, 0, none⟩)] 23)) 3 (.int .i64 x)).alloc (.cells #[.int .i64 0] 3)).alloc (.cells #[.int .i64 0] 40)
    have a2 := (Boxed.new ((w.alloc (.cells #[.pointer (some ⟨pb, 0, none⟩)] 23)).alloc (.cells #[.int .i64 x] 3)) 3 (.int .i64 0)).alloc (.cells #[.int .i64 0] 40)
    have a3 := Boxed.new (((w.alloc (.cells #[.pointer (some ⟨pb, 0, none⟩)] 23)).alloc (.cells #[.int .i64 x] 3)).alloc (.cells #[.int .i64 0] 3)) 40 (.int .i64 0)
    have H0 := (((H.alloc (.cells #[.pointer (some ⟨pb, 0, none⟩)] 23)).alloc (.cells #[.int .i64 x] 3)).alloc (.cells #[.int .i64 0] 3)).alloc (.cells #[.int .i64 0] 40)
    have T0 := ((((Turn.refl w pb bm ob).alloc (.cells #[.pointer (some ⟨pb, 0, none⟩)] 23)).alloc (.cells #[.int .i64 x] 3)).alloc (.cells #[.int .i64 0] 3)).alloc (.cells #[.int .i64 0] 40)
    have hsz : ((((w.alloc (.cells #[.pointer (some ⟨pb, 0, none⟩)] 23)).alloc (.cells #[.int .i64 x] 3)).alloc (.cells #[.int .i64 0] 3)).alloc (.cells #[.int .i64 0] 40)).heap.size = w.heap.size + 1 + 1 + 1 + 1 := by simp
    simp only [World.size_alloc] at a1 a2 a3
    refine (callsIn_wide (n := 3)).1 ?_
    refine callsIn_of_wp_marks Try.func17 rfl trivial ?_ rfl; simp only [Try.ntmps17, List.size_toArray, List.length_cons, List.length_nil, Nat.reduceAdd, Nat.reduceSub, Array.replicate_succ, Array.replicate_zero, List.push_toArray, List.append_toArray, List.nil_append, List.cons_append]
    gi_wp2_with fail
    generalize (((w.alloc (.cells #[.pointer (some ⟨pb, 0, none⟩)] 23)).alloc (.cells #[.int .i64 x] 3)).alloc (.cells #[.int .i64 0] 3)).alloc (.cells #[.int .i64 0] 40) = W0 at *
    refine ⟨trivial, (callsIn_wide.2 (of_any W0 H0 h0 h1 (Pl.tells x))).mono ?_⟩
    rintro e w' ⟨rfl, rfl⟩
    have e0 := a0.cell
    have e1 := a1.cell
    have e2 := a2.cell
    have e3 := a3.cell
    have f2 := a2.frozen
    have f3 := a3.frozen
    clear H
    by_cases hz : P.of x = 0
    · rw [hz]
      have I : TakI w w.heap.size pb bm ob P x 0 W0 := ⟨H0, a0, a1, a2, a3, T0, rfl⟩
      have I := Lib.hid I
      have HZ := Lib.hid hz
      clear hz a0 a1 a2 a3 T0
      gi_wp2
      have I := I.out
      have hz := HZ.out
      refine range_iter (n := 3) (gf := 34) (bnd := #[.pointer (some ⟨pb, 0, none⟩)]) (lb := #[]) rfl (enters_of Try.func34 (by kernel_rfl) rfl)
        (p := ⟨pb, 1, none⟩) (by show pb < _; omega) (round_iter 2 W0 H0 ok.h0 ok.h1) (fun _ => rfl)
        (TakI w w.heap.size pb bm ob P x) (TakX w w.heap.size pb bm ob P x)
        (takI_own _ _ _ _ _ _ _ _ (by omega) (by omega)) (takX_own _ _ _ _ _ _ _ _ (by omega) (by omega)) I ?a1 ?assign ?body ?done ?stop
      case assign =>
        intro l e W K hK
        gi_wp2
        exact hK
      case body =>
        rintro l j W I hlive
        have rb := rot_bd (n := P.n) (h := P.h) (by omega) ok.h0 (ok.h1 (by omega)) j
        have hnx : rot P.n P.h (j + 1) = rot P.n P.h j % P.n + 1 := rfl
        have hno := I.no
        have d0 := I.b0.cell
        have d1 := I.b1.cell
        have d2 := I.b2.cell
        have d3 := I.b3.cell
        have g2 := I.b2.frozen
        have g3 := I.b3.frozen
        obtain ⟨mm, hmm⟩ : ∃ mm, P.n - j = mm + 1 := ⟨P.n - j - 1, by omega⟩
        have hm2 : P.n - (j + 1) = mm := by omega
        rw [hmm] at hno
        simp only [seek] at hno
        obtain ⟨k, hk⟩ : ∃ k, rot P.n P.h j = k := ⟨_, rfl⟩
        rw [hk] at rb hnx hno ⊢
        have WA := owner_any W I.pool (fun i hi => ok.bd hi) (k : Int)
        by_cases hf : P.T (k - 1) < 0
        · rw [if_pos (decide_eq_true hf)] at hno
          have hB : P.ownB k = false := by unfold Pl.ownB; rw [show (k : Int).toNat = k by simp, decide_eq_false (show ¬ 0 ≤ P.T (k - 1) by omega), Bool.and_false]
          rw [show Pl.ownB ⟨P.n, P.T, P.h, P.R⟩ k = false from hB, show Pl.ownI ⟨P.n, P.T, P.h, P.R⟩ k = 0 by unfold Pl.ownI; rw [show Pl.ownB ⟨P.n, P.T, P.h, P.R⟩ k = false from hB]; rfl] at WA
          have AA := assign_any W I.pool ok.h0 (ok.h1 (by omega)) ok.apart k rb.1 rb.2 (x := x) ⟨x0, h1⟩ hf (fun j hj => Pl.of_zero x0 hz j hj) hR
          have AA := Lib.hid AA
          have I := Lib.hid I
          have HNO := Lib.hid hno
          clear hno hz hf hB hmm hm2 hnx
          gi_wp2_with ((first | (refine ⟨trivial, ?_⟩; gi_at_call 15) | (refine ⟨trivial, fun h => absurd h (by decide), ?_⟩; gi_at_call 15)); refine (CallsIn.inRound l (callsIn_wide.2 (WA))).mono ?_; rintro e w' ⟨rfl, rfl⟩)
          refine ⟨trivial, (CallsIn.inRound l (callsIn_wide.2 AA.out)).mono ?_⟩
          rintro e w' ⟨rfl, H2, T2⟩
          have I := I.out
          have ord := I.pool.ord
          have m2 := boxTurn I.b2 T2 (by omega) (by omega) (by omega)
          have m3 := boxTurn I.b3 T2 (by omega) (by omega) (by omega)
          have x2 := m2.cell
          have x3 := m3.cell
          have y2 := m2.frozen
          have y3 := m3.frozen
          have u2 := boxSet (m2.set (.int .i64 (k : Int))) ⟨w.heap.size + 1 + 1 + 1, 0, none⟩ (by simp) (.int .i64 0)
          have u3 := (boxSet m3 ⟨w.heap.size + 1 + 1, 0, none⟩ (by simp) (.int .i64 (k : Int))).set (.int .i64 0)
          have K1 := ((T2.keeps (B := W0.heap.size) (by omega) (by omega) (by omega)).trans ((KeepsOthers.setCell w' ⟨w.heap.size + 1 + 1, 0, none⟩ (.int .i64 (k : Int))).from _)).trans ((KeepsOthers.setCell _ ⟨w.heap.size + 1 + 1 + 1, 0, none⟩ (.int .i64 0)).from _)
          have T3 := ((I.tn.trans T2).setCell ⟨w.heap.size + 1 + 1, 0, none⟩ (.inr (.inr (.inr (by show _ ≤ w.heap.size + 1 + 1; omega)))) (.int .i64 (k : Int))).setCell ⟨w.heap.size + 1 + 1 + 1, 0, none⟩ (.inr (.inr (.inr (by show _ ≤ w.heap.size + 1 + 1 + 1; omega)))) (.int .i64 0)
          have H3 := (H2.setOut ⟨w.heap.size + 1 + 1, 0, none⟩ (by show pb < w.heap.size + 1 + 1; omega) (.int .i64 (k : Int))).setOut ⟨w.heap.size + 1 + 1 + 1, 0, none⟩ (by show pb < w.heap.size + 1 + 1 + 1; omega) (.int .i64 0)
          have hno := HNO.out
          have X : TakX w w.heap.size pb bm ob P x ((w'.setCell ⟨w.heap.size + 1 + 1, 0, none⟩ (.int .i64 (k : Int))).setCell ⟨w.heap.size + 1 + 1 + 1, 0, none⟩ (.int .i64 0)) :=
            ⟨by rw [hno]; exact H3, by omega, by rw [hno]; exact u2, u3, T3⟩
          clear I H2 T2 m2 m3 u2 u3 T3 H3 hno HNO AA
          gi_wp2
          exact ⟨K1, X⟩
        · rw [if_neg (fun e => hf (of_decide_eq_true e))] at hno
          have hB : P.ownB k = true := by unfold Pl.ownB; rw [show (k : Int).toNat = k by simp, decide_eq_true (show (1 : Int) ≤ k by omega), decide_eq_true (show (k : Int) ≤ P.n by omega), decide_eq_true (show 0 ≤ P.T (k - 1) by omega)]; rfl
          rw [show Pl.ownB ⟨P.n, P.T, P.h, P.R⟩ k = true from hB] at WA
          generalize Pl.ownI ⟨P.n, P.T, P.h, P.R⟩ k = y at *
          have N : TakI w w.heap.size pb bm ob P x (j + 1) W := ⟨I.pool, I.b0, I.b1, I.b2, I.b3, I.tn, by rw [hm2, hnx]; exact hno⟩
          clear hno hz hf hB hmm hm2 hnx I
          gi_wp2_with ((first | (refine ⟨trivial, ?_⟩; gi_at_call 15) | (refine ⟨trivial, fun h => absurd h (by decide), ?_⟩; gi_at_call 15)); refine (CallsIn.inRound l (callsIn_wide.2 (WA))).mono ?_; rintro e w' ⟨rfl, rfl⟩)
          exact ⟨KeepsFrom.refl _ _, rfl, N⟩
      case done =>
        rintro j W hj I hK
        subst hj
        have hz2 : P.free = 0 := by rw [I.no, Nat.sub_self]; rfl
        have r1 := Lib.hid (show P.takeI x = 0 by unfold Pl.takeI; rw [if_neg (by omega), if_pos hz]; exact hz2)
        have r2 := Lib.hid (show P.takeE x = 8 by unfold Pl.takeE; rw [if_neg (by omega), if_pos ⟨hz, hz2⟩])
        have r3 := Lib.hid (show P.take x = P by unfold Pl.take; rw [if_pos (.inr (.inr hz2))])
        have d2 := I.b2.cell
        have d3 := I.b3.cell
        have g2 := I.b2.frozen
        have g3 := I.b3.frozen
        have u2 := boxSet (I.b2.set (.int .i64 0)) ⟨w.heap.size + 1 + 1 + 1, 0, none⟩ (by simp) (.int .i64 8)
        have u3 := (boxSet I.b3 ⟨w.heap.size + 1 + 1, 0, none⟩ (by simp) (.int .i64 0)).set (.int .i64 8)
        unfold lastMark
        gi_wp2
        have hK' := ((KeepsOthers.setCell W ⟨w.heap.size + 1 + 1, 0, none⟩ (.int .i64 0)).trans (KeepsOthers.setCell _ ⟨w.heap.size + 1 + 1 + 1, 0, none⟩ (.int .i64 8))).same _ _ hK rfl
        refine ⟨by simp, .inl ⟨_, _, rfl, run_takeDeferred hK', ?_⟩⟩
        have v2 := (boxPut u2 (.deferred none) hK').cell
        have v3 := (boxPut u3 (.deferred none) hK').cell
        refine ⟨.tuple #[.int .i64 0, .int .i64 8], ?_, by rw [r1.out, r2.out]; rfl, by rw [r3.out]; exact ((I.pool.setOut _ (by show pb < w.heap.size + 1 + 1; omega) _).setOut _ (by show pb < w.heap.size + 1 + 1 + 1; omega) _).putObj _ (by omega), ((I.tn.setCell _ (.inr (.inr (.inr (by show _ ≤ w.heap.size + 1 + 1; omega)))) _).setCell _ (.inr (.inr (.inr (by show _ ≤ w.heap.size + 1 + 1 + 1; omega)))) _).putObj _ (by omega)⟩
        simp [results, Try.f17, go_sem, v2, v3]
      case stop =>
        rintro W X hK
        have r1 := Lib.hid (show P.takeI x = P.free by unfold Pl.takeI; rw [if_neg (by omega), if_pos hz])
        have r2 := Lib.hid (show P.takeE x = 0 by unfold Pl.takeE; rw [if_neg (by omega), if_neg (fun e => X.ne e.2)])
        have r3 := Lib.hid (show P.take x = P.own P.free x by unfold Pl.take; rw [if_neg (by have := X.ne; omega)])
        unfold lastMark
        gi_wp2
        refine ⟨by simp, .inl ⟨_, _, rfl, run_takeDeferred hK, ?_⟩⟩
        have v2 := (boxPut X.b2 (.deferred none) hK).cell
        have v3 := (boxPut X.b3 (.deferred none) hK).cell
        refine ⟨.tuple #[.int .i64 (P.free : Int), .int .i64 0], ?_, by rw [r1.out, r2.out], by rw [r3.out]; exact X.pool.putObj _ (by omega), X.tn.putObj _ (by omega)⟩
        simp [results, Try.f17, go_sem, v2, v3]
    · have r1 := Lib.hid (show P.takeI x = P.of x by unfold Pl.takeI; rw [if_neg (by omega), if_neg hz])
      have r2 := Lib.hid (show P.takeE x = 0 by unfold Pl.takeE; rw [if_neg (by omega), if_neg (fun e => hz e.1)])
      have r3 := Lib.hid (show P.take x = P by unfold Pl.take; rw [if_pos (.inr (.inl hz))])
      rw [decide_eq_true hz]
      obtain ⟨y, hy⟩ : ∃ y, P.of x = y := ⟨_, rfl⟩
      rw [hy] at r1 ⊢
      clear hz ok hy
      have u2 := boxSet (a2.set (.int .i64 (y : Int))) ⟨w.heap.size + 1 + 1 + 1, 0, none⟩ (by simp) (.int .i64 0)
      have u3 := (boxSet a3 ⟨w.heap.size + 1 + 1, 0, none⟩ (by simp) (.int .i64 (y : Int))).set (.int .i64 0)
      gi_wp2
      have v2 := u2.cell
      have v3 := u3.cell
      refine ⟨.tuple #[.int .i64 (y : Int), .int .i64 0], ?_, by rw [r1.out, r2.out], by rw [r3.out]; exact (H0.setOut _ (by show pb < w.heap.size + 1 + 1; omega) _).setOut _ (by show pb < w.heap.size + 1 + 1 + 1; omega) _, (T0.setCell _ (.inr (.inr (.inr (by show _ ≤ w.heap.size + 1 + 1; omega)))) _).setCell _ (.inr (.inr (.inr (by show _ ≤ w.heap.size + 1 + 1 + 1; omega)))) _⟩
      simp [results, Try.f17, go_sem, v2, v3]
end Go.Proofs.Ytkbkilkmiigahaa.Cx
