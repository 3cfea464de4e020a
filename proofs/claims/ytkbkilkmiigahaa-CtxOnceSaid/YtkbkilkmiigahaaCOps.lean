/-
  Contracts of assign, Give, Steal of package ctx. Conditions: a pool that is there and is as it must be.
-/
import Derived.Test.YtkbkilkmiigahaaCPass
namespace Go.Proofs.Ytkbkilkmiigahaa.Cx
open Fld
open Go.ChangeShapes Go.WideShapes Go.ChangeAt Go.RowKit Go.Maps
set_option maxHeartbeats 1000000
theorem wp_builtin_run {P : Program} (w : World) {o : Oper} {a : Act} {K : Act → World → Prop} {Q : Exit → Act → World → Prop} {b : Builtin} (f : Array TypeId → TypeId → Array Value → Sem Value) (hf : ∀ ats ty cs args, builtin b ats ty cs args = (do pure (.value (← f ats ty args)))) (d s : Operand) (t t' : TypeId)
    (ho : o.op = .call { callee := .builtin b, args := #[d, s], argTypes := #[t, t'] }) (v u : Value) (hd : a.eval d = v) (hs : a.eval s = u) {v' : Value} {w' : World}
    (hr : (f #[t, t'] o.type #[v, u]).run P w = .ok v' w') (h : K (a.put o.dst v') w') : o.wp P a w K Q := by
  unfold Oper.wp execOp
  simp only [ho, resolve, invoke, hf, Sem.run_bind, Sem.run_pure, Result.andThen_ok, List.map_toArray, List.map_cons, List.map_nil, hd, hs, hr]
  exact h
theorem wpList_copy_is {P : Program} (w : World) {ops : Array Oper} {rest : List Oper} {o : Oper} {a : Act} {Q : Exit → Act → World → Prop} (hgd : o.guard = none) (d s : Operand) (t t' : TypeId)
    (ho : o.op = .call { callee := .builtin .copy, args := #[d, s], argTypes := #[t, t'] }) (v u : Value) (hd : a.eval d = v) (hs : a.eval s = u) {v' : Value} {w' : World}
    (hr : (Builtin.copy_ #[t, t'] o.type #[v, u]).run P w = .ok v' w') (h : wpList P ops Q rest (a.put o.dst v') w') : wpList P ops Q (o :: rest) a w :=
  wpList_plain hgd fun _ hK => wp_builtin_run w Builtin.copy_ (fun _ _ _ _ => rfl) d s t t' ho v u hd hs hr (hK _ _ h)
theorem wpList_delete_is {P : Program} (w : World) {ops : Array Oper} {rest : List Oper} {o : Oper} {a : Act} {Q : Exit → Act → World → Prop} (hgd : o.guard = none) (d s : Operand) (t t' : TypeId)
    (ho : o.op = .call { callee := .builtin .delete, args := #[d, s], argTypes := #[t, t'] }) (v u : Value) (hd : a.eval d = v) (hs : a.eval s = u) {v' : Value} {w' : World}
    (hr : (Builtin.delete_ #[t, t'] o.type #[v, u]).run P w = .ok v' w') (h : wpList P ops Q rest (a.put o.dst v') w') : wpList P ops Q (o :: rest) a w :=
  wpList_plain hgd fun _ hK => wp_builtin_run w Builtin.delete_ (fun _ _ _ _ => rfl) d s t t' ho v u hd hs hr (hK _ _ h)
theorem Pl.Ok.apart {P : Pl} (h : P.Ok) : Apart P.n P.T := h.one
theorem Pl.tells {P : Pl} (x : Int) : Tells P.n P.T x (P.of x) := by
  by_cases h : P.of x = 0
  · refine .inl ⟨h, fun i hi h0 e => ?_⟩
    exact Pl.of_zero (by omega) h i hi e
  · have := Pl.of_pos h
    exact .inr ⟨this.1, this.2.1, this.2.2.1, this.2.2.2⟩
theorem assign_any {pb bm ob n h R : Nat} {T M : Nat → Int} (w : World) (H : PoolRow w pb bm ob n T M h R) (h0 : 1 ≤ h) (h1 : h ≤ n) (ha : Apart n M) (m : Nat) (m0 : 1 ≤ m) (m1 : m ≤ n) {x : Int} (hx : Sp x) (hf : M (m - 1) < 0) (hno : ∀ j, j < n → M j ≠ x) (hR : R ≤ 1000000000) :
    Calls Try.prog 35 #[.pointer (some ⟨pb, 0, none⟩), .int .i64 (m : Int), .int .i64 x] w fun e w' => e = .returned (.tuple #[]) ∧ PoolRow w' pb bm ob n (setT T (m - 1) x) (setT M (m - 1) x) (m % n + 1) (passR n h m R) ∧ Turn w w' pb bm ob := by
  obtain ⟨c0, c1, c2, c3⟩ := H.cells
  obtain ⟨w1, hr, hm, hg⟩ := H.m.store ha H.le m0 m1 hx hf hno
  have H1 := H.putM hm hg
  have T1 := (Turn.refl w pb bm ob).grown hg
  obtain ⟨d0, d1, d2, d3⟩ := H1.cells
  have fo := H1.fo (m - 1)
  have hn := H.le
  have H2 := H1.putO (m - 1) x
  have T2 := T1.setCell ⟨ob, m - 1, none⟩ (.inr (.inr (.inl rfl))) (.int .i64 x)
  have co := H1.co (j := m - 1) (by omega)
  have em : ((m : Int) - 1).toNat = m - 1 := by omega
  have PA := Lib.hid (fun w H => pass_any (pb := pb) (bm := bm) (ob := ob) (n := n) (h := h) (R := R) (T := setT T (m - 1) x) (M := setT M (m - 1) x) w H h0 h1 m m0 m1 hR)
  clear H H1 hm hg hno hf ha T1
  go_enter Try.func35, Try.ntmps35
  go_wp2_with fail
  refine (PA.out _ H2).mono ?_
  rintro e w3 ⟨rfl, H3, T3⟩
  have T4 := T2.trans T3
  clear T2 T3 H2 PA c0 c1 c2 c3 d0 d1 d2 d3 co fo hr
  go_wp2
  go_end0
  exact ⟨rfl, H3, T4⟩
theorem give_any {pb bm ob : Nat} {P : Pl} (w : World) (H : PoolAt w pb bm ob P) (ok : P.Ok) {x : Int} (h0 : -9223372036854775808 ≤ x) (h1 : x ≤ 9223372036854775807) :
    Calls Try.prog 22 #[.pointer (some ⟨pb, 0, none⟩), .int .i64 x] w fun e w' => e = .returned (.tuple #[.int .i64 (P.of x : Int), .int .i64 (P.giveE x)]) ∧ PoolAt w' pb bm ob (P.give x) ∧ Turn w w' pb bm ob := by
  have OA := of_any w H h0 h1 (Pl.tells x)
  by_cases hz : P.of x = 0
  · have E1 := Lib.hid (show P.giveE x = 10 by unfold Pl.giveE; rw [if_pos hz])
    have E2 := Lib.hid (show P.give x = P by unfold Pl.give; rw [if_pos hz])
    rw [hz] at OA ⊢
    have OA : Calls Try.prog 14 #[.pointer (some ⟨pb, 0, none⟩), .int .i64 x] w fun e w' => e = .returned (.tuple #[.int .i64 0, .bool false]) ∧ w = w' := OA
    clear hz ok
    go_enter Try.func22, Try.ntmps22
    go_wp2_with (go_at_call 14; refine OA.mono ?_; rintro e w' ⟨rfl, rfl⟩)
    go_ret2
    exact ⟨by rw [E1.out]; rfl, by rw [E2.out]; exact H, Turn.refl _ _ _ _⟩
  · obtain ⟨m0, m1, hx, x0⟩ := Pl.of_pos hz
    have E1 := Lib.hid (show P.giveE x = 0 by unfold Pl.giveE; rw [if_neg hz])
    have E2 := Lib.hid (show P.give x = P.drop (P.of x) by unfold Pl.give; rw [if_neg hz])
    rw [decide_eq_true hz] at OA
    obtain ⟨m, hm⟩ : ∃ m, P.of x = m := ⟨_, rfl⟩
    rw [hm] at OA E2 m0 m1 hx ⊢
    obtain ⟨c0, c1, c2, c3⟩ := H.cells
    obtain ⟨w1, hr, hm1, hg⟩ := H.m.drop ok.apart (i := m - 1) (by omega) (by rw [hx]; exact ⟨x0, h1⟩) 0
    rw [hx] at hr
    have H1 := H.putM hm1 hg
    have T1 := (Turn.refl w pb bm ob).grown hg
    obtain ⟨d0, d1, d2, d3⟩ := H1.cells
    have fo := H1.fo (m - 1)
    have hn := H.le
    have H2 := H1.putO (m - 1) (-1)
    have T2 := T1.setCell ⟨ob, m - 1, none⟩ (.inr (.inr (.inl rfl))) (.int .i64 (-1))
    have co := H1.co (j := m - 1) (by omega)
    have em : ((m : Int) - 1).toNat = m - 1 := by omega
    have H2 := Lib.hid H2
    have T2 := Lib.hid T2
    clear H H1 hm1 hg T1 hz hm hx ok
    go_enter Try.func22, Try.ntmps22
    go_wp2_with (first | (go_at_call 14; refine OA.mono ?_; rintro e w' ⟨rfl, rfl⟩) | (at_builtin; refine wpList_delete_is _ rfl _ _ _ _ rfl _ _ rfl rfl hr ?_))
    go_ret2
    exact ⟨by rw [E1.out]; rfl, by rw [E2.out]; exact H2.out, T2.out⟩
theorem steal_any {pb bm ob : Nat} {P : Pl} (w : World) (H : PoolAt w pb bm ob P) (ok : P.Ok) {x : Int} (m : Int) (h0 : -9223372036854775808 ≤ x) (h1 : x ≤ 9223372036854775807) (hR : P.R ≤ 1000000000) :
    Calls Try.prog 19 #[.pointer (some ⟨pb, 0, none⟩), .int .i64 m, .int .i64 x] w fun e w' => e = .returned (.tuple #[.int .i64 (P.stealI m x), .int .i64 (P.stealE m x)]) ∧ PoolAt w' pb bm ob (P.steal m x) ∧ Turn w w' pb bm ob := by
  have OA := of_any w H h0 h1 (Pl.tells x)
  have HA := has_any w H m
  have WA := owner_any w H (fun i hi => ok.bd hi) m
  have hI : P.stealE m x ≠ 0 → P.stealI m x = 0 := fun h => by unfold Pl.stealI; rw [if_neg h]
  have hS : P.stealE m x ≠ 0 → P.steal m x = P := fun h => by unfold Pl.steal; rw [if_neg h]
  by_cases x0 : x < 0
  · have E1 : P.stealE m x = 1 := by unfold Pl.stealE; rw [if_pos (.inl x0)]
    rw [hI (by omega), hS (by omega), E1]
    clear hI hS E1 ok WA OA HA
    go_enter Try.func19, Try.ntmps19
    go_wp2
    go_ret2
    exact ⟨rfl, H, Turn.refl _ _ _ _⟩
  · by_cases hb : 1 ≤ m ∧ m ≤ (P.n : Int)
    · rw [decide_eq_true hb.1, decide_eq_true hb.2] at HA
      have HA : Calls Try.prog 33 #[.pointer (some ⟨pb, 0, none⟩), .int .i64 m] w fun e w' => e = .returned (.bool true) ∧ w = w' := HA
      by_cases hz : P.of x = 0
      · rw [hz] at OA
        have OA : Calls Try.prog 14 #[.pointer (some ⟨pb, 0, none⟩), .int .i64 x] w fun e w' => e = .returned (.tuple #[.int .i64 0, .bool false]) ∧ w = w' := OA
        obtain ⟨k, rfl⟩ : ∃ k : Nat, m = (k : Int) := ⟨m.toNat, by omega⟩
        have kt : (k : Int).toNat = k := by simp
        by_cases hf : P.T (k - 1) < 0
        · have E1 : P.stealE k x = 10 := by unfold Pl.stealE; rw [if_neg (by omega), if_neg (by omega), kt, if_pos hf]
          rw [hI (by omega), hS (by omega), E1]
          have hB : P.ownB k = false := by unfold Pl.ownB; rw [kt, decide_eq_false (show ¬ 0 ≤ P.T (k - 1) by omega), Bool.and_false]
          rw [show Pl.ownB ⟨P.n, P.T, P.h, P.R⟩ k = false from hB, show Pl.ownI ⟨P.n, P.T, P.h, P.R⟩ k = 0 by unfold Pl.ownI; rw [show Pl.ownB ⟨P.n, P.T, P.h, P.R⟩ k = false from hB]; rfl] at WA
          clear hI hS E1 ok hB kt
          go_enter Try.func19, Try.ntmps19
          go_wp2_with (first | (go_at_call 33; refine HA.mono ?_; rintro e w' ⟨rfl, rfl⟩) | (go_at_call 14; refine OA.mono ?_; rintro e w' ⟨rfl, rfl⟩) | (go_at_call 15; refine WA.mono ?_; rintro e w' ⟨rfl, rfl⟩))
          go_ret2
          exact ⟨rfl, H, Turn.refl _ _ _ _⟩
        · have E1 : P.stealE k x = 0 := by unfold Pl.stealE; rw [if_neg (by omega), if_neg (by omega), kt, if_neg hf]
          have E2 : P.stealI k x = P.T (k - 1) := by unfold Pl.stealI; rw [if_pos E1, kt]
          have E3 : P.steal k x = P.own k x := by unfold Pl.steal; rw [if_pos E1, kt]
          have hB : P.ownB k = true := by unfold Pl.ownB; rw [kt, decide_eq_true hb.1, decide_eq_true hb.2, decide_eq_true (show 0 ≤ P.T (k - 1) by omega)]; rfl
          rw [show Pl.ownB ⟨P.n, P.T, P.h, P.R⟩ k = true from hB, show Pl.ownI ⟨P.n, P.T, P.h, P.R⟩ k = P.T (k - 1) by unfold Pl.ownI; rw [show Pl.ownB ⟨P.n, P.T, P.h, P.R⟩ k = true from hB, kt]; rfl] at WA
          rw [E1, E2, E3]
          obtain ⟨b0, b1⟩ := hb
          have hT := ok.bd (i := k - 1) (by omega)
          obtain ⟨c0, c1, c2, c3⟩ := H.cells
          obtain ⟨w1, hr, hm1, hg⟩ := H.m.drop ok.apart (i := k - 1) (by omega) ⟨by omega, hT.2⟩ 0
          have H1 := H.putM hm1 hg
          have T1 := (Turn.refl w pb bm ob).grown hg
          have ha : Apart P.n (setT P.T (k - 1) (-1)) := (ok.drop k).apart
          have AA := assign_any w1 H1 ok.h0 (ok.h1 (by omega)) ha k (by omega) (by omega) (x := x) ⟨by omega, h1⟩ (by rw [setT_same]; omega) (fun j hj => by
            unfold setT; split
            · omega
            · exact Pl.of_zero (by omega) hz j hj) hR
          rw [setT_set] at AA
          obtain ⟨y, hy⟩ : ∃ y, P.T (k - 1) = y := ⟨_, rfl⟩
          rw [hy] at WA hr ⊢
          have AA := Lib.hid AA
          have T1 := Lib.hid T1
          clear hI hS E1 E2 E3 hB kt ok hm1 hg ha hz hf hT hy H1 H
          go_enter Try.func19, Try.ntmps19
          go_wp2_with (first | (go_at_call 33; refine HA.mono ?_; rintro e w' ⟨rfl, rfl⟩) | (go_at_call 14; refine OA.mono ?_; rintro e w' ⟨rfl, rfl⟩) | (go_at_call 15; refine WA.mono ?_; rintro e w' ⟨rfl, rfl⟩) | (at_builtin; refine wpList_delete_is _ rfl _ _ _ _ rfl _ _ rfl rfl hr ?_) | (go_at_call 35; refine AA.out.mono ?_; rintro e w2 ⟨rfl, H2, T2⟩))
          go_ret2
          exact ⟨rfl, H2, T1.out.trans T2⟩
      · have E1 : P.stealE m x = 9 := by unfold Pl.stealE; rw [if_neg (by omega), if_pos hz]
        rw [hI (by omega), hS (by omega), E1]
        rw [decide_eq_true hz] at OA
        generalize (P.of x : Int) = z at *
        clear hI hS E1 ok WA hz
        go_enter Try.func19, Try.ntmps19
        go_wp2_with (first | (go_at_call 33; refine HA.mono ?_; rintro e w' ⟨rfl, rfl⟩) | (go_at_call 14; refine OA.mono ?_; rintro e w' ⟨rfl, rfl⟩))
        go_ret2
        exact ⟨rfl, H, Turn.refl _ _ _ _⟩
    · have E1 : P.stealE m x = 1 := by unfold Pl.stealE; rw [if_pos (by omega)]
      rw [hI (by omega), hS (by omega), E1]
      rw [show (decide (1 ≤ m) && decide (m ≤ (P.n : Int))) = false by rw [Bool.and_eq_false_iff, decide_eq_false_iff_not, decide_eq_false_iff_not]; omega] at HA
      clear hI hS E1 ok WA OA hb
      go_enter Try.func19, Try.ntmps19
      go_wp2_with (go_at_call 33; refine HA.mono ?_; rintro e w' ⟨rfl, rfl⟩)
      go_ret2
      exact ⟨rfl, H, Turn.refl _ _ _ _⟩
end Go.Proofs.Ytkbkilkmiigahaa.Cx
