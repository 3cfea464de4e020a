/-
  Contracts of pass and assign of package ctx. Conditions: a pool that is there, a number that is there.
-/
import Derived.Test.YtkbkilkmiigahaaCRound
namespace Go.Proofs.Ytkbkilkmiigahaa.Cx
open Fld
open Go.ChangeShapes Go.WideShapes Go.ChangeAt Go.RowKit Go.Shelf Go.Maps
attribute [local go_sem] Oper.semAt_some
theorem pool_own {σ : Type} (B pb bm ob n : Nat) (T M : Nat → Int) (f g : σ → Nat) (hb : pb < B) : OwnFrom B (fun s W => PoolRow W pb bm ob n T M (f s) (g s)) := fun s W W' row hs hg hr =>
  hs.same (fun k hk => hg.block k (by have := hs.lt; have := hs.ord; rcases hk with rfl | rfl | rfl <;> omega) (fun e => by have := (hr _ e.symm).1; have := hs.ord; rcases hk with rfl | rfl | rfl <;> omega))
theorem turn_own {σ : Type} (w : World) (pb bm ob B : Nat) (hB : w.heap.size ≤ B) : OwnFrom B (fun (_ : σ) W => Turn w W pb bm ob) := fun s W W' row hs hg hr =>
  ⟨hg.os.trans hs.os, hg.tape.trans hs.tape, hg.output.trans hs.output, Nat.le_trans hs.size hg.size, fun k hk h1 h2 h3 =>
    (hg.block k (Nat.lt_of_lt_of_le hk hs.size) (fun e => by have := (hr _ e.symm).1; omega)).trans (hs.block k hk h1 h2 h3)⟩
theorem boxTurn {W W' : World} {pb bm ob B : Nat} {t : TypeId} {v : Value} (h : Boxed W B t v) (k : Turn W W' pb bm ob) (h1 : B ≠ pb) (h2 : B ≠ bm) (h3 : B ≠ ob) : Boxed W' B t v := (k.block B h.lt h1 h2 h3).trans h
theorem Turn.keeps {W W' : World} {pb bm ob B : Nat} (h : Turn W W' pb bm ob) (h1 : pb < B) (h2 : bm < B) (h3 : ob < B) : KeepsFrom B W W' :=
  ⟨h.size, fun k o hB hk _ => (h.block k (Array.getElem?_eq_some_iff.1 hk).1 (by omega) (by omega) (by omega)).trans hk⟩
theorem PoolRow.putObj {W : World} {pb bm ob n D h R : Nat} {T M : Nat → Int} (H : PoolRow W pb bm ob n T M h R) (o : Obj) (h1 : pb < D) : PoolRow (W.putObj D o) pb bm ob n T M h R :=
  H.same (fun k hk => World.putObj_heap_other (by have := H.ord; rcases hk with rfl | rfl | rfl <;> omega))
theorem boxSet {W : World} {B : Nat} {t : TypeId} {v : Value} (h : Boxed W B t v) (p : Addr) (hne : B ≠ p.block) (u : Value) : Boxed (W.setCell p u) B t v := (Below.heap_setCell _ _ _ _ hne).trans h
/-- Between two rounds of pass: the hand has come to the j-th number. -/
structure PasI (w : World) (z pb bm ob n : Nat) (T M : Nat → Int) (h R m : Nat) (j : Nat) (W : World) : Prop where
  pool : ∃ r, PoolRow W pb bm ob n T M (rot n h j) r ∧ passR n (rot n h j) m r = passR n h m R ∧ r ≤ R + j
  b0 : Boxed W z 23 (.pointer (some ⟨pb, 0, none⟩))
  b1 : Boxed W (z + 1) 3 (.int .i64 (m : Int))
  tn : Turn w W pb bm ob
  ds : dist n (rot n h j) m + j = dist n h m
structure PasX (w : World) (pb bm ob n : Nat) (T M : Nat → Int) (h R m : Nat) (W : World) : Prop where
  pool : PoolRow W pb bm ob n T M (m % n + 1) (passR n h m R)
  tn : Turn w W pb bm ob
theorem pasI_own (w : World) (z pb bm ob n : Nat) (T M : Nat → Int) (h R m B : Nat) (h1 : pb < B) (hB : w.heap.size ≤ B) : OwnFrom B (PasI w z pb bm ob n T M h R m) := fun j W W' row hs hg hr =>
  ⟨hs.pool.imp fun _ ⟨a, b, c⟩ => ⟨pool_own (σ := Unit) B pb bm ob n T M (fun _ => _) (fun _ => _) h1 () W W' row a hg hr, b, c⟩, (boxed_own (β := Nat) _ _ (fun _ => _)).from B j W W' row hs.b0 hg hr, (boxed_own (β := Nat) _ _ (fun _ => _)).from B j W W' row hs.b1 hg hr, turn_own (σ := Nat) w pb bm ob B hB j W W' row hs.tn hg hr, hs.ds⟩
theorem pasX_own (w : World) (pb bm ob n : Nat) (T M : Nat → Int) (h R m B : Nat) (h1 : pb < B) (hB : w.heap.size ≤ B) : OwnFrom B (fun (_ : Unit) W => PasX w pb bm ob n T M h R m W) := fun _ W W' row hs hg hr =>
  ⟨pool_own (σ := Unit) B pb bm ob n T M (fun _ => _) (fun _ => _) h1 () W W' row hs.pool hg hr, turn_own (σ := Unit) w pb bm ob B hB () W W' row hs.tn hg hr⟩
set_option maxRecDepth 100000 in
set_option maxHeartbeats 2000000 in
theorem pass_any {pb bm ob n h R : Nat} {T M : Nat → Int} (w : World) (H : PoolRow w pb bm ob n T M h R) (h0 : 1 ≤ h) (h1 : h ≤ n) (m : Nat) (m0 : 1 ≤ m) (m1 : m ≤ n) (hR : R ≤ 1000000000) :
    Calls Try.prog 43 #[.pointer (some ⟨pb, 0, none⟩), .int .i64 (m : Int)] w fun e w' => e = .returned (.tuple #[]) ∧ PoolRow w' pb bm ob n T M (m % n + 1) (passR n h m R) ∧ Turn w w' pb bm ob := by
  have hn := H.le
  have hpb := H.lt
  have hord := H.ord
  refine (callsIn_wide (n := 3)).1 ?_
  refine callsIn_of_wp_marks Try.func43 rfl trivial ?_ rfl; simp only [Try.ntmps43, List.size_toArray, List.length_cons, List.length_nil, Nat.reduceAdd, Nat.reduceSub, Array.replicate_succ, Array.replicate_zero, List.push_toArray, List.append_toArray, List.nil_append, List.cons_append]
  gi_wp2
  obtain ⟨W0, hW0⟩ : ∃ W0, (w.alloc (.cells #[.pointer (some ⟨pb, 0, none⟩)] 23)).alloc (.cells #[.int .i64 (m : Int)] 3) = W0 := ⟨_, rfl⟩
  have hi : PasI w w.heap.size pb bm ob n T M h R m 0 W0 := by
    rw [← hW0]
    refine ⟨⟨R, (H.alloc _).alloc _, rfl, Nat.le_refl _⟩, (Boxed.new w _ _).alloc _, ?_, ((Turn.refl w pb bm ob).alloc _).alloc _, rfl⟩
    have := Boxed.new (w.alloc (.cells #[.pointer (some ⟨pb, 0, none⟩)] 23)) 3 (.int .i64 (m : Int))
    simpa only [World.size_alloc] using this
  have hsz : W0.heap.size = w.heap.size + 1 + 1 := by rw [← hW0]; simp
  have H0 : PoolRow W0 pb bm ob n T M h R := by rw [← hW0]; exact (H.alloc _).alloc _
  rw [hW0]
  clear hW0
  refine range_iter (n := 3) (gf := 34) (bnd := #[.pointer (some ⟨pb, 0, none⟩)]) (lb := #[]) rfl (enters_of Try.func34 (by kernel_rfl) rfl)
    (p := ⟨pb, 1, none⟩) (by show pb < _; omega) (round_iter 2 W0 H0 h0 (fun _ => h1)) (fun _ => rfl)
    (PasI w w.heap.size pb bm ob n T M h R m) (PasX w pb bm ob n T M h R m)
    (pasI_own _ _ _ _ _ _ _ _ _ _ _ _ (by omega) (by omega)) (pasX_own _ _ _ _ _ _ _ _ _ _ _ (by omega) (by omega)) hi
    (fun j => { tmps := #[.pointer (some ⟨pb, 0, none⟩), .int .i64 (m : Int), .pointer (some ⟨w.heap.size, 0, none⟩), .pointer (some ⟨w.heap.size + 1, 0, none⟩), .int .i64 (rot n h j : Int), .pointer (some ⟨pb, 0, none⟩), .func (.func 34) #[.pointer (some ⟨pb, 0, none⟩)] #[], .int .i64 (rot n h j : Int), undef, undef, undef, undef, undef, undef, undef, undef, undef, undef, undef, undef, undef, undef, undef, undef, undef, undef, undef, undef, undef], defers := [] }) ?assign ?body ?done ?stop
  case assign =>
    intro l e W K hK
    gi_wp2
    exact hK
  case body =>
    rintro l j W I hlive
    have rb := rot_bd (n := n) (h := h) (by omega) h0 h1 j
    obtain ⟨r, P, hp, hr⟩ := I.pool
    have b0 : Boxed W.drew _ _ _ := I.b0
    have b1 : Boxed W.drew _ _ _ := I.b1
    have d0 := b0.cell
    have d1 := b1.cell
    have hds := I.ds
    have htn : Turn w W.drew pb bm ob := I.tn.drewN 1
    have Pd : PoolRow W.drew pb bm ob n T M _ r := P.drewN 1
    have hnx : rot n h (j + 1) = rot n h j % n + 1 := rfl
    have hne : ∀ k, k = pb ∨ k = bm ∨ k = ob → w.heap.size ≠ k ∧ w.heap.size + 1 ≠ k := fun k hk => by rcases hk with rfl | rfl | rfl <;> omega
    generalize rot n h j = k at *
    obtain ⟨p0, p1, p2, p3⟩ := Pd.cells
    have f2 := Pd.fr 2
    have hmix : Try.prog.follows .mixedOrders = true := by kernel_rfl
    have BH := behind_cell W.drew p1 hn k rb.1 rb.2
    have hst := passR_step (R := r) rb.1 rb.2 m0 m1
    have hls := passR_last (n := n) (R := r) m0 m1
    have hdt := dist_step rb.1 rb.2 m0 m1
    have hs1 : stepR n k r = if k % n + 1 = 1 then r + 1 else r := rfl
    have hnxt := nxt_bd (n := n) (k := k) (by omega)
    obtain ⟨k2, hk2⟩ : ∃ k2, k % n + 1 = k2 := ⟨_, rfl⟩
    rw [hk2] at BH hs1 hst hdt hnx hnxt
    have P1 : PoolRow (W.setCell ⟨pb, 2, none⟩ (.int .i64 (k2 : Int))).drew pb bm ob n T M k2 r := (P.putH k2).drewN 1
    have T1 : Turn w (W.setCell ⟨pb, 2, none⟩ (.int .i64 (k2 : Int))).drew pb bm ob := (I.tn.setCell ⟨pb, 2, none⟩ (.inl rfl) (.int .i64 (k2 : Int))).drewN 1
    have K1 : KeepsFrom W0.heap.size W (W.setCell ⟨pb, 2, none⟩ (.int .i64 (k2 : Int))).drew := (((Turn.refl W pb bm ob).setCell ⟨pb, 2, none⟩ (.inl rfl) (.int .i64 (k2 : Int))).drewN 1).keeps (by omega) (by omega) (by omega)
    have C1 : (W.setCell ⟨pb, 2, none⟩ (.int .i64 (k2 : Int))).drew.cell? ⟨pb, 1, none⟩ = W.cell? ⟨pb, 1, none⟩ := P1.cells.2.1.trans p1.symm
    have B0 : Boxed (W.setCell ⟨pb, 2, none⟩ (.int .i64 (k2 : Int))).drew w.heap.size 23 (.pointer (some ⟨pb, 0, none⟩)) := boxSet I.b0 ⟨pb, 2, none⟩ (hne pb (.inl rfl)).1 (.int .i64 (k2 : Int))
    have B1 : Boxed (W.setCell ⟨pb, 2, none⟩ (.int .i64 (k2 : Int))).drew (w.heap.size + 1) 3 (.int .i64 (m : Int)) := boxSet I.b1 ⟨pb, 2, none⟩ (hne pb (.inl rfl)).2 (.int .i64 (k2 : Int))
    gi_wp2
    gi_region_with_o (refine ⟨trivial, ?_⟩; gi_at_call 42; refine (CallsIn.inRound l (callsIn_wide.2 BH)).mono ?_; rintro e w' ⟨rfl, rfl⟩)
    all_goals
      clear P Pd p0 p1 p2 p3 f2 BH htn b0 b1 d0 d1
      have c0 := B0.cell
      have c1 := B1.cell
      obtain ⟨q0, q1, q2, q3⟩ := P1.cells
      have g3 := P1.fr 3
      generalize (W.setCell ⟨pb, 2, none⟩ (.int .i64 (k2 : Int))).drew = V at *
      by_cases ek : k2 = 1
      · subst ek
        rw [if_pos rfl] at hs1
        have P2 : PoolRow (V.setCell ⟨pb, 3, none⟩ (.int .i64 ((r : Int) + 1))) pb bm ob n T M 1 (r + 1) := P1.putR (r + 1)
        have T2 := T1.setCell ⟨pb, 3, none⟩ (.inl rfl) (.int .i64 ((r : Int) + 1))
        have K2 := K1.trans (((Turn.refl V pb bm ob).setCell ⟨pb, 3, none⟩ (.inl rfl) (.int .i64 ((r : Int) + 1))).keeps (B := W0.heap.size) (by omega) (by omega) (by omega))
        have C2 := (P2.cells.2.1.trans q1.symm).trans C1
        have D0 := boxSet B0 ⟨pb, 3, none⟩ (hne pb (.inl rfl)).1 (.int .i64 ((r : Int) + 1))
        have D1 := boxSet B1 ⟨pb, 3, none⟩ (hne pb (.inl rfl)).2 (.int .i64 ((r : Int) + 1))
        have e1 := D1.cell
        by_cases em : k = m
        · have X : PasX w pb bm ob n T M h R m (V.setCell ⟨pb, 3, none⟩ (.int .i64 ((r : Int) + 1))) := by
            subst em
            exact ⟨by rw [hk2, ← hp, ← hls, hs1]; exact P2, T2⟩
          clear hdt hst hls hp hs1 hk2 hnx I
          subst em
          gi_wp2
          exact ⟨K2, X⟩
        · have hst := hst em
          have hdt := hdt em
          have N : PasI w w.heap.size pb bm ob n T M h R m (j + 1) (V.setCell ⟨pb, 3, none⟩ (.int .i64 ((r : Int) + 1))) :=
            ⟨⟨r + 1, by rw [hnx]; exact P2, by rw [hnx, ← hp, ← hst, hs1], by omega⟩, D0, D1, T2, by rw [hnx]; omega⟩
          clear hdt hst hls hp hs1 hk2 hnx I
          have em2 : (k : Int) ≠ (m : Int) := by omega
          gi_wp2
          exact ⟨K2, C2, N⟩
      · rw [if_neg ek] at hs1
        by_cases em : k = m
        · have X : PasX w pb bm ob n T M h R m V := by
            subst em
            exact ⟨by rw [hk2, ← hp, ← hls, hs1]; exact P1, T1⟩
          clear hdt hst hls hp hs1 hk2 hnx I
          subst em
          have ek2 : (k2 : Int) ≠ 1 := by omega
          gi_wp2
          exact ⟨K1, X⟩
        · have hst := hst em
          have hdt := hdt em
          have N : PasI w w.heap.size pb bm ob n T M h R m (j + 1) V :=
            ⟨⟨r, by rw [hnx]; exact P1, by rw [hnx, ← hp, ← hst, hs1], by omega⟩, B0, B1, T1, by rw [hnx]; omega⟩
          clear hdt hst hls hp hs1 hk2 hnx I
          have em2 : (k : Int) ≠ (m : Int) := by omega
          have ek2 : (k2 : Int) ≠ 1 := by omega
          gi_wp2
          exact ⟨K1, C1, N⟩
  case done =>
    rintro j W rfl I hK
    have := I.ds
    have := dist_lt h0 h1 m1
    omega
  case stop =>
    rintro W X hK
    unfold lastMark
    gi_wp2
    refine ⟨by simp, .inl ⟨_, _, rfl, run_takeDeferred hK, ?_⟩⟩
    refine ⟨.tuple #[], ?_, rfl, X.pool.putObj _ (by omega), X.tn.putObj _ (by omega)⟩
    simp [results, Try.f43, go_sem]
end Go.Proofs.Ytkbkilkmiigahaa.Cx
