/-
  Contract of Victim of package ctx. Conditions: a pool that is there and is as it must be, a list that can be read.
-/
import Derived.Test.YtkbkilkmiigahaaCTake
import Derived.Test.YtkbkilkmiigahaaCKept
namespace Go.Proofs.Ytkbkilkmiigahaa.Cx
open Fld
open Go.ChangeShapes Go.WideShapes Go.ChangeAt Go.RowKit Go.Shelf Go.Maps
attribute [local go_sem] Oper.semAt_some
def vicB (P : Pl) (A : List Int) (i : Nat) : Bool := decide (0 ≤ P.T i) && !(A.contains (P.T i))
/-- Between two rounds of Victim: none was found so far. -/
structure VicI (w : World) (z q pb bm ob : Nat) (P : Pl) (A : List Int) (j : Nat) (W : World) : Prop where
  pool : PoolAt W pb bm ob P
  b0 : Boxed W z 23 (.pointer (some ⟨pb, 0, none⟩))
  b1 : Boxed W (z + 1) 3 (.int .i64 0)
  b2 : Boxed W (z + 1 + 1) 3 (.int .i64 0)
  b3 : Boxed W (z + 1 + 1 + 1) 40 (.int .i64 0)
  b4 : Boxed W q 64 (.map (some (z + 1 + 1 + 1 + 1)))
  kp : KeptAt W (z + 1 + 1 + 1 + 1) P A
  bel : Below z w W
  no : P.vic A = seek (vicB P A) P.n (rot P.n P.h j) (P.n - j)
structure VicX (w : World) (z : Nat) (P : Pl) (A : List Int) (W : World) : Prop where
  ne : P.vic A ≠ 0
  b1 : Boxed W (z + 1) 3 (.int .i64 (P.vic A : Int))
  b2 : Boxed W (z + 1 + 1) 3 (.int .i64 (P.vicS A))
  b3 : Boxed W (z + 1 + 1 + 1) 40 (.int .i64 0)
  bel : Below z w W
theorem below_own {σ : Type} (w : World) (z B : Nat) (hB : z ≤ B) (hz : z ≤ w.heap.size) : OwnFrom B (fun (_ : σ) W => Below z w W) := fun s W W' row hs hg hr =>
  ⟨hg.os.trans hs.os, hg.tape.trans hs.tape, hg.output.trans hs.output, Nat.le_trans hs.size hg.size, fun k hk =>
    (hg.block k (by have := hs.size; omega) (fun e => by have := (hr _ e.symm).1; omega)).trans (hs.block k hk)⟩
theorem kept_own {σ : Type} (B kb : Nat) (P : Pl) (A : List Int) (hb : kb < B) : OwnFrom B (fun (_ : σ) W => KeptAt W kb P A) := fun s W W' row hs hg hr =>
  hs.same (hg.block kb hs.lt (fun e => by have := (hr _ e.symm).1; omega))
theorem vicI_own (w : World) (z q pb bm ob : Nat) (P : Pl) (A : List Int) (B : Nat) (h1 : pb < B) (hB : z + 1 + 1 + 1 + 1 < B) (hz : z ≤ w.heap.size) : OwnFrom B (VicI w z q pb bm ob P A) := fun j W W' row hs hg hr =>
  ⟨pool_own (σ := Unit) B pb bm ob P.n P.T P.T (fun _ => _) (fun _ => _) h1 () W W' row hs.pool hg hr, (boxed_own (β := Nat) _ _ (fun _ => _)).from B j W W' row hs.b0 hg hr, (boxed_own (β := Nat) _ _ (fun _ => _)).from B j W W' row hs.b1 hg hr, (boxed_own (β := Nat) _ _ (fun _ => _)).from B j W W' row hs.b2 hg hr, (boxed_own (β := Nat) _ _ (fun _ => _)).from B j W W' row hs.b3 hg hr, (boxed_own (β := Nat) _ _ (fun _ => _)).from B j W W' row hs.b4 hg hr, kept_own (σ := Unit) B _ P A hB () W W' row hs.kp hg hr, below_own (σ := Unit) w z B (by omega) hz () W W' row hs.bel hg hr, hs.no⟩
theorem vicX_own (w : World) (z : Nat) (P : Pl) (A : List Int) (B : Nat) (hB : z ≤ B) (hz : z ≤ w.heap.size) : OwnFrom B (fun (_ : Unit) W => VicX w z P A W) := fun _ W W' row hs hg hr =>
  ⟨hs.ne, (boxed_own (β := Nat) _ _ (fun _ => _)).from B 0 W W' row hs.b1 hg hr, (boxed_own (β := Nat) _ _ (fun _ => _)).from B 0 W W' row hs.b2 hg hr, (boxed_own (β := Nat) _ _ (fun _ => _)).from B 0 W W' row hs.b3 hg hr, below_own (σ := Unit) w z B hB hz () W W' row hs.bel hg hr⟩
theorem below_put {n₀ l : Nat} (W : World) (o : Obj) (h : n₀ ≤ l) : Below n₀ W (W.putObj l o) :=
  ⟨rfl, rfl, rfl, by simp, fun k hk => World.putObj_heap_other (by omega)⟩
theorem KeptAt.low {w w' : World} {kb B : Nat} {P : Pl} {A : List Int} (h : KeptAt w kb P A) (k : Below B w w') (hB : kb < B) : KeptAt w' kb P A := h.same (k.block kb hB)
theorem boxLow {W W' : World} {B C : Nat} {t : TypeId} {v : Value} (h : Boxed W B t v) (k : Below C W W') (hC : B < C) : Boxed W' B t v := (k.block B hC).trans h
set_option maxRecDepth 100000 in
set_option maxHeartbeats 2000000 in
theorem victim_any {pb bm ob : Nat} {P : Pl} (w : World) (H : PoolAt w pb bm ob P) (ok : P.Ok) {ao : Option Addr} {cap : Nat} {A : List Int} (HA : IsInts w ao cap A) :
    Calls Try.prog 18 #[.pointer (some ⟨pb, 0, none⟩), .slice ao A.length cap] w fun e w' => e = .returned (.tuple #[.int .i64 (P.vic A : Int), .int .i64 (P.vicS A), .int .i64 (P.vicE A)]) ∧ Below w.heap.size w w' := by
  have hn := H.le
  have hpb := H.lt
  have hord := H.ord
  have a0 := (((Boxed.new w 23 (.pointer (some ⟨pb, 0, none⟩))).alloc (.cells #[.int .i64 0] 3)).alloc (.cells #[.int .i64 0] 3)).alloc (.cells #[.int .i64 0] 40)
  have a1 := ((Boxed.new (w.alloc (.cells #[.pointer (some ⟨pb, 0, none⟩)] 23)) 3 (.int .i64 0)).alloc (.cells #[.int .i64 0] 3)).alloc (.cells #[.int .i64 0] 40)
  have a2 := (Boxed.new ((w.alloc (.cells #[.pointer (some ⟨pb, 0, none⟩)] 23)).alloc (.cells #[.int .i64 0] 3)) 3 (.int .i64 0)).alloc (.cells #[.int .i64 0] 40)
  have a3 := Boxed.new (((w.alloc (.cells #[.pointer (some ⟨pb, 0, none⟩)] 23)).alloc (.cells #[.int .i64 0] 3)).alloc (.cells #[.int .i64 0] 3)) 40 (.int .i64 0)
  have H0 := (((H.alloc (.cells #[.pointer (some ⟨pb, 0, none⟩)] 23)).alloc (.cells #[.int .i64 0] 3)).alloc (.cells #[.int .i64 0] 3)).alloc (.cells #[.int .i64 0] 40)
  have T0 : Below w.heap.size w ((((w.alloc (.cells #[.pointer (some ⟨pb, 0, none⟩)] 23)).alloc (.cells #[.int .i64 0] 3)).alloc (.cells #[.int .i64 0] 3)).alloc (.cells #[.int .i64 0] 40)) := ((((Below.refl _ w).alloc (Nat.le_refl _) _).alloc (by simp) _).alloc (by simp; omega) _).alloc (by simp; omega) _
  have hsz : ((((w.alloc (.cells #[.pointer (some ⟨pb, 0, none⟩)] 23)).alloc (.cells #[.int .i64 0] 3)).alloc (.cells #[.int .i64 0] 3)).alloc (.cells #[.int .i64 0] 40)).heap.size = w.heap.size + 1 + 1 + 1 + 1 := by simp
  simp only [World.size_alloc] at a1 a2 a3
  refine (callsIn_wide (n := 3)).1 ?_
  refine callsIn_of_wp_marks Try.func18 rfl trivial ?_ rfl; simp only [Try.ntmps18, List.size_toArray, List.length_cons, List.length_nil, Nat.reduceAdd, Nat.reduceSub, Array.replicate_succ, Array.replicate_zero, List.push_toArray, List.append_toArray, List.nil_append, List.cons_append]
  gi_wp2_with fail
  generalize (((w.alloc (.cells #[.pointer (some ⟨pb, 0, none⟩)] 23)).alloc (.cells #[.int .i64 0] 3)).alloc (.cells #[.int .i64 0] 3)).alloc (.cells #[.int .i64 0] 40) = W0 at *
  have NA := numbersOf_any W0 H0 (HA.low (Nat.le_refl _) T0)
  rw [hsz] at NA
  refine ⟨trivial, (callsIn_wide.2 NA).mono ?_⟩
  rintro e W1 ⟨rfl, K1, B1⟩
  have hs1 := B1.size
  have H1 := H0.below B1 (by omega)
  have b0 := boxLow a0 B1 (by omega)
  have b1 := boxLow a1 B1 (by omega)
  have b2 := boxLow a2 B1 (by omega)
  have b3 := boxLow a3 B1 (by omega)
  have T1 := T0.trans (B1.mono (by omega))
  have hk := K1.lt
  have b0' := b0.alloc (.cells #[.map (some (w.heap.size + 1 + 1 + 1 + 1))] 64)
  have I : VicI w w.heap.size W1.heap.size pb bm ob P A 0 (W1.alloc (.cells #[.map (some (w.heap.size + 1 + 1 + 1 + 1))] 64)) :=
    ⟨H1.alloc _, b0', b1.alloc _, b2.alloc _, b3.alloc _, Boxed.new _ _ _, K1.same (Below.heap_alloc _ _ _ hk), T1.alloc (by omega) _, rfl⟩
  have H2 := H1.alloc (.cells #[.map (some (w.heap.size + 1 + 1 + 1 + 1))] 64)
  have hs2 : (W1.alloc (.cells #[.map (some (w.heap.size + 1 + 1 + 1 + 1))] 64)).heap.size = W1.heap.size + 1 := by simp
  have e0 := b0'.cell
  have I := Lib.hid I
  clear a0 a1 a2 a3 b0 b0' b1 b2 b3 T1 H1 K1 B1 H0 T0 H NA
  gi_wp2
  have I := I.out
  generalize W1.alloc (.cells #[.map (some (w.heap.size + 1 + 1 + 1 + 1))] 64) = W2 at *
  obtain ⟨q, hq⟩ : ∃ q, W1.heap.size = q := ⟨_, rfl⟩
  rw [hq] at hs1 hs2 hk I ⊢
  refine range_iter (n := 3) (gf := 34) (bnd := #[.pointer (some ⟨pb, 0, none⟩)]) (lb := #[]) rfl (enters_of Try.func34 (by kernel_rfl) rfl)
    (p := ⟨pb, 1, none⟩) (by show pb < _; omega) (round_iter 2 W2 H2 ok.h0 ok.h1) (fun _ => rfl)
    (VicI w w.heap.size q pb bm ob P A) (VicX w w.heap.size P A)
    (vicI_own _ _ _ _ _ _ _ _ _ (by omega) (by omega) (Nat.le_refl _)) (vicX_own _ _ _ _ _ (by omega) (Nat.le_refl _)) I ?a1 ?assign ?body ?done ?stop
  case assign =>
    intro l e W K hK
    gi_wp2
    exact hK
  case body =>
    rintro l j W I hlive
    have rb := rot_bd (n := P.n) (h := P.h) (by omega) ok.h0 (ok.h1 (by omega)) j
    have hnx : rot P.n P.h (j + 1) = rot P.n P.h j % P.n + 1 := rfl
    have hno := I.no
    have d0 := I.b0.cell
    have d1 := I.b1.cell
    have d2 := I.b2.cell
    have d3 := I.b3.cell
    have d4 := I.b4.cell
    have g1 := I.b1.frozen
    have g2 := I.b2.frozen
    have g3 := I.b3.frozen
    obtain ⟨mm, hmm⟩ : ∃ mm, P.n - j = mm + 1 := ⟨P.n - j - 1, by omega⟩
    have hm2 : P.n - (j + 1) = mm := by omega
    rw [hmm] at hno
    simp only [seek] at hno
    obtain ⟨k, hk⟩ : ∃ k, rot P.n P.h j = k := ⟨_, rfl⟩
    rw [hk] at rb hnx hno ⊢
    have WA := owner_any W I.pool (fun i hi => ok.bd hi) (k : Int)
    have kt : (k : Int).toNat = k := by simp
    have LW := (Below.refl W.heap.size W).alloc (Nat.le_refl _) (.cells #[] 66)
    by_cases hf : P.T (k - 1) < 0
    · have hv : vicB P A (k - 1) = false := by unfold vicB; rw [decide_eq_false (show ¬ 0 ≤ P.T (k - 1) by omega)]; rfl
      rw [if_neg (by rw [hv]; simp)] at hno
      have hB : P.ownB k = false := by unfold Pl.ownB; rw [kt, decide_eq_false (show ¬ 0 ≤ P.T (k - 1) by omega), Bool.and_false]
      rw [show Pl.ownB ⟨P.n, P.T, P.h, P.R⟩ k = false from hB] at WA
      generalize Pl.ownI ⟨P.n, P.T, P.h, P.R⟩ k = y at *
      obtain ⟨b, hl⟩ := I.kp.look0 (k := k) (by omega)
      have N : VicI w w.heap.size q pb bm ob P A (j + 1) (W.alloc (.cells #[] 66)) := ⟨I.pool.alloc _, I.b0.alloc _, I.b1.alloc _, I.b2.alloc _, I.b3.alloc _, I.b4.alloc _, I.kp.same (LW.block _ I.kp.lt), I.bel.alloc (by have := I.bel.size; omega) _, by rw [hm2, hnx]; exact hno⟩
      have K1 : KeepsFrom W2.heap.size W (W.alloc (.cells #[] 66)) := KeepsFrom.of_grownBy (World.grownBy_alloc W _ none) (fun j e => by cases e)
      have C1 : (W.alloc (.cells #[] 66)).cell? ⟨pb, 1, none⟩ = W.cell? ⟨pb, 1, none⟩ := LW.cell (by exact I.pool.lt)
      clear hno hf hB hmm hm2 hnx I LW hv
      gi_wp2_with ((first | (refine ⟨trivial, ?_⟩; gi_at_call 15) | (refine ⟨trivial, fun h => absurd h (by decide), ?_⟩; gi_at_call 15)); refine (CallsIn.inRound l (callsIn_wide.2 (WA))).mono ?_; rintro e w' ⟨rfl, rfl⟩)
      exact ⟨K1, C1, N⟩
    · have hB : P.ownB k = true := by unfold Pl.ownB; rw [kt, decide_eq_true (show (1 : Int) ≤ k by omega), decide_eq_true (show (k : Int) ≤ P.n by omega), decide_eq_true (show 0 ≤ P.T (k - 1) by omega)]; rfl
      rw [show Pl.ownB ⟨P.n, P.T, P.h, P.R⟩ k = true from hB, show Pl.ownI ⟨P.n, P.T, P.h, P.R⟩ k = P.T (k - 1) by unfold Pl.ownI; rw [show Pl.ownB ⟨P.n, P.T, P.h, P.R⟩ k = true from hB, kt]; rfl] at WA
      have hl := I.kp.look ok rb.1 rb.2 (by omega)
      obtain ⟨s, hs⟩ : ∃ s, P.T (k - 1) = s := ⟨_, rfl⟩
      cases hc : A.contains (P.T (k - 1))
      · have hv : vicB P A (k - 1) = true := by unfold vicB; rw [decide_eq_true (show 0 ≤ P.T (k - 1) by omega), hc]; rfl
        rw [if_pos hv] at hno
        rw [hc] at hl
        rw [hs] at WA
        have hS : P.vicS A = s := by unfold Pl.vicS; rw [hno, if_neg (by omega), hs]
        have m1 := (I.b1.alloc (.cells #[] 66)).cell
        have m2 := (I.b2.alloc (.cells #[] 66)).cell
        have m3 := (I.b3.alloc (.cells #[] 66)).cell
        have n1 := (I.b1.alloc (.cells #[] 66)).frozen
        have n2 := (I.b2.alloc (.cells #[] 66)).frozen
        have n3 := (I.b3.alloc (.cells #[] 66)).frozen
        have e1 := boxSet (boxSet ((I.b1.alloc (.cells #[] 66)).set (.int .i64 (k : Int))) ⟨w.heap.size + 1 + 1, 0, none⟩ (by dsimp only; omega) (.int .i64 s)) ⟨w.heap.size + 1 + 1 + 1, 0, none⟩ (by dsimp only; omega) (.int .i64 0)
        have e2 := boxSet ((boxSet (I.b2.alloc (.cells #[] 66)) ⟨w.heap.size + 1, 0, none⟩ (by dsimp only; omega) (.int .i64 (k : Int))).set (.int .i64 s)) ⟨w.heap.size + 1 + 1 + 1, 0, none⟩ (by dsimp only; omega) (.int .i64 0)
        have e3 := (boxSet (boxSet (I.b3.alloc (.cells #[] 66)) ⟨w.heap.size + 1, 0, none⟩ (by dsimp only; omega) (.int .i64 (k : Int))) ⟨w.heap.size + 1 + 1, 0, none⟩ (by dsimp only; omega) (.int .i64 s)).set (.int .i64 0)
        have e4 := (((I.bel.alloc (by have := I.bel.size; omega) (.cells #[] 66)).setCell (p := ⟨w.heap.size + 1, 0, none⟩) (by show w.heap.size ≤ w.heap.size + 1; omega) (.int .i64 (k : Int))).setCell (p := ⟨w.heap.size + 1 + 1, 0, none⟩) (by show w.heap.size ≤ w.heap.size + 1 + 1; omega) (.int .i64 s)).setCell (p := ⟨w.heap.size + 1 + 1 + 1, 0, none⟩) (by show w.heap.size ≤ w.heap.size + 1 + 1 + 1; omega) (.int .i64 0)
        have X : VicX w w.heap.size P A ((((W.alloc (.cells #[] 66)).setCell ⟨w.heap.size + 1, 0, none⟩ (.int .i64 (k : Int))).setCell ⟨w.heap.size + 1 + 1, 0, none⟩ (.int .i64 s)).setCell ⟨w.heap.size + 1 + 1 + 1, 0, none⟩ (.int .i64 0)) :=
          ⟨by omega, by rw [hno]; exact e1, by rw [hS]; exact e2, e3, e4⟩
        have K1 : KeepsFrom W2.heap.size W ((((W.alloc (.cells #[] 66)).setCell ⟨w.heap.size + 1, 0, none⟩ (.int .i64 (k : Int))).setCell ⟨w.heap.size + 1 + 1, 0, none⟩ (.int .i64 s)).setCell ⟨w.heap.size + 1 + 1 + 1, 0, none⟩ (.int .i64 0)) :=
          (((KeepsFrom.of_grownBy (World.grownBy_alloc W _ none) (fun j e => by cases e)).trans ((KeepsOthers.setCell _ _ _).from _)).trans ((KeepsOthers.setCell _ _ _).from _)).trans ((KeepsOthers.setCell _ _ _).from _)
        clear hno hf hB hmm hm2 hnx I LW hv hS e1 e2 e3 e4 hc hs kt
        gi_wp2_with ((first | (refine ⟨trivial, ?_⟩; gi_at_call 15) | (refine ⟨trivial, fun h => absurd h (by decide), ?_⟩; gi_at_call 15)); refine (CallsIn.inRound l (callsIn_wide.2 (WA))).mono ?_; rintro e w' ⟨rfl, rfl⟩)
        exact ⟨K1, X⟩
      · have hv : vicB P A (k - 1) = false := by unfold vicB; rw [hc]; simp
        rw [if_neg (by rw [hv]; simp)] at hno
        rw [hc] at hl
        rw [hs] at WA
        have N : VicI w w.heap.size q pb bm ob P A (j + 1) (W.alloc (.cells #[] 66)) := ⟨I.pool.alloc _, I.b0.alloc _, I.b1.alloc _, I.b2.alloc _, I.b3.alloc _, I.b4.alloc _, I.kp.same (LW.block _ I.kp.lt), I.bel.alloc (by have := I.bel.size; omega) _, by rw [hm2, hnx]; exact hno⟩
        have K1 : KeepsFrom W2.heap.size W (W.alloc (.cells #[] 66)) := KeepsFrom.of_grownBy (World.grownBy_alloc W _ none) (fun j e => by cases e)
        have C1 : (W.alloc (.cells #[] 66)).cell? ⟨pb, 1, none⟩ = W.cell? ⟨pb, 1, none⟩ := LW.cell (by exact I.pool.lt)
        clear hno hf hB hmm hm2 hnx I LW hv hc hs kt
        gi_wp2_with ((first | (refine ⟨trivial, ?_⟩; gi_at_call 15) | (refine ⟨trivial, fun h => absurd h (by decide), ?_⟩; gi_at_call 15)); refine (CallsIn.inRound l (callsIn_wide.2 (WA))).mono ?_; rintro e w' ⟨rfl, rfl⟩)
        exact ⟨K1, C1, N⟩
  case done =>
    rintro j W hj I hK
    subst hj
    have hz2 : P.vic A = 0 := by rw [I.no, Nat.sub_self]; rfl
    have r2 := Lib.hid (show P.vicS A = 0 by unfold Pl.vicS; rw [if_pos hz2])
    have r3 := Lib.hid (show P.vicE A = 8 by unfold Pl.vicE; rw [if_pos hz2])
    have d1 := I.b1.cell
    have d2 := I.b2.cell
    have d3 := I.b3.cell
    have g1 := I.b1.frozen
    have g2 := I.b2.frozen
    have g3 := I.b3.frozen
    have u1 := boxSet (boxSet (I.b1.set (.int .i64 0)) ⟨w.heap.size + 1 + 1, 0, none⟩ (by dsimp only; omega) (.int .i64 0)) ⟨w.heap.size + 1 + 1 + 1, 0, none⟩ (by dsimp only; omega) (.int .i64 8)
    have u2 := boxSet ((boxSet I.b2 ⟨w.heap.size + 1, 0, none⟩ (by dsimp only; omega) (.int .i64 0)).set (.int .i64 0)) ⟨w.heap.size + 1 + 1 + 1, 0, none⟩ (by dsimp only; omega) (.int .i64 8)
    have u3 := (boxSet (boxSet I.b3 ⟨w.heap.size + 1, 0, none⟩ (by dsimp only; omega) (.int .i64 0)) ⟨w.heap.size + 1 + 1, 0, none⟩ (by dsimp only; omega) (.int .i64 0)).set (.int .i64 8)
    have u4 := ((I.bel.setCell (p := ⟨w.heap.size + 1, 0, none⟩) (by show w.heap.size ≤ w.heap.size + 1; omega) (.int .i64 0)).setCell (p := ⟨w.heap.size + 1 + 1, 0, none⟩) (by show w.heap.size ≤ w.heap.size + 1 + 1; omega) (.int .i64 0)).setCell (p := ⟨w.heap.size + 1 + 1 + 1, 0, none⟩) (by show w.heap.size ≤ w.heap.size + 1 + 1 + 1; omega) (.int .i64 8)
    clear I
    unfold lastMark
    gi_wp2
    have hK' := (((KeepsOthers.setCell W ⟨w.heap.size + 1, 0, none⟩ (.int .i64 0)).trans (KeepsOthers.setCell _ ⟨w.heap.size + 1 + 1, 0, none⟩ (.int .i64 0))).trans (KeepsOthers.setCell _ ⟨w.heap.size + 1 + 1 + 1, 0, none⟩ (.int .i64 8))).same _ _ hK rfl
    refine ⟨by simp, .inl ⟨_, _, rfl, run_takeDeferred hK', ?_⟩⟩
    have v1 := (boxPut u1 (.deferred none) hK').cell
    have v2 := (boxPut u2 (.deferred none) hK').cell
    have v3 := (boxPut u3 (.deferred none) hK').cell
    refine ⟨.tuple #[.int .i64 0, .int .i64 0, .int .i64 8], ?_, by rw [hz2, r2.out, r3.out]; rfl, u4.trans (below_put _ _ (by omega))⟩
    simp [results, Try.f18, go_sem, v1, v2, v3]
  case stop =>
    rintro W X hK
    have r3 := Lib.hid (show P.vicE A = 0 by unfold Pl.vicE; rw [if_neg X.ne])
    unfold lastMark
    gi_wp2
    refine ⟨by simp, .inl ⟨_, _, rfl, run_takeDeferred hK, ?_⟩⟩
    have v1 := (boxPut X.b1 (.deferred none) hK).cell
    have v2 := (boxPut X.b2 (.deferred none) hK).cell
    have v3 := (boxPut X.b3 (.deferred none) hK).cell
    refine ⟨.tuple #[.int .i64 (P.vic A : Int), .int .i64 (P.vicS A), .int .i64 0], ?_, by rw [r3.out], X.bel.trans (below_put _ _ (by omega))⟩
    simp [results, Try.f18, go_sem, v1, v2, v3]
end Go.Proofs.Ytkbkilkmiigahaa.Cx
