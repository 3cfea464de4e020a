/-
  Contracts of Give, has, Victim, New of the document's package for layer 14. Conditions: a list that is there, a pool as it must be.
-/
import Derived.Test.YtkbkilkmiigahaaCDocD
import Derived.Test.YtkbkilkmiigahaaCNew
namespace Go.Proofs.Ytkbkilkmiigahaa.Cx
open Fld
open Go.ChangeShapes Go.WideShapes Go.ChangeAt Go.RowKit
set_option maxHeartbeats 1000000
theorem BX.grow {w wr w1 : World} {n : Nat} {T : Nat → Int} {v v' : Value} {k r : Nat} (h : BX w wr v k r) (hn : n ≤ 8191) (ho1 : w1.ownsRow (w.heap.size + 2) 3 1 v' (0 + n) ([] ++ intsV (lstT T n))) (hg1 : wr.grownBy w1 (Value.slice none 0 0).ownBlock) : OB w w1 n T v v' k r :=
  ⟨h.bel.grown hg1 h.bel.size (fun j hj => by cases hj), (hg1.block _ (by have := h.two; omega) (fun e => by cases e)).trans h.m, (hg1.block _ (by have := h.two; omega) (fun e => by cases e)).trans h.r, ⟨by simpa using ho1, hn⟩, Nat.le_trans h.two hg1.size⟩
theorem rgive_any {B : Nat} {P : Pl} {v : Value} (w : World) (H : ListT w B P.n P.T v) (hB : B ≤ w.heap.size) (x : Int) :
    Calls Try.prog 28 #[docV v P.h P.R, .int .i64 x] w (DocTo w B (P.give x) (P.of x : Int) (P.giveE x)) := by
  obtain ⟨i0, hi, hz0, hz1, hz2⟩ := info_parts infoInt
  obtain ⟨ao, cap, rfl, hl, hcm⟩ := H.shape
  have hn := H.le
  have X0 := BX.new w (.slice ao P.n cap) P.h P.R
  unfold maxLen at hcm
  have OA := rof_any ((w.alloc (docO (.slice ao P.n cap) P.h P.R)).alloc docZ) (H.low X0.bel) x P.R
  by_cases hz : P.of x = 0
  · have e2 := Lib.hid (show P.giveE x = 10 by unfold Pl.giveE; rw [if_pos hz])
    have e3 := Lib.hid (show P.give x = P by unfold Pl.give; rw [if_pos hz])
    rw [hz] at OA ⊢
    rw [e3.out]
    clear hz
    go_enter Try.func28, Try.ntmps28
    go_wp2_with fail
    generalize (w.alloc (docO (.slice ao P.n cap) P.h P.R)).alloc docZ = W0 at *
    refine OA.mono ?_
    rintro e w2 ⟨rfl, hb2⟩
    have X2 := X0.low hb2
    have F := X2.fin (.slice ao P.n cap) P.h P.R
    obtain ⟨d0, d1, d2, z0, z1, z2, f0, f1⟩ := X2.cells
    clear X0 X2 hb2 OA
    go_wp2
    exact bodyPost_ret (res_P2 rfl _ _ _ rfl F.1) rfl (docTo_mk rfl rfl rfl e2.out (H.low F.2) F.2)
  · obtain ⟨m0, m1, hx, x0⟩ := Pl.of_pos hz
    have e2 := Lib.hid (show P.giveE x = 0 by unfold Pl.giveE; rw [if_neg hz])
    have e3 := Lib.hid (show P.give x = P.drop (P.of x) by unfold Pl.give; rw [if_neg hz])
    obtain ⟨m, hm⟩ : ∃ m, P.of x = m := ⟨_, rfl⟩
    rw [hm] at OA e3 m0 m1 ⊢
    rw [e3.out]
    have hone := intsV_one (lstT P.T P.n)
    have hlen : (intsV (lstT P.T P.n)).length = P.n * 1 := by rw [intsV_length, lstT_length, Nat.mul_one]
    have em : ((m : Int) - 1).toNat = m - 1 := by omega
    clear hz hx hm
    go_enter Try.func28, Try.ntmps28
    go_wp2_with fail
    generalize (w.alloc (docO (.slice ao P.n cap) P.h P.R)).alloc docZ = W0 at *
    refine OA.mono ?_
    rintro e w2 ⟨rfl, hb2⟩
    have X2 := X0.low hb2
    have H2 := H.low X2.bel
    obtain ⟨g, rfl, hgB, hgl, hc, _⟩ := H2.at_ (j := m - 1) (by omega)
    obtain ⟨d0, d1, d2, z0, z1, z2, f0, f1⟩ := X2.cells
    have hnews := H2.own.cells (g := g) rfl
    have htw := X2.two
    have HX := Lib.hid X2
    have ho : w2.ownsRow (w.heap.size + 2) 3 1 (.slice none 0 0) 0 [] := World.ownsRow_nil _ _ _ _
    clear X0 X2 hb2 OA H2
    go_wp2_with (at_builtin; refine wpList_append_own _ rfl _ _ 25 rfl (w.heap.size + 2) 3 i0 (.int .i64 0) 1 8 Try.underlying25 hi hz0 hz1 hz2 rfl (by decide) _ _ _ rfl ho ⟨g, 0, none⟩ P.n cap (intsV (lstT P.T P.n)) rfl hlen hnews hone (by unfold maxLen; omega) (by omega) (by omega) ?_; intro v' w1 ho1 hg1 _; have HO := HX.out.grow hn ho1 hg1; clear ho1 hg1 hnews hone hlen ho d0 d1 d2 z0 z1 z2 f0 f1; obtain ⟨ao1, cap1, rfl, hl1, hcm1⟩ := HO.own.shape; obtain ⟨g1, rfl, hB1, hlt1, hc1, hf1⟩ := HO.own.at_ (j := m - 1) (by omega); obtain ⟨d0, d1, d2, z0, z1, z2, f0, f1⟩ := HO.cells; unfold maxLen at hcm1; have HF := Lib.hid (((HO.put hB1 (m - 1) (-1)).box (.slice (some ⟨g1, 0, none⟩) P.n cap1)).fin (.slice (some ⟨g1, 0, none⟩) P.n cap1) P.h P.R); clear HO)
    have F := HF.out
    exact bodyPost_ret (res_P2 rfl _ _ _ rfl F.1) rfl (docTo_mk rfl rfl rfl e2.out (F.2.1.base hB) F.2.2)
theorem rhas_any {ao : Option Addr} {cap : Nat} {A : List Int} (w : World) (H : IsInts w ao cap A) (x : Int) :
    Calls Try.prog 40 #[.slice ao A.length cap, .int .i64 x] w fun e w' => e = .returned (.bool (A.contains x)) ∧ w = w' := by
  have hl := H.le
  have hcm := H.cm
  unfold maxLen at hcm
  go_enter Try.func40, Try.ntmps40
  go_wp2
  go_loop [5] (fun i => ∃ j : Nat, j ≤ A.length ∧ i = .int .i64 (j : Int) ∧ (A.take j).contains x = false) (fun i => A.length - (intOf i).toNat)
  case atStart => exact ⟨0, Nat.zero_le _, rfl, rfl⟩
  case round =>
    obtain ⟨j, hj, rfl, hno⟩ := hrel
    by_cases hlt : j < A.length
    · obtain ⟨b, o, rfl, hc⟩ := H.at_ j hlt
      have tk : A.take (j + 1) = A.take j ++ [A[j]] := by rw [List.take_add_one, List.getElem?_eq_getElem hlt]; rfl
      by_cases hx : A[j] = x
      · have E := Lib.hid (show A.contains x = true by rw [List.contains_iff_mem, ← hx]; exact List.getElem_mem hlt)
        rw [hx] at hc
        obtain ⟨L, hL⟩ : ∃ L, A.length = L := ⟨_, rfl⟩
        rw [hL] at hl hj hlt ⊢
        clear hno tk hx hL H
        go_wp2
        go_ret
        exact ⟨ret_bool (by simpa using E.out.symm), rfl⟩
      · have HN := Lib.hid (show (A.take (j + 1)).contains x = false by
          rw [tk, List.contains_eq_mem, decide_eq_false_iff_not, List.mem_append]
          rintro (h | h)
          · rw [List.contains_eq_mem, decide_eq_false_iff_not] at hno; exact hno h
          · simp at h; exact hx h.symm)
        obtain ⟨L, hL⟩ : ∃ L, A.length = L := ⟨_, rfl⟩
        rw [hL] at hl hj hlt ⊢
        generalize A[j] = y at *
        clear hno tk hL H
        go_wp2
        go_round
        case rel => exact ⟨j + 1, by omega, by go_num, HN.out⟩
        case measure => simp [intOf]; omega
    · obtain rfl : A.length = j := by omega
      rw [List.take_length] at hno
      have E := Lib.hid hno
      clear hno
      go_wp2
      go_ret
      exact ⟨ret_bool (by simpa using E.out.symm), rfl⟩
theorem ret3 {a b c a' b' c' : Int} (h1 : a = a') (h2 : b = b') (h3 : c = c') : Ending.returned (.tuple #[.int .i64 a, .int .i64 b, .int .i64 c]) = Ending.returned (.tuple #[.int .i64 a', .int .i64 b', .int .i64 c']) := by rw [h1, h2, h3]
theorem rvictim_any {B : Nat} {P : Pl} {v : Value} (w : World) (H : ListT w B P.n P.T v) (ok : P.Ok) (R : Nat) {ao : Option Addr} {cap : Nat} {A : List Int} (HA : IsInts w ao cap A) :
    Calls Try.prog 29 #[docV v P.h R, .slice ao A.length cap] w fun e w' => e = .returned (.tuple #[.int .i64 (P.vic A : Int), .int .i64 (P.vicS A), .int .i64 (P.vicE A)]) ∧ Below w.heap.size w w' := by
  obtain ⟨av, cv, rfl, hl, hcm⟩ := H.shape
  have hn := H.le
  have B0 : Below w.heap.size w (w.alloc (docO (.slice av P.n cv) P.h R)) := (Below.refl _ _).alloc (Nat.le_refl _) _
  have H0 := H.alloc (docO (.slice av P.n cv) P.h R)
  have A0 := HA.low (Nat.le_refl _) B0
  have HO := Lib.hid ok
  have HV := Lib.hid (show P.vicS A = if P.vic A = 0 then 0 else P.T (P.vic A - 1) from rfl)
  have HE := Lib.hid (show P.vicE A = if P.vic A = 0 then 8 else 0 from rfl)
  unfold maxLen at hcm
  clear ok
  go_enter Try.func29, Try.ntmps29
  go_wp2
  go_loopw [7, 8] (fun c i wr => ∃ j : Nat, j ≤ P.n ∧ i = .int .i64 (j : Int) ∧ c = .int .i64 (rot P.n P.h j : Int) ∧ P.vic A = seek (vicB P A) P.n (rot P.n P.h j) (P.n - j) ∧ wr = w.alloc (docO (.slice av P.n cv) P.h R)) (fun _ i _ => P.n - (intOf i).toNat)
  case atStart => exact ⟨0, Nat.zero_le _, rfl, rfl, rfl, rfl⟩
  case round =>
    obtain ⟨j, hj, rfl, rfl, hno, rfl⟩ := hrel
    have ok := HO.out
    by_cases hlt : j < P.n
    · have rb := rot_bd (n := P.n) (h := P.h) (by omega) ok.h0 (ok.h1 (by omega)) j
      have hnx : rot P.n P.h (j + 1) = rot P.n P.h j % P.n + 1 := rfl
      obtain ⟨mm, hmm⟩ : ∃ mm, P.n - j = mm + 1 := ⟨P.n - j - 1, by omega⟩
      have hm2 : P.n - (j + 1) = mm := by omega
      rw [hmm] at hno
      simp only [seek] at hno
      obtain ⟨k, hk⟩ : ∃ k, rot P.n P.h j = k := ⟨_, rfl⟩
      rw [hk] at rb hnx hno ⊢
      obtain ⟨g, rfl, hgB, hgl, hc, _⟩ := H0.at_ (j := k - 1) (by omega)
      have em : ((k : Int) - 1).toNat = k - 1 := by omega
      have RA := rhas_any _ A0 (P.T (k - 1))
      have e : ((k % P.n + 1 : Nat) : Int) = (k : Int) % (P.n : Int) + 1 := by rw [Int.natCast_add, Int.natCast_emod]; rfl
      have hm := Int.emod_lt_of_pos (k : Int) (show (0 : Int) < (P.n : Int) by omega)
      have hm0 := Int.emod_nonneg (k : Int) (show (P.n : Int) ≠ 0 by omega)
      have ht : Int.tmod (k : Int) (P.n : Int) = (k : Int) % (P.n : Int) := Int.tmod_eq_emod_of_nonneg (by omega)
      have HN := Lib.hid (show (rot P.n P.h (j + 1) : Int) = (k : Int) % (P.n : Int) + 1 by rw [hnx]; exact e)
      obtain ⟨y, hy⟩ : ∃ y, P.T (k - 1) = y := ⟨_, rfl⟩
      obtain ⟨b, hb⟩ : ∃ b, A.contains (P.T (k - 1)) = b := ⟨_, rfl⟩
      have hvb : vicB P A (k - 1) = (decide (0 ≤ y) && !b) := by unfold vicB; rw [hb, hy]
      rw [hb, hy] at RA
      by_cases h0 : 0 ≤ y
      · cases b
        · rw [hvb, decide_eq_true h0, if_pos (by rfl)] at hno
          have E1 := Lib.hid hno
          have E2 := Lib.hid (show P.vicS A = y by rw [HV.out, hno, if_neg (by omega), hy])
          have E3 := Lib.hid (show P.vicE A = 0 by rw [HE.out, hno, if_neg (by omega)])
          rw [hy] at hc
          clear hno hnx hmm hm2 ok e hk hvb hy hb HV HE H0
          go_wp2_with (go_at_call 40; refine RA.mono ?_; rintro e w' ⟨rfl, rfl⟩)
          go_ret3
          exact ⟨ret3 (by rw [E1.out]) E2.out.symm E3.out.symm, B0⟩
        · rw [hvb, decide_eq_true h0, if_neg (by simp)] at hno
          have E1 := Lib.hid (show P.vic A = seek (vicB P A) P.n (rot P.n P.h (j + 1)) (P.n - (j + 1)) by rw [hm2, hnx]; exact hno)
          rw [hy] at hc
          clear hno hnx hmm hm2 ok e hk hvb hy hb HV HE H0
          go_wp2_with (go_at_call 40; refine RA.mono ?_; rintro e w' ⟨rfl, rfl⟩)
          go_roundw
          case rel => exact ⟨j + 1, by omega, by go_num, by rw [HN.out], E1.out, trivial⟩
          case measure => simp [intOf]; omega
      · rw [hvb, decide_eq_false h0, if_neg (by simp)] at hno
        have E1 := Lib.hid (show P.vic A = seek (vicB P A) P.n (rot P.n P.h (j + 1)) (P.n - (j + 1)) by rw [hm2, hnx]; exact hno)
        rw [hy] at hc
        clear hno hnx hmm hm2 ok e hk hvb hy hb HV HE H0
        go_wp2_with (go_at_call 40; refine RA.mono ?_; rintro e w' ⟨rfl, rfl⟩)
        go_roundw
        case rel => exact ⟨j + 1, by omega, by go_num, by rw [HN.out], E1.out, trivial⟩
        case measure => simp [intOf]; omega
    · obtain rfl : j = P.n := by omega
      have hz2 : P.vic A = 0 := by rw [hno, Nat.sub_self]; rfl
      have E1 := Lib.hid hz2
      have E2 := Lib.hid (show P.vicS A = 0 by rw [HV.out, if_pos hz2])
      have E3 := Lib.hid (show P.vicE A = 8 by rw [HE.out, if_pos hz2])
      clear hno hz2 ok HV HE H0
      go_wp2
      go_ret3
      exact ⟨ret3 (by rw [E1.out]; rfl) E2.out.symm E3.out.symm, B0⟩
theorem lstT_succ (T : Nat → Int) (j : Nat) : lstT T (j + 1) = lstT T j ++ [T j] := by simp [lstT, List.range_succ]
/-- While the document's New makes its list. -/
structure NW (w wr : World) (j : Nat) (v : Value) : Prop where
  bel : Below w.heap.size w wr
  r : wr.heap[w.heap.size]? = some docZ
  m : wr.heap[w.heap.size + 1]? = some (docO v 1 0)
  own : ListT wr (w.heap.size + 2) j (fun _ => -1) v
  two : w.heap.size + 2 ≤ wr.heap.size
theorem NW.cells {w wr : World} {j : Nat} {v : Value} (h : NW w wr j v) : wr.cell? ⟨w.heap.size + 1, 0, none⟩ = some v ∧ wr.cell? ⟨w.heap.size + 1, 1, none⟩ = some (.int .i64 1) ∧ wr.cell? ⟨w.heap.size + 1, 2, none⟩ = some (.int .i64 0) ∧ wr.cell? ⟨w.heap.size, 0, none⟩ = some (.slice none 0 0) ∧ wr.cell? ⟨w.heap.size, 1, none⟩ = some (.int .i64 0) ∧ wr.cell? ⟨w.heap.size, 2, none⟩ = some (.int .i64 0) ∧ (∀ i, wr.frozen? ⟨w.heap.size + 1, i, none⟩ = false) ∧ ∀ i, wr.frozen? ⟨w.heap.size, i, none⟩ = false := by
  simp [World.cell?, World.frozen?, h.m, h.r]
theorem NW.alloc {w wr : World} {j : Nat} {v : Value} (h : NW w wr j v) (o : Obj) : NW w (wr.alloc o) j v :=
  ⟨h.bel.alloc h.bel.size _, (Below.heap_alloc _ _ _ (by have := h.two; omega)).trans h.r, (Below.heap_alloc _ _ _ (by have := h.two; omega)).trans h.m, h.own.alloc _, by have := h.two; simp; omega⟩
theorem NW.grow {w wr w1 : World} {j : Nat} {v v1 : Value} (h : NW w wr j v) (hg : wr.grownBy w1 v.ownBlock) (ho : w1.ownsRow (w.heap.size + 2) 3 1 v1 (j + 1) (intsV (lstT (fun _ => -1) j) ++ [.int .i64 (-1)])) (hj : j + 1 ≤ 8191) : NW w (w1.setCell ⟨w.heap.size + 1, 0, none⟩ v1) (j + 1) v1 := by
  have h2 := h.two
  have kp : ∀ i, i < w.heap.size + 2 → w1.heap[i]? = wr.heap[i]? := fun i hi =>
    hg.block i (by omega) (fun e => by have := (h.own.own.lt i e.symm).1; omega)
  have hs := hg.size
  refine ⟨(h.bel.grown hg h.bel.size (fun j hj => by have := (h.own.own.lt j hj).1; omega)).setCell (by simp) _, (Below.heap_setCell _ _ _ _ (by simp)).trans ((kp _ (by omega)).trans h.r), by rw [heap_set ((kp _ (by omega)).trans h.m)]; rfl, ⟨?_, hj⟩, by simp [World.setCell]; omega⟩
  rw [lstT_succ, intsV_app]
  exact own_set ho (by omega) _
theorem NW.step {w wr w1 : World} {j : Nat} {v v1 : Value} (h : NW w wr j v) (o : Obj) (hg : (wr.alloc o).grownBy w1 v.ownBlock) (ho : w1.ownsRow (w.heap.size + 2) 3 1 v1 (j + 1) (intsV (lstT (fun _ => -1) j) ++ [.int .i64 (-1)])) (hj : j + 1 ≤ 8191) :
    NW w (w1.setCell ⟨w.heap.size + 1, 0, none⟩ v1) (j + 1) v1 ∧ w1.cell? ⟨w.heap.size + 1, 0, none⟩ = some v ∧ w1.frozen? ⟨w.heap.size + 1, 0, none⟩ = false := by
  have h2 := h.two
  have ha := h.alloc o
  have kp : w1.heap[w.heap.size + 1]? = some (docO v 1 0) :=
    (hg.block _ (by simp; omega) (fun e => by have := (ha.own.own.lt _ e.symm).1; omega)).trans ha.m
  exact ⟨ha.grow hg ho hj, by simp [World.cell?, kp], by simp [World.frozen?, kp]⟩
theorem NW.fin {w wr : World} {j : Nat} {v : Value} (h : NW w wr j v) :
    (((wr.setCell ⟨w.heap.size, 0, none⟩ v).setCell ⟨w.heap.size, 1, none⟩ (.int .i64 1)).setCell ⟨w.heap.size, 2, none⟩ (.int .i64 0)).heap[w.heap.size]? = some (docO v 1 0) ∧
    ListT (((wr.setCell ⟨w.heap.size, 0, none⟩ v).setCell ⟨w.heap.size, 1, none⟩ (.int .i64 1)).setCell ⟨w.heap.size, 2, none⟩ (.int .i64 0)) w.heap.size j (fun _ => -1) v ∧
    Below w.heap.size w (((wr.setCell ⟨w.heap.size, 0, none⟩ v).setCell ⟨w.heap.size, 1, none⟩ (.int .i64 1)).setCell ⟨w.heap.size, 2, none⟩ (.int .i64 0)) :=
  ⟨by rw [heap_set (heap_set (heap_set h.r _) _)]; rfl, (((h.own.set (by omega) _).set (by omega) _).set (by omega) _).base (by omega), ((h.bel.setCell (Nat.le_refl _) _).setCell (Nat.le_refl _) _).setCell (Nat.le_refl _) _⟩
set_option maxRecDepth 100000 in
/-- How many numbers the document's New makes, of a number that is at most 10. -/
theorem rnew_any (n : Int) (h10 : n ≤ 10) (w : World) :
    Calls Try.prog 9 #[.int .i64 n] w fun e w' => ∃ v, e = .returned (docV v 1 0) ∧ ListT w' w.heap.size (newN n) (fun _ => -1) v ∧ Below w.heap.size w w' := by
  obtain ⟨i0, hi, hz0, hz1, hz2⟩ := info_parts infoInt
  obtain ⟨N, hN⟩ : ∃ N, newN n = N := ⟨_, rfl⟩
  have hle : N ≤ 10 := by rw [← hN]; unfold newN; omega
  have hlt : ∀ j : Nat, j < N ↔ (j : Int) < n := fun j => by rw [← hN]; unfold newN; omega
  rw [hN]
  clear hN
  have r0 : ((w.alloc docZ).alloc (docO (.slice none 0 0) 1 0)).heap[w.heap.size]? = some docZ := by
    rw [Below.heap_alloc _ _ _ (by simp)]; exact heap_alloc_new _ _
  have q0 : ((w.alloc docZ).alloc (docO (.slice none 0 0) 1 0)).heap[w.heap.size + 1]? = some (docO (.slice none 0 0) 1 0) := two_new w docZ _
  have B0 := two_low w docZ (docO (.slice none 0 0) 1 0)
  have hsz : ((w.alloc docZ).alloc (docO (.slice none 0 0) 1 0)).heap.size = w.heap.size + 2 := by simp
  have L0 : ListT ((w.alloc docZ).alloc (docO (.slice none 0 0) 1 0)) (w.heap.size + 2) 0 (fun _ => -1) (.slice none 0 0) := ⟨World.ownsRow_nil _ _ _ _, by omega⟩
  go_enter Try.func9, Try.ntmps9
  go_wp2
  have N0 : NW w ((w.alloc docZ).alloc (docO (.slice none 0 0) 1 0)) 0 (.slice none 0 0) := ⟨B0, r0, q0, L0, by omega⟩
  clear B0 r0 q0 L0
  go_loopw [4] (fun i wr => ∃ j : Nat, j ≤ N ∧ i = .int .i64 (j : Int) ∧ ∃ v, NW w wr j v) (fun i _ => N - (intOf i).toNat)
  case atStart => exact ⟨0, Nat.zero_le _, rfl, _, N0⟩
  case round =>
    clear N0 hsz
    obtain ⟨j, hj, rfl, v, F⟩ := hrel
    obtain ⟨ao, cap, rfl, hl1, hcm1⟩ := F.own.shape
    obtain ⟨d0, d1, d2, z0, z1, z2, f0, f1⟩ := F.cells
    unfold maxLen at hcm1
    by_cases hc : j < N
    · have hn2 := (hlt j).1 hc
      have htw := F.two
      have HF := Lib.hid F
      have ho : (wr.alloc (.cells #[.int .i64 (-1)] 3)).ownsRow (w.heap.size + 2) 3 1 (.slice ao j cap) j (intsV (lstT (fun _ => -1) j)) := F.own.own.alloc _
      have hnw := news_int wr 3 (.int .i64 (-1))
      have m0 := (F.alloc (.cells #[.int .i64 (-1)] 3)).cells
      clear F hlt
      go_wp2_with (at_builtin; refine wpList_append_own _ rfl _ _ 25 rfl (w.heap.size + 2) 3 i0 (.int .i64 0) 1 8 Try.underlying25 hi hz0 hz1 hz2 rfl (by decide) _ _ _ rfl ho ⟨wr.heap.size, 0, none⟩ 1 1 [.int .i64 (-1)] rfl rfl hnw (by intro u hu; simp at hu; subst hu; rfl) (by unfold maxLen; omega) (by omega) (by simp; omega) ?_; intro v' w1 ho1 hg1 _; obtain ⟨F1, c0, c1⟩ := HF.out.step _ hg1 ho1 (by omega); obtain ⟨ao2, cap2, rfl, _, _⟩ := F1.own.shape; have F1 := Lib.hid F1; clear ho1 hg1 m0)
      go_roundw
      case rel => exact ⟨j + 1, by omega, by go_num, _, F1.out⟩
      case measure => simp [intOf]; omega
    · obtain rfl : j = N := by omega
      have hn2 : ¬ (j : Int) < n := fun h => hc ((hlt j).2 h)
      have Z := F.fin
      clear F hlt hc
      go_wp2
      exact bodyPost_ret (res_P rfl _ _ _ rfl Z.1) rfl ⟨_, rfl, Z.2.1, Z.2.2⟩
end Go.Proofs.Ytkbkilkmiigahaa.Cx
