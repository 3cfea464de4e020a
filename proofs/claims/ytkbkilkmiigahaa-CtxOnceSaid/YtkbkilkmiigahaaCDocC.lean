/-
  Contracts of Take, Give, Steal of the document's package for layer 14. Conditions: a list that is there, a pool as it must be.
-/
import Derived.Test.YtkbkilkmiigahaaCDocB
namespace Go.Proofs.Ytkbkilkmiigahaa.Cx
open Fld
open Go.ChangeShapes Go.WideShapes Go.ChangeAt Go.RowKit
set_option maxHeartbeats 1000000
/-- Since w: the boxed pool, the result's place. -/
structure BX (w wr : World) (v : Value) (k r : Nat) : Prop where
  bel : Below w.heap.size w wr
  m : wr.heap[w.heap.size]? = some (docO v k r)
  r : wr.heap[w.heap.size + 1]? = some docZ
  two : w.heap.size + 2 ≤ wr.heap.size
theorem BX.new (w : World) (v : Value) (k r : Nat) : BX w ((w.alloc (docO v k r)).alloc docZ) v k r :=
  ⟨two_low _ _ _, by rw [Below.heap_alloc _ _ _ (by simp)]; exact heap_alloc_new _ _, two_new _ _ _, by simp⟩
theorem BX.cells {w wr : World} {v : Value} {k r : Nat} (h : BX w wr v k r) : wr.cell? ⟨w.heap.size, 0, none⟩ = some v ∧ wr.cell? ⟨w.heap.size, 1, none⟩ = some (.int .i64 (k : Int)) ∧ wr.cell? ⟨w.heap.size, 2, none⟩ = some (.int .i64 (r : Int)) ∧ wr.cell? ⟨w.heap.size + 1, 0, none⟩ = some (.slice none 0 0) ∧ wr.cell? ⟨w.heap.size + 1, 1, none⟩ = some (.int .i64 0) ∧ wr.cell? ⟨w.heap.size + 1, 2, none⟩ = some (.int .i64 0) ∧ (∀ i, wr.frozen? ⟨w.heap.size, i, none⟩ = false) ∧ ∀ i, wr.frozen? ⟨w.heap.size + 1, i, none⟩ = false := by
  simp [World.cell?, World.frozen?, h.m, h.r]
theorem BX.low {w wr wq : World} {v : Value} {k r : Nat} (h : BX w wr v k r) (hb : Below wr.heap.size wr wq) : BX w wq v k r :=
  ⟨h.bel.trans (hb.mono h.bel.size), (hb.block _ (by have := h.two; omega)).trans h.m, (hb.block _ (by have := h.two; omega)).trans h.r, Nat.le_trans h.two hb.size⟩
theorem BX.fin {w wr : World} {v : Value} {k r : Nat} (h : BX w wr v k r) (u : Value) (k2 r2 : Nat) :
    (((wr.setCell ⟨w.heap.size + 1, 0, none⟩ u).setCell ⟨w.heap.size + 1, 1, none⟩ (.int .i64 (k2 : Int))).setCell ⟨w.heap.size + 1, 2, none⟩ (.int .i64 (r2 : Int))).heap[w.heap.size + 1]? = some (docO u k2 r2) ∧
    Below w.heap.size w (((wr.setCell ⟨w.heap.size + 1, 0, none⟩ u).setCell ⟨w.heap.size + 1, 1, none⟩ (.int .i64 (k2 : Int))).setCell ⟨w.heap.size + 1, 2, none⟩ (.int .i64 (r2 : Int))) :=
  ⟨by rw [heap_set (heap_set (heap_set h.r _) _)]; rfl, ((h.bel.setCell (by simp) _).setCell (by simp) _).setCell (by simp) _⟩
theorem ListT.set2 {w : World} {B n b : Nat} {T : Nat → Int} {v : Value} (h : ListT w B n T v) (hb : b < B) (u : Value) (k r : Nat) :
    ListT (((w.setCell ⟨b, 0, none⟩ u).setCell ⟨b, 1, none⟩ (.int .i64 (k : Int))).setCell ⟨b, 2, none⟩ (.int .i64 (r : Int))) B n T v := ((h.set hb _).set hb _).set hb _
/-- What a function of the document answers: a pool and two numbers. -/
def DocTo (w : World) (B : Nat) (P : Pl) (I E : Int) (e : Ending) (w' : World) : Prop := ∃ v', e = .returned (.tuple #[docV v' P.h P.R, .int .i64 I, .int .i64 E]) ∧ ListT w' B P.n P.T v' ∧ Below w.heap.size w w'
theorem docTo_mk {w w' : World} {B : Nat} {P : Pl} {I E I' E' : Int} {v : Value} {h R : Nat} (h1 : P.h = h) (h2 : P.R = R) (h3 : I = I') (h4 : E = E') (hl : ListT w' B P.n P.T v) (hb : Below w.heap.size w w') : DocTo w B P I E (.returned (.tuple #[docV v h R, .int .i64 I', .int .i64 E'])) w' := by
  subst h1 h2 h3 h4; exact ⟨v, rfl, hl, hb⟩
theorem two_at (w : World) (o : Obj) (u x y : Value) : ((w.alloc o).alloc (.cells #[u, x, y] 27)).heap[w.heap.size + 1]? = some (.cells #[u, x, y] 27 (0, 0)) := two_new _ _ _
theorem rtake_any {B : Nat} {P : Pl} {v : Value} (w : World) (H : ListT w B P.n P.T v) (ok : P.Ok) (hB : B ≤ w.heap.size) (x : Int) (hR : P.R ≤ 1000000000) :
    Calls Try.prog 27 #[docV v P.h P.R, .int .i64 x] w (DocTo w B (P.take x) (P.takeI x : Int) (P.takeE x)) := by
  obtain ⟨ao, cap, rfl, hl, hcm⟩ := H.shape
  have hn := H.le
  have X0 := BX.new w (.slice ao P.n cap) P.h P.R
  unfold maxLen at hcm
  by_cases x0 : x < 0
  · have e1 := Lib.hid (show P.takeI x = 0 by unfold Pl.takeI; rw [if_pos x0])
    have e2 := Lib.hid (show P.takeE x = 1 by unfold Pl.takeE; rw [if_pos x0])
    have e3 := Lib.hid (show P.take x = P by unfold Pl.take; rw [if_pos (.inl x0)])
    rw [e3.out]
    go_enter Try.func27, Try.ntmps27
    go_wp2
    exact bodyPost_ret (res_P2 rfl _ _ _ rfl (two_at _ _ _ _ _)) rfl (docTo_mk rfl rfl (by rw [e1.out]; rfl) e2.out (H.low (two_low _ _ _)) (two_low _ _ _))
  · have OA := rof_any ((w.alloc (docO (.slice ao P.n cap) P.h P.R)).alloc docZ) (H.low X0.bel) x P.R
    by_cases hz : P.of x = 0
    · rw [hz] at OA
      go_enter Try.func27, Try.ntmps27
      go_wp2_with fail
      generalize (w.alloc (docO (.slice ao P.n cap) P.h P.R)).alloc docZ = W0 at *
      refine OA.mono ?_
      rintro e w2 ⟨rfl, hb2⟩
      have X2 := X0.low hb2
      obtain ⟨d0, d1, d2, z0, z1, z2, f0, f1⟩ := X2.cells
      have HX := Lib.hid X2
      have HOK := Lib.hid ok
      clear X0 X2 hb2 OA ok
      go_wp2
      go_loopw [7, 8] (fun c i wr => ∃ j : Nat, j ≤ P.n ∧ i = .int .i64 (j : Int) ∧ c = .int .i64 (rot P.n P.h j : Int) ∧ P.free = seek (fun i => decide (P.T i < 0)) P.n (rot P.n P.h j) (P.n - j) ∧ wr = w2) (fun _ i _ => P.n - (intOf i).toNat)
      case atStart => exact ⟨0, Nat.zero_le _, rfl, rfl, rfl, rfl⟩
      case round =>
        obtain ⟨j, hj, rfl, rfl, hno, rfl⟩ := hrel
        have ok := HOK.out
        by_cases hlt : j < P.n
        · have rb := rot_bd (n := P.n) (h := P.h) (by omega) ok.h0 (ok.h1 (by omega)) j
          have hnx : rot P.n P.h (j + 1) = rot P.n P.h j % P.n + 1 := rfl
          obtain ⟨mm, hmm⟩ : ∃ mm, P.n - j = mm + 1 := ⟨P.n - j - 1, by omega⟩
          have hm2 : P.n - (j + 1) = mm := by omega
          rw [hmm] at hno
          simp only [seek] at hno
          obtain ⟨k, hk⟩ : ∃ k, rot P.n P.h j = k := ⟨_, rfl⟩
          rw [hk] at rb hnx hno ⊢
          have H2 := H.low HX.out.bel
          obtain ⟨g, rfl, hgB, hgl, hc, _⟩ := H2.at_ (j := k - 1) (by omega)
          have em : ((k : Int) - 1).toNat = k - 1 := by omega
          by_cases hf : P.T (k - 1) < 0
          · rw [if_pos (decide_eq_true hf)] at hno
            have ht := Pl.of_zero x0 hz
            have OW := rown_any wr H2 ok.h0 (ok.h1 (by omega)) k rb.1 rb.2 x hR
            have r1 := Lib.hid (show P.takeI x = k by unfold Pl.takeI; rw [if_neg (by omega), if_pos hz]; exact hno)
            have r2 := Lib.hid (show P.takeE x = 0 by unfold Pl.takeE; rw [if_neg (by omega), if_neg (by omega)])
            have r3 := Lib.hid (show P.take x = P.own k x by unfold Pl.take; rw [if_neg (by omega), hno])
            obtain ⟨kh, hkh⟩ : ∃ q, (P.own k x).h = q := ⟨_, rfl⟩
            obtain ⟨kr, hkr⟩ : ∃ q, (P.own k x).R = q := ⟨_, rfl⟩
            rw [hkh, hkr] at OW
            have HKH := Lib.hid hkh
            have HKR := Lib.hid hkr
            have OW := Lib.hid OW
            generalize P.T (k - 1) = y at *
            clear hno hnx hmm hm2 hz ok HOK H2 hkh hkr ht hk
            go_wp2_with (go_at_call 39; refine OW.out.mono ?_; rintro e w3 ⟨v3, rfl, hl3, hb3⟩; obtain ⟨ao3, cap3, rfl, _, _⟩ := hl3.shape; have X3 := HX.out.low hb3; have F := X3.fin (.slice ao3 P.n cap3) kh kr; clear d0 d1 d2 z0 z1 z2 f0 f1 hc; obtain ⟨d0, d1, d2, z0, z1, z2, f0, f1⟩ := X3.cells; have sz := X3.bel.size; have s2 := HX.out.bel.size; have t2 := HX.out.two; have hl4 := Lib.hid (((hl3.set2 (b := w.heap.size + 1) (by omega) (.slice ao3 P.n cap3) kh kr).base (by omega) : ListT _ B P.n (setT P.T (k - 1) x) (.slice ao3 P.n cap3))); clear X3 hl3 hb3)
            rw [r3.out]
            exact bodyPost_ret (res_P2 rfl _ _ _ rfl F.1) rfl (docTo_mk HKH.out HKR.out (by rw [r1.out]) r2.out hl4.out F.2)
          · rw [if_neg (fun e => hf (of_decide_eq_true e))] at hno
            have e : ((k % P.n + 1 : Nat) : Int) = (k : Int) % (P.n : Int) + 1 := by rw [Int.natCast_add, Int.natCast_emod]; rfl
            have hm := Int.emod_lt_of_pos (k : Int) (show (0 : Int) < (P.n : Int) by omega)
            have hm0 := Int.emod_nonneg (k : Int) (show (P.n : Int) ≠ 0 by omega)
            have ht : Int.tmod (k : Int) (P.n : Int) = (k : Int) % (P.n : Int) := Int.tmod_eq_emod_of_nonneg (by omega)
            have HN := Lib.hid (show (rot P.n P.h (j + 1) : Int) = (k : Int) % (P.n : Int) + 1 by rw [hnx]; exact e)
            have HO := Lib.hid (show P.free = seek (fun i => decide (P.T i < 0)) P.n (rot P.n P.h (j + 1)) (P.n - (j + 1)) by rw [hm2, hnx]; exact hno)
            generalize P.T (k - 1) = y at *
            clear hno hnx hmm hm2 hz ok e H2 hk
            go_wp2
            go_roundw
            case rel => exact ⟨j + 1, by omega, by go_num, by rw [HN.out], HO.out, trivial⟩
            case measure => simp [intOf]; omega
        · obtain rfl : j = P.n := by omega
          have hz2 : P.free = 0 := by rw [hno, Nat.sub_self]; rfl
          have r1 := Lib.hid (show P.takeI x = 0 by unfold Pl.takeI; rw [if_neg (by omega), if_pos hz]; exact hz2)
          have r2 := Lib.hid (show P.takeE x = 8 by unfold Pl.takeE; rw [if_neg (by omega), if_pos ⟨hz, hz2⟩])
          have r3 := Lib.hid (show P.take x = P by unfold Pl.take; rw [if_pos (.inr (.inr hz2))])
          have F := HX.out.fin (.slice ao P.n cap) P.h P.R
          clear hno hz hz2 ok HOK
          go_wp2
          rw [r3.out]
          exact bodyPost_ret (res_P2 rfl _ _ _ rfl F.1) rfl (docTo_mk rfl rfl (by rw [r1.out]; rfl) r2.out (H.low F.2) F.2)
    · have e1 := Lib.hid (show P.takeI x = P.of x by unfold Pl.takeI; rw [if_neg x0, if_neg hz])
      have e2 := Lib.hid (show P.takeE x = 0 by unfold Pl.takeE; rw [if_neg x0, if_neg (fun e => hz e.1)])
      have e3 := Lib.hid (show P.take x = P by unfold Pl.take; rw [if_pos (.inr (.inl hz))])
      obtain ⟨y, hy⟩ : ∃ y, P.of x = y := ⟨_, rfl⟩
      rw [hy] at OA e1
      have hy0 : 0 < y := by omega
      rw [e3.out]
      go_enter Try.func27, Try.ntmps27
      go_wp2_with fail
      generalize (w.alloc (docO (.slice ao P.n cap) P.h P.R)).alloc docZ = W0 at *
      refine OA.mono ?_
      rintro e w2 ⟨rfl, hb2⟩
      have X2 := X0.low hb2
      have F := X2.fin (.slice ao P.n cap) P.h P.R
      obtain ⟨d0, d1, d2, z0, z1, z2, f0, f1⟩ := X2.cells
      clear X0 X2 hb2 OA
      go_wp2
      exact bodyPost_ret (res_P2 rfl _ _ _ rfl F.1) rfl (docTo_mk rfl rfl (by rw [e1.out]) e2.out (H.low F.2) F.2)
end Go.Proofs.Ytkbkilkmiigahaa.Cx
