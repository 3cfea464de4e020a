/-
  Contract of own of the document's package for layer 14. Conditions: a list that is there, a number that is there.
-/
import Derived.Test.YtkbkilkmiigahaaCDocA
import Derived.Laws.OwnMore
import Derived.Deep.LoopGhost
namespace Go.Proofs.Ytkbkilkmiigahaa.Cx
open Fld
open Go.ChangeShapes Go.WideShapes Go.ChangeAt Go.RowKit
set_option maxHeartbeats 1000000
theorem own_set {w : World} {B e z n b o : Nat} {v : Value} {xs : List Value} (h : w.ownsRow B e z v n xs) (hb : b < B) (u : Value) : (w.setCell ⟨b, o, none⟩ u).ownsRow B e z v n xs := by
  refine ⟨h.1, ?_⟩
  rcases h.2 with hn | ⟨g, cap, cur, rfl, hb2, hg, rest⟩
  · exact .inl hn
  · exact .inr ⟨g, cap, cur, rfl, hb2, (Below.heap_setCell _ _ _ _ (by show g ≠ b; omega)).trans hg, rest⟩
theorem own_base {w : World} {B C e z n : Nat} {v : Value} {xs : List Value} (h : w.ownsRow B e z v n xs) (hC : C ≤ B) : w.ownsRow C e z v n xs := by
  refine ⟨h.1, ?_⟩
  rcases h.2 with hn | ⟨g, cap, cur, rfl, hb2, rest⟩
  · exact .inl hn
  · exact .inr ⟨g, cap, cur, rfl, by omega, rest⟩
theorem ListT.base {w : World} {B C n : Nat} {T : Nat → Int} {v : Value} (h : ListT w B n T v) (hC : C ≤ B) : ListT w C n T v := ⟨own_base h.own hC, h.le⟩
theorem ListT.set {w : World} {B n b o : Nat} {T : Nat → Int} {v : Value} (h : ListT w B n T v) (hb : b < B) (u : Value) : ListT (w.setCell ⟨b, o, none⟩ u) B n T v := ⟨own_set h.own hb u, h.le⟩
theorem ListT.put {w : World} {B n cap g : Nat} {T : Nat → Int} (h : ListT w B n T (.slice (some ⟨g, 0, none⟩) n cap)) (j : Nat) (x : Int) : ListT (w.setCell ⟨g, j, none⟩ (.int .i64 x)) B n (setT T j x) (.slice (some ⟨g, 0, none⟩) n cap) := by
  refine ⟨?_, h.le⟩
  have := (h.own.stored j (.int .i64 x)).1
  rw [← lstT_set]
  have e : (intsV (lstT T n)).set j (.int .i64 x) = intsV ((lstT T n).set j x) := by unfold intsV; rw [List.map_set]
  rw [← e]; exact this
/-- While a document's list is made anew: the boxed pool, the result's place. -/
structure OB (w wr : World) (n : Nat) (T : Nat → Int) (v v' : Value) (k r : Nat) : Prop where
  bel : Below w.heap.size w wr
  m : wr.heap[w.heap.size]? = some (docO v k r)
  r : wr.heap[w.heap.size + 1]? = some docZ
  own : ListT wr (w.heap.size + 2) n T v'
  two : w.heap.size + 2 ≤ wr.heap.size
theorem OB.cells {w wr : World} {n : Nat} {T : Nat → Int} {v v' : Value} {k r : Nat} (h : OB w wr n T v v' k r) : wr.cell? ⟨w.heap.size, 0, none⟩ = some v ∧ wr.cell? ⟨w.heap.size, 1, none⟩ = some (.int .i64 (k : Int)) ∧ wr.cell? ⟨w.heap.size, 2, none⟩ = some (.int .i64 (r : Int)) ∧ wr.cell? ⟨w.heap.size + 1, 0, none⟩ = some (.slice none 0 0) ∧ wr.cell? ⟨w.heap.size + 1, 1, none⟩ = some (.int .i64 0) ∧ wr.cell? ⟨w.heap.size + 1, 2, none⟩ = some (.int .i64 0) ∧ (∀ i, wr.frozen? ⟨w.heap.size, i, none⟩ = false) ∧ ∀ i, wr.frozen? ⟨w.heap.size + 1, i, none⟩ = false := by
  simp [World.cell?, World.frozen?, h.m, h.r]
theorem OB.low {w wr wq : World} {n : Nat} {T : Nat → Int} {v v' : Value} {k r : Nat} (h : OB w wr n T v v' k r) (hb : Below wr.heap.size wr wq) : OB w wq n T v v' k r :=
  ⟨h.bel.trans (hb.mono h.bel.size), (hb.block _ (by have := h.two; omega)).trans h.m, (hb.block _ (by have := h.two; omega)).trans h.r, h.own.low hb, Nat.le_trans h.two hb.size⟩
theorem OB.put {w wr : World} {n cap g : Nat} {T : Nat → Int} {v : Value} {k r : Nat} (h : OB w wr n T v (.slice (some ⟨g, 0, none⟩) n cap) k r) (hg : w.heap.size + 2 ≤ g) (j : Nat) (x : Int) : OB w (wr.setCell ⟨g, j, none⟩ (.int .i64 x)) n (setT T j x) v (.slice (some ⟨g, 0, none⟩) n cap) k r :=
  ⟨h.bel.setCell (by show _ ≤ g; omega) _, (Below.heap_setCell _ _ _ _ (by show w.heap.size ≠ g; omega)).trans h.m, (Below.heap_setCell _ _ _ _ (by show w.heap.size + 1 ≠ g; omega)).trans h.r, h.own.put j x, by have := h.two; simpa [World.setCell] using this⟩
theorem OB.box {w wr : World} {n : Nat} {T : Nat → Int} {v v' : Value} {k r : Nat} (h : OB w wr n T v v' k r) (u : Value) : OB w (wr.setCell ⟨w.heap.size, 0, none⟩ u) n T u v' k r :=
  ⟨h.bel.setCell (Nat.le_refl _) _, by rw [heap_set h.m]; rfl, (Below.heap_setCell _ _ _ _ (by simp)).trans h.r, h.own.set (by omega) _, by have := h.two; simpa [World.setCell] using this⟩
theorem OB.box3 {w wr : World} {n : Nat} {T : Nat → Int} {v v' : Value} {k r : Nat} (h : OB w wr n T v v' k r) (u : Value) (k2 r2 : Nat) : OB w (((wr.setCell ⟨w.heap.size, 0, none⟩ u).setCell ⟨w.heap.size, 1, none⟩ (.int .i64 (k2 : Int))).setCell ⟨w.heap.size, 2, none⟩ (.int .i64 (r2 : Int))) n T u v' k2 r2 := by
  have h1 := h.box u
  refine ⟨(h1.bel.setCell (Nat.le_refl _) _).setCell (Nat.le_refl _) _, by rw [heap_set (heap_set h1.m _)]; rfl, ?_, (h1.own.set (by omega) _).set (by omega) _, by have := h.two; simpa [World.setCell] using this⟩
  exact (Below.heap_setCell _ _ _ _ (by simp)).trans ((Below.heap_setCell _ _ _ _ (by simp)).trans h1.r)
theorem OB.fin {w wr : World} {n : Nat} {T : Nat → Int} {v v' : Value} {k r : Nat} (h : OB w wr n T v v' k r) (u : Value) (k2 r2 : Nat) :
    (((wr.setCell ⟨w.heap.size + 1, 0, none⟩ u).setCell ⟨w.heap.size + 1, 1, none⟩ (.int .i64 (k2 : Int))).setCell ⟨w.heap.size + 1, 2, none⟩ (.int .i64 (r2 : Int))).heap[w.heap.size + 1]? = some (docO u k2 r2) ∧
    ListT (((wr.setCell ⟨w.heap.size + 1, 0, none⟩ u).setCell ⟨w.heap.size + 1, 1, none⟩ (.int .i64 (k2 : Int))).setCell ⟨w.heap.size + 1, 2, none⟩ (.int .i64 (r2 : Int))) w.heap.size n T v' ∧
    Below w.heap.size w (((wr.setCell ⟨w.heap.size + 1, 0, none⟩ u).setCell ⟨w.heap.size + 1, 1, none⟩ (.int .i64 (k2 : Int))).setCell ⟨w.heap.size + 1, 2, none⟩ (.int .i64 (r2 : Int))) :=
  ⟨by rw [heap_set (heap_set (heap_set h.r _) _)]; rfl, (((h.own.set (by omega) _).set (by omega) _).set (by omega) _).base (by omega), ((h.bel.setCell (by simp) _).setCell (by simp) _).setCell (by simp) _⟩
theorem rown_any {B : Nat} {P : Pl} {v : Value} (w : World) (H : ListT w B P.n P.T v) (h0 : 1 ≤ P.h) (h1 : P.h ≤ P.n) (m : Nat) (m0 : 1 ≤ m) (m1 : m ≤ P.n) (x : Int) (hR : P.R ≤ 1000000000) :
    Calls Try.prog 39 #[docV v P.h P.R, .int .i64 (m : Int), .int .i64 x] w fun e w' => ∃ v', e = .returned (docV v' (P.own m x).h (P.own m x).R) ∧ ListT w' w.heap.size P.n (setT P.T (m - 1) x) v' ∧ Below w.heap.size w w' := by
  obtain ⟨i0, hi, hz0, hz1, hz2⟩ := info_parts infoInt
  obtain ⟨ao, cap, rfl, hl, hcm⟩ := H.shape
  have hn := H.le
  obtain ⟨g, rfl, hB, hg, _, _⟩ := H.at_ (j := m - 1) (by omega)
  have H0 := (H.alloc (docO (.slice (some ⟨g, 0, none⟩) P.n cap) P.h P.R)).alloc docZ
  have B0 := two_low w (docO (.slice (some ⟨g, 0, none⟩) P.n cap) P.h P.R) docZ
  have r0 := two_new w (docO (.slice (some ⟨g, 0, none⟩) P.n cap) P.h P.R) #[.slice none 0 0, .int .i64 0, .int .i64 0]
  have q0 : ((w.alloc (docO (.slice (some ⟨g, 0, none⟩) P.n cap) P.h P.R)).alloc docZ).heap[w.heap.size]? = some (docO (.slice (some ⟨g, 0, none⟩) P.n cap) P.h P.R) := by
    rw [Below.heap_alloc _ _ _ (by simp)]; exact heap_alloc_new _ _
  have hsz : ((w.alloc (docO (.slice (some ⟨g, 0, none⟩) P.n cap) P.h P.R)).alloc docZ).heap.size = w.heap.size + 2 := by simp
  have hnews := H0.own.cells (g := g) rfl
  have hone := intsV_one (lstT P.T P.n)
  have hlen : (intsV (lstT P.T P.n)).length = P.n * 1 := by rw [intsV_length, lstT_length, Nat.mul_one]
  have K1 : ∀ w1 v', w1.ownsRow (w.heap.size + 2) 3 1 v' (0 + P.n) ([] ++ intsV (lstT P.T P.n)) → ((w.alloc (docO (.slice (some ⟨g, 0, none⟩) P.n cap) P.h P.R)).alloc docZ).grownBy w1 (Value.slice none 0 0).ownBlock → OB w w1 P.n P.T (.slice (some ⟨g, 0, none⟩) P.n cap) v' P.h P.R := fun w1 v' ho1 hg1 =>
    ⟨B0.grown hg1 (by rw [hsz]; omega) (fun j hj => by cases hj), (hg1.block _ (by rw [hsz]; omega) (fun e => by cases e)).trans q0, (hg1.block _ (by rw [hsz]; omega) (fun e => by cases e)).trans r0, ⟨by simpa using ho1, hn⟩, by have := hg1.size; rw [hsz] at this; exact this⟩
  have ho : ((w.alloc (docO (.slice (some ⟨g, 0, none⟩) P.n cap) P.h P.R)).alloc docZ).ownsRow (w.heap.size + 2) 3 1 (.slice none 0 0) 0 [] := World.ownsRow_nil _ _ _ _
  unfold maxLen at hcm
  go_enter Try.func39, Try.ntmps39
  go_wp2_with (at_builtin; refine wpList_append_own _ rfl _ _ 25 rfl (w.heap.size + 2) 3 i0 (.int .i64 0) 1 8 Try.underlying25 hi hz0 hz1 hz2 rfl (by decide) _ _ _ rfl ho ⟨g, 0, none⟩ P.n cap (intsV (lstT P.T P.n)) rfl hlen hnews hone (by unfold maxLen; omega) (by omega) (by simp) ?_; intro v' w1 ho1 hg1 _; have HO := K1 w1 v' ho1 hg1; clear ho1 hg1 hnews hone hlen ho B0 r0 q0 hsz H0; obtain ⟨ao1, cap1, rfl, hl1, hcm1⟩ := HO.own.shape; obtain ⟨g1, rfl, hB1, hlt1, hc1, hf1⟩ := HO.own.at_ (j := m - 1) (by omega); obtain ⟨d0, d1, d2, z0, z1, z2, f0, f1⟩ := HO.cells; unfold maxLen at hcm1)
  have H1 := (HO.put hB1 (m - 1) x).box (.slice (some ⟨g1, 0, none⟩) P.n cap1)
  generalize (w1.setCell ⟨g1, m - 1, none⟩ (.int .i64 x)).setCell ⟨w.heap.size, 0, none⟩ (.slice (some ⟨g1, 0, none⟩) P.n cap1) = W2 at *
  clear HO K1 d0 d1 d2 z0 z1 z2 f0 f1 hc1 hf1
  go_loopg [] (dist P.n P.h m) (fun gk wr => ∃ k r : Nat, dist P.n k m = gk ∧ 1 ≤ k ∧ k ≤ P.n ∧ r ≤ P.R + 1 ∧ passR P.n k m r = passR P.n P.h m P.R ∧ OB w wr P.n (setT P.T (m - 1) x) (.slice (some ⟨g1, 0, none⟩) P.n cap1) (.slice (some ⟨g1, 0, none⟩) P.n cap1) k r)
  case atStart => exact ⟨P.h, P.R, rfl, h0, h1, by omega, rfl, H1⟩
  case round =>
    obtain ⟨k, r, hgk, hk0, hk1, hr, hp, O⟩ := hrel
    clear H1
    obtain ⟨d0, d1, d2, z0, z1, z2, f0, f1⟩ := O.cells
    have CO := fun W => on_any (some ⟨g1, 0, none⟩) P.n cap1 k r hk0 hk1 hn (by omega) W
    have hnb := nxt_bd (n := P.n) (k := k) (by omega)
    have hds := dist_step hk0 hk1 m0 m1
    have hst := passR_step (R := r) hk0 hk1 m0 m1
    have hls := passR_last (n := P.n) (R := r) m0 m1
    have hsl := stepR_le P.n k r
    obtain ⟨k2, hk2⟩ : ∃ k2, k % P.n + 1 = k2 := ⟨_, rfl⟩
    obtain ⟨r2, hr2⟩ : ∃ r2, stepR P.n k r = r2 := ⟨_, rfl⟩
    rw [hk2, hr2] at CO
    rw [hk2] at hnb hds hst
    rw [hr2] at hst hsl
    by_cases hkm : k = m
    · have E1 := Lib.hid (show k2 = (P.own m x).h by rw [← hk2, hkm]; rfl)
      have E2 := Lib.hid (show r2 = (P.own m x).R by
        show r2 = passR P.n P.h m P.R
        rw [← hp, hkm, ← hls, ← hkm, hr2])
      subst hkm
      clear hnb hds hst hls hsl hk2 hr2 hp hgk
      go_wp2_with (go_at_call 46; refine (CO _).mono ?_; rintro e w3 ⟨rfl, hb⟩; have O2 := O.low hb; have F := O2.fin (.slice (some ⟨g1, 0, none⟩) P.n cap1) k2 r2; clear hb O d0 d1 d2 z0 z1 z2 f0 f1; obtain ⟨d0, d1, d2, z0, z1, z2, f0, f1⟩ := O2.cells; clear O2)
      exact bodyPost_ret (res_P rfl _ _ _ rfl F.1) rfl ⟨_, ret_P E1.out E2.out, F.2.1, F.2.2⟩
    · have hst := hst hkm
      have hds := hds hkm
      have hpl := passR_le P.n k2 m r2
      have hpm := passR_le P.n P.h m P.R
      have hkm2 : (k : Int) ≠ (m : Int) := by omega
      have HP := Lib.hid (show passR P.n k2 m r2 = passR P.n P.h m P.R by rw [← hp, ← hst])
      have HR := Lib.hid (show r2 ≤ P.R + 1 by have := HP.out; omega)
      have HD := Lib.hid hds
      clear hst hls hsl hk2 hr2 hp hpl hpm hds
      go_wp2_with (go_at_call 46; refine (CO _).mono ?_; rintro e w3 ⟨rfl, hb⟩; have O2 := O.low hb; have F := Lib.hid (O2.box3 (.slice (some ⟨g1, 0, none⟩) P.n cap1) k2 r2); clear hb O d0 d1 d2 z0 z1 z2 f0 f1; obtain ⟨d0, d1, d2, z0, z1, z2, f0, f1⟩ := O2.cells; clear O2)
      go_roundg (dist P.n k2 m)
      case measure => have := HD.out; omega
      case rel => exact ⟨k2, r2, rfl, hnb.1, hnb.2, HR.out, HP.out, F.out⟩
end Go.Proofs.Ytkbkilkmiigahaa.Cx
