/-
  What stays while a deed is done to frames and to the document's frames. Conditions: none.
-/
import Derived.Test.YtdjpanmokojpdaaFGive
namespace Go.Proofs.Ytdjpanmokojpdaa.Frm
open Fld
open Go.ChangeShapes Go.WideShapes Go.ChangeAt Go.RowKit
set_option maxHeartbeats 400000
/-- From wr to w' all blocks stay but the law's frames and rows of runs. -/
structure Kp (w wr w' : World) : Prop where
  size : wr.heap.size ≤ w'.heap.size
  block : ∀ k c e f, wr.heap[k]? = some (.cells c e f) → w.heap.size + 2 ≤ k → e ≠ 46 → w'.heap[k]? = wr.heap[k]?
theorem Kp.refl (w wr : World) : Kp w wr wr := ⟨Nat.le_refl _, fun _ _ _ _ _ _ _ => rfl⟩
theorem Kp.trans {w a b c : World} (h : Kp w a b) (k : Kp w b c) : Kp w a c :=
  ⟨Nat.le_trans h.size k.size, fun i x e f hi hk he => (k.block i x e f ((h.block i x e f hi hk he).trans hi) hk he).trans (h.block i x e f hi hk he)⟩
theorem Kp.of_below {w wr w' : World} (h : Below wr.heap.size wr w') : Kp w wr w' := ⟨h.size, fun k _ _ _ hk _ _ => h.block k (Array.getElem?_eq_some_iff.1 hk).1⟩
theorem Kp.of_turn {w wr w' : World} (h : Turn wr w' (w.heap.size + 1) w.heap.size) : Kp w wr w' := ⟨h.size, fun k _ _ _ hk h2 _ => h.block k (Array.getElem?_eq_some_iff.1 hk).1 (by omega) (by omega)⟩
theorem Kp.alloc (w wr : World) (o : Obj) : Kp w wr (wr.alloc o) := Kp.of_below ((Below.refl _ _).alloc (Nat.le_refl _) o)
theorem Kp.drew (w wr : World) : Kp w wr wr.drew := Kp.of_below (below_drewN (Below.refl _ _) 1)
theorem Kp.of_grow {w wr w1 : World} {n : Nat} {T : Nat → Bool} {v : Value} {l : List (Nat × Nat)} (h : ApIn w n T v l wr) (hg : wr.grownBy w1 v.ownBlock) : Kp w wr w1 :=
  ⟨hg.size, fun k c e f hk h2 he => hg.block k (Array.getElem?_eq_some_iff.1 hk).1 (fun e2 => by
    rcases h.own.2 with ⟨rfl, _⟩ | ⟨g, cap, cur, rfl, _, hg2, _⟩
    · cases e2
    · injection e2 with e2
      subst e2
      rw [hk] at hg2
      injection hg2 with hg2
      injection hg2 with _ e3 _
      exact he e3)⟩
theorem Kp.row {w wr w' : World} {cap : Nat} {ao : Option Addr} {L : List Int} (h : Kp w wr w') (ho : OwnI wr (w.heap.size + 2) ao cap L) : OwnI w' (w.heap.size + 2) ao cap L := by
  refine ⟨ho.1, ?_⟩
  rcases ho.2 with hn | ⟨g, cap', cur, hv, hb2, hg, rest⟩
  · exact .inl hn
  · exact .inr ⟨g, cap', cur, hv, hb2, (h.block g _ _ _ hg hb2 (by decide)).trans hg, rest⟩
theorem Kp.isD {w wr w' : World} {N : Nat} {L : List Int} {x : Value} (h : Kp w wr w') (hd : IsD wr (w.heap.size + 2) N L x) : IsD w' (w.heap.size + 2) N L x := by
  obtain ⟨ao, cap, e, ho⟩ := hd
  exact ⟨ao, cap, e, h.row ho⟩
/-- A block of the document's frames. -/
structure BF (w wr : World) (b n : Nat) (sl : Value) : Prop where
  bk : wr.heap[b]? = some (.cells #[.int .i64 (n : Int), sl] 27 (0, 0))
  le : w.heap.size + 2 ≤ b
theorem BF.kp {w wr w' : World} {b n : Nat} {sl : Value} (h : BF w wr b n sl) (k : Kp w wr w') : BF w w' b n sl := ⟨(k.block _ _ _ _ h.bk h.le (by decide)).trans h.bk, h.le⟩
theorem BF.c0 {w wr : World} {b n : Nat} {sl : Value} (h : BF w wr b n sl) : wr.cell? ⟨b, 0, none⟩ = some (.int .i64 (n : Int)) := by simp [World.cell?, h.bk]
theorem BF.c1 {w wr : World} {b n : Nat} {sl : Value} (h : BF w wr b n sl) : wr.cell? ⟨b, 1, none⟩ = some sl := by simp [World.cell?, h.bk]
theorem BF.f0 {w wr : World} {b n : Nat} {sl : Value} (h : BF w wr b n sl) (o : Nat) : wr.frozen? ⟨b, o, none⟩ = false := by simp [World.frozen?, h.bk]
theorem BF.new {w wr : World} {n : Nat} {sl : Value} (h : w.heap.size + 2 ≤ wr.heap.size) : BF w (wr.alloc (.cells #[.int .i64 (n : Int), sl] 27)) wr.heap.size n sl := ⟨heap_alloc_new _ _, h⟩
theorem BF.set {w wr : World} {b n m : Nat} {sl sl2 : Value} (h : BF w wr b n sl) : BF w ((wr.setCell ⟨b, 0, none⟩ (.int .i64 (m : Int))).setCell ⟨b, 1, none⟩ sl2) b m sl2 := ⟨by rw [heap_set (heap_set h.bk _) _]; rfl, h.le⟩
theorem own_setF {w wr : World} {b n B z m o : Nat} {e : TypeId} {sl v : Value} {xs : List Value} (h : BF w wr b n sl) (ho : wr.ownsRow B e z v m xs) (hne : e ≠ 27) (u : Value) : (wr.setCell ⟨b, o, none⟩ u).ownsRow B e z v m xs := by
  refine ⟨ho.1, ?_⟩
  rcases ho.2 with hn | ⟨g, cap', cur, hv, hb2, hg, rest⟩
  · exact .inl hn
  · refine .inr ⟨g, cap', cur, hv, hb2, (Below.heap_setCell _ _ _ _ (fun e2 => ?_)).trans hg, rest⟩
    have e2 : g = b := e2
    subst e2
    rw [h.bk] at hg
    injection hg with hg
    injection hg with _ e3 _
    exact hne e3.symm
theorem ApIn.setF {w wr : World} {n b m o : Nat} {T : Nat → Bool} {v sl : Value} {l : List (Nat × Nat)} (h : ApIn w n T v l wr) (hb : BF w wr b m sl) (u : Value) : ApIn w n T v l (wr.setCell ⟨b, o, none⟩ u) := by
  have hle := hb.le
  refine ⟨⟨h.fr.fr.same (Below.heap_setCell _ _ _ _ (by show w.heap.size + 1 ≠ b; omega)) (Below.heap_setCell _ _ _ _ (by show w.heap.size ≠ b; omega)), h.fr.bel.setCell (by show w.heap.size ≤ b; omega) _⟩, own_setF hb h.own (by decide) u, by simpa [World.setCell] using h.two⟩
/-- Frames are laid into a place of frames: the program's frames, the runs and the document's row stay. -/
theorem laid_ap {w wr : World} {n b m k : Nat} {T : Nat → Bool} {v sl sl2 : Value} {l : List (Nat × Nat)} (h : ApIn w n T v l wr) (hb : BF w wr b m sl) : ApIn w n T v l ((wr.setCell ⟨b, 0, none⟩ (.int .i64 (k : Int))).setCell ⟨b, 1, none⟩ sl2) :=
  (h.setF hb _).setF (b := b) (m := k) (sl := sl) ⟨by rw [heap_set hb.bk]; rfl, hb.le⟩ _
theorem laid_row {w wr : World} {b m k cap : Nat} {sl sl2 : Value} {ao : Option Addr} {L : List Int} (ho : OwnI wr (w.heap.size + 2) ao cap L) (hb : BF w wr b m sl) : OwnI ((wr.setCell ⟨b, 0, none⟩ (.int .i64 (k : Int))).setCell ⟨b, 1, none⟩ sl2) (w.heap.size + 2) ao cap L :=
  own_setF (b := b) (n := k) (sl := sl) (w := w) ⟨by rw [heap_set hb.bk]; rfl, hb.le⟩ (own_setF hb ho (by decide) _) (by decide) _
/-- The frames, the runs that were taken, and the document's frames, alike. -/
structure PlIn (w : World) (n : Nat) (T : Nat → Bool) (v : Value) (l : List (Nat × Nat)) (x : Value) (wr : World) : Prop where
  ap : ApIn w n T v l wr
  doc : IsD wr (w.heap.size + 2) n (lst T n) x
  bd : ∀ p ∈ l, p.1 + p.2 ≤ 65536
/-- A deed's box. -/
structure BD (w wr : World) (b : Nat) (K A B : Int) : Prop where
  bk : wr.heap[b]? = some (.cells #[.int .i64 K, .int .i64 A, .int .i64 B] 33 (0, 0))
  le : w.heap.size + 2 ≤ b
theorem BD.kp {w wr w' : World} {b : Nat} {K A B : Int} (h : BD w wr b K A B) (k : Kp w wr w') : BD w w' b K A B := ⟨(k.block _ _ _ _ h.bk h.le (by decide)).trans h.bk, h.le⟩
theorem BD.c0 {w wr : World} {b : Nat} {K A B : Int} (h : BD w wr b K A B) : wr.cell? ⟨b, 0, none⟩ = some (.int .i64 K) := by simp [World.cell?, h.bk]
theorem BD.c1 {w wr : World} {b : Nat} {K A B : Int} (h : BD w wr b K A B) : wr.cell? ⟨b, 1, none⟩ = some (.int .i64 A) := by simp [World.cell?, h.bk]
theorem BD.c2 {w wr : World} {b : Nat} {K A B : Int} (h : BD w wr b K A B) : wr.cell? ⟨b, 2, none⟩ = some (.int .i64 B) := by simp [World.cell?, h.bk]
theorem BD.new {w wr : World} {K A B : Int} (h : w.heap.size + 2 ≤ wr.heap.size) : BD w (wr.alloc (.cells #[.int .i64 K, .int .i64 A, .int .i64 B] 33)) wr.heap.size K A B := ⟨heap_alloc_new _ _, h⟩
theorem Kp.set {w u wr : World} (h : Kp w u wr) {b o : Nat} (hb : u.heap.size ≤ b) (y : Value) : Kp w u (wr.setCell ⟨b, o, none⟩ y) :=
  ⟨by simpa [World.setCell] using h.size, fun k c e f hk h2 he => (Below.heap_setCell _ _ _ _ (by have := (Array.getElem?_eq_some_iff.1 hk).1; show k ≠ b; omega)).trans (h.block k c e f hk h2 he)⟩
/-- A deed under way since u: the frames as T says; the boxes of the document's frames, of the deed, of the result. -/
structure DS (w u : World) (n : Nat) (T : Nat → Bool) (v : Value) (l : List (Nat × Nat)) (sl : Value) (K A B : Int) (wr : World) : Prop where
  ap : ApIn w n T v l wr
  f : BF w wr u.heap.size n sl
  d : BD w wr (u.heap.size + 1) K A B
  r : BF w wr (u.heap.size + 1 + 1) 0 (.slice none 0 0)
  k : Kp w u wr
theorem DS.start {w u : World} {n : Nat} {T : Nat → Bool} {v : Value} {l : List (Nat × Nat)} (h : ApIn w n T v l u) (sl : Value) (K A B : Int) :
    DS w u n T v l sl K A B (((u.alloc (.cells #[.int .i64 (n : Int), sl] 27)).alloc (.cells #[.int .i64 K, .int .i64 A, .int .i64 B] 33)).alloc (.cells #[.int .i64 0, .slice none 0 0] 27)) := by
  have h2 := h.two
  have b1 : Below u.heap.size u (u.alloc (.cells #[.int .i64 (n : Int), sl] 27)) := (Below.refl _ _).alloc (Nat.le_refl _) _
  have e1 := (BF.new (w := w) (n := n) (sl := sl) h2).kp ((Kp.alloc w _ (.cells #[.int .i64 K, .int .i64 A, .int .i64 B] 33)).trans (Kp.alloc w _ (.cells #[.int .i64 0, .slice none 0 0] 27)))
  have e2 := (BD.new (w := w) (wr := u.alloc (.cells #[.int .i64 (n : Int), sl] 27)) (K := K) (A := A) (B := B) (by simp; omega)).kp (Kp.alloc w _ (.cells #[.int .i64 0, .slice none 0 0] 27))
  have e3 := BF.new (w := w) (n := 0) (sl := .slice none 0 0) (wr := (u.alloc (.cells #[.int .i64 (n : Int), sl] 27)).alloc (.cells #[.int .i64 K, .int .i64 A, .int .i64 B] 33)) (by simp; omega)
  simp only [World.size_alloc] at e2 e3
  exact ⟨h.below (((b1.alloc (by simp) _).alloc (by simp; omega) _)), e1, e2, e3, ((Kp.alloc w u _).trans (Kp.alloc w _ _)).trans (Kp.alloc w _ _)⟩
theorem DS.kp {w u wr w' : World} {n : Nat} {T U : Nat → Bool} {v v' sl : Value} {l l' : List (Nat × Nat)} {K A B : Int} (h : DS w u n T v l sl K A B wr) (k : Kp w wr w') (ha : ApIn w n U v' l' w') : DS w u n U v' l' sl K A B w' :=
  ⟨ha, h.f.kp k, h.d.kp k, h.r.kp k, h.k.trans k⟩
theorem DS.below {w u wr w' : World} {n : Nat} {T : Nat → Bool} {v sl : Value} {l : List (Nat × Nat)} {K A B : Int} (h : DS w u n T v l sl K A B wr) (hb : Below wr.heap.size wr w') : DS w u n T v l sl K A B w' := h.kp (Kp.of_below hb) (h.ap.below hb)
end Go.Proofs.Ytdjpanmokojpdaa.Frm
