/-
  The law's like of layer 14, and the example that every law of it asks for. Conditions: the pool and the document's are the same.
-/
import Derived.Test.YtkbkilkmiigahaaCDocE
import Derived.Deep.RegionHeld3
namespace Go.Proofs.Ytkbkilkmiigahaa.Cx
open Fld
open Go.ChangeShapes Go.WideShapes Go.ChangeAt Go.RowKit Go.Shelf Go.Deep
set_option maxHeartbeats 2000000
set_option maxRecDepth 100000
theorem ListT.turn {w w' : World} {B n pb bm ob : Nat} {T : Nat → Int} {v : Value} (h : ListT w B n T v) (k : Turn w w' pb bm ob) (hB : pb < B) (h1 : bm < ob ∧ ob < pb) : ListT w' B n T v := by
  refine ⟨⟨h.own.1, ?_⟩, h.le⟩
  rcases h.own.2 with hn | ⟨g, cap, cur, rfl, hb2, hg, rest⟩
  · exact .inl hn
  · exact .inr ⟨g, cap, cur, rfl, hb2, (k.block g (Array.getElem?_eq_some_iff.1 hg).1 (by omega) (by omega) (by omega)).trans hg, rest⟩
/-- A pool and the document's, side by side; the document's is boxed at rb. -/
structure LX (w wr : World) (rb pb bm ob : Nat) (v : Value) (P : Pl) : Prop where
  bel : Below w.heap.size w wr
  box : wr.heap[rb]? = some (docO v P.h P.R)
  pool : PoolAt wr pb bm ob P
  doc : ListT wr (pb + 1) P.n P.T v
section
variable {w wr : World} {rb pb bm ob : Nat} {v : Value} {P : Pl}
theorem LX.lt (h : LX w wr rb pb bm ob v P) : rb < wr.heap.size := (Array.getElem?_eq_some_iff.1 h.box).1
theorem LX.low {wq : World} (h : LX w wr rb pb bm ob v P) (k : Below wr.heap.size wr wq) : LX w wq rb pb bm ob v P :=
  ⟨h.bel.trans (k.mono h.bel.size), (k.block _ h.lt).trans h.box, h.pool.low k, h.doc.low k⟩
theorem LX.drewN (h : LX w wr rb pb bm ob v P) (m : Nat) : LX w (wr.drewN m) rb pb bm ob v P := h.low (below_drewN (Below.refl _ _) m)
theorem LX.drew (h : LX w wr rb pb bm ob v P) : LX w wr.drew rb pb bm ob v P := h.drewN 1
theorem LX.cells (h : LX w wr rb pb bm ob v P) : wr.cell? ⟨rb, 0, none⟩ = some v ∧ wr.cell? ⟨rb, 1, none⟩ = some (.int .i64 (P.h : Int)) ∧ wr.cell? ⟨rb, 2, none⟩ = some (.int .i64 (P.R : Int)) := by
  simp [World.cell?, h.box]
theorem lx_len (h : LX w wr rb pb bm ob v P) : Calls Try.prog 24 #[.pointer (some ⟨pb, 0, none⟩)] wr fun e w' => e = .returned (.int .i64 (P.n : Int)) ∧ LX w w' rb pb bm ob v P :=
  (len_any wr h.pool).mono (by rintro e w' ⟨rfl, rfl⟩; exact ⟨rfl, h⟩)
theorem lx_hand (h : LX w wr rb pb bm ob v P) : Calls Try.prog 21 #[.pointer (some ⟨pb, 0, none⟩)] wr fun e w' => e = .returned (.int .i64 (P.h : Int)) ∧ LX w w' rb pb bm ob v P :=
  (hand_any wr h.pool).mono (by rintro e w' ⟨rfl, rfl⟩; exact ⟨rfl, h⟩)
theorem lx_rounds (h : LX w wr rb pb bm ob v P) : Calls Try.prog 20 #[.pointer (some ⟨pb, 0, none⟩)] wr fun e w' => e = .returned (.int .i64 (P.R : Int)) ∧ LX w w' rb pb bm ob v P :=
  (rounds_any wr h.pool).mono (by rintro e w' ⟨rfl, rfl⟩; exact ⟨rfl, h⟩)
theorem lx_free (h : LX w wr rb pb bm ob v P) (ok : P.Ok) : Calls Try.prog 16 #[.pointer (some ⟨pb, 0, none⟩)] wr fun e w' => e = .returned (.int .i64 (frN P.T P.n : Int)) ∧ LX w w' rb pb bm ob v P :=
  (free_any wr h.pool ok.apart).mono (by rintro e w' ⟨rfl, m, rfl⟩; exact ⟨rfl, h.drewN m⟩)
theorem lx_rfree (h : LX w wr rb pb bm ob v P) : Calls Try.prog 25 #[docV v P.h P.R] wr fun e w' => e = .returned (.int .i64 (frN P.T P.n : Int)) ∧ LX w w' rb pb bm ob v P :=
  (rfree_any wr h.doc P.R).mono (by rintro e w' ⟨rfl, hb⟩; exact ⟨rfl, h.low hb⟩)
theorem lx_owners (h : LX w wr rb pb bm ob v P) : Calls Try.prog 13 #[.pointer (some ⟨pb, 0, none⟩)] wr fun e w' => ∃ ao cap, e = .returned (.slice ao (lstT P.T P.n).length cap) ∧ LX w w' rb pb bm ob v P ∧ w'.ownsRow 0 3 1 (.slice ao (lstT P.T P.n).length cap) (lstT P.T P.n).length (intsV (lstT P.T P.n)) :=
  (owners_any wr h.pool).mono (by
    rintro e w' ⟨v2, rfl, ho, hb⟩
    obtain ⟨ao, cap, rfl⟩ := own_shape ho
    exact ⟨ao, cap, rfl, h.low hb, own_base ho (Nat.zero_le _)⟩)
theorem lx_same {u : Value} (h : LX w wr rb pb bm ob v P) (ho : wr.ownsRow 0 3 1 u (lstT P.T P.n).length (intsV (lstT P.T P.n))) : Calls Try.prog 26 #[u, v] wr fun e w' => e = .returned (.bool true) ∧ LX w w' rb pb bm ob v P := by
  have hd : wr.ownsRow (pb + 1) 3 1 v (lstT P.T P.n).length (intsV (lstT P.T P.n)) := by rw [lstT_length]; exact h.doc.own
  exact (rsame_any (lstT P.T P.n) u v 0 (pb + 1) wr (by have := h.doc.le; rw [lstT_length]; omega) ho hd).mono (by rintro e w' ⟨rfl, m, rfl⟩; exact ⟨rfl, h.drewN m⟩)
end
theorem like_any {pb bm ob : Nat} {P : Pl} {v : Value} (w : World) (H : PoolAt w pb bm ob P) (D : ListT w (pb + 1) P.n P.T v) (ok : P.Ok) :
    Calls Try.prog 10 #[.pointer (some ⟨pb, 0, none⟩), docV v P.h P.R] w fun e w' => e = .returned (.bool true) ∧ Below w.heap.size w w' := by
  obtain ⟨ao, cap, rfl, hl, hcm⟩ := D.shape
  have hB := (Below.refl w.heap.size w).alloc (Nat.le_refl _) (docO (.slice ao P.n cap) P.h P.R)
  have X0 : LX w (w.alloc (docO (.slice ao P.n cap) P.h P.R)) w.heap.size pb bm ob (.slice ao P.n cap) P := ⟨hB, heap_alloc_new _ _, H.low hB, D.low hB⟩
  clear H D hB
  have m1 : ((P.n : Int) == (P.n : Int)) = true := by simp
  have m2 : ((frN P.T P.n : Int) == (frN P.T P.n : Int)) = true := by simp
  have m3 : ((P.h : Int) == (P.h : Int)) = true := by simp
  have m4 : ((P.R : Int) == (P.R : Int)) = true := by simp
  go_enter Try.func10, Try.ntmps10
  go_wp2
  generalize w.alloc (docO (.slice ao P.n cap) P.h P.R) = W0 at *
  have X1 := X0.drew
  clear X0
  go_region_held3 (fun w9 => w9.cell? ⟨w.heap.size, 0, none⟩ = some (.slice ao P.n cap) ∧ w9.cell? ⟨w.heap.size, 1, none⟩ = some (.int .i64 (P.h : Int)) ∧ w9.cell? ⟨w.heap.size, 2, none⟩ = some (.int .i64 (P.R : Int)))
    ((refine LX.cells (w := w) (P := P) (pb := pb) (bm := bm) (ob := ob) ?_; assumption))
    (first | (go_at_call 24; (with_reducible refine (lx_len (by assumption)).mono ?_); rintro e w9 ⟨rfl, P9⟩) | (go_at_call 16; (with_reducible refine (lx_free (by assumption) ok).mono ?_); rintro e w9 ⟨rfl, P9⟩) | (go_at_call 25; (with_reducible refine (lx_rfree (by assumption)).mono ?_); rintro e w9 ⟨rfl, P9⟩) | (go_at_call 21; (with_reducible refine (lx_hand (by assumption)).mono ?_); rintro e w9 ⟨rfl, P9⟩) | (go_at_call 20; (with_reducible refine (lx_rounds (by assumption)).mono ?_); rintro e w9 ⟨rfl, P9⟩) | (go_at_call 13; (with_reducible refine (lx_owners (by assumption)).mono ?_); rintro e w9 ⟨ao9, cap9, rfl, P9, O9⟩) | (go_at_call 26; (with_reducible refine (lx_same (by assumption) (by assumption)).mono ?_); rintro e w9 ⟨rfl, P9⟩))
  clear m1 m2 m3 m4 X1 O9
  go_wp2
  go_ret
  exact ⟨rfl, P9.bel⟩
theorem nilInts (w : World) : IsInts w none 0 [] := ⟨Nat.le_refl _, by unfold maxLen; omega, fun j hj => absurd hj (Nat.not_lt_zero j), fun a ha => by simp at ha⟩
theorem lives_any (w : World) :
    Calls Try.prog 12 #[] w fun e w' => e = .returned (.bool true) ∧ Below w.heap.size w w' := by
  have k1 : (Pl.new 2).takeI 5 = 1 := by decide
  have k2 : (Pl.new 2).takeE 5 = 0 := by decide
  have k3 : ((Pl.new 2).take 5).takeI 6 = 2 := by decide
  have k4 : ((Pl.new 2).take 5).takeE 6 = 0 := by decide
  have k5 : (((Pl.new 2).take 5).take 6).takeI 7 = 0 := by decide
  have k6 : (((Pl.new 2).take 5).take 6).takeE 7 = 8 := by decide
  have k7 : ((((Pl.new 2).take 5).take 6).take 7).vic [] = 1 := by decide
  have k8 : ((((Pl.new 2).take 5).take 6).take 7).vicS [] = 5 := by decide
  have k9 : ((((Pl.new 2).take 5).take 6).take 7).vicE [] = 0 := by decide
  have r1 : ((Pl.new 2).take 5).R ≤ 1000000000 := by decide
  have r2 : (((Pl.new 2).take 5).take 6).R ≤ 1000000000 := by decide
  have n2 : newN 2 = 2 := by decide
  have ok0 := Pl.new_ok (n := 2) (by omega)
  have ok1 := ok0.take (x := 5) (by omega)
  have ok2 := ok1.take (x := 6) (by omega)
  have ok3 := ok2.take (x := 7) (by omega)
  have NA := new_any 2 w
  rw [n2] at NA
  clear n2
  generalize hP0 : Pl.new 2 = P0 at *
  have r0 : P0.R ≤ 1000000000 := by rw [← hP0]; decide
  clear hP0
  go_enter Try.func12, Try.ntmps12
  go_wp2_with fail
  refine NA.mono ?_
  rintro e w1 ⟨pb, bm, ob, rfl, H1, hbm, B1⟩
  have s1 := B1.size
  have o1 := H1.ord
  clear NA
  have T1 := take_any w1 H1 ok0 (x := 5) (by omega) (by omega) r0
  rw [k1, k2] at T1
  go_wp2_with fail
  refine T1.mono ?_
  rintro e w2 ⟨rfl, H2, t2⟩
  have T2 := take_any w2 H2 ok1 (x := 6) (by omega) (by omega) r1
  rw [k3, k4] at T2
  clear T1
  go_wp2_with fail
  refine T2.mono ?_
  rintro e w3 ⟨rfl, H3, t3⟩
  have T3 := take_any w3 H3 ok2 (x := 7) (by omega) (by omega) r2
  rw [k5, k6] at T3
  clear T2
  go_wp2_with fail
  refine T3.mono ?_
  rintro e w4 ⟨rfl, H4, t4⟩
  have V4 := victim_any w4 H4 ok3 (nilInts w4)
  rw [k7, k8, k9] at V4
  clear T3
  go_wp2_with fail
  refine V4.mono ?_
  rintro e w5 ⟨rfl, b5⟩
  have BB := (B1.trans (((t2.trans t3).trans t4).to_below (by omega) (by omega) (by omega) s1)).trans (b5.mono (by have := ((t2.trans t3).trans t4).size; omega))
  clear V4 H1 H2 H3 H4 t2 t3 t4 b5
  go_wp2
  go_ret
  exact ⟨rfl, BB⟩
end Go.Proofs.Ytkbkilkmiigahaa.Cx
