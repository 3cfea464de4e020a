/-
  Contracts and plain facts: WDocA, WDocB, WDocC. Conditions: each says its own.
-/
import Derived.Test.YtnbdoemnepfhdaaGreatR35
import Derived.Test.YtnbdoemnepfhdaaGreatR36
import Derived.Test.YtnbdoemnepfhdaaGreatR39
import Derived.Test.YtnbdoemnepfhdaaGreatR41
namespace Go.Proofs.YtnbdoemnepfhdaaGreat.Sw
open Fld Ts
open Frm (OwnI IsD manyE manyI manyT lst)
open Go.ChangeShapes Go.WideShapes Go.ChangeAt Go.RowKit Go.Shelf
set_option maxHeartbeats 2000000
set_option maxRecDepth 100000
theorem rframes_any (s g : Int) (w : World) :
    Calls Tryz.prog 15 #[.int .i64 s, .int .i64 g] w fun e w' => e = .returned (.int .i64 (frI s g)) ∧ Below w.heap.size w w' := by
  have CP := Lib.hid (fun W => rplaces_any s g W)
  have hb := places_nn s g
  obtain ⟨p, hp⟩ : ∃ p : Nat, placesI s g = p := ⟨(placesI s g).toNat, by omega⟩
  have hk := fr_bd s g
  obtain ⟨k, hk'⟩ : ∃ k : Nat, frI s g = k := ⟨(frI s g).toNat, by omega⟩
  rw [hk', hp] at hk
  rw [hp] at CP hb
  have HK := Lib.hid hk'
  clear hp hk'
  go_enter Tryz.func15, Tryz.ntmps15
  go_wp2_with fail
  refine (CP.out _).mono ?_; rintro e w1 ⟨rfl, b1⟩
  clear CP
  go_wp2_with fail
  go_loopw [5, 6] (fun n i wr => ∃ j : Nat, n = .int .i64 (16 * (p : Int) - 8192 * (j : Int)) ∧ i = .int .i64 (j : Int) ∧ j ≤ k ∧ Below w.heap.size w wr) (fun _ i _ => k - (intOf i).toNat)
  case atStart => exact ⟨0, by go_num, rfl, Nat.zero_le _, b1⟩
  case round =>
    clear b1
    obtain ⟨j, rfl, rfl, hj, hb1⟩ := hrel
    by_cases hlt : j < k
    · have h1 : 16 * (p : Int) - 8192 * (j : Int) > 0 := by omega
      go_wp2_with fail
      go_roundw
      case rel => exact ⟨j + 1, by go_num, by go_num, by omega, hb1⟩
      case measure => simp [intOf]; omega
    · obtain rfl : k = j := by omega
      have h1 : ¬ (16 * (p : Int) - 8192 * (k : Int) > 0) := by omega
      go_wp2_with fail
      go_ret
      exact ⟨ret_i HK.out.symm, hb1⟩
/-- Boxes that a call has laid since a world W. -/
structure BXs (W w : World) (L : List Bx) : Prop where
  bel : Below W.heap.size W w
  rows : ∀ q ∈ L, w.heap[q.1]? = some (.cells q.2.1 q.2.2 (0, 0)) ∧ W.heap.size ≤ q.1
  nd : (L.map (·.1)).Nodup
theorem BXs.start (w : World) : BXs w w [] := ⟨Below.refl _ _, by simp, by simp⟩
theorem BXs.low {W w w' : World} {L : List Bx} (h : BXs W w L) (hb : Below w.heap.size w w') : BXs W w' L :=
  ⟨h.bel.trans (hb.mono h.bel.size), fun q hq => ⟨(hb.block _ (Array.getElem?_eq_some_iff.1 (h.rows q hq).1).1).trans (h.rows q hq).1, (h.rows q hq).2⟩, h.nd⟩
theorem BXs.drewN {W w : World} {L : List Bx} (h : BXs W w L) (n : Nat) : BXs W (w.drewN n) L := h.low (drewN_low w n)
theorem BXs.drew {W w : World} {L : List Bx} (h : BXs W w L) : BXs W w.drew L := h.drewN 1
theorem BXs.alloc {W w : World} {L : List Bx} (h : BXs W w L) (o : Obj) : BXs W (w.alloc o) L := h.low ((Below.refl _ _).alloc (Nat.le_refl _) _)
theorem BXs.lt {W w : World} {L : List Bx} (h : BXs W w L) (q : Bx) (hq : q ∈ L) : q.1 < w.heap.size := (Array.getElem?_eq_some_iff.1 (h.rows q hq).1).1
theorem BXs.push {W w : World} {L : List Bx} (h : BXs W w L) (c : Array Value) (t : TypeId) : BXs W (w.alloc (.cells c t)) ((w.heap.size, c, t) :: L) :=
  ⟨(h.alloc _).bel, fun q hq => by
    rcases List.mem_cons.1 hq with rfl | e
    · exact ⟨World.alloc_heap_new _ _, h.bel.size⟩
    · exact (h.alloc _).rows q e, by
    rw [List.map_cons, List.nodup_cons]
    refine ⟨fun hm => ?_, h.nd⟩
    obtain ⟨q, hq, e⟩ := List.mem_map.1 hm
    have := h.lt q hq
    have e' : q.1 = w.heap.size := e
    omega⟩
theorem BXs.tl {W w : World} {q : Bx} {L : List Bx} (h : BXs W w (q :: L)) : BXs W w L := ⟨h.bel, fun x hx => h.rows x (List.mem_cons_of_mem _ hx), (List.nodup_cons.1 h.nd).2⟩
theorem BXs.put {W w : World} {b : Nat} {c : Array Value} {t : TypeId} {A B : List Bx} (h : BXs W w (A ++ (b, c, t) :: B)) (o : Nat) (u : Value) : BXs W (w.setCell ⟨b, o, none⟩ u) (A ++ (b, c.setIfInBounds o u, t) :: B) := by
  obtain ⟨h1, h2⟩ := h.rows (b, c, t) (by simp)
  have hn : ∀ q ∈ A ++ B, q.1 ≠ b := fun q hq e => by
    have nd := h.nd
    rw [List.map_append, List.map_cons, List.nodup_append] at nd
    obtain ⟨_, n2, n3⟩ := nd
    rcases List.mem_append.1 hq with m | m
    · exact n3 q.1 (List.mem_map_of_mem m) b (by simp) e
    · exact (List.nodup_cons.1 n2).1 (by rw [← e]; exact List.mem_map_of_mem (f := (·.1)) m)
  refine ⟨h.bel.setCell h2 _, fun q hq => ?_, by have := h.nd; simpa using this⟩
  have hq' : q = (b, c.setIfInBounds o u, t) ∨ q ∈ A ++ B := by
    rcases List.mem_append.1 hq with e | e
    · exact .inr (by simp [e])
    · rcases List.mem_cons.1 e with e | e
      · exact .inl e
      · exact .inr (by simp [e])
  rcases hq' with rfl | e
  · exact ⟨Mem.heap_set h1 u, h2⟩
  · have hm : q ∈ A ++ (b, c, t) :: B := by
      rcases List.mem_append.1 e with e | e <;> simp [e]
    exact ⟨(Below.heap_setCell _ _ _ _ (by show q.1 ≠ b; exact hn q e)).trans (h.rows q hm).1, (h.rows q hm).2⟩
theorem BXs.at {W w : World} {b : Nat} {c : Array Value} {t : TypeId} {L : List Bx} (h : BXs W w L) (hq : (b, c, t) ∈ L) : w.heap[b]? = some (.cells c t (0, 0)) := (h.rows _ hq).1
theorem BXs.h0 {W w : World} {b : Nat} {c : Array Value} {t : TypeId} {L : List Bx} (h : BXs W w ((b, c, t) :: L)) : w.heap[b]? = some (.cells c t (0, 0)) := h.at (by simp)
theorem BXs.h1 {W w : World} {b : Nat} {c : Array Value} {t : TypeId} {q0 : Bx} {L : List Bx} (h : BXs W w (q0 :: (b, c, t) :: L)) : w.heap[b]? = some (.cells c t (0, 0)) := h.at (by simp)
theorem BXs.h2 {W w : World} {b : Nat} {c : Array Value} {t : TypeId} {q0 q1 : Bx} {L : List Bx} (h : BXs W w (q0 :: q1 :: (b, c, t) :: L)) : w.heap[b]? = some (.cells c t (0, 0)) := h.at (by simp)
theorem BXs.h3 {W w : World} {b : Nat} {c : Array Value} {t : TypeId} {q0 q1 q2 : Bx} {L : List Bx} (h : BXs W w (q0 :: q1 :: q2 :: (b, c, t) :: L)) : w.heap[b]? = some (.cells c t (0, 0)) := h.at (by simp)
theorem BXs.h4 {W w : World} {b : Nat} {c : Array Value} {t : TypeId} {q0 q1 q2 q3 : Bx} {L : List Bx} (h : BXs W w (q0 :: q1 :: q2 :: q3 :: (b, c, t) :: L)) : w.heap[b]? = some (.cells c t (0, 0)) := h.at (by simp)
theorem BXs.h5 {W w : World} {b : Nat} {c : Array Value} {t : TypeId} {q0 q1 q2 q3 q4 : Bx} {L : List Bx} (h : BXs W w (q0 :: q1 :: q2 :: q3 :: q4 :: (b, c, t) :: L)) : w.heap[b]? = some (.cells c t (0, 0)) := h.at (by simp)
theorem BXs.h6 {W w : World} {b : Nat} {c : Array Value} {t : TypeId} {q0 q1 q2 q3 q4 q5 : Bx} {L : List Bx} (h : BXs W w (q0 :: q1 :: q2 :: q3 :: q4 :: q5 :: (b, c, t) :: L)) : w.heap[b]? = some (.cells c t (0, 0)) := h.at (by simp)
theorem BXs.h7 {W w : World} {b : Nat} {c : Array Value} {t : TypeId} {q0 q1 q2 q3 q4 q5 q6 : Bx} {L : List Bx} (h : BXs W w (q0 :: q1 :: q2 :: q3 :: q4 :: q5 :: q6 :: (b, c, t) :: L)) : w.heap[b]? = some (.cells c t (0, 0)) := h.at (by simp)
/-- The value and the cells of a TSB of the document's. -/
abbrev sC (s n : Int) (v : Value) (f g : Int) : Array Value := #[.int .i64 s, .int .i64 n, v, .int .i64 f, .int .i64 g]
theorem cell2 {w : World} {b : Nat} {x y : Value} {t : TypeId} (h : w.heap[b]? = some (.cells #[x, y] t (0, 0))) : w.cell? ⟨b, 0, none⟩ = some x ∧ w.cell? ⟨b, 1, none⟩ = some y := ⟨cell_row 0 h rfl, cell_row 1 h rfl⟩
theorem cell5 {w : World} {b : Nat} {x y z u v : Value} {t : TypeId} (h : w.heap[b]? = some (.cells #[x, y, z, u, v] t (0, 0))) : w.cell? ⟨b, 0, none⟩ = some x ∧ w.cell? ⟨b, 1, none⟩ = some y ∧ w.cell? ⟨b, 2, none⟩ = some z ∧ w.cell? ⟨b, 3, none⟩ = some u ∧ w.cell? ⟨b, 4, none⟩ = some v := ⟨cell_row 0 h rfl, cell_row 1 h rfl, cell_row 2 h rfl, cell_row 3 h rfl, cell_row 4 h rfl⟩
theorem froz {w : World} {b : Nat} {c : Array Value} {t : TypeId} (h : w.heap[b]? = some (.cells c t (0, 0))) (i : Nat) : w.frozen? ⟨b, i, none⟩ = false := by simp only [World.frozen?, h]; rfl
/-- The boxes of Make: what came in, the two results. -/
abbrev mkB (w : World) (N : Nat) (v : Value) : List Bx := [(w.heap.size + 1 + 1, sC 0 0 (.slice none 0 0) 0 0, 70), (w.heap.size + 1, #[.int .i64 0, .slice none 0 0], 43), (w.heap.size, #[.int .i64 (N : Int), v], 43)]
theorem mkB_new (w : World) (N : Nat) (v : Value) : BXs w (((w.alloc (.cells #[.int .i64 (N : Int), v] 43)).alloc (.cells #[.int .i64 0, .slice none 0 0] 43)).alloc (.cells #[.int .i64 0, .int .i64 0, .slice none 0 0, .int .i64 0, .int .i64 0] 70)) (mkB w N v) := by
  have h := (((BXs.start w).push #[.int .i64 (N : Int), v] 43).push #[.int .i64 0, .slice none 0 0] 43).push (sC 0 0 (.slice none 0 0) 0 0) 70
  simp only [World.size_alloc] at h
  exact h
/-- Boxes of two and of five cells, filled. -/
theorem BXs.put2 {W w : World} {b : Nat} {x y a c : Value} {t : TypeId} {A B : List Bx} (h : BXs W w (A ++ (b, #[x, y], t) :: B)) : BXs W ((w.setCell ⟨b, 0, none⟩ a).setCell ⟨b, 1, none⟩ c) (A ++ (b, #[a, c], t) :: B) := (h.put 0 a).put 1 c
theorem BXs.put5 {W w : World} {b : Nat} {x0 x1 x2 x3 x4 c0 c1 c2 c3 c4 : Value} {t : TypeId} {A B : List Bx} (h : BXs W w (A ++ (b, #[x0, x1, x2, x3, x4], t) :: B)) : BXs W (((((w.setCell ⟨b, 0, none⟩ c0).setCell ⟨b, 1, none⟩ c1).setCell ⟨b, 2, none⟩ c2).setCell ⟨b, 3, none⟩ c3).setCell ⟨b, 4, none⟩ c4) (A ++ (b, #[c0, c1, c2, c3, c4], t) :: B) := ((((h.put 0 c0).put 1 c1).put 2 c2).put 3 c3).put 4 c4
theorem BXs.p2_3 {W w : World} {b : Nat} {x0 x1 c0 c1 : Value} {t : TypeId} {q0 q1 q2 : Bx} {B : List Bx} (h : BXs W w (q0 :: q1 :: q2 :: (b, #[x0, x1], t) :: B)) : BXs W ((w.setCell ⟨b, 0, none⟩ c0).setCell ⟨b, 1, none⟩ c1) (q0 :: q1 :: q2 :: (b, #[c0, c1], t) :: B) := BXs.put2 (A := [q0, q1, q2]) h
theorem BXs.p2_4 {W w : World} {b : Nat} {x0 x1 c0 c1 : Value} {t : TypeId} {q0 q1 q2 q3 : Bx} {B : List Bx} (h : BXs W w (q0 :: q1 :: q2 :: q3 :: (b, #[x0, x1], t) :: B)) : BXs W ((w.setCell ⟨b, 0, none⟩ c0).setCell ⟨b, 1, none⟩ c1) (q0 :: q1 :: q2 :: q3 :: (b, #[c0, c1], t) :: B) := BXs.put2 (A := [q0, q1, q2, q3]) h
theorem BXs.p5_2 {W w : World} {b : Nat} {x0 x1 x2 x3 x4 c0 c1 c2 c3 c4 : Value} {t : TypeId} {q0 q1 : Bx} {B : List Bx} (h : BXs W w (q0 :: q1 :: (b, #[x0, x1, x2, x3, x4], t) :: B)) : BXs W (((((w.setCell ⟨b, 0, none⟩ c0).setCell ⟨b, 1, none⟩ c1).setCell ⟨b, 2, none⟩ c2).setCell ⟨b, 3, none⟩ c3).setCell ⟨b, 4, none⟩ c4) (q0 :: q1 :: (b, #[c0, c1, c2, c3, c4], t) :: B) := BXs.put5 (A := [q0, q1]) h
theorem BXs.p5_3 {W w : World} {b : Nat} {x0 x1 x2 x3 x4 c0 c1 c2 c3 c4 : Value} {t : TypeId} {q0 q1 q2 : Bx} {B : List Bx} (h : BXs W w (q0 :: q1 :: q2 :: (b, #[x0, x1, x2, x3, x4], t) :: B)) : BXs W (((((w.setCell ⟨b, 0, none⟩ c0).setCell ⟨b, 1, none⟩ c1).setCell ⟨b, 2, none⟩ c2).setCell ⟨b, 3, none⟩ c3).setCell ⟨b, 4, none⟩ c4) (q0 :: q1 :: q2 :: (b, #[c0, c1, c2, c3, c4], t) :: B) := BXs.put5 (A := [q0, q1, q2]) h
theorem BXs.p53_1 {W w : World} {b : Nat} {x0 x1 x2 x3 x4 c0 c1 c2 : Value} {t : TypeId} {q0 : Bx} {B : List Bx} (h : BXs W w (q0 :: (b, #[x0, x1, x2, x3, x4], t) :: B)) : BXs W (((w.setCell ⟨b, 0, none⟩ c0).setCell ⟨b, 1, none⟩ c1).setCell ⟨b, 2, none⟩ c2) (q0 :: (b, #[c0, c1, c2, x3, x4], t) :: B) := ((BXs.put (A := [q0]) h 0 c0).put 1 c1).put 2 c2
/-- The results' boxes, filled. -/
theorem BXs.fill {w wr : World} {N : Nat} {v a b : Value} {M : List Bx} (h : BXs w wr (M ++ mkB w N v)) (c0 c1 c2 c3 c4 : Value) :
    BXs w (((((((wr.setCell ⟨w.heap.size + 1, 0, none⟩ a).setCell ⟨w.heap.size + 1, 1, none⟩ b).setCell ⟨w.heap.size + 1 + 1, 0, none⟩ c0).setCell ⟨w.heap.size + 1 + 1, 1, none⟩ c1).setCell ⟨w.heap.size + 1 + 1, 2, none⟩ c2).setCell ⟨w.heap.size + 1 + 1, 3, none⟩ c3).setCell ⟨w.heap.size + 1 + 1, 4, none⟩ c4) (M ++ [(w.heap.size + 1 + 1, #[c0, c1, c2, c3, c4], 70), (w.heap.size + 1, #[a, b], 43), (w.heap.size, #[.int .i64 (N : Int), v], 43)]) := by
  have e : ∀ (q : Bx) (L : List Bx), M ++ q :: L = (M ++ [q]) ++ L := fun q L => by simp
  have h' : BXs w wr ((M ++ [(w.heap.size + 1 + 1, sC 0 0 (.slice none 0 0) 0 0, 70)]) ++ (w.heap.size + 1, #[.int .i64 0, .slice none 0 0], 43) :: [(w.heap.size, #[.int .i64 (N : Int), v], 43)]) := by rw [← e]; exact h
  have h2 := h'.put2 (a := a) (c := b)
  rw [← e] at h2
  exact h2.put5
theorem own_keep {wr w' : World} {B cap : Nat} {ao : Option Addr} {Q : List Int} (ho : OwnI wr B ao cap Q) (hs : ∀ (g : Nat) (cur : Array Value), wr.heap[g]? = some (.cells cur 3 (0, 0)) → w'.heap[g]? = wr.heap[g]?) : OwnI w' B ao cap Q := by
  refine ⟨ho.1, ?_⟩
  rcases ho.2 with hn | ⟨g, cap', cur, hv, hb2, hg, rest⟩
  · exact .inl hn
  · exact .inr ⟨g, cap', cur, hv, hb2, (hs g cur hg).trans hg, rest⟩
theorem own_put {wr : World} {B cap b : Nat} {ao : Option Addr} {Q : List Int} {c : Array Value} {t : TypeId} (ho : OwnI wr B ao cap Q) (hb : wr.heap[b]? = some (.cells c t (0, 0))) (ht : t ≠ 3) (o : Nat) (u : Value) : OwnI (wr.setCell ⟨b, o, none⟩ u) B ao cap Q :=
  own_keep ho fun g cur hg => Below.heap_setCell _ _ _ _ (by
    show g ≠ b
    rintro rfl
    rw [hb] at hg
    simp only [Option.some.injEq, Obj.cells.injEq] at hg
    exact ht hg.2.1)
theorem own_put2 {wr : World} {B cap b : Nat} {ao : Option Addr} {Q : List Int} {x y : Value} {t : TypeId} (ho : OwnI wr B ao cap Q) (hb : wr.heap[b]? = some (.cells #[x, y] t (0, 0))) (ht : t ≠ 3) (a c : Value) : OwnI ((wr.setCell ⟨b, 0, none⟩ a).setCell ⟨b, 1, none⟩ c) B ao cap Q :=
  own_put (own_put ho hb ht 0 a) (Mem.heap_set hb a) ht 1 c
theorem own_fill {w wr : World} {N B cap : Nat} {v a b : Value} {M : List Bx} {ao : Option Addr} {Q : List Int} (ho : OwnI wr B ao cap Q) (h : BXs w wr (M ++ mkB w N v)) (c0 c1 c2 c3 c4 : Value) :
    OwnI (((((((wr.setCell ⟨w.heap.size + 1, 0, none⟩ a).setCell ⟨w.heap.size + 1, 1, none⟩ b).setCell ⟨w.heap.size + 1 + 1, 0, none⟩ c0).setCell ⟨w.heap.size + 1 + 1, 1, none⟩ c1).setCell ⟨w.heap.size + 1 + 1, 2, none⟩ c2).setCell ⟨w.heap.size + 1 + 1, 3, none⟩ c3).setCell ⟨w.heap.size + 1 + 1, 4, none⟩ c4) B ao cap Q := by
  have k1 : wr.heap[w.heap.size + 1]? = some (.cells #[.int .i64 0, .slice none 0 0] 43 (0, 0)) := h.at (by simp)
  have k2 : wr.heap[w.heap.size + 1 + 1]? = some (.cells (sC 0 0 (.slice none 0 0) 0 0) 70 (0, 0)) := h.at (by simp)
  have n : w.heap.size + 1 + 1 ≠ w.heap.size + 1 := by omega
  have e0 := own_put ho k1 (by decide) 0 a
  have e1 := own_put e0 (Mem.heap_set k1 a) (by decide) 1 b
  have k3 : ((wr.setCell ⟨w.heap.size + 1, 0, none⟩ a).setCell ⟨w.heap.size + 1, 1, none⟩ b).heap[w.heap.size + 1 + 1]? = _ := ((Below.heap_setCell _ _ _ _ (by show w.heap.size + 1 + 1 ≠ w.heap.size + 1; exact n)).trans (Below.heap_setCell _ _ _ _ (by show w.heap.size + 1 + 1 ≠ w.heap.size + 1; exact n))).trans k2
  have e2 := own_put e1 k3 (by decide) 0 c0
  have k4 := Mem.heap_set (o := 0) k3 c0
  have e3 := own_put e2 k4 (by decide) 1 c1
  have k5 := Mem.heap_set (o := 1) k4 c1
  have e4 := own_put e3 k5 (by decide) 2 c2
  have k6 := Mem.heap_set (o := 2) k5 c2
  have e5 := own_put e4 k6 (by decide) 3 c3
  exact own_put e5 (Mem.heap_set (o := 3) k6 c3) (by decide) 4 c4
end Go.Proofs.YtnbdoemnepfhdaaGreat.Sw

namespace Go.Proofs.YtnbdoemnepfhdaaGreat.Sw
open Fld Ts
open Frm (OwnI IsD manyE manyI manyT lst)
open Go.ChangeShapes Go.WideShapes Go.ChangeAt Go.RowKit Go.Shelf
set_option maxHeartbeats 4000000
set_option maxRecDepth 100000
theorem rmake_no (N B cap : Nat) (ao : Option Addr) (T : Nat → Bool) (s g : Int) (w : World) (h : OwnI w B ao cap (lst T N)) (hB : B ≤ w.heap.size) (hN : N ≤ 65536) (he : manyE T N (frI s g) ≠ 0) :
    Calls Tryz.prog 41 #[.agg #[.int .i64 (N : Int), .slice ao (lst T N).length cap], .int .i64 s, .int .i64 g] w fun e w' => e = .returned (.tuple #[.agg #[.int .i64 (N : Int), .slice ao (lst T N).length cap], .agg (sC 0 0 (.slice none 0 0) 0 0), .int .i64 (manyE T N (frI s g))]) ∧ OwnI w' B ao cap (lst T N) ∧ Below w.heap.size w w' := by
  have X0 := mkB_new w N (.slice ao (lst T N).length cap)
  have h0 := own_below h X0.bel
  have CF := Lib.hid (fun W => rframes_any s g W)
  have hk := fr_bd s g
  have hz := Lib.hid (show frI s g = 0 → manyE T N (frI s g) = 1 from fun e => by rw [e]; rfl)
  have CT := Lib.hid (fun (W : World) (hW : OwnI W B ao cap (lst T N)) (hB : B ≤ W.heap.size) => Frm.rmany_any N B cap ao T (frI s g) (by omega) W hW hB hN)
  rw [many_no he] at CT
  generalize lst T N = Q at *
  generalize manyI T N (frI s g) = I at *
  generalize manyE T N (frI s g) = E at *
  generalize frI s g = k at *
  go_enter Tryz.func41, Tryz.ntmps41
  go_wp2_with fail
  generalize World.alloc (World.alloc (World.alloc w _) _) _ = W0 at *
  refine (CF.out _).mono ?_; rintro e w1 ⟨rfl, b1⟩
  have X1 := X0.low b1
  have h1 := own_below h0 b1
  clear X0 h0 CF b1
  have r3 := X1.h2
  have r6 := X1.h1
  have r7 := X1.h0
  obtain ⟨c1, c2⟩ := cell2 r3
  have f6 := froz r6
  have f7 := froz r7
  obtain ⟨d1, d2⟩ := cell2 r6
  obtain ⟨e1, e2, e3, e4, e5⟩ := cell5 r7
  by_cases hk0 : k = 0
  · obtain rfl := hz.out hk0
    have hk0' : (k == 0) = true := by simpa using hk0
    clear CT hz hk0 hk he r3 r6 r7
    go_wp2_with fail
    have X2 := X1.fill (M := []) (a := .int .i64 (N : Int)) (b := .slice ao Q.length cap) (.int .i64 0) (.int .i64 0) (.slice none 0 0) (.int .i64 0) (.int .i64 0)
    have h2 := own_fill (M := []) h1 X1 (a := .int .i64 (N : Int)) (b := .slice ao Q.length cap) (.int .i64 0) (.int .i64 0) (.slice none 0 0) (.int .i64 0) (.int .i64 0)
    generalize World.setCell (World.setCell (World.setCell (World.setCell (World.setCell (World.setCell (World.setCell w1 _ _) _ _) _ _) _ _) _ _) _ _) _ _ = W2 at *
    obtain ⟨x1, x2⟩ := cell2 X2.h1
    obtain ⟨y1, y2, y3, y4, y5⟩ := cell5 X2.h0
    refine bodyPost_ret (v := .tuple #[.agg #[.int .i64 (N : Int), .slice ao Q.length cap], .agg (sC 0 0 (.slice none 0 0) 0 0), .int .i64 1]) (by simp [results, Tryz.results41, go_sem, x1, x2, y1, y2, y3, y4, y5]) rfl ⟨rfl, h2, X2.bel⟩
  · have hk0' : (k == 0) = false := by simpa using hk0
    have hE : (E != 0) = true := by simpa using he
    clear hz hk0 hk r3 r6 r7
    go_wp2_with fail
    refine (CT.out _ h1 (Nat.le_trans hB X1.bel.size)).mono ?_; rintro e w2 ⟨x, rfl, ⟨ao2, cap2, rfl, ho2⟩, b2⟩
    have X2 := X1.low b2
    have h2 := own_below h1 b2
    clear X1 h1 CT b2 c1 c2 d1 d2 e1 e2 e3 e4 e5 f6 f7
    have r3 := X2.h2
    have r6 := X2.h1
    have r7 := X2.h0
    obtain ⟨c1, c2⟩ := cell2 r3
    have f6 := froz r6
    have f7 := froz r7
    obtain ⟨d1, d2⟩ := cell2 r6
    obtain ⟨e1, e2, e3, e4, e5⟩ := cell5 r7
    have z0 := (Array.getElem?_eq_some_iff.1 r3).1
    have z1 := (Array.getElem?_eq_some_iff.1 r6).1
    have z2 := (Array.getElem?_eq_some_iff.1 r7).1
    clear r3 r6 r7 he
    go_wp2_with fail
    have X4 := (X2.fill (M := []) (a := .int .i64 (N : Int)) (b := .slice ao Q.length cap) (.int .i64 0) (.int .i64 0) (.slice none 0 0) (.int .i64 0) (.int .i64 0)).alloc (.cells #[.int .i64 (N : Int), .slice ao2 Q.length cap2] 43)
    have h4 := own_below (own_fill (M := []) h2 X2 (a := .int .i64 (N : Int)) (b := .slice ao Q.length cap) (.int .i64 0) (.int .i64 0) (.slice none 0 0) (.int .i64 0) (.int .i64 0)) ((Below.refl _ _).alloc (Nat.le_refl _) (.cells #[.int .i64 (N : Int), .slice ao2 Q.length cap2] 43))
    generalize World.alloc (World.setCell (World.setCell (World.setCell (World.setCell (World.setCell (World.setCell (World.setCell w2 _ _) _ _) _ _) _ _) _ _) _ _) _ _) _ = W2 at *
    obtain ⟨x1, x2⟩ := cell2 X4.h1
    obtain ⟨y1, y2, y3, y4, y5⟩ := cell5 X4.h0
    refine bodyPost_ret (v := .tuple #[.agg #[.int .i64 (N : Int), .slice ao Q.length cap], .agg (sC 0 0 (.slice none 0 0) 0 0), .int .i64 E]) (by simp [results, Tryz.results41, go_sem, x1, x2, y1, y2, y3, y4, y5]) rfl ⟨rfl, h4, X4.bel⟩
theorem rmake_yes (N B cap : Nat) (ao : Option Addr) (T : Nat → Bool) (s g : Int) (w : World) (h : OwnI w B ao cap (lst T N)) (hB : B ≤ w.heap.size) (hN : N ≤ 65536) (he : manyE T N (frI s g) = 0) :
    Calls Tryz.prog 41 #[.agg #[.int .i64 (N : Int), .slice ao (lst T N).length cap], .int .i64 s, .int .i64 g] w fun e w' => ∃ ao2 cap2, e = .returned (.tuple #[.agg #[.int .i64 (N : Int), .slice ao2 (lst (manyT T N (frI s g)) N).length cap2], .agg (sC s (placesI s g) (.slice none 0 0) (manyI T N (frI s g)) g), .int .i64 0]) ∧ OwnI w' B ao2 cap2 (lst (manyT T N (frI s g)) N) ∧ Below w.heap.size w w' := by
  have X0 := mkB_new w N (.slice ao (lst T N).length cap)
  have h0 := own_below h X0.bel
  have CF := Lib.hid (fun W => rframes_any s g W)
  have CN := Lib.hid (fun W => rtnew_any s g W)
  have hk := fr_bd s g
  have hkz : ¬ frI s g = 0 := fun e => by rw [e] at he; cases he
  have CT := Lib.hid (fun (W : World) (hW : OwnI W B ao cap (lst T N)) (hB : B ≤ W.heap.size) => Frm.rmany_any N B cap ao T (frI s g) (by omega) W hW hB hN)
  rw [he] at CT
  generalize lst T N = Q at *
  generalize lst (manyT T N (frI s g)) N = R at *
  generalize manyI T N (frI s g) = I at *
  generalize frI s g = k at *
  generalize placesI s g = pn at *
  have hk0' : (k == 0) = false := by simpa using hkz
  clear he hkz hk
  go_enter Tryz.func41, Tryz.ntmps41
  go_wp2_with fail
  generalize World.alloc (World.alloc (World.alloc w _) _) _ = W0 at *
  refine (CF.out _).mono ?_; rintro e w1 ⟨rfl, b1⟩
  have X1 := X0.low b1
  have h1 := own_below h0 b1
  clear X0 h0 CF b1
  obtain ⟨c1, c2⟩ := cell2 X1.h2
  go_wp2_with fail
  refine (CT.out _ h1 (Nat.le_trans hB X1.bel.size)).mono ?_; rintro e w2 ⟨x, rfl, ⟨ao2, cap2, rfl, ho2⟩, b2⟩
  have X2 := (X1.low b2).push #[.int .i64 (N : Int), .slice ao2 R.length cap2] 43
  have h2 := own_below ho2 ((Below.refl w2.heap.size w2).alloc (Nat.le_refl _) (.cells #[.int .i64 (N : Int), .slice ao2 R.length cap2] 43))
  clear X1 h1 CT b2 ho2 c1 c2
  go_upto_region 7 with fail
  have HX := Lib.hid X2
  generalize World.alloc w2 _ = W2 at *
  obtain ⟨g1, g2⟩ := cell2 HX.out.h0
  go_region_with ((go_at_call 68; (with_reducible refine (CN.out _).mono ?_); rintro r w' ⟨rfl, hb⟩; have XW := HX.out.drew.low hb; obtain ⟨g1, g2⟩ := cell2 XW.h0; have f6 := froz XW.h2; have f7 := froz XW.h1; obtain ⟨d1, d2⟩ := cell2 XW.h2; obtain ⟨e1, e2, e3, e4, e5⟩ := cell5 XW.h1))
  all_goals
    have hX := HX.out.h0
    have hh := own_below (own_below h2 (drewN_low W2 1)) hb
    go_wp2_with fail
    have X5 := BXs.fill (w := w) (N := N) (v := .slice ao Q.length cap) (M := [(w2.heap.size, #[.int .i64 (N : Int), .slice ao2 R.length cap2], 43)]) (a := .int .i64 (N : Int)) (b := .slice ao2 R.length cap2) XW (.int .i64 s) (.int .i64 pn) (.slice none 0 0) (.int .i64 I) (.int .i64 g)
    have h5 := own_fill (w := w) (N := N) (v := .slice ao Q.length cap) (M := [(w2.heap.size, #[.int .i64 (N : Int), .slice ao2 R.length cap2], 43)]) (a := .int .i64 (N : Int)) (b := .slice ao2 R.length cap2) hh XW (.int .i64 s) (.int .i64 pn) (.slice none 0 0) (.int .i64 I) (.int .i64 g)
    generalize World.setCell (World.setCell (World.setCell (World.setCell (World.setCell (World.setCell (World.setCell w' _ _) _ _) _ _) _ _) _ _) _ _) _ _ = W3 at *
    obtain ⟨x1, x2⟩ := cell2 X5.h2
    obtain ⟨y1, y2, y3, y4, y5⟩ := cell5 X5.h1
    refine bodyPost_ret (v := .tuple #[.agg #[.int .i64 (N : Int), .slice ao2 R.length cap2], .agg (sC s pn (.slice none 0 0) I g), .int .i64 0]) (by simp [results, Tryz.results41, go_sem, x1, x2, y1, y2, y3, y4, y5]) rfl ⟨_, _, rfl, h5, X5.bel⟩
end Go.Proofs.YtnbdoemnepfhdaaGreat.Sw

namespace Go.Proofs.YtnbdoemnepfhdaaGreat.Sw
open Fld Ts
open Frm (OwnI IsD manyE manyI manyT lst giveE giveT)
open Go.ChangeShapes Go.WideShapes Go.ChangeAt Go.RowKit Go.Shelf
set_option maxHeartbeats 4000000
set_option maxRecDepth 100000
/-- The boxes of Drop: what came in, the result. -/
abbrev dpB (w : World) (N : Nat) (v : Value) (s n : Int) (u : Value) (f g : Int) : List Bx := [(w.heap.size + 1 + 1, #[.int .i64 0, .slice none 0 0], 43), (w.heap.size + 1, sC s n u f g, 70), (w.heap.size, #[.int .i64 (N : Int), v], 43)]
theorem dpB_new (w : World) (N : Nat) (v : Value) (s n : Int) (u : Value) (f g : Int) : BXs w (((w.alloc (.cells #[.int .i64 (N : Int), v] 43)).alloc (.cells #[.int .i64 s, .int .i64 n, u, .int .i64 f, .int .i64 g] 70)).alloc (.cells #[.int .i64 0, .slice none 0 0] 43)) (dpB w N v s n u f g) := by
  have h := (((BXs.start w).push #[.int .i64 (N : Int), v] 43).push (sC s n u f g) 70).push #[.int .i64 0, .slice none 0 0] 43
  simp only [World.size_alloc] at h
  exact h
theorem rdrop_any (N B cap : Nat) (ao : Option Addr) (T : Nat → Bool) (s n f g : Int) (uo : Option Addr) (un uc : Nat) (f0 : -9223372036854775808 ≤ f) (f1 : f ≤ 9223372036854775807) (w : World) (h : OwnI w B ao cap (lst T N)) (hB : B ≤ w.heap.size) (hN : N ≤ 65536) :
    Calls Tryz.prog 29 #[.agg #[.int .i64 (N : Int), .slice ao (lst T N).length cap], .agg (sC s n (.slice uo un uc) f g)] w fun e w' => ∃ ao2 cap2, e = .returned (.agg #[.int .i64 (N : Int), .slice ao2 (lst (giveT T N f (frI s g)) N).length cap2]) ∧ OwnI w' B ao2 cap2 (lst (giveT T N f (frI s g)) N) ∧ Below w.heap.size w w' := by
  have X0 := dpB_new w N (.slice ao (lst T N).length cap) s n (.slice uo un uc) f g
  have h0 := own_below h X0.bel
  have CF := Lib.hid (fun W => rframes_any s g W)
  have hk := fr_bd s g
  have CT := Lib.hid (fun (W : World) (hW : OwnI W B ao cap (lst T N)) (hB : B ≤ W.heap.size) => Frm.rgive_any N B cap ao T f (frI s g) f0 f1 (by omega) (by omega) W hW hB hN)
  generalize lst T N = Q at *
  generalize lst (giveT T N f (frI s g)) N = R at *
  generalize giveE T N f (frI s g) = I at *
  generalize frI s g = k at *
  clear hk
  go_enter Tryz.func29, Tryz.ntmps29
  go_upto_region 1 with fail
  generalize World.alloc (World.alloc (World.alloc w _) _) _ = W0 at *
  have HX := Lib.hid X0
  have HH := Lib.hid h0
  clear X0 h0
  have X0 := Lib.hid HX.out.drew
  have H0 := Lib.hid (show OwnI W0.drew B ao cap Q from own_below HH.out (drewN_low W0 1))
  refine wp_region_held_drew (S := fun wS => BXs w wS (dpB w N (.slice ao Q.length cap) s n (.slice uo un uc) f g)) (by kernel_rfl) X0.out (fun hHeld => ?_)
  generalize W0.drew = V0 at X0 H0 hHeld ⊢
  clear HX HH
  refine wpAnyH_take (i := 0) (v := ?vt1) rfl (by kernel_rfl) (by kernel_rfl) (by kernel_rfl) (fun _ _ _ h => h) (Or.inl ⟨by rfl, ?ht1⟩) (by assumption) ?rt1
  case ht1 => (intro wS hSw; (try dsimp only at hSw); obtain ⟨c1, c2⟩ := cell2 hSw.h2; obtain ⟨d1, d2, d3, d4, d5⟩ := cell5 hSw.h1; (try clear hSw); go_simp <;> (with_reducible rfl))
  (try simp only [Act.put, List.setIfInBounds_toArray, List.set_cons_zero, List.set_cons_succ, List.getElem_toArray, List.getElem_cons_zero])
  refine wpAnyH_take (i := 1) (v := ?vt2) rfl (by kernel_rfl) (by kernel_rfl) (by kernel_rfl) (fun _ _ _ h => h) (Or.inl ⟨by rfl, ?ht2⟩) (by assumption) ?rt2
  case ht2 => (intro wS hSw; (try dsimp only at hSw); (try clear hSw); go_simp <;> (with_reducible rfl))
  (try simp only [Act.put, List.setIfInBounds_toArray, List.set_cons_zero, List.set_cons_succ, List.getElem_toArray, List.getElem_cons_zero, List.getElem_cons_succ])
  refine wpAnyH_take (i := 2) (v := ?vt3) rfl (by kernel_rfl) (by kernel_rfl) (by kernel_rfl) (fun _ _ _ h => h) (Or.inl ⟨by rfl, ?ht3⟩) (by assumption) ?rt3
  case ht3 => (intro wS hSw; (try dsimp only at hSw); obtain ⟨c1, c2⟩ := cell2 hSw.h2; obtain ⟨d1, d2, d3, d4, d5⟩ := cell5 hSw.h1; (try clear hSw); go_simp <;> (with_reducible rfl))
  (try simp only [Act.put, List.setIfInBounds_toArray, List.set_cons_zero, List.set_cons_succ, List.getElem_toArray, List.getElem_cons_zero, List.getElem_cons_succ])
  refine wpAnyH_take (i := 3) (v := ?vt4) rfl (by kernel_rfl) (by kernel_rfl) (by kernel_rfl) (fun _ _ _ h => h) (Or.inl ⟨by rfl, ?ht4⟩) (by assumption) ?rt4
  case ht4 => (intro wS hSw; (try dsimp only at hSw); (try clear hSw); go_simp <;> (with_reducible rfl))
  (try simp only [Act.put, List.setIfInBounds_toArray, List.set_cons_zero, List.set_cons_succ, List.getElem_toArray, List.getElem_cons_zero, List.getElem_cons_succ])
  refine wpAnyH_take (i := 4) (v := ?vt5) rfl (by kernel_rfl) (by kernel_rfl) (by kernel_rfl) (fun _ _ _ h => h) (Or.inl ⟨by rfl, ?ht5⟩) (by assumption) ?rt5
  case ht5 => (intro wS hSw; (try dsimp only at hSw); (try clear hSw); go_simp <;> (with_reducible rfl))
  (try simp only [Act.put, List.setIfInBounds_toArray, List.set_cons_zero, List.set_cons_succ, List.getElem_toArray, List.getElem_cons_zero, List.getElem_cons_succ])
  refine wpAnyH_take (i := 5) (v := ?vt6) rfl (by kernel_rfl) (by kernel_rfl) (by kernel_rfl) (fun _ _ _ h => h) (Or.inl ⟨by rfl, ?ht6⟩) (by assumption) ?rt6
  case ht6 => (intro wS hSw; (try dsimp only at hSw); obtain ⟨c1, c2⟩ := cell2 hSw.h2; obtain ⟨d1, d2, d3, d4, d5⟩ := cell5 hSw.h1; (try clear hSw); go_simp <;> (with_reducible rfl))
  (try simp only [Act.put, List.setIfInBounds_toArray, List.set_cons_zero, List.set_cons_succ, List.getElem_toArray, List.getElem_cons_zero, List.getElem_cons_succ])
  refine wpAnyH_take (i := 6) (v := ?vt7) rfl (by kernel_rfl) (by kernel_rfl) (by kernel_rfl) (fun _ _ _ h => h) (Or.inl ⟨by rfl, ?ht7⟩) (by assumption) ?rt7
  case ht7 => (intro wS hSw; (try dsimp only at hSw); (try clear hSw); go_simp <;> (with_reducible rfl))
  (try simp only [Act.put, List.setIfInBounds_toArray, List.set_cons_zero, List.set_cons_succ, List.getElem_toArray, List.getElem_cons_zero, List.getElem_cons_succ])
  refine wpAnyH_take (i := 7) (v := ?vt8) rfl (by kernel_rfl) (by kernel_rfl) (by kernel_rfl) (fun _ _ _ h => h) (Or.inl ⟨by rfl, ?ht8⟩) (by assumption) ?rt8
  case ht8 => (intro wS hSw; (try dsimp only at hSw); obtain ⟨c1, c2⟩ := cell2 hSw.h2; obtain ⟨d1, d2, d3, d4, d5⟩ := cell5 hSw.h1; (try clear hSw); go_simp <;> (with_reducible rfl))
  (try simp only [Act.put, List.setIfInBounds_toArray, List.set_cons_zero, List.set_cons_succ, List.getElem_toArray, List.getElem_cons_zero, List.getElem_cons_succ])
  refine wpAnyH_ready (rs := [8, 13]) (by kernel_rfl) (by simp) ?_
  refine AllReadyH.cons rfl (fun K hK => ?_) ?_
  · go_simp
    refine (CF.out _).mono ?_; rintro r V1 ⟨rfl, hb1⟩
    have X1 := Lib.hid (X0.out.low hb1)
    have H1 := Lib.hid (own_below H0.out hb1)
    clear hb1
    refine hK.out _ _ X1.out (fun hHeld => ?_)
    (try clear hK K)
    (try simp only [Act.put, List.setIfInBounds_toArray, List.set_cons_zero, List.set_cons_succ, List.getElem_toArray, List.getElem_cons_zero, List.getElem_cons_succ])
    refine wpAnyH_ready (rs := [9, 13]) (by kernel_rfl) (by simp) ?_
    refine AllReadyH.cons rfl (fun K hK => ?_) ?_
    · go_simp
      refine (CT.out _ H1.out (Nat.le_trans hB X1.out.bel.size)).mono ?_; rintro r V2 ⟨x, rfl, ⟨ao2, cap2, rfl, ho2⟩, hb2⟩
      have X2 := Lib.hid (X1.out.low hb2)
      have H2 := Lib.hid ho2
      clear hb2 ho2
      refine hK.out _ _ X2.out (fun hHeld => ?_)
      (try clear hK K)
      (try simp only [Act.put, List.setIfInBounds_toArray, List.set_cons_zero, List.set_cons_succ, List.getElem_toArray, List.getElem_cons_zero, List.getElem_cons_succ])
      refine wpAnyH_take (i := 10) (v := ?vt9) rfl (by kernel_rfl) (by kernel_rfl) (by kernel_rfl) (fun _ _ _ h => h) (Or.inl ⟨by rfl, ?ht9⟩) (by assumption) ?rt9
      case ht9 => (intro wS hSw; (try dsimp only at hSw); (try clear hSw); go_simp <;> (with_reducible rfl))
      (try simp only [Act.put, List.setIfInBounds_toArray, List.set_cons_zero, List.set_cons_succ, List.getElem_toArray, List.getElem_cons_zero, List.getElem_cons_succ])
      refine wpAnyH_take (i := 11) (v := ?vt10) rfl (by kernel_rfl) (by kernel_rfl) (by kernel_rfl) (fun _ _ _ h => h) (Or.inl ⟨by rfl, ?ht10⟩) (by assumption) ?rt10
      case ht10 => (intro wS hSw; (try dsimp only at hSw); (try clear hSw); go_simp <;> (with_reducible rfl))
      (try simp only [Act.put, List.setIfInBounds_toArray, List.set_cons_zero, List.set_cons_succ, List.getElem_toArray, List.getElem_cons_zero, List.getElem_cons_succ])
      refine wpAnyH_take (i := 12) (v := ?vt11) rfl (by kernel_rfl) (by kernel_rfl) (by kernel_rfl) (fun _ _ _ h => h) (Or.inl ⟨by rfl, ?ht11⟩) (by assumption) ?rt11
      case ht11 => (intro wS hSw; (try dsimp only at hSw); (try clear hSw); go_simp <;> (with_reducible rfl))
      (try simp only [Act.put, List.setIfInBounds_toArray, List.set_cons_zero, List.set_cons_succ, List.getElem_toArray, List.getElem_cons_zero, List.getElem_cons_succ])
      refine wpAnyH_ready (rs := [13]) (by kernel_rfl) (by simp) ?_
      refine AllReadyH.cons rfl (fun K hK => ?_) AllReadyH.nil
      go_simp
      have X3 := Lib.hid (X2.out.push #[.int .i64 0, .slice none 0 0] 43)
      have H3 := Lib.hid (own_below H2.out ((Below.refl _ _).alloc (Nat.le_refl _) (.cells #[.int .i64 0, .slice none 0 0] 43)))
      generalize V2.alloc (.cells #[.int .i64 0, .slice none 0 0] 43) = V3 at X3 H3 ⊢
      refine hK.out _ _ X3.out.tl (fun hHeld => ?_)
      (try clear hK K)
      (try simp only [Act.put, List.setIfInBounds_toArray, List.set_cons_zero, List.set_cons_succ, List.getElem_toArray, List.getElem_cons_zero, List.getElem_cons_succ])
      refine wpAnyH_ready (rs := [14]) (by kernel_rfl) (by simp) ?_
      refine AllReadyH.cons rfl (fun K hK => ?_) AllReadyH.nil
      have r9 := X3.out.h0
      have f9 := froz r9
      obtain ⟨n0, n1⟩ := cell2 r9
      go_simp
      have X4 := Lib.hid (BXs.put2 (A := []) X3.out (a := .int .i64 (N : Int)) (c := .slice ao2 R.length cap2))
      have H4 := Lib.hid (own_put2 H3.out r9 (by decide) (.int .i64 (N : Int)) (.slice ao2 R.length cap2))
      clear r9 f9 n0 n1
      generalize World.setCell (World.setCell V3 _ _) _ _ = V4 at X4 H4 ⊢
      refine hK.out _ _ X4.out.tl (fun hHeld => ?_)
      (try clear hK K)
      (try simp only [Act.put, List.setIfInBounds_toArray, List.set_cons_zero, List.set_cons_succ, List.getElem_toArray, List.getElem_cons_zero, List.getElem_cons_succ])
      refine wpAnyH_take (i := 15) (v := ?vt12) rfl (by kernel_rfl) (by kernel_rfl) (by kernel_rfl) (fun _ _ _ h => h) (Or.inl ⟨by rfl, ?ht12⟩) (by assumption) ?rt12
      case ht12 => (intro wS hSw; (try dsimp only at hSw); (try clear hSw); go_simp <;> (with_reducible rfl))
      (try simp only [Act.put, List.setIfInBounds_toArray, List.set_cons_zero, List.set_cons_succ, List.getElem_toArray, List.getElem_cons_zero, List.getElem_cons_succ])
      refine wpAnyH_done (by kernel_rfl) ?_ _
      clear hHeld
      have r0 := X4.out.h0
      have r1 := X4.out.h1
      have f1 := froz r1
      obtain ⟨n0, n1⟩ := cell2 r0
      obtain ⟨e1, e2⟩ := cell2 r1
      go_wp2_with fail
      have X9 := BXs.put2 (A := [(V2.heap.size, #[.int .i64 (N : Int), .slice ao2 R.length cap2], 43)]) X4.out (a := .int .i64 (N : Int)) (c := .slice ao2 R.length cap2)
      have h9 := own_put2 H4.out r1 (by decide) (.int .i64 (N : Int)) (.slice ao2 R.length cap2)
      generalize World.setCell (World.setCell V4 _ _) _ _ = V9 at X9 h9 ⊢
      obtain ⟨x1, x2⟩ := cell2 X9.h1
      refine bodyPost_ret (v := .agg #[.int .i64 (N : Int), .slice ao2 R.length cap2]) (by simp [results, Tryz.results29, go_sem, x1, x2]) rfl ⟨_, _, rfl, h9, X9.bel⟩
    refine AllReadyH.cons rfl (fun K hK => ?_) ?_
    · go_simp
      have X2 := Lib.hid (X1.out.push #[.int .i64 0, .slice none 0 0] 43)
      have H2 := Lib.hid (own_below H1.out ((Below.refl _ _).alloc (Nat.le_refl _) (.cells #[.int .i64 0, .slice none 0 0] 43)))
      generalize V1.alloc (.cells #[.int .i64 0, .slice none 0 0] 43) = V2 at X2 H2 ⊢
      refine hK.out _ _ X2.out.tl (fun hHeld => ?_)
      (try clear hK K)
      (try simp only [Act.put, List.setIfInBounds_toArray, List.set_cons_zero, List.set_cons_succ, List.getElem_toArray, List.getElem_cons_zero, List.getElem_cons_succ])
      refine wpAnyH_ready (rs := [9]) (by kernel_rfl) (by simp) ?_
      refine AllReadyH.cons rfl (fun K hK => ?_) AllReadyH.nil
      go_simp
      refine (CT.out _ H2.out (Nat.le_trans hB X2.out.bel.size)).mono ?_; rintro r V3 ⟨x, rfl, ⟨ao2, cap2, rfl, ho2⟩, hb3⟩
      have X3 := Lib.hid (X2.out.low hb3)
      have H3 := Lib.hid ho2
      clear hb3 ho2
      refine hK.out _ _ X3.out.tl (fun hHeld => ?_)
      (try clear hK K)
      (try simp only [Act.put, List.setIfInBounds_toArray, List.set_cons_zero, List.set_cons_succ, List.getElem_toArray, List.getElem_cons_zero, List.getElem_cons_succ])
      refine wpAnyH_take (i := 10) (v := ?vt13) rfl (by kernel_rfl) (by kernel_rfl) (by kernel_rfl) (fun _ _ _ h => h) (Or.inl ⟨by rfl, ?ht13⟩) (by assumption) ?rt13
      case ht13 => (intro wS hSw; (try dsimp only at hSw); (try clear hSw); go_simp <;> (with_reducible rfl))
      (try simp only [Act.put, List.setIfInBounds_toArray, List.set_cons_zero, List.set_cons_succ, List.getElem_toArray, List.getElem_cons_zero, List.getElem_cons_succ])
      refine wpAnyH_take (i := 11) (v := ?vt14) rfl (by kernel_rfl) (by kernel_rfl) (by kernel_rfl) (fun _ _ _ h => h) (Or.inl ⟨by rfl, ?ht14⟩) (by assumption) ?rt14
      case ht14 => (intro wS hSw; (try dsimp only at hSw); (try clear hSw); go_simp <;> (with_reducible rfl))
      (try simp only [Act.put, List.setIfInBounds_toArray, List.set_cons_zero, List.set_cons_succ, List.getElem_toArray, List.getElem_cons_zero, List.getElem_cons_succ])
      refine wpAnyH_take (i := 12) (v := ?vt15) rfl (by kernel_rfl) (by kernel_rfl) (by kernel_rfl) (fun _ _ _ h => h) (Or.inl ⟨by rfl, ?ht15⟩) (by assumption) ?rt15
      case ht15 => (intro wS hSw; (try dsimp only at hSw); (try clear hSw); go_simp <;> (with_reducible rfl))
      (try simp only [Act.put, List.setIfInBounds_toArray, List.set_cons_zero, List.set_cons_succ, List.getElem_toArray, List.getElem_cons_zero, List.getElem_cons_succ])
      refine wpAnyH_ready (rs := [14]) (by kernel_rfl) (by simp) ?_
      refine AllReadyH.cons rfl (fun K hK => ?_) AllReadyH.nil
      have r9 := X3.out.h0
      have f9 := froz r9
      obtain ⟨n0, n1⟩ := cell2 r9
      go_simp
      have X4 := Lib.hid (BXs.put2 (A := []) X3.out (a := .int .i64 (N : Int)) (c := .slice ao2 R.length cap2))
      have H4 := Lib.hid (own_put2 H3.out r9 (by decide) (.int .i64 (N : Int)) (.slice ao2 R.length cap2))
      clear r9 f9 n0 n1
      generalize World.setCell (World.setCell V3 _ _) _ _ = V4 at X4 H4 ⊢
      refine hK.out _ _ X4.out.tl (fun hHeld => ?_)
      (try clear hK K)
      (try simp only [Act.put, List.setIfInBounds_toArray, List.set_cons_zero, List.set_cons_succ, List.getElem_toArray, List.getElem_cons_zero, List.getElem_cons_succ])
      refine wpAnyH_take (i := 15) (v := ?vt16) rfl (by kernel_rfl) (by kernel_rfl) (by kernel_rfl) (fun _ _ _ h => h) (Or.inl ⟨by rfl, ?ht16⟩) (by assumption) ?rt16
      case ht16 => (intro wS hSw; (try dsimp only at hSw); (try clear hSw); go_simp <;> (with_reducible rfl))
      (try simp only [Act.put, List.setIfInBounds_toArray, List.set_cons_zero, List.set_cons_succ, List.getElem_toArray, List.getElem_cons_zero, List.getElem_cons_succ])
      refine wpAnyH_done (by kernel_rfl) ?_ _
      clear hHeld
      have r0 := X4.out.h0
      have r1 := X4.out.h1
      have f1 := froz r1
      obtain ⟨n0, n1⟩ := cell2 r0
      obtain ⟨e1, e2⟩ := cell2 r1
      go_wp2_with fail
      have X9 := BXs.put2 (A := [(V1.heap.size, #[.int .i64 (N : Int), .slice ao2 R.length cap2], 43)]) X4.out (a := .int .i64 (N : Int)) (c := .slice ao2 R.length cap2)
      have h9 := own_put2 H4.out r1 (by decide) (.int .i64 (N : Int)) (.slice ao2 R.length cap2)
      generalize World.setCell (World.setCell V4 _ _) _ _ = V9 at X9 h9 ⊢
      obtain ⟨x1, x2⟩ := cell2 X9.h1
      refine bodyPost_ret (v := .agg #[.int .i64 (N : Int), .slice ao2 R.length cap2]) (by simp [results, Tryz.results29, go_sem, x1, x2]) rfl ⟨_, _, rfl, h9, X9.bel⟩
    exact AllReadyH.nil
  refine AllReadyH.cons rfl (fun K hK => ?_) ?_
  · go_simp
    have X1 := Lib.hid (X0.out.push #[.int .i64 0, .slice none 0 0] 43)
    have H1 := Lib.hid (own_below H0.out ((Below.refl _ _).alloc (Nat.le_refl _) (.cells #[.int .i64 0, .slice none 0 0] 43)))
    generalize V0.alloc (.cells #[.int .i64 0, .slice none 0 0] 43) = V1 at X1 H1 ⊢
    refine hK.out _ _ X1.out.tl (fun hHeld => ?_)
    (try clear hK K)
    (try simp only [Act.put, List.setIfInBounds_toArray, List.set_cons_zero, List.set_cons_succ, List.getElem_toArray, List.getElem_cons_zero, List.getElem_cons_succ])
    refine wpAnyH_ready (rs := [8]) (by kernel_rfl) (by simp) ?_
    refine AllReadyH.cons rfl (fun K hK => ?_) AllReadyH.nil
    go_simp
    refine (CF.out _).mono ?_; rintro r V2 ⟨rfl, hb2⟩
    have X2 := Lib.hid (X1.out.low hb2)
    have H2 := Lib.hid (own_below H1.out hb2)
    clear hb2
    refine hK.out _ _ X2.out.tl (fun hHeld => ?_)
    (try clear hK K)
    (try simp only [Act.put, List.setIfInBounds_toArray, List.set_cons_zero, List.set_cons_succ, List.getElem_toArray, List.getElem_cons_zero, List.getElem_cons_succ])
    refine wpAnyH_ready (rs := [9]) (by kernel_rfl) (by simp) ?_
    refine AllReadyH.cons rfl (fun K hK => ?_) AllReadyH.nil
    go_simp
    refine (CT.out _ H2.out (Nat.le_trans hB X2.out.bel.size)).mono ?_; rintro r V3 ⟨x, rfl, ⟨ao2, cap2, rfl, ho2⟩, hb3⟩
    have X3 := Lib.hid (X2.out.low hb3)
    have H3 := Lib.hid ho2
    clear hb3 ho2
    refine hK.out _ _ X3.out.tl (fun hHeld => ?_)
    (try clear hK K)
    (try simp only [Act.put, List.setIfInBounds_toArray, List.set_cons_zero, List.set_cons_succ, List.getElem_toArray, List.getElem_cons_zero, List.getElem_cons_succ])
    refine wpAnyH_take (i := 10) (v := ?vt17) rfl (by kernel_rfl) (by kernel_rfl) (by kernel_rfl) (fun _ _ _ h => h) (Or.inl ⟨by rfl, ?ht17⟩) (by assumption) ?rt17
    case ht17 => (intro wS hSw; (try dsimp only at hSw); (try clear hSw); go_simp <;> (with_reducible rfl))
    (try simp only [Act.put, List.setIfInBounds_toArray, List.set_cons_zero, List.set_cons_succ, List.getElem_toArray, List.getElem_cons_zero, List.getElem_cons_succ])
    refine wpAnyH_take (i := 11) (v := ?vt18) rfl (by kernel_rfl) (by kernel_rfl) (by kernel_rfl) (fun _ _ _ h => h) (Or.inl ⟨by rfl, ?ht18⟩) (by assumption) ?rt18
    case ht18 => (intro wS hSw; (try dsimp only at hSw); (try clear hSw); go_simp <;> (with_reducible rfl))
    (try simp only [Act.put, List.setIfInBounds_toArray, List.set_cons_zero, List.set_cons_succ, List.getElem_toArray, List.getElem_cons_zero, List.getElem_cons_succ])
    refine wpAnyH_take (i := 12) (v := ?vt19) rfl (by kernel_rfl) (by kernel_rfl) (by kernel_rfl) (fun _ _ _ h => h) (Or.inl ⟨by rfl, ?ht19⟩) (by assumption) ?rt19
    case ht19 => (intro wS hSw; (try dsimp only at hSw); (try clear hSw); go_simp <;> (with_reducible rfl))
    (try simp only [Act.put, List.setIfInBounds_toArray, List.set_cons_zero, List.set_cons_succ, List.getElem_toArray, List.getElem_cons_zero, List.getElem_cons_succ])
    refine wpAnyH_ready (rs := [14]) (by kernel_rfl) (by simp) ?_
    refine AllReadyH.cons rfl (fun K hK => ?_) AllReadyH.nil
    have r9 := X3.out.h0
    have f9 := froz r9
    obtain ⟨n0, n1⟩ := cell2 r9
    go_simp
    have X4 := Lib.hid (BXs.put2 (A := []) X3.out (a := .int .i64 (N : Int)) (c := .slice ao2 R.length cap2))
    have H4 := Lib.hid (own_put2 H3.out r9 (by decide) (.int .i64 (N : Int)) (.slice ao2 R.length cap2))
    clear r9 f9 n0 n1
    generalize World.setCell (World.setCell V3 _ _) _ _ = V4 at X4 H4 ⊢
    refine hK.out _ _ X4.out.tl (fun hHeld => ?_)
    (try clear hK K)
    (try simp only [Act.put, List.setIfInBounds_toArray, List.set_cons_zero, List.set_cons_succ, List.getElem_toArray, List.getElem_cons_zero, List.getElem_cons_succ])
    refine wpAnyH_take (i := 15) (v := ?vt20) rfl (by kernel_rfl) (by kernel_rfl) (by kernel_rfl) (fun _ _ _ h => h) (Or.inl ⟨by rfl, ?ht20⟩) (by assumption) ?rt20
    case ht20 => (intro wS hSw; (try dsimp only at hSw); (try clear hSw); go_simp <;> (with_reducible rfl))
    (try simp only [Act.put, List.setIfInBounds_toArray, List.set_cons_zero, List.set_cons_succ, List.getElem_toArray, List.getElem_cons_zero, List.getElem_cons_succ])
    refine wpAnyH_done (by kernel_rfl) ?_ _
    clear hHeld
    have r0 := X4.out.h0
    have r1 := X4.out.h1
    have f1 := froz r1
    obtain ⟨n0, n1⟩ := cell2 r0
    obtain ⟨e1, e2⟩ := cell2 r1
    go_wp2_with fail
    have X9 := BXs.put2 (A := [(V0.heap.size, #[.int .i64 (N : Int), .slice ao2 R.length cap2], 43)]) X4.out (a := .int .i64 (N : Int)) (c := .slice ao2 R.length cap2)
    have h9 := own_put2 H4.out r1 (by decide) (.int .i64 (N : Int)) (.slice ao2 R.length cap2)
    generalize World.setCell (World.setCell V4 _ _) _ _ = V9 at X9 h9 ⊢
    obtain ⟨x1, x2⟩ := cell2 X9.h1
    refine bodyPost_ret (v := .agg #[.int .i64 (N : Int), .slice ao2 R.length cap2]) (by simp [results, Tryz.results29, go_sem, x1, x2]) rfl ⟨_, _, rfl, h9, X9.bel⟩
  exact AllReadyH.nil
end Go.Proofs.YtnbdoemnepfhdaaGreat.Sw

