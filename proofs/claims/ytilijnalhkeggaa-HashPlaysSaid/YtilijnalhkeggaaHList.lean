/-
  What is carried over the loops of the laws of layer 11: a table, a list of keys that the law made itself, a key in a box. Conditions: numbers are what Go's types hold.
-/
import Derived.Test.YtilijnalhkeggaaHResize
import Derived.Test.YtilijnalhkeggaaHInv
namespace Go.Proofs.Ytilijnalhkeggaa.Hs
open Fld
open Go.ChangeShapes Go.WideShapes Go.ChangeAt Go.RowKit Go.Maps
set_option maxHeartbeats 1000000
set_option maxRecDepth 100000
theorem infoKK : (Try.prog.info? 33).map (fun i => (i.zero, i.size, i.bytes)) = some (some (.agg #[.int .i64 0, .int .u64 0, .int .i64 0]), 3, 24) := by kernel_rfl
abbrev KeysAt (w : World) (B : Nat) (v : Value) (l : List Ky) : Prop := w.ownsRow B 33 3 v l.length (kyL l)
structure KL (w0 W : World) (sb n : Nat) (bl : Int) (L : Nat → List Bk) (v : Value) (own : List Ky) : Prop where
  ct : CT w0 W sb n bl L (fun k => v.ownBlock = some k)
  own : KeysAt W w0.heap.size v own
structure KB (w0 W : World) (sb n : Nat) (bl : Int) (L : Nat → List Bk) (v : Value) (own : List Ky) (gb : Nat) (g : Ky) : Prop where
  ct : CT w0 W sb n bl L (fun k => v.ownBlock = some k ∨ k = gb)
  own : KeysAt W w0.heap.size v own
  box : W.heap[gb]? = some (.cells #[.int .i64 g.sp, .int .u64 g.va, .int .i64 g.sz] 33 (0, 0))
section
variable {w0 w w' : World} {sb n gb : Nat} {bl : Int} {L : Nat → List Bk} {v : Value} {own : List Ky} {g : Ky}
theorem KL.start (h : CT w0 w sb n bl L (fun _ => False)) : KL w0 w sb n bl L (.slice none 0 0) [] := ⟨h.sub (fun k hk => by simp [Value.ownBlock] at hk), World.ownsRow_nil _ _ _ 3⟩
theorem KL.low (h : KL w0 w sb n bl L v own) (hb : Below w.heap.size w w') : KL w0 w' sb n bl L v own := ⟨h.ct.below hb, own_same h.own (fun g hg => hb.block g (h.own.lt g hg).2)⟩
theorem KL.drew (h : KL w0 w sb n bl L v own) : KL w0 w.drew sb n bl L v own := h.low (Below.refl _ w).drew
theorem KL.drewN (h : KL w0 w sb n bl L v own) (m : Nat) : KL w0 (w.drewN m) sb n bl L v own := h.low (below_drewN (Below.refl _ w) m)
theorem KL.alloc (h : KL w0 w sb n bl L v own) (o : Obj) : KL w0 (w.alloc o) sb n bl L v own := h.low ((Below.refl _ w).alloc (Nat.le_refl _) o)
theorem KB.low (h : KB w0 w sb n bl L v own gb g) (hb : Below w.heap.size w w') : KB w0 w' sb n bl L v own gb g := ⟨h.ct.below hb, own_same h.own (fun g hg => hb.block g (h.own.lt g hg).2), blk_low h.box hb⟩
theorem KB.drew (h : KB w0 w sb n bl L v own gb g) : KB w0 w.drew sb n bl L v own gb g := h.low (Below.refl _ w).drew
theorem KB.drewN (h : KB w0 w sb n bl L v own gb g) (m : Nat) : KB w0 (w.drewN m) sb n bl L v own gb g := h.low (below_drewN (Below.refl _ w) m)
theorem KB.alloc (h : KB w0 w sb n bl L v own gb g) (o : Obj) : KB w0 (w.alloc o) sb n bl L v own gb g := h.low ((Below.refl _ w).alloc (Nat.le_refl _) o)
theorem KB.kl (h : KB w0 w sb n bl L v own gb g) : KL w0 w sb n bl L v own := ⟨h.ct.sub (fun _ hk => .inl hk), h.own⟩
theorem KL.box (h : KL w0 w sb n bl L v own) (g : Ky) : KB w0 (w.alloc (.cells #[.int .i64 g.sp, .int .u64 g.va, .int .i64 g.sz] 33)) sb n bl L v own w.heap.size g :=
  ⟨h.ct.add ((Below.refl _ w).alloc (Nat.le_refl _) _) (fun k hk => hk.imp id (fun e => by rw [e]; exact ⟨Nat.le_refl _, by simp⟩)), (h.alloc _).own, heap_alloc_new w _⟩
theorem KB.cells (h : KB w0 w sb n bl L v own gb g) : w.cell? ⟨gb, 0, none⟩ = some (.int .i64 g.sp) ∧ w.cell? ⟨gb, 1, none⟩ = some (.int .u64 g.va) ∧ w.cell? ⟨gb, 2, none⟩ = some (.int .i64 g.sz) := key_cells h.box
theorem KB.turn {n' : Nat} {L' : Nat → List Bk} (h : KB w0 w sb n bl L v own gb g) (c : CT w0 w' sb n' bl L' (fun k => v.ownBlock = some k ∨ k = gb)) (k : Kept (fun k => v.ownBlock = some k ∨ k = gb) w w') : KB w0 w' sb n' bl L' v own gb g :=
  ⟨c, own_same h.own (fun q hq => k.1 q (.inl hq)), (k.1 gb (.inr rfl)).trans h.box⟩
theorem KL.turn {n' : Nat} {L' : Nat → List Bk} (h : KL w0 w sb n bl L v own) (c : CT w0 w' sb n' bl L' (fun k => v.ownBlock = some k)) (k : Kept (fun k => v.ownBlock = some k) w w') : KL w0 w' sb n' bl L' v own :=
  ⟨c, own_same h.own (fun q hq => k.1 q hq)⟩
theorem KB.put (h : KB w0 w sb n bl L v own gb g) (k : Ky) (hk : k.wf) (x : Int) :
    Calls Try.prog 20 #[.pointer (some ⟨sb, 0, none⟩), .agg #[.int .i64 k.sp, .int .u64 k.va, .int .i64 k.sz], .int .i64 x] w fun e w' => e = .returned (.int .i64 (putE bl n L k)) ∧ KB w0 w' sb n bl (putT bl n L k x) v own gb g :=
  (h.ct.put k hk x).mono fun _ _ ⟨a, b, c⟩ => ⟨a, h.turn b c⟩
theorem KL.set (h : KL w0 w sb n bl L v own) (k : Ky) (hk : k.wf) (x : Int) :
    Calls Try.prog 30 #[.pointer (some ⟨sb, 0, none⟩), .agg #[.int .i64 k.sp, .int .u64 k.va, .int .i64 k.sz], .int .i64 x] w fun e w' => e = .returned (.int .i64 (setE n L k)) ∧ KL w0 w' sb n bl (setT n L k x) v own :=
  (h.ct.set k hk x).mono fun _ _ ⟨a, b, c⟩ => ⟨a, h.turn b c⟩
theorem KL.cut (h : KL w0 w sb n bl L v own) (k : Ky) (hk : k.wf) :
    Calls Try.prog 29 #[.pointer (some ⟨sb, 0, none⟩), .agg #[.int .i64 k.sp, .int .u64 k.va, .int .i64 k.sz]] w fun e w' => e = .returned (.int .i64 (setE n L k)) ∧ KL w0 w' sb n bl (cutT n L k) v own :=
  (h.ct.cut k hk).mono fun _ _ ⟨a, b, c⟩ => ⟨a, h.turn b c⟩
theorem CT.resize {F : Nat → Prop} (h : CT w0 w sb n bl L F) (m : Nat) (hm : 1 ≤ m) (m1 : m ≤ 9223372036854775807) :
    Calls Try.prog 21 #[.pointer (some ⟨sb, 0, none⟩), .int .i64 (m : Int)] w fun e w' => e = .returned (.int .i64 0) ∧ CT w0 w' sb m bl (resT L n m) F ∧ Kept F w w' := by
  have hh := h
  obtain ⟨O, h1, h2, h3⟩ := h.tab
  refine (Hs.resize_yes m hm m1 w h1).mono ?_
  rintro e w' ⟨rfl, O', k1, k2, k3⟩
  exact ⟨rfl, CT.one hh h2 h3 k1 k2 k3⟩
theorem KL.resize (h : KL w0 w sb n bl L v own) (m : Nat) (hm : 1 ≤ m) (m1 : m ≤ 9223372036854775807) :
    Calls Try.prog 21 #[.pointer (some ⟨sb, 0, none⟩), .int .i64 (m : Int)] w fun e w' => e = .returned (.int .i64 0) ∧ KL w0 w' sb m bl (resT L n m) v own :=
  (h.ct.resize m hm m1).mono fun _ _ ⟨a, b, c⟩ => ⟨a, h.turn b c⟩
theorem CT.longest {F : Nat → Prop} (h : CT w0 w sb n bl L F) :
    Calls Try.prog 25 #[.pointer (some ⟨sb, 0, none⟩)] w fun e w' => e = .returned (.int .i64 (lngL L n : Int)) ∧ Below w.heap.size w w' := by
  obtain ⟨O, ⟨bm, V, h1, _⟩, _⟩ := h.tab
  exact Hs.longest_any w h1
theorem CT.all {F : Nat → Prop} (h : CT w0 w sb n bl L F) :
    Calls Try.prog 48 #[.pointer (some ⟨sb, 0, none⟩)] w fun e w' => ∃ xb v, e = .returned (.func (.func 61) #[] #[.pointer (some ⟨xb, 0, none⟩)]) ∧ w.heap.size ≤ xb ∧ ItAt w' w.heap.size xb v (allL L n) ∧ Below w.heap.size w w' := by
  obtain ⟨O, h1, _⟩ := h.tab
  exact Hs.all_any w h1
/-- The key in the box is appended. -/
theorem KB.append {v' : Value} {q cap : Nat} (h : KB w0 w sb n bl L v own gb g) (hv : v' = .slice (some ⟨q, 0, none⟩) (own.length + 1) cap) (hg : w.grownBy w' v.ownBlock) (ho : w'.ownsRow w0.heap.size 33 3 v' (own.length + 1) (kyL own ++ kyC g)) (hat : v.ownBlock = some q ∨ q = w.heap.size) : KL w0 w' sb n bl L v' (own ++ [g]) := by
  have hlt : ∀ k, v'.ownBlock = some k → k < w'.heap.size := fun k hk => (ho.lt k hk).2
  refine ⟨h.ct.grown hg (fun k hk => ⟨.inl hk, (h.own.lt k hk).1⟩) (fun k hk => ?_), ?_⟩
  · have h2 := hlt k hk
    rw [hv] at hk
    obtain rfl : q = k := by simpa [Value.ownBlock] using hk
    rcases hat with h1 | h1
    · exact .inl (.inl h1)
    · exact .inr ⟨by omega, h2⟩
  · unfold KeysAt; rw [List.length_append, kyL_append]; simpa [kyL] using ho
theorem kyL_get : ∀ (l : List Ky) (i : Nat) (k : Ky), l[i]? = some k → (kyL l)[i * 3]? = some (.int .i64 k.sp) ∧ (kyL l)[i * 3 + 1]? = some (.int .u64 k.va) ∧ (kyL l)[i * 3 + 2]? = some (.int .i64 k.sz)
  | [], i, k, h => by simp at h
  | b :: l, 0, k, h => by
    obtain rfl : b = k := by simpa using h
    exact ⟨rfl, rfl, rfl⟩
  | b :: l, i + 1, k, h => by
    have := kyL_get l i k (by simpa using h)
    have e : ∀ j, (kyL (b :: l))[(i + 1) * 3 + j]? = (kyL l)[i * 3 + j]? := fun j => by
      rw [show (i + 1) * 3 + j = (i * 3 + j) + 3 by omega]
      simp [kyL, kyC]
    exact ⟨(e 0).trans this.1, (e 1).trans this.2.1, (e 2).trans this.2.2⟩
theorem keys_cells {w : World} {B e : Nat} {v : Value} {l : List Ky} {q : Nat} (h : w.ownsRow B e 3 v l.length (kyL l)) (hg : v.ownBlock = some q) {i : Nat} {k : Ky} (hi : l[i]? = some k) : w.cell? ⟨q, i * 3, none⟩ = some (.int .i64 k.sp) ∧ w.cell? ⟨q, i * 3 + 1, none⟩ = some (.int .u64 k.va) ∧ w.cell? ⟨q, i * 3 + 2, none⟩ = some (.int .i64 k.sz) := by
  have hc := h.cells hg
  obtain ⟨a, b, c⟩ := kyL_get l i k hi
  have h1 := hc _ _ a; have h2 := hc _ _ b; have h3 := hc _ _ c
  rw [addr_lit, Nat.zero_add] at h1 h2 h3
  exact ⟨h1, h2, h3⟩
end
theorem new_ct (N : Nat) (h1 : 1 ≤ N) (h2 : N ≤ 1000000) (w : World) :
    Calls Try.prog 9 #[.int .i64 20, .int .i64 (N : Int)] w fun e w' => e = .returned (.pointer (some ⟨w.heap.size + 1, 0, none⟩)) ∧ CT w w' (w.heap.size + 1) N 20 (fun _ => []) (fun _ => False) := by
  refine (new_any 20 (N : Int) (by decide) (by decide) (by omega) (by omega) w).mono ?_
  rintro e w' ⟨rfl, h⟩
  have e1 : (max (N : Int) 1).toNat = N := by omega
  have e2 : max (20 : Int) 0 = 20 := by decide
  rw [e1, e2] at h
  exact ⟨rfl, CT.new h⟩
theorem cell_low {w w' : World} {b o : Nat} {v : Value} (h : w.cell? ⟨b, o, none⟩ = some v) (hb : Below w.heap.size w w') : w'.cell? ⟨b, o, none⟩ = some v := by
  have hl : b < w.heap.size := by
    rcases Nat.lt_or_ge b w.heap.size with h1 | h1
    · exact h1
    · simp [World.cell?, Array.getElem?_eq_none h1] at h
  exact (hb.cell (p := ⟨b, o, none⟩) hl).trans h
theorem ne_of_eq {t : TypeId} {xs ys : Array Value} {c : Bool} (h : ∀ w : World, (binOp .eql t (.agg xs) (.agg ys)).run Try.prog w = .ok (.bool c) w) (w : World) : (binOp .neq t (.agg xs) (.agg ys)).run Try.prog w = .ok (.bool (!c)) w := by
  have h1 := h w
  rw [run_eql_struct] at h1
  rw [run_neq_struct]
  cases hr : (Op.equalIn 10000 t (.agg xs) (.agg ys)).run Try.prog w with
  | ok b w' =>
    rw [hr] at h1
    simp only [Result.andThen_ok, Result.ok.injEq, Value.bool.injEq] at h1 ⊢
    exact ⟨by rw [h1.1], h1.2⟩
  | halt x w' => rw [hr] at h1; simp [Result.andThen] at h1
theorem kne_is (a b : Ky) : ∀ w : World, (binOp .neq 41 (.agg #[.int .i64 a.sp, .int .u64 a.va, .int .i64 a.sz]) (.agg #[.int .i64 b.sp, .int .u64 b.va, .int .i64 b.sz])).run Try.prog w = .ok (.bool (!keyEq a b)) w := ne_of_eq (key_is a b)
theorem keyEq_self (a : Ky) : keyEq a a = true := keyEq_iff.2 rfl
/-- A table, a row of keys that was told, a key in a box. -/
structure RB (w0 W : World) (sb n : Nat) (bl : Int) (L : Nat → List Bk) (B : Nat) (v : Value) (ws : List Ky) (gb : Nat) (g : Ky) : Prop where
  ct : CT w0 W sb n bl L (fun k => v.ownBlock = some k ∨ k = gb)
  was : W.ownsRow B 41 3 v ws.length (kyL ws)
  box : W.heap[gb]? = some (.cells #[.int .i64 g.sp, .int .u64 g.va, .int .i64 g.sz] 41 (0, 0))
section
variable {w0 w w' : World} {sb n gb B : Nat} {bl : Int} {L : Nat → List Bk} {v : Value} {ws : List Ky} {g : Ky}
theorem RB.low (h : RB w0 w sb n bl L B v ws gb g) (hb : Below w.heap.size w w') : RB w0 w' sb n bl L B v ws gb g := ⟨h.ct.below hb, own_same h.was (fun g hg => hb.block g (h.was.lt g hg).2), blk_low h.box hb⟩
theorem RB.start (h : CT w0 w sb n bl L (fun _ => False)) (hb : Below w.heap.size w w') (hv : ∀ k, v.ownBlock = some k → w.heap.size ≤ k ∧ k < w'.heap.size) (hg : w.heap.size ≤ gb ∧ gb < w'.heap.size) (hw : w'.ownsRow B 41 3 v ws.length (kyL ws)) (hx : w'.heap[gb]? = some (.cells #[.int .i64 g.sp, .int .u64 g.va, .int .i64 g.sz] 41 (0, 0))) : RB w0 w' sb n bl L B v ws gb g :=
  ⟨h.add hb (fun k hk => .inr (hk.elim (hv k) (fun e => by rw [e]; exact hg))), hw, hx⟩
theorem RB.put (h : RB w0 w sb n bl L B v ws gb g) (k : Ky) (hk : k.wf) (x : Int) :
    Calls Try.prog 20 #[.pointer (some ⟨sb, 0, none⟩), .agg #[.int .i64 k.sp, .int .u64 k.va, .int .i64 k.sz], .int .i64 x] w fun e w' => e = .returned (.int .i64 (putE bl n L k)) ∧ RB w0 w' sb n bl (putT bl n L k x) B v ws gb g :=
  (h.ct.put k hk x).mono fun _ _ ⟨a, b, c⟩ => ⟨a, b, own_same h.was (fun q hq => c.1 q (.inl hq)), (c.1 gb (.inr rfl)).trans h.box⟩
theorem rowL_chain (L : Nat → List Bk) {c n : Nat} (h : c < n) : rowL n L (c : Int) = L c := by unfold rowL; rw [if_pos ⟨by omega, by omega⟩]; simp
theorem CT.rowc (h : CT w0 w sb n bl L (fun k => v.ownBlock = some k ∨ k = gb)) {c : Nat} (hc : c < n) (hn : n ≤ 1000000) :
    Calls Try.prog 32 #[.pointer (some ⟨sb, 0, none⟩), .int .i64 (c : Int)] w fun e w' => ∃ v, e = .returned v ∧ w'.ownsRow w.heap.size 41 3 v (keysL (L c)).length (kyL (keysL (L c))) ∧ Below w.heap.size w w' := by
  have h1 := h.row (c : Int) (by omega) (by omega)
  rw [rowL_chain L hc] at h1
  simpa [keysL] using h1
theorem CT.rowd (h : CT w0 w sb n bl L (fun _ => False)) {c : Nat} (hc : c < n) (hn : n ≤ 1000000) :
    Calls Try.prog 32 #[.pointer (some ⟨sb, 0, none⟩), .int .i64 (c : Int)] w fun e w' => ∃ v, e = .returned v ∧ w'.ownsRow w.heap.size 41 3 v (keysL (L c)).length (kyL (keysL (L c))) ∧ Below w.heap.size w w' := by
  have h1 := h.row (c : Int) (by omega) (by omega)
  rw [rowL_chain L hc] at h1
  simpa [keysL] using h1
end
end Go.Proofs.Ytilijnalhkeggaa.Hs
