/-
  A table that is carried over a law: what else stays; and the document's example. Conditions: a key's numbers are those that Go's types hold.
-/
import Derived.Test.YtilijnalhkeggaaHDoc
namespace Go.Proofs.Ytilijnalhkeggaa.Hs
open Fld
open Go.ChangeShapes Go.WideShapes Go.ChangeAt Go.RowKit Go.Maps
set_option maxHeartbeats 1000000
set_option maxRecDepth 100000
/-- A table made since w0; the blocks F are none of its own. -/
structure CT (w0 w : World) (sb n : Nat) (bl : Int) (L : Nat → List Bk) (F : Nat → Prop) : Prop where
  tab : ∃ O, Tab w sb O n bl L ∧ (∀ k, O k → w0.heap.size ≤ k) ∧ (∀ k, F k → ¬ O k)
  low : Below w0.heap.size w0 w
  here : ∀ k, F k → k < w.heap.size
/-- What F's blocks hold stays. -/
def Kept (F : Nat → Prop) (w w' : World) : Prop := (∀ k, F k → w'.heap[k]? = w.heap[k]?) ∧ w.heap.size ≤ w'.heap.size
section
variable {w0 w w' : World} {sb n : Nat} {bl : Int} {L : Nat → List Bk} {F : Nat → Prop}
theorem CT.facts (h : CT w0 w sb n bl L F) : Good n L ∧ 1 ≤ n ∧ n ≤ 9223372036854775807 ∧ (lenL L n : Int) ≤ bl ∧ bl ≤ 1073741824 := by
  obtain ⟨O, ⟨bm, V, h, _⟩, _⟩ := h.tab
  exact ⟨h.good, h.n0, h.n1, h.few, h.b1⟩
theorem CT.new (h : NewTab w0 w sb n bl) : CT w0 w sb n bl (fun _ => []) (fun _ => False) := by
  obtain ⟨O, h1, h2, h3⟩ := h
  exact ⟨⟨O, h1, h3, fun _ h => h.elim⟩, h2, fun _ h => h.elim⟩
theorem CT.below (h : CT w0 w sb n bl L F) (hb : Below w.heap.size w w') : CT w0 w' sb n bl L F := by
  obtain ⟨O, h1, h2, h3⟩ := h.tab
  exact ⟨⟨O, h1.below hb (Nat.le_refl _), h2, h3⟩, h.low.trans (hb.mono h.low.size), fun k hk => Nat.lt_of_lt_of_le (h.here k hk) hb.size⟩
theorem CT.drew (h : CT w0 w sb n bl L F) : CT w0 w.drew sb n bl L F := h.below (Below.refl _ w).drew
theorem CT.drewN (h : CT w0 w sb n bl L F) (m : Nat) : CT w0 (w.drewN m) sb n bl L F := h.below (below_drewN (Below.refl _ w) m)
theorem CT.alloc (h : CT w0 w sb n bl L F) (o : Obj) : CT w0 (w.alloc o) sb n bl L F := h.below ((Below.refl _ w).alloc (Nat.le_refl _) o)
theorem CT.sub (h : CT w0 w sb n bl L F) {G : Nat → Prop} (hG : ∀ k, G k → F k) : CT w0 w sb n bl L G := by
  obtain ⟨O, h1, h2, h3⟩ := h.tab
  exact ⟨⟨O, h1, h2, fun k hk => h3 k (hG k hk)⟩, h.low, fun k hk => h.here k (hG k hk)⟩
/-- A block that is new in w' is none of the table's. -/
theorem CT.add (h : CT w0 w sb n bl L F) (hb : Below w.heap.size w w') {G : Nat → Prop} (hG : ∀ k, G k → F k ∨ (w.heap.size ≤ k ∧ k < w'.heap.size)) : CT w0 w' sb n bl L G := by
  obtain ⟨O, h1, h2, h3⟩ := h.tab
  refine ⟨⟨O, h1.below hb (Nat.le_refl _), h2, fun k hk ho => ?_⟩, h.low.trans (hb.mono h.low.size), fun k hk => ?_⟩
  · rcases hG k hk with hk | hk
    · exact h3 k hk ho
    · have := h1.lt ho; omega
  · rcases hG k hk with hk | hk
    · exact Nat.lt_of_lt_of_le (h.here k hk) hb.size
    · exact hk.2
/-- What writes into a block of F, or makes new ones. -/
theorem CT.grown (h : CT w0 w sb n bl L F) {row : Option Nat} (hg : w.grownBy w' row) (hr : ∀ k, row = some k → F k ∧ w0.heap.size ≤ k) {G : Nat → Prop} (hG : ∀ k, G k → F k ∨ (w.heap.size ≤ k ∧ k < w'.heap.size)) : CT w0 w' sb n bl L G := by
  obtain ⟨O, ⟨bm, V, ht, hO⟩, h2, h3⟩ := h.tab
  refine ⟨⟨O, ⟨bm, V, ht.same (fun k hk => hg.block k (ht.lt hk) (fun e => h3 k (hr k e.symm).1 ((hO k).2 hk))), hO⟩, h2, fun k hk ho => ?_⟩, h.low.grown hg h.low.size (fun k hk => (hr k hk).2), fun k hk => ?_⟩
  · rcases hG k hk with hk | hk
    · exact h3 k hk ho
    · have := ht.lt ((hO k).1 ho); omega
  · rcases hG k hk with hk | hk
    · exact Nat.lt_of_lt_of_le (h.here k hk) hg.size
    · exact hk.2
theorem CT.one (h : CT w0 w sb n bl L F) {L' : Nat → List Bk} {n' : Nat} {O O' : Nat → Prop} (h2 : ∀ k, O k → w0.heap.size ≤ k) (h3 : ∀ k, F k → ¬ O k) (k1 : Tab w' sb O' n' bl L') (k2 : Turn w w' O) (k3 : ∀ k, O' k → O k ∨ w.heap.size ≤ k) : CT w0 w' sb n' bl L' F ∧ Kept F w w' := by
  refine ⟨⟨⟨O', k1, fun k hk => (k3 k hk).elim (h2 k) (Nat.le_trans h.low.size), fun k hk ho => (k3 k ho).elim (h3 k hk) (fun e => by have := h.here k hk; omega)⟩, ⟨k2.os.trans h.low.os, k2.tape.trans h.low.tape, k2.output.trans h.low.output, Nat.le_trans h.low.size k2.size, fun k hk => (k2.block k (Nat.lt_of_lt_of_le hk h.low.size) (fun ho => by have := h2 k ho; omega)).trans (h.low.block k hk)⟩, fun k hk => Nat.lt_of_lt_of_le (h.here k hk) k2.size⟩, fun k hk => k2.block k (h.here k hk) (h3 k hk), k2.size⟩
end
section
variable {w0 w : World} {sb n : Nat} {bl : Int} {L : Nat → List Bk} {F : Nat → Prop}
theorem CT.put (h : CT w0 w sb n bl L F) (k : Ky) (hk : k.wf) (v : Int) :
    Calls Try.prog 20 #[.pointer (some ⟨sb, 0, none⟩), .agg #[.int .i64 k.sp, .int .u64 k.va, .int .i64 k.sz], .int .i64 v] w fun e w' => e = .returned (.int .i64 (putE bl n L k)) ∧ CT w0 w' sb n bl (putT bl n L k v) F ∧ Kept F w w' := by
  have hh := h
  obtain ⟨O, h1, h2, h3⟩ := h.tab
  refine (Hs.put_any k hk v w h1).mono ?_
  rintro e w' ⟨rfl, O', k1, k2, k3⟩
  exact ⟨rfl, CT.one hh h2 h3 k1 k2 k3⟩
theorem CT.set (h : CT w0 w sb n bl L F) (k : Ky) (hk : k.wf) (v : Int) :
    Calls Try.prog 30 #[.pointer (some ⟨sb, 0, none⟩), .agg #[.int .i64 k.sp, .int .u64 k.va, .int .i64 k.sz], .int .i64 v] w fun e w' => e = .returned (.int .i64 (setE n L k)) ∧ CT w0 w' sb n bl (setT n L k v) F ∧ Kept F w w' := by
  have hh := h
  obtain ⟨O, h1, h2, h3⟩ := h.tab
  refine (Hs.set_any k hk v w h1).mono ?_
  rintro e w' ⟨rfl, O', k1, k2, k3⟩
  exact ⟨rfl, CT.one hh h2 h3 k1 k2 k3⟩
theorem CT.cut (h : CT w0 w sb n bl L F) (k : Ky) (hk : k.wf) :
    Calls Try.prog 29 #[.pointer (some ⟨sb, 0, none⟩), .agg #[.int .i64 k.sp, .int .u64 k.va, .int .i64 k.sz]] w fun e w' => e = .returned (.int .i64 (setE n L k)) ∧ CT w0 w' sb n bl (cutT n L k) F ∧ Kept F w w' := by
  have hh := h
  obtain ⟨O, h1, h2, h3⟩ := h.tab
  refine (Hs.cut_any k hk w h1).mono ?_
  rintro e w' ⟨rfl, O', k1, k2, k3⟩
  exact ⟨rfl, CT.one hh h2 h3 k1 k2 k3⟩
theorem CT.get (h : CT w0 w sb n bl L F) (k : Ky) (hk : k.wf) :
    Calls Try.prog 24 #[.pointer (some ⟨sb, 0, none⟩), .agg #[.int .i64 k.sp, .int .u64 k.va, .int .i64 k.sz]] w fun e w' => e = .returned (.tuple #[.int .i64 (getV n L k), .int .i64 (getN n L k), .bool (getB n L k)]) ∧ Below w.heap.size w w' := by
  obtain ⟨O, ⟨bm, V, h1, _⟩, _⟩ := h.tab
  exact Hs.get_any k hk w h1
theorem CT.len (h : CT w0 w sb n bl L F) :
    Calls Try.prog 23 #[.pointer (some ⟨sb, 0, none⟩)] w fun e w' => e = .returned (.int .i64 (lenL L n : Int)) ∧ w' = w := by
  obtain ⟨O, ⟨bm, V, h1, _⟩, _⟩ := h.tab
  exact Hs.len_any w h1
theorem CT.chains (h : CT w0 w sb n bl L F) :
    Calls Try.prog 22 #[.pointer (some ⟨sb, 0, none⟩)] w fun e w' => e = .returned (.int .i64 (n : Int)) ∧ w' = w := by
  obtain ⟨O, ⟨bm, V, h1, _⟩, _⟩ := h.tab
  exact Hs.chains_any w h1
theorem CT.free (h : CT w0 w sb n bl L F) :
    Calls Try.prog 31 #[.pointer (some ⟨sb, 0, none⟩)] w fun e w' => e = .returned (.int .i64 (bl - (lenL L n : Int))) ∧ ∃ m, w' = w.drewN m := by
  obtain ⟨O, ⟨bm, V, h1, _⟩, _⟩ := h.tab
  exact Hs.free_any w h1
theorem CT.row (h : CT w0 w sb n bl L F) (i : Int) (i0 : -9223372036854775808 ≤ i) (i1 : i ≤ 9223372036854775807) :
    Calls Try.prog 32 #[.pointer (some ⟨sb, 0, none⟩), .int .i64 i] w fun e w' => ∃ v, e = .returned v ∧ w'.ownsRow w.heap.size 41 3 v (rowL n L i).length (kyL (keysL (rowL n L i))) ∧ Below w.heap.size w w' := by
  obtain ⟨O, h1, _⟩ := h.tab
  exact Hs.row_any i i0 i1 w h1
end
def exk (a : Int) : Ky := ⟨0, a, 0⟩
theorem exk_wf {a : Int} (h0 : 0 ≤ a) (h1 : a ≤ 100000) : (exk a).wf := ⟨by simp [exk], by simp [exk], h0, by simp [exk]; omega, by simp [exk], by simp [exk]⟩
theorem putT_no {bl : Int} {n : Nat} {L : Nat → List Bk} {k : Ky} {v : Int} (h : ¬ putE bl n L k = 0) : putT bl n L k v = L := by unfold putT; rw [if_neg h]
theorem hlives_any (w : World) : Calls Try.prog 13 #[] w fun e w' => e = .returned (.bool true) ∧ Below w.heap.size w w' := by
  have h1 := exk_wf (a := 8192) (by decide) (by decide)
  have h2 := exk_wf (a := 16384) (by decide) (by decide)
  obtain ⟨L1, hL1⟩ : ∃ L, L = putT 1 4 (fun _ => []) (exk 8192) 5 := ⟨_, rfl⟩
  obtain ⟨L2, hL2⟩ : ∃ L, L = cutT 4 L1 (exk 8192) := ⟨_, rfl⟩
  obtain ⟨L3, hL3⟩ : ∃ L, L = putT 1 4 L2 (exk 16384) 6 := ⟨_, rfl⟩
  have e1 : putE 1 4 (fun _ => []) (exk 8192) = 0 := by kernel_rfl
  have e2a : putE 1 4 L1 (exk 16384) = 6 := by subst hL1; kernel_rfl
  have e2 := And.intro e2a (putT_no (v := 6) (by rw [e2a]; decide) : putT 1 4 L1 (exk 16384) 6 = L1)
  have e3 : setE 4 L1 (exk 8192) = 0 := by subst hL1; kernel_rfl
  have e4 : putE 1 4 L2 (exk 16384) = 0 := by subst hL2; subst hL1; kernel_rfl
  have e5 : getV 4 L3 (exk 16384) = 6 ∧ getN 4 L3 (exk 16384) = 1 ∧ getB 4 L3 (exk 16384) = true := by subst hL3; subst hL2; subst hL1; exact ⟨by kernel_rfl, by kernel_rfl, by kernel_rfl⟩
  have CN := Lib.hid (fun w => new_any 1 4 (by decide) (by decide) (by decide) (by decide) w)
  obtain ⟨e5a, e5b, e5c⟩ := e5
  have HE := Lib.hid (And.intro e1 (And.intro e2 (And.intro e3 (And.intro e4 (And.intro hL1 (And.intro hL2 hL3))))))
  have HG := Lib.hid (And.intro e5a (And.intro e5b e5c))
  clear e1 e2 e2a e3 e4 e5a e5b e5c hL1 hL2 hL3
  go_enter Try.func13, Try.ntmps13
  go_wp2_with fail
  refine (CN.out _).mono ?_; rintro e w1 ⟨rfl, N1⟩
  have C1 : CT w w1 (w.heap.size + 1) 4 1 (fun _ => []) (fun _ => False) := CT.new N1
  clear N1 CN
  generalize w.heap.size + 1 = sb at *
  have P1 := C1.put (exk 8192) h1 5
  rw [HE.out.1, ← HE.out.2.2.2.2.1] at P1
  unfold exk at P1
  go_wp2_with fail
  refine P1.mono ?_; rintro e w2 ⟨rfl, C2, _⟩
  have P2 := C2.put (exk 16384) h2 6
  rw [HE.out.2.1.1, HE.out.2.1.2] at P2
  unfold exk at P2
  clear C1 P1
  go_wp2_with fail
  refine P2.mono ?_; rintro e w3 ⟨rfl, C3, _⟩
  have P3 := C3.cut (exk 8192) h1
  rw [HE.out.2.2.1, ← HE.out.2.2.2.2.2.1] at P3
  unfold exk at P3
  clear C2 P2
  go_wp2_with fail
  refine P3.mono ?_; rintro e w4 ⟨rfl, C4, _⟩
  have P4 := C4.put (exk 16384) h2 6
  rw [HE.out.2.2.2.1, ← HE.out.2.2.2.2.2.2] at P4
  unfold exk at P4
  clear C3 P3
  go_wp2_with fail
  refine P4.mono ?_; rintro e w5 ⟨rfl, C5, _⟩
  have P5 := C5.get (exk 16384) h2
  rw [HG.out.1, HG.out.2.1, HG.out.2.2] at P5
  unfold exk at P5
  clear C4 P4
  go_wp2_with fail
  refine P5.mono ?_; rintro e w6 ⟨rfl, hb6⟩
  have HB := C5.low.trans (hb6.mono C5.low.size)
  clear C5 P5 HE HG
  go_wp2_with fail
  go_ret
  exact ⟨rfl, HB⟩
end Go.Proofs.Ytilijnalhkeggaa.Hs
