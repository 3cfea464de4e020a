/-
  The program's table and the document's, carried side by side. Conditions: none.
-/
import Derived.Test.YtilijnalhkeggaaHDi
import Derived.Test.YtilijnalhkeggaaHLaw
namespace Go.Proofs.Ytilijnalhkeggaa.Hs
open Fld
open Go.ChangeShapes Go.WideShapes Go.ChangeAt Go.RowKit Go.Maps
set_option maxHeartbeats 1000000
set_option maxRecDepth 100000
/-- The program's table at sb (chains L of n), the document's s (chains M of m); X: other blocks. -/
structure KD (w0 W : World) (sb : Nat) (bl : Int) (n : Nat) (L : Nat → List Bk) (s : Value) (U : Nat → Value) (m : Nat) (M : Nat → List Bk) (X : Nat → Prop) : Prop where
  ct : CT w0 W sb n bl L (fun k => X k ∨ DocB s m U k)
  doc : ChW W s m M U
  new : ∀ k, DocB s m U k → w0.heap.size ≤ k
section
variable {w0 w w' : World} {sb n m n' m' : Nat} {bl : Int} {L L' M M' : Nat → List Bk} {s s' : Value} {U : Nat → Value} {X : Nat → Prop}
theorem KD.low (h : KD w0 w sb bl n L s U m M X) (hb : Below w.heap.size w w') : KD w0 w' sb bl n L s U m M X := ⟨h.ct.below hb, h.doc.low hb, h.new⟩
theorem KD.drew (h : KD w0 w sb bl n L s U m M X) : KD w0 w.drew sb bl n L s U m M X := h.low (Below.refl _ w).drew
theorem KD.turn (h : KD w0 w sb bl n L s U m M X) (c : CT w0 w' sb n' bl L' (fun k => X k ∨ DocB s m U k)) (k : Kept (fun k => X k ∨ DocB s m U k) w w') : KD w0 w' sb bl n' L' s U m M X := ⟨c, h.doc.same (fun q hq => k.1 q (.inr hq)), h.new⟩
theorem KD.turnDoc (h : KD w0 w sb bl n L s U m M X) (hd : DocTo w w' s m U s' m' M') : ∃ U', KD w0 w' sb bl n L s' U' m' M' X := by
  obtain ⟨U', c, d, b⟩ := hd
  refine ⟨U', h.ct.add b (fun k hk => ?_), c, fun k hk => ?_⟩
  · rcases hk with hk | hk
    · exact .inl (.inl hk)
    · rcases d k hk with e | e
      · exact .inl (.inr e)
      · exact .inr ⟨e, c.lt hk⟩
  · rcases d k hk with e | e
    · exact h.new k e
    · exact Nat.le_trans h.ct.low.size e
/-- Other blocks X turn to be Y: old ones or new ones. -/
theorem KD.turnX (h : KD w0 w sb bl n L s U m M X) (hb : Below w.heap.size w w') {Y : Nat → Prop} (hY : ∀ k, Y k → X k ∨ (w.heap.size ≤ k ∧ k < w'.heap.size)) : KD w0 w' sb bl n L s U m M Y :=
  ⟨h.ct.add hb (fun k hk => hk.elim (fun e => (hY k e).imp .inl id) (fun e => .inl (.inr e))), h.doc.low hb, h.new⟩
theorem KD.sub (h : KD w0 w sb bl n L s U m M X) {Y : Nat → Prop} (hY : ∀ k, Y k → X k) : KD w0 w sb bl n L s U m M Y := ⟨h.ct.sub (fun k hk => hk.imp (hY k) id), h.doc, h.new⟩
/-- The box tb of a table of the document's is filled. -/
theorem KD.store {tb : Nat} {a b x y : Value} (h : KD w0 w sb bl n L s U m M X) (hX : X tb) (ht : w0.heap.size ≤ tb) (hx : w.heap[tb]? = some (.cells #[a, b] 27 (0, 0))) :
    KD w0 ((w.setCell ⟨tb, 0, none⟩ x).setCell ⟨tb, 1, none⟩ y) sb bl n L s U m M X ∧ ((w.setCell ⟨tb, 0, none⟩ x).setCell ⟨tb, 1, none⟩ y).heap[tb]? = some (.cells #[x, y] 27 (0, 0)) := by
  obtain ⟨h1, h2, h3⟩ := set_two hx x y
  have hb := h2 0 (Nat.zero_le _)
  have hg : w.grownBy ((w.setCell ⟨tb, 0, none⟩ x).setCell ⟨tb, 1, none⟩ y) (some tb) := ⟨hb.os, hb.tape, hb.output, hb.size, fun q _ hq => h3 q (fun e => hq (by rw [e]))⟩
  refine ⟨⟨h.ct.grown hg (fun k hk => by obtain rfl : tb = k := (by simpa using hk); exact ⟨.inl hX, ht⟩) (fun k hk => .inl hk), h.doc.same (fun k hk => h3 k fun e => ?_), h.new⟩, h1⟩
  obtain ⟨cur, t, h4, h5, _⟩ := h.doc.typ hk
  rw [e, hx] at h4
  injection h4 with h4
  injection h4 with _ h4 _
  exact h5 h4.symm
theorem CT.lall {F : Nat → Prop} (h : CT w0 w sb n bl L F) {most : Int} {wv : Value} (hw : POwn w wv (allL L n)) :
    Calls Try.prog 27 #[.pointer (some ⟨sb, 0, none⟩), wv, .int .i64 most] w fun e w' => e = .returned (.bool true) ∧ Below w.heap.size w w' := by
  obtain ⟨O, h1, _⟩ := h.tab
  exact lall_any w h1 hw
end
/-- Both tables are new. -/
theorem new_ct2 (bl ch : Int) (hb0 : -9223372036854775808 ≤ bl) (hb1 : bl ≤ 1073741824) (hc0 : -9223372036854775808 ≤ ch) (hc1 : ch ≤ 1000000) (w : World) :
    Calls Try.prog 9 #[.int .i64 bl, .int .i64 ch] w fun e w' => e = .returned (.pointer (some ⟨w.heap.size + 1, 0, none⟩)) ∧ CT w w' (w.heap.size + 1) (max ch 1).toNat (max bl 0) (fun _ => []) (fun _ => False) :=
  (new_any bl ch hb0 hb1 hc0 (by omega) w).mono fun _ _ ⟨a, h⟩ => ⟨a, CT.new h⟩
theorem CT.withDoc {w0 w w' : World} {sb n m : Nat} {bl : Int} {L M : Nat → List Bk} {U : Nat → Value} {s : Value} {X : Nat → Prop} (h : CT w0 w sb n bl L X) (hd : WithTo w w' s m M U) (hU : ∀ i k, i < m → (U i).ownBlock = some k → w.heap.size ≤ k) : KD w0 w' sb bl n L s U m M X := by
  have hn : ∀ k, DocB s m U k → w.heap.size ≤ k := fun k hk => hk.elim (hd.new k) (fun ⟨i, hi, e⟩ => hU i k hi e)
  refine ⟨h.add hd.low (fun k hk => hk.imp id fun e => ⟨hn k e, hd.ch.lt e⟩), hd.ch, fun k hk => Nat.le_trans h.low.size (hn k hk)⟩
end Go.Proofs.Ytilijnalhkeggaa.Hs
