/-
  A range over an iterator that is a method value or a closure, where the loop's body is left at its end or by a return. Conditions: the iterator keeps its word 'Iter'.
-/
import Derived.Test.YtkbkilkmiigahaaCState
import Derived.RangeFuncNested
import Derived.RangeFuncCalls
import Derived.RangeFuncLeaves
import Derived.RangeFuncBox
import Derived.Shelf.Abstract
import Derived.Shelf.RegionOpen
import Derived.OwnWalkIn
import Derived.TacticsInMore
import Derived.LoopNIn
import Derived.LoopIn
namespace Go.Proofs.Ytkbkilkmiigahaa.Cx
open Fld
open Go.ChangeShapes Go.WideShapes Go.ChangeAt Go.RowKit
/-- What an iterator does: from state s0 on it yields 'enc s' while 'live s', then 'nx s', till 'fin s'; or it ends where a round has said so. A round that goes on keeps the cell p. -/
def Iter {σ : Type} (n gf : Nat) (bnd lb : Array Value) (enc : σ → Array Value) (nx : σ → σ) (live fin : σ → Prop) (s0 : σ) (p : Addr) (w : World) : Prop :=
  ∀ (l : Nat) (J : σ → World → Prop) (Jx : World → Prop) (W : World), Below w.heap.size w W →
    (∀ s V m, J s V → J s (V.drewN m)) →
    (∀ s V, J s V → live s → YieldAt Fence.wide (n - 1) Try.prog l (enc s) V fun e V' =>
      (e = .returned (.bool true) ∧ J (nx s) V' ∧ V'.cell? p = V.cell? p) ∨ (e = .returned (.bool false) ∧ Jx V')) →
    J s0 W →
    CallsIn Fence.wide n Try.prog gf (bnd ++ #[.func (.yield l) #[] #[]] ++ lb) W fun e W' => (∃ v, e = .returned v) ∧ ((∃ s, fin s ∧ J s W') ∨ Jx W')
/-- How a round's body may be left: at its end, or by a return. -/
def leftBy {σ : Type} (B : Nat) (p : Addr) (I : σ → World → Prop) (Ix : World → Prop) (s : σ) (W : World) : Exit → Act → World → Prop
  | .normal, _, W' => KeepsFrom B W W' ∧ W'.cell? p = W.cell? p ∧ I s W'
  | .ret, _, W' => KeepsFrom B W W' ∧ Ix W'
  | .exit _, _, _ => False
  | .goto _, _, _ => False
  | .panic _, _, _ => False
  | .outgrown, _, _ => False
theorem own_drewN {β : Type} {B : Nat} {I : β → World → Prop} (h : OwnFrom B I) {s : β} {W : World} (m : Nat) (hs : I s W) : I s (W.drewN m) :=
  h s W _ none hs ⟨rfl, rfl, rfl, Nat.le_refl _, fun _ _ _ => rfl⟩ (fun r e => by cases e)
/-- The two blocks that a range over a function keeps for itself. -/
structure Two (W : World) (l D : Nat) (r : Loop) : Prop where
  lp : W.heap[l]? = some (.loop r)
  df : W.heap[D]? = some (.deferred (some []))
theorem Two.put {W : World} {l D : Nat} {r : Loop} (h : Two W l D r) (r' : Loop) (hne : D ≠ l) : Two (W.putObj l (.loop r')) l D r' :=
  ⟨World.putObj_heap_same (Array.getElem?_eq_some_iff.1 h.lp).1, (World.putObj_heap_other hne).trans h.df⟩
theorem Two.keep {W W' : World} {B l D : Nat} {r : Loop} (h : Two W l D r) (k : KeepsFrom B W W') (hl : B ≤ l) (hD : B ≤ D) : Two W' l D r :=
  ⟨k.same _ _ hl h.lp rfl, k.same _ _ hD h.df rfl⟩
theorem Two.drewN {W : World} {l D : Nat} {r : Loop} (h : Two W l D r) (m : Nat) : Two (W.drewN m) l D r := ⟨h.lp, h.df⟩
theorem cell_putObj {l : Nat} (W : World) (o : Obj) (p : Addr) (h : p.block ≠ l) : (W.putObj l o).cell? p = W.cell? p :=
  World.cell?_of_block (World.putObj_heap_other h)
def lastMark (D : Nat) (a : Act) : Act := { a with defers := { target := .collected D, args := #[] } :: a.defers }
theorem range_iter {σ : Type} {n : Nat} {g : Operand} {ps : Array Tmp} {assign body : Code} {Q : Exit → Act → World → Prop} {a : Act} {w : World}
    {gf : Nat} {bnd lb : Array Value} (hg : a.eval g = .func (.func gf) bnd lb) (eg : ∀ args w, (callFunc gf args).run Try.prog w = .ok (.enter gf args) w)
    {enc : σ → Array Value} {nx : σ → σ} {live fin : σ → Prop} {s0 : σ} {p : Addr} (hp0 : p.block < w.heap.size) (hit : Iter (n - 1) gf bnd lb enc nx live fin s0 p w) (hps : ∀ s, (enc s).size = ps.size)
    (I : σ → World → Prop) (Ix : World → Prop) (hI : OwnFrom w.heap.size I) (hIx : OwnFrom w.heap.size (fun (_ : Unit) W => Ix W)) (h0 : I s0 w) (a₁ : σ → Act)
    (hassign : ∀ (l : Nat) (s : σ) (W : World) (K : Act → World → Prop), K (a₁ s) W →
      assign.wpIn (Fence.wide.inRound l) (n - 1 - 1) Try.prog (Exit.then K (fun _ _ _ => False)) { tmps := (ps.zip (enc s)).foldl (fun t (p, v) => t.setIfInBounds p v) a.tmps, defers := [] } W)
    (hbody : ∀ (l : Nat) (s : σ) (W : World), I s W → live s → body.wpIn (Fence.wide.inRound l) (n - 1 - 1) Try.prog (leftBy w.heap.size p I Ix (nx s) W) (a₁ s) W)
    (hdone : ∀ (s : σ) (W : World), fin s → I s W → W.heap[w.heap.size]? = some (.deferred (some [])) → Q .normal (lastMark w.heap.size a) W)
    (hstop : ∀ (W : World), Ix W → W.heap[w.heap.size]? = some (.deferred (some [])) → Code.ret.wpIn Fence.wide n Try.prog Q (lastMark w.heap.size a) W) :
    (Code.rangeFunc g ps assign body).wpIn Fence.wide n Try.prog Q a w := by
  refine wpIn_rangeFunc fun fn hfn => ?_
  obtain ⟨M, hM⟩ : ∃ M : LoopState → Option Code → Loop, ∀ st pe, M st pe = { state := st, pending := pe, fn, tmps := a.tmps, params := ps, assign, body, defers := w.heap.size } := ⟨_, fun _ _ => rfl⟩
  obtain ⟨V, hV⟩ : ∃ V, (w.alloc (.deferred (some []))).alloc (.loop (M .ready none)) = V := ⟨_, rfl⟩
  have hv : Two V (w.heap.size + 1) w.heap.size (M .ready none) := by
    refine ⟨?_, ?_⟩
    · have := World.alloc_heap_new (w.alloc (.deferred (some []))) (.loop (M .ready none))
      rwa [hV, World.size_alloc] at this
    · rw [← hV]; exact (Below.heap_alloc _ _ _ (by simp)).trans (World.alloc_heap_new w _)
  have iv : I s0 V := by rw [← hV]; exact hI.alloc _ (hI.alloc _ h0)
  have bv : Below w.heap.size w V := by rw [← hV]; exact ((Below.refl _ w).alloc (Nat.le_refl _) _).alloc (by simp) _
  refine ⟨w.heap.size + 1, [{ target := .collected w.heap.size, args := #[] }], V, { target := .fn (.func gf) lb, args := bnd ++ #[.func (.yield (w.heap.size + 1)) #[] #[]] }, V, gf, bnd ++ #[.func (.yield (w.heap.size + 1)) #[] #[]] ++ lb, V, ?_, ?_, ?_, ?_, fun h => absurd h (by decide), ?_⟩
  · rw [← hV, hM]; exact run_enterLoop_outer _ _ _ _ _
  · simp only [resolve, hg]; simp [go_sem]
  · intro f' _; trivial
  · simp [invoke, go_sem, eg]
  refine (hit (w.heap.size + 1) (fun s W => I s W ∧ Two W (w.heap.size + 1) w.heap.size (M .ready none)) (fun W => Ix W ∧ Two W (w.heap.size + 1) w.heap.size (M .done (some .ret))) V bv
    (fun s W m h => ⟨own_drewN hI m h.1, h.2.drewN m⟩) ?_ ⟨iv, hv⟩).mono ?_
  · rintro s W ⟨hi, ht⟩ hlive
    have hy := run_yield (P := Try.prog) (args := enc s) ht.lp (by rw [hM]; exact hps s)
    rw [hM] at hy
    refine ⟨fn, _, assign, body, hy, roundIn_of_wpIn hfn (hassign _ s W _ ⟨_, run_beginRound ht.lp (by rw [hM]), ?_⟩)⟩
    clear hy
    have hbusy : ({ M .ready none with state := LoopState.busy } : Loop) = M .busy none := by rw [hM, hM]
    rw [hbusy]
    have t2 := ht.put (M .busy none) (by omega)
    have i2 : I s (W.putObj (w.heap.size + 1) (.loop (M .busy none))) := hI.putObj _ hi (by omega) ht.lp rfl
    have b2 := cell_putObj (l := w.heap.size + 1) W (.loop (M .busy none)) p (by omega)
    refine wpIn_mono (hbody _ s _ i2 hlive) ?_
    rintro e a3 W3 hp
    cases e with
    | normal =>
      obtain ⟨k3, b3, i3⟩ := hp
      have t3 := t2.keep k3 (by omega) (Nat.le_refl _)
      have he := run_endRound (P := Try.prog) none t3.lp
      rw [show ({ M .busy none with state := if (none : Option Code).isNone then LoopState.ready else .done, pending := none } : Loop) = M .ready none by rw [hM, hM]; rfl] at he
      exact ⟨_, _, he, .inl ⟨rfl, ⟨hI.putObj _ i3 (by omega) t3.lp rfl, t3.put _ (by omega)⟩, (cell_putObj _ _ _ (by omega)).trans (b3.trans b2)⟩⟩
    | ret =>
      obtain ⟨k3, i3⟩ := hp
      have t3 := t2.keep k3 (by omega) (Nat.le_refl _)
      have he := run_endRound (P := Try.prog) (some .ret) t3.lp
      rw [show ({ M .busy none with state := if (some Code.ret : Option Code).isNone then LoopState.ready else .done, pending := some Code.ret } : Loop) = M .done (some .ret) by rw [hM, hM]; rfl] at he
      exact ⟨_, _, he, .inr ⟨rfl, hIx.putObj (s := ()) _ i3 (by omega) t3.lp rfl, t3.put _ (by omega)⟩⟩
    | exit id => exact hp.elim
    | goto t => exact hp.elim
    | panic ch => exact hp.elim
    | outgrown => exact hp.elim
  · rintro e W2 ⟨⟨v, rfl⟩, (⟨s, hf, hi, ht⟩ | ⟨hi, ht⟩)⟩
    · have he := run_endLoop (P := Try.prog) ht.lp (by rw [hM]; simp)
      rw [show (M .ready none).pending = none by rw [hM]] at he
      refine ⟨none, _, he, hdone s _ hf (hI.putObj _ hi (by omega) ht.lp rfl) (ht.put _ (by omega)).df⟩
    · have he := run_endLoop (P := Try.prog) ht.lp (by rw [hM]; simp)
      rw [show (M .done (some .ret)).pending = some .ret by rw [hM]] at he
      refine ⟨some .ret, _, he, hstop _ (hIx.putObj (s := ()) _ hi (by omega) ht.lp rfl) (ht.put _ (by omega)).df⟩
end Go.Proofs.Ytkbkilkmiigahaa.Cx
