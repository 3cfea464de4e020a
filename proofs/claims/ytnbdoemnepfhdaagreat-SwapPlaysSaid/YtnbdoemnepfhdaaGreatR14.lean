/-
  Contracts and plain facts: NRange. Conditions: each says its own.
-/
import Derived.Test.YtnbdoemnepfhdaaGreatRows
import Derived.RangeFuncNested
import Derived.RangeFuncCalls
import Derived.RangeFuncLeaves
import Derived.RangeFuncBox
import Derived.RangeFuncBound
import Derived.Shelf.Abstract
import Derived.Shelf.RegionOpen
import Derived.OwnWalkIn
import Derived.TacticsInMore
import Derived.LoopNIn
import Derived.LoopIn
import Derived.BigQuiet
import Derived.BigRegionIn
import Derived.WalkKit
import Derived.ProofKit
import Derived.Lib.Hide
namespace Go.Proofs.YtnbdoemnepfhdaaGreat.Ts
open Go.ChangeShapes Go.WideShapes Go.ChangeAt Go.RowKit
/-! ### Regions that only read, within a round -/
theorem wpOpIn_of_qOp {P : Program} {ops : Array Oper} {C : World → Prop} {i n l : Nat} {a : Act} {K : Act → Prop} {K' : Act → World → Prop} {Q' : Exit → Act → World → Prop} {w : World} (hd : ∀ (j : Nat) (o : Oper) (c : Call), ops[j]? = some o → o.op ≠ .defer c) (hC : C w) (h : ∀ a w', C w' → K a → K' a w') (hh : qOp P ops C i K a) : wpOpIn (Fence.wide.inRound l) n P ops Q' i K' a w := by
  unfold qOp at hh
  unfold wpOpIn
  cases ho : ops[i]? with
  | none => simp only [ho] at hh ⊢; exact h _ _ hC hh
  | some o =>
    simp only [ho] at hh ⊢
    by_cases hw : Region.wanted o (yielded ops a.tmps) = true
    · simp only [hw, if_true] at hh ⊢
      obtain ⟨v, h1, h2⟩ := hh
      have h3 := h1 w hC
      unfold Oper.quietAt at h3
      unfold Oper.wpIn
      refine ⟨fun _ _ => trivial, ?_⟩
      rw [Oper.semAt_plain _ _ _ (fun c => hd i o c ho)]
      generalize (execOp a.eval o).run P w = r at *
      cases r with
      | ok n w' =>
        cases n <;> simp only [Oper.quietUpon] at h3 <;> simp only [Oper.uponIn]
        case value u =>
          obtain ⟨e1, e2⟩ := h3
          rw [e1, e2]
          exact h _ _ hC h2
        case skip =>
          obtain ⟨e1, e2⟩ := h3
          rw [e1, ← e2]
          exact h _ _ hC h2
        case enter f args =>
          obtain ⟨e1, hc⟩ := h3
          rw [e1]
          refine ⟨fun hh => absurd (show Fence.wide.depth.isSome = true from hh) (by decide), CallsIn.inRound l (callsIn_wide.2 (hc.mono fun e w'' ⟨he, hw''⟩ => ?_))⟩
          subst he; exact h _ _ hw'' h2
      | halt x w' => simp only [Oper.quietUpon] at h3
    · have hw' : Region.wanted o (yielded ops a.tmps) = false := by simpa using hw
      simp only [hw', Bool.false_eq_true, if_false] at hh ⊢
      exact ⟨fun _ _ => trivial, h _ _ hC hh⟩
theorem wpAnyIn_of_quiet {P : Program} {ops : Array Oper} {md : Region.Mode} {C : World → Prop} {n l : Nat} {Q : Act → Prop} {Q' : Exit → Act → World → Prop} (hd : ∀ (j : Nat) (o : Oper) (c : Call), ops[j]? = some o → o.op ≠ .defer c) (hQ : ∀ a w, C w → Q a → Q' .normal a w) : ∀ (fuel : Nat) (listed : Array Bool) (a : Act) (w : World), C w →
    wpAnyQ P md ops C Q fuel listed a → wpAnyIn (Fence.wide.inRound l) n P md ops Q' fuel listed a w
  | 0, _, _, _, hw, h => ⟨h.1, hQ _ _ hw h.2⟩
  | fuel + 1, _, _, _, hw, h => ⟨fun h0 => hQ _ _ hw (h.1 h0), fun i hi => wpOpIn_of_qOp hd hw (fun a' w' hw' => wpAnyIn_of_quiet hd hQ fuel _ a' w' hw') (h.2 i hi)⟩
def noDefer (o : Oper) : Bool := match o.op with | .defer _ => false | _ => true
theorem region_quiet_round {P : Program} {n l id : Nat} {Q : Exit → Act → World → Prop} {a : Act} {w : World} {ol : List Oper} (hm : P.follows .mixedOrders = true) (hB : Region.lexB .any ol.toArray = true) (hd : ol.all noDefer = true)
    (h : wpQuiet P ol.toArray (fun w' => ∃ n, w' = w.drewN n) (fun a' => ∀ w', (∃ n, w' = w.drewN n) → Q .normal a' w') ol a) : (Code.region id ol.toArray true).wpIn (Fence.wide.inRound l) n P Q a w := by
  simp only [Region.lexB, Bool.and_eq_true] at hB
  have hd' : ∀ (j : Nat) (o : Oper) (c : Call), ol.toArray[j]? = some o → o.op ≠ .defer c := fun j o c ho hc => by
    have hm' : o ∈ ol := by rw [List.getElem?_toArray] at ho; exact List.mem_of_getElem? ho
    have := List.all_eq_true.1 hd o hm'
    unfold noDefer at this
    rw [hc] at this; cases this
  refine wpIn_region_any hm (wpAnyIn_of_quiet (C := fun w' => ∃ n, w' = w.drewN n) (Q := fun a' => ∀ w', (∃ n, w' = w.drewN n) → Q .normal a' w') hd' (fun _ w' hw' h => h w' hw') _ _ _ _ ⟨1, rfl⟩ ?_)
  have := wpAnyQ_lex (C := fun w' => ∃ n, w' = w.drewN n) (md := .any) hB.1 ol 0 (Array.replicate ol.toArray.size false) a (by simp) (by simpa using hB.2) h
  simpa using this
/-! ### The loop -/
theorem wide_fn (f : Nat) : Fence.wide.fn f := trivial
def Lp (o : Obj) : Prop := match o with | .loop _ => True | .deferred _ => True | _ => False
def Sp (o : Obj) : Prop := match o with | .loop _ => True | .deferred _ => True | .cells c _ _ => c.size = 1 | _ => False
/-- Loops' own blocks, and boxes of one cell, from B on stay. -/
def Stay (B : Nat) (W W' : World) : Prop := ∀ (k : Nat) (o : Obj), B ≤ k → W.heap[k]? = some o → Sp o → W'.heap[k]? = some o
theorem Stay.refl (B : Nat) (W : World) : Stay B W W := fun _ _ _ h _ => h
theorem Stay.trans {B : Nat} {U V W : World} (h : Stay B U V) (k : Stay B V W) : Stay B U W := fun i o hi ho hl => k i o hi (h i o hi ho hl) hl
theorem Stay.mono {B C : Nat} {V W : World} (h : Stay B V W) (hC : B ≤ C) : Stay C V W := fun i o hi ho hl => h i o (Nat.le_trans hC hi) ho hl
theorem Stay.put {B l : Nat} (V : World) (o : Obj) (hB : l < B) : Stay B V (V.putObj l o) := fun k _ hk ho _ => (World.putObj_heap_other (by omega)).trans ho
theorem Stay.cell {B : Nat} (V : World) (p : Addr) (u : Value) (hB : p.block < B) : Stay B V (V.setCell p u) := fun k _ hk ho _ => (Below.heap_setCell _ _ _ _ (by omega)).trans ho
theorem Stay.grown {B : Nat} {V V' : World} {row : Option Nat} (hg : V.grownBy V' row) (hr : ∀ j, row = some j → j < B ∨ ∀ o, V.heap[j]? = some o → ¬ Sp o) : Stay B V V' := fun k o hk ho hs =>
  (hg.block k (Array.getElem?_eq_some_iff.1 ho).1 (fun e => by
    rcases hr k e.symm with h | h
    · omega
    · exact h o ho hs)).trans ho
theorem Stay.below {B : Nat} {V W : World} (h : Below V.heap.size V W) : Stay B V W := fun i _ _ ho _ => (h.block i (Array.getElem?_eq_some_iff.1 ho).1).trans ho
/-- All stays but loops' own blocks from B on, and what is new. -/
structure Soft (B : Nat) (V V' : World) : Prop where
  os : V'.os = V.os
  tape : V'.tape = V.tape
  output : V'.output = V.output
  size : V.heap.size ≤ V'.heap.size
  block : ∀ k, k < V.heap.size → (k < B ∨ ∀ o, V.heap[k]? = some o → ¬ Lp o) → V'.heap[k]? = V.heap[k]?
theorem Soft.below {B : Nat} {V V' : World} (h : Below V.heap.size V V') : Soft B V V' := ⟨h.os, h.tape, h.output, h.size, fun k hk _ => h.block k hk⟩
theorem Soft.put {B l : Nat} {V : World} {o o' : Obj} (h : V.heap[l]? = some o) (hl : Lp o) (hB : B ≤ l) : Soft B V (V.putObj l o') :=
  ⟨rfl, rfl, rfl, by simp, fun k _ hk => World.putObj_heap_other (by
    rintro rfl
    rcases hk with hk | hk
    · omega
    · exact hk _ h hl)⟩
theorem Soft.mono {B C : Nat} {V V' : World} (h : Soft C V V') (hB : B ≤ C) : Soft B V V' := ⟨h.os, h.tape, h.output, h.size, fun k hk hc => h.block k hk (hc.imp (fun h => Nat.lt_of_lt_of_le h hB) id)⟩
def Firm (B : Nat) (I : World → Prop) : Prop := ∀ V V', I V → Soft B V V' → I V'
theorem Firm.mono {B C : Nat} {I : World → Prop} (h : Firm B I) (hB : B ≤ C) : Firm C I := fun V V' hi hs => h V V' hi (hs.mono hB)
theorem Firm.and {B : Nat} {I K : World → Prop} (h : Firm B I) (k : Firm B K) : Firm B (fun W => I W ∧ K W) := fun V V' hs hv => ⟨h V V' hs.1 hv, k V V' hs.2 hv⟩
theorem Firm.pure (B : Nat) (p : Prop) : Firm B (fun _ => p) := fun _ _ h _ => h
theorem Firm.cells (B b : Nat) (c : Array Value) (t : TypeId) (f : Nat × Nat) : Firm B (fun W => W.heap[b]? = some (.cells c t f)) := fun _ _ h hv => (hv.block b (Array.getElem?_eq_some_iff.1 h).1 (.inr fun o ho => by rw [h] at ho; cases ho; exact id)).trans h
theorem Firm.low {B : Nat} {I : World → Prop} (h : Firm B I) {V V' : World} (hi : I V) (hb : Below V.heap.size V V') : I V' := h _ _ hi (Soft.below hb)
/-- The blocks of a world w stay (all are old). -/
theorem Firm.since (w : World) {B : Nat} (hB : w.heap.size ≤ B) (p : Nat → Prop) : Firm B (fun W => W.os = w.os ∧ W.tape = w.tape ∧ W.output = w.output ∧ w.heap.size ≤ W.heap.size ∧ ∀ k, k < w.heap.size → p k → W.heap[k]? = w.heap[k]?) := fun V V' h hv =>
  ⟨hv.os.trans h.1, hv.tape.trans h.2.1, hv.output.trans h.2.2.1, Nat.le_trans h.2.2.2.1 hv.size, fun k hk hp => (hv.block k (Nat.lt_of_lt_of_le hk h.2.2.2.1) (.inl (by omega))).trans (h.2.2.2.2 k hk hp)⟩
/-- What an iterator does that yields by numbers i < N that are live, what 'enc i' says; it reads what Rd tells. -/
def IterN (n gf : Nat) (bnd lb : Array Value) (enc : Nat → Array Value) (live : Nat → Prop) (N : Nat) (Rd : Nat → World → Prop) : Prop :=
  ∀ (l : Nat) (J : Nat → World → Prop) (W : World), (∀ i V, J i V → Rd i V) → (∀ i, Firm W.heap.size (J i)) →
    (∀ i V, J i V → i < N → ¬ live i → J (i + 1) V) →
    (∀ m i V, J i V → i < N → live i → YieldAt Fence.wide m Tryz.prog l (enc i) V fun e V' => e = .returned (.bool true) ∧ J (i + 1) V' ∧ Stay W.heap.size V V') →
    J 0 W →
    CallsIn Fence.wide n Tryz.prog gf (bnd ++ #[.func (.yield l) #[] #[]] ++ lb) W fun e W' => (∃ v, e = .returned v) ∧ J N W'
/-- The two blocks that a range over a function keeps for itself. -/
structure Two (W : World) (l D : Nat) (r : Loop) : Prop where
  lp : W.heap[l]? = some (.loop r)
  df : W.heap[D]? = some (.deferred (some []))
theorem Two.put {W : World} {l D : Nat} {r : Loop} (h : Two W l D r) (r' : Loop) (hne : D ≠ l) : Two (W.putObj l (.loop r')) l D r' :=
  ⟨World.putObj_heap_same (Array.getElem?_eq_some_iff.1 h.lp).1, (World.putObj_heap_other hne).trans h.df⟩
theorem Two.keep {W W' : World} {B l D : Nat} {r : Loop} (h : Two W l D r) (k : Stay B W W') (hl : B ≤ l) (hD : B ≤ D) : Two W' l D r :=
  ⟨k l _ hl h.lp trivial, k D _ hD h.df trivial⟩
theorem Two.firm {l D B : Nat} {r : Loop} (hl : l < B) (hD : D < B) : Firm B (fun W => Two W l D r) := fun _ _ h hv =>
  ⟨(hv.block l (Array.getElem?_eq_some_iff.1 h.lp).1 (.inl hl)).trans h.lp, (hv.block D (Array.getElem?_eq_some_iff.1 h.df).1 (.inl hD)).trans h.df⟩
def lastMark (D : Nat) (a : Act) : Act := { a with defers := { target := .collected D, args := #[] } :: a.defers }
/-- How a round's body must be left. -/
def endBy (B : Nat) (I : World → Prop) (W : World) : Exit → Act → World → Prop
  | .normal, _, W' => Stay B W W' ∧ I W'
  | .ret, _, _ => False
  | .exit _, _, _ => False
  | .goto _, _, _ => False
  | .panic _, _, _ => False
  | .outgrown, _, _ => False
theorem range_it {n : Nat} {g : Operand} {ps : Array Tmp} {assign body : Code} {Q : Exit → Act → World → Prop} {a : Act} {w : World}
    {gf : Nat} {bnd lb : Array Value} (hg : a.eval g = .func (.func gf) bnd lb) (eg : ∀ args w, (callFunc gf args).run Tryz.prog w = .ok (.enter gf args) w)
    {enc : Nat → Array Value} {live : Nat → Prop} {N : Nat} {Rd : Nat → World → Prop} (hit : ∀ n, IterN n gf bnd lb enc live N Rd) (hps : ∀ s, (enc s).size = ps.size)
    (I : Nat → World → Prop) (hRd : ∀ i W, I i W → Rd i W) (hI : ∀ i, Firm w.heap.size (I i)) (hskip : ∀ i V, I i V → i < N → ¬ live i → I (i + 1) V) (h0 : I 0 w)
    (Ax : Nat → Act → World → Prop) (hAx : ∀ i a', Firm w.heap.size (Ax i a'))
    (hassign : ∀ (m l i : Nat) (W : World) (K : Act → World → Prop), I i W → i < N → live i → (∀ a' W', Stay w.heap.size W W' → I i W' → Ax i a' W' → K a' W') →
      assign.wpIn (Fence.wide.inRound l) m Tryz.prog (Exit.then K (fun _ _ _ => False)) { tmps := (ps.zip (enc i)).foldl (fun t (p, v) => t.setIfInBounds p v) a.tmps, defers := [] } W)
    (hbody : ∀ (m l i : Nat) (a' : Act) (W : World), I i W → Ax i a' W → i < N → live i → body.wpIn (Fence.wide.inRound l) m Tryz.prog (endBy w.heap.size (I (i + 1)) W) a' W)
    (hdone : ∀ (W : World), I N W → W.heap[w.heap.size]? = some (.deferred (some [])) → Q .normal (lastMark w.heap.size a) W) :
    (Code.rangeFunc g ps assign body).wpIn Fence.wide n Tryz.prog Q a w := by
  refine wpIn_rangeFunc fun fn hfn => ?_
  obtain ⟨M, hM⟩ : ∃ M : LoopState → Option Code → Loop, ∀ st pe, M st pe = { state := st, pending := pe, fn, tmps := a.tmps, params := ps, assign, body, defers := w.heap.size } := ⟨_, fun _ _ => rfl⟩
  obtain ⟨V, hV⟩ : ∃ V, (w.alloc (.deferred (some []))).alloc (.loop (M .ready none)) = V := ⟨_, rfl⟩
  have hv : Two V (w.heap.size + 1) w.heap.size (M .ready none) := by
    refine ⟨?_, ?_⟩
    · have := World.alloc_heap_new (w.alloc (.deferred (some []))) (.loop (M .ready none))
      rwa [hV, World.size_alloc] at this
    · rw [← hV]; exact (Below.heap_alloc _ _ _ (by simp)).trans (World.alloc_heap_new w _)
  have bv : Below w.heap.size w V := by rw [← hV]; exact ((Below.refl _ w).alloc (Nat.le_refl _) _).alloc (by simp) _
  have iv : I 0 V := (hI 0).low h0 bv
  have hsz : V.heap.size = w.heap.size + 1 + 1 := by rw [← hV]; simp
  refine ⟨w.heap.size + 1, [{ target := .collected w.heap.size, args := #[] }], V, { target := .fn (.func gf) lb, args := bnd ++ #[.func (.yield (w.heap.size + 1)) #[] #[]] }, V, gf, bnd ++ #[.func (.yield (w.heap.size + 1)) #[] #[]] ++ lb, V, ?_, ?_, ?_, ?_, fun h => absurd h (by decide), ?_⟩
  · rw [← hV, hM]; exact run_enterLoop_outer _ _ _ _ _
  · simp only [resolve, hg]; simp [go_sem]
  · intro f' _; trivial
  · simp [invoke, go_sem, eg]
  refine (hit (n - 1) (w.heap.size + 1) (fun s W => I s W ∧ Two W (w.heap.size + 1) w.heap.size (M .ready none)) V (fun i U h => hRd i U h.1)
    (fun i => Firm.and (fun U U' hu hs => hI i U U' hu (hs.mono (by omega))) (Two.firm (by omega) (by omega))) (fun i U h hn hl => ⟨hskip i U h.1 hn hl, h.2⟩) ?_ ⟨iv, hv⟩).mono ?_
  · rintro m s W ⟨hi, ht⟩ hsN hlive
    have hy := run_yield (P := Tryz.prog) (args := enc s) ht.lp (by rw [hM]; exact hps s)
    rw [hM] at hy
    refine ⟨fn, _, assign, body, hy, roundIn_of_wpIn hfn (hassign _ _ s W _ hi hsN hlive fun a' W1 st1 i1 x1 => ?_)⟩
    clear hy
    have t1 := ht.keep st1 (by omega) (Nat.le_refl _)
    refine ⟨_, run_beginRound t1.lp (by rw [hM]), ?_⟩
    have hbusy : ({ M .ready none with state := LoopState.busy } : Loop) = M .busy none := by rw [hM, hM]
    rw [hbusy]
    have t2 := t1.put (M .busy none) (by omega)
    have s2 : Soft w.heap.size W1 (W1.putObj (w.heap.size + 1) (.loop (M .busy none))) := Soft.put t1.lp trivial (by omega)
    have i2 := hI s _ _ i1 s2
    have x2 := hAx s a' _ _ x1 s2
    refine wpIn_mono (hbody _ _ s a' _ i2 x2 hsN hlive) ?_
    rintro e a3 W3 hp
    cases e with
    | normal =>
      obtain ⟨k3, i3⟩ := hp
      have t3 := t2.keep k3 (by omega) (Nat.le_refl _)
      have he := run_endRound (P := Tryz.prog) none t3.lp
      rw [show ({ M .busy none with state := if (none : Option Code).isNone then LoopState.ready else .done, pending := none } : Loop) = M .ready none by rw [hM, hM]; rfl] at he
      refine ⟨_, _, he, rfl, ⟨hI (s + 1) _ _ i3 (Soft.put t3.lp trivial (by omega)), t3.put _ (by omega)⟩, ?_⟩
      intro k o hk ho hl
      rw [hsz] at hk
      have h1 := st1 k o (by omega) ho hl
      have h2 : (W1.putObj (w.heap.size + 1) (.loop (M .busy none))).heap[k]? = some o := (World.putObj_heap_other (by omega)).trans h1
      have h3 := k3 k o (by omega) h2 hl
      exact (World.putObj_heap_other (by omega)).trans h3
    | ret => exact hp.elim
    | exit id => exact hp.elim
    | goto t => exact hp.elim
    | panic ch => exact hp.elim
    | outgrown => exact hp.elim
  · rintro e W2 ⟨⟨v, rfl⟩, hi, ht⟩
    have he := run_endLoop (P := Tryz.prog) ht.lp (by rw [hM]; simp)
    rw [show (M .ready none).pending = none by rw [hM]] at he
    exact ⟨none, _, he, hdone _ (hI N _ _ hi (Soft.put ht.lp trivial (by omega))) (ht.put _ (by omega)).df⟩
end Go.Proofs.YtnbdoemnepfhdaaGreat.Ts

