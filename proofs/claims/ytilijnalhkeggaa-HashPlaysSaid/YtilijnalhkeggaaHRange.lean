/-
  A range over an iterator that yields by numbers, where the loop's body is left at its end or by one exit. Conditions: the iterator keeps its word 'IterS'.
-/
import Derived.Test.YtilijnalhkeggaaNRange
import Derived.Deep.RegionHeld3
namespace Go.Proofs.Ytilijnalhkeggaa.Hs
open Ts (Stay Soft Firm Two lastMark)
open Go.ChangeShapes Go.WideShapes Go.ChangeAt Go.RowKit
/-- What an iterator does that yields by numbers i < N what 'enc i' says, or ends where a round says so; it reads what Rd tells. -/
def IterS (n gf : Nat) (bnd lb : Array Value) (enc : Nat → Array Value) (N : Nat) (Rd : Nat → World → Prop) : Prop :=
  ∀ (l : Nat) (J : Nat → World → Prop) (Jx : World → Prop) (W : World), (∀ i V, J i V → Rd i V) → (∀ i, Firm W.heap.size (J i)) →
    (∀ m i V, J i V → i < N → YieldAt Fence.wide m Try.prog l (enc i) V fun e V' => Stay W.heap.size V V' ∧ ((e = .returned (.bool true) ∧ J (i + 1) V') ∨ (e = .returned (.bool false) ∧ Jx V'))) →
    J 0 W →
    CallsIn Fence.wide n Try.prog gf (bnd ++ #[.func (.yield l) #[] #[]] ++ lb) W fun e W' => (∃ v, e = .returned v) ∧ (J N W' ∨ Jx W')
/-- How a round's body must be left. -/
def endOr (B : Nat) (I Ix : World → Prop) (id : Nat) (W : World) : Exit → Act → World → Prop
  | .normal, _, W' => Stay B W W' ∧ I W'
  | .ret, _, _ => False
  | .exit id', _, W' => id' = id ∧ Stay B W W' ∧ Ix W'
  | .goto _, _, _ => False
  | .panic _, _, _ => False
  | .outgrown, _, _ => False
theorem range_its {n : Nat} {g : Operand} {ps : Array Tmp} {assign body : Code} {Q : Exit → Act → World → Prop} {a : Act} {w : World}
    {gf : Nat} {bnd lb : Array Value} (hg : a.eval g = .func (.func gf) bnd lb) (eg : ∀ args w, (callFunc gf args).run Try.prog w = .ok (.enter gf args) w)
    {enc : Nat → Array Value} {N : Nat} {Rd : Nat → World → Prop} (hit : ∀ n, IterS n gf bnd lb enc N Rd) (hps : ∀ s, (enc s).size = ps.size)
    (I : Nat → World → Prop) (Ix : World → Prop) (id : Nat) (hRd : ∀ i W, I i W → Rd i W) (hI : ∀ i, Firm w.heap.size (I i)) (hIx : Firm w.heap.size Ix) (h0 : I 0 w)
    (Ax : Nat → Act → World → Prop) (hAx : ∀ i a', Firm w.heap.size (Ax i a'))
    (hassign : ∀ (m l i : Nat) (W : World) (K : Act → World → Prop), I i W → i < N → (∀ a' W', Stay w.heap.size W W' → I i W' → Ax i a' W' → K a' W') →
      assign.wpIn (Fence.wide.inRound l) m Try.prog (Exit.then K (fun _ _ _ => False)) { tmps := (ps.zip (enc i)).foldl (fun t (p, v) => t.setIfInBounds p v) a.tmps, defers := [] } W)
    (hbody : ∀ (m l i : Nat) (a' : Act) (W : World), I i W → Ax i a' W → i < N → body.wpIn (Fence.wide.inRound l) m Try.prog (endOr w.heap.size (I (i + 1)) Ix id W) a' W)
    (hdone : ∀ (W : World), I N W → W.heap[w.heap.size]? = some (.deferred (some [])) → Q .normal (lastMark w.heap.size a) W)
    (hstop : ∀ (W : World), Ix W → W.heap[w.heap.size]? = some (.deferred (some [])) → (Code.exit id).wpIn Fence.wide n Try.prog Q (lastMark w.heap.size a) W) :
    (Code.rangeFunc g ps assign body).wpIn Fence.wide n Try.prog Q a w := by
  refine wpIn_rangeFunc fun fn hfn => ?_
  obtain ⟨M, hM⟩ : ∃ M : LoopState → Option Code → Loop, ∀ st pe, M st pe = { state := st, pending := pe, fn, tmps := a.tmps, params := ps, assign, body, defers := w.heap.size } := ⟨_, fun _ _ => rfl⟩
  obtain ⟨V, hV⟩ : ∃ V, (w.alloc (.deferred (some []))).alloc (.loop (M .ready none)) = V := ⟨_, rfl⟩
  have hv : Two V (w.heap.size + 1) w.heap.size (M .ready none) := by
    refine ⟨?_, ?_⟩
    · have := World.alloc_heap_new (w.alloc (.deferred (some []))) (.loop (M .ready none))
      rwa [hV, World.size_alloc] at this
    · rw [← hV]; exact (Below.heap_alloc _ _ _ (by simp)).trans (World.alloc_heap_new w _)
  have bv : Below w.heap.size w V := by rw [← hV]; exact ((Below.refl _ w).alloc (Nat.le_refl _) _).alloc (by simp) _
  have iv : I 0 V := (hI 0).low h0 bv
  have hsz : V.heap.size = w.heap.size + 1 + 1 := by rw [← hV]; simp
  refine ⟨w.heap.size + 1, [{ target := .collected w.heap.size, args := #[] }], V, { target := .fn (.func gf) lb, args := bnd ++ #[.func (.yield (w.heap.size + 1)) #[] #[]] }, V, gf, bnd ++ #[.func (.yield (w.heap.size + 1)) #[] #[]] ++ lb, V, ?_, ?_, ?_, ?_, fun h => absurd h (by decide), ?_⟩
  · rw [← hV, hM]; exact run_enterLoop_outer _ _ _ _ _
  · simp only [resolve, hg]; simp [go_sem]
  · intro f' _; trivial
  · simp [invoke, go_sem, eg]
  refine (hit (n - 1) (w.heap.size + 1) (fun s W => I s W ∧ Two W (w.heap.size + 1) w.heap.size (M .ready none)) (fun W => Ix W ∧ Two W (w.heap.size + 1) w.heap.size (M .done (some (.exit id)))) V (fun i U h => hRd i U h.1)
    (fun i => Firm.and (fun U U' hu hs => hI i U U' hu (hs.mono (by omega))) (Two.firm (by omega) (by omega))) ?_ ⟨iv, hv⟩).mono ?_
  · rintro m s W ⟨hi, ht⟩ hsN
    have hy := run_yield (P := Try.prog) (args := enc s) ht.lp (by rw [hM]; exact hps s)
    rw [hM] at hy
    refine ⟨fn, _, assign, body, hy, roundIn_of_wpIn hfn (hassign _ _ s W _ hi hsN fun a' W1 st1 i1 x1 => ?_)⟩
    clear hy
    have t1 := ht.keep st1 (by omega) (Nat.le_refl _)
    refine ⟨_, run_beginRound t1.lp (by rw [hM]), ?_⟩
    have hbusy : ({ M .ready none with state := LoopState.busy } : Loop) = M .busy none := by rw [hM, hM]
    rw [hbusy]
    have t2 := t1.put (M .busy none) (by omega)
    have s2 : Soft w.heap.size W1 (W1.putObj (w.heap.size + 1) (.loop (M .busy none))) := Soft.put t1.lp trivial (by omega)
    have i2 := hI s _ _ i1 s2
    have x2 := hAx s a' _ _ x1 s2
    have hstay : ∀ W3 r, Stay w.heap.size (W1.putObj (w.heap.size + 1) (.loop (M .busy none))) W3 → Stay V.heap.size W (W3.putObj (w.heap.size + 1) (.loop r)) := by
      intro W3 r k3 k o hk ho hl
      rw [hsz] at hk
      have h1 := st1 k o (by omega) ho hl
      have h2 : (W1.putObj (w.heap.size + 1) (.loop (M .busy none))).heap[k]? = some o := (World.putObj_heap_other (by omega)).trans h1
      have h3 := k3 k o (by omega) h2 hl
      exact (World.putObj_heap_other (by omega)).trans h3
    refine wpIn_mono (hbody _ _ s a' _ i2 x2 hsN) ?_
    rintro e a3 W3 hp
    cases e with
    | normal =>
      obtain ⟨k3, i3⟩ := hp
      have t3 := t2.keep k3 (by omega) (Nat.le_refl _)
      have he := run_endRound (P := Try.prog) none t3.lp
      rw [show ({ M .busy none with state := if (none : Option Code).isNone then LoopState.ready else .done, pending := none } : Loop) = M .ready none by rw [hM, hM]; rfl] at he
      exact ⟨_, _, he, hstay W3 _ k3, .inl ⟨rfl, hI (s + 1) _ _ i3 (Soft.put t3.lp trivial (by omega)), t3.put _ (by omega)⟩⟩
    | ret => exact hp.elim
    | exit id' =>
      obtain ⟨rfl, k3, i3⟩ := hp
      have t3 := t2.keep k3 (by omega) (Nat.le_refl _)
      have he := run_endRound (P := Try.prog) (some (.exit id')) t3.lp
      rw [show ({ M .busy none with state := if (some (Code.exit id') : Option Code).isNone then LoopState.ready else .done, pending := some (Code.exit id') } : Loop) = M .done (some (.exit id')) by rw [hM, hM]; rfl] at he
      exact ⟨_, _, he, hstay W3 _ k3, .inr ⟨rfl, hIx _ _ i3 (Soft.put t3.lp trivial (by omega)), t3.put _ (by omega)⟩⟩
    | goto t => exact hp.elim
    | panic ch => exact hp.elim
    | outgrown => exact hp.elim
  · rintro e W2 ⟨⟨v, rfl⟩, (⟨hi, ht⟩ | ⟨hi, ht⟩)⟩
    · have he := run_endLoop (P := Try.prog) ht.lp (by rw [hM]; simp)
      rw [show (M .ready none).pending = none by rw [hM]] at he
      exact ⟨none, _, he, hdone _ (hI N _ _ hi (Soft.put ht.lp trivial (by omega))) (ht.put _ (by omega)).df⟩
    · have he := run_endLoop (P := Try.prog) ht.lp (by rw [hM]; simp)
      rw [show (M .done (some (.exit id))).pending = some (.exit id) by rw [hM]] at he
      exact ⟨some (.exit id), _, he, hstop _ (hIx _ _ hi (Soft.put ht.lp trivial (by omega))) (ht.put _ (by omega)).df⟩
/-! ### Regions that draw their order, within a round: by the plain laws -/
theorem uponIn_round {P : Program} {o : Oper} {a : Act} {K : Act → World → Prop} {Q : Exit → Act → World → Prop} {l n : Nat} : ∀ {r : Result Next}, o.upon P a K Q r → o.uponIn (Fence.wide.inRound l) n P a K Q r
  | .ok (.value _) _, h => h
  | .ok .skip _, h => h
  | .ok (.defer _) _, h => h
  | .ok (.enter _ _) _, h => ⟨fun hh => absurd (show Fence.wide.depth.isSome = true from hh) (by decide), CallsIn.inRound l (callsIn_wide.2 h)⟩
  | .ok (.row _ _) _, h => ⟨fun hh => absurd (show Fence.wide.depth.isSome = true from hh) (by decide), fun c cs _ => let ⟨v, w', r, s⟩ := h c cs; ⟨v, w', r, stepsIn_wide.2 s⟩⟩
  | .halt (.panic _) _, h => h
  | .ok (.round _ _ _ _ _) _, h => by simp only [Oper.upon] at h
theorem wpAnyIn_of_any {P : Program} {ops : Array Oper} {md : Region.Mode} {n l : Nat} {Q : Exit → Act → World → Prop} (hd : ∀ (j : Nat) (o : Oper) (c : Call), ops[j]? = some o → o.op ≠ .defer c) (hQ : ¬ LetsOut Q) : ∀ (fuel : Nat) (listed : Array Bool) (a : Act) (w : World),
    wpAny P md ops Q fuel listed a w → wpAnyIn (Fence.wide.inRound l) n P md ops Q fuel listed a w
  | 0, _, _, _, h => h
  | fuel + 1, listed, a, w, h => ⟨h.1, fun i hi => by
    have h2 := h.2 i hi
    unfold wpOp at h2
    unfold wpOpIn
    cases ho : ops[i]? with
    | none => simp only [ho] at h2 ⊢; exact wpAnyIn_of_any hd hQ fuel _ _ _ h2
    | some o =>
      simp only [ho] at h2 ⊢
      by_cases hw : Region.wanted o (yielded ops a.tmps) = true
      · simp only [hw, if_true] at h2 ⊢
        rcases h2 with h2 | h2
        · have h3 := Oper.wp_mono (K' := wpAnyIn (Fence.wide.inRound l) n P md ops Q fuel (listed.setIfInBounds i true)) (fun a' w' hh => wpAnyIn_of_any hd hQ fuel _ _ _ hh) h2
          unfold Oper.wp at h3
          unfold Oper.wpIn
          refine ⟨fun _ _ => trivial, ?_⟩
          rw [Oper.semAt_plain _ _ _ (fun c => hd i o c ho)]
          exact uponIn_round h3
        · exact absurd h2.2 hQ
      · have hw' : Region.wanted o (yielded ops a.tmps) = false := by simpa using hw
        simp only [hw', Bool.false_eq_true, if_false] at h2 ⊢
        exact ⟨fun _ _ => trivial, wpAnyIn_of_any hd hQ fuel _ _ _ h2⟩⟩
theorem region_round_held {P : Program} {n l id : Nat} {S : World → Prop} {Q : Exit → Act → World → Prop} {a : Act} {w : World} {ol : List Oper} (hm : P.follows .mixedOrders = true) (hd : ol.all Ts.noDefer = true) (hQ : ¬ LetsOut Q) (hS : S w.drew)
    (h : S w.drew → wpAnyH P .any ol.toArray Q S ol.toArray.size (Array.replicate ol.toArray.size false) a w.drew) : (Code.region id ol.toArray true).wpIn (Fence.wide.inRound l) n P Q a w := by
  have hd' : ∀ (j : Nat) (o : Oper) (c : Call), ol.toArray[j]? = some o → o.op ≠ .defer c := fun j o c ho hc => by
    have hm' : o ∈ ol := by rw [List.getElem?_toArray] at ho; exact List.mem_of_getElem? ho
    have := List.all_eq_true.1 hd o hm'
    unfold Ts.noDefer at this
    rw [hc] at this; cases this
  exact wpIn_region_any hm (wpAnyIn_of_any hd' hQ _ _ _ _ (wpAny_of_held _ _ _ _ (h hS)))
end Go.Proofs.Ytilijnalhkeggaa.Hs
