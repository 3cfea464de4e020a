/-
  Contract of Longest of package frames. Conditions: it reads frames that are there.
-/
import Derived.Test.YtdjpanmokojpdaaFIter
namespace Go.Proofs.Ytdjpanmokojpdaa.Frm
open Fld
open Go.ChangeShapes Go.WideShapes Go.ChangeAt Go.RowKit Go.Shelf
attribute [local go_sem] Oper.semAt_some
theorem boxed_own1 {σ : Type} (B : Nat) (t : TypeId) (f : σ → Value) : Own (fun (s : σ) W => Boxed W B t (f s)) := fun s W W' row hs hg hr =>
  hs.kept hg (fun e => by
    obtain ⟨o, ho, hc⟩ := hr _ e.symm
    rw [show W.heap[B]? = _ from hs] at ho
    injection ho with ho
    rw [← ho] at hc
    cases hc)
theorem row_own {σ : Type} (B sb bb n : Nat) (T : Nat → Bool) (fr : Int) (h1 : sb < B) (h2 : bb < B) : OwnFrom B (fun (_ : σ) W => FrRow W sb bb n T fr) := fun s W W' row hs hg hr =>
  hs.same (hg.block _ hs.lt.1 (fun e => by have := (hr _ e.symm).1; omega)) (hg.block _ hs.lt.2 (fun e => by have := (hr _ e.symm).1; omega))
set_option maxRecDepth 100000 in
set_option maxHeartbeats 2000000 in
theorem longest_any {sb bb n : Nat} {T : Nat → Bool} {fr : Int} (w : World) (h : FrRow w sb bb n T fr) :
    Calls Try.prog 13 #[.pointer (some ⟨sb, 0, none⟩)] w fun e w' => e = .returned (.int .i64 (lng T n : Int)) ∧ Below w.heap.size w w' := by
  have hn := h.le
  refine (callsIn_wide (n := 3)).1 ?_
  refine callsIn_of_wp_marks Try.func13 rfl trivial ?_ rfl
  simp only [Try.ntmps13, List.size_toArray, List.length_cons, List.length_nil, Nat.reduceAdd, Nat.reduceSub, Array.replicate_succ, Array.replicate_zero, List.push_toArray, List.append_toArray, List.nil_append, List.cons_append]
  gi_wp2
  refine range_iter (n := 3) (gf := 29) (bnd := #[.pointer (some ⟨sb, 0, none⟩)]) (lb := #[]) rfl (enters_of Try.func29 (by kernel_rfl) rfl)
    (n₀ := w.heap.size) (by simp) (stretches_iter 2 (T := T) (N := n) (fr := fr) _ (h.below ((Below.refl _ w).alloc (Nat.le_refl _) _)) h.lt.1 h.lt.2) (fun _ => rfl)
    (fun e W => Boxed W w.heap.size 3 (.int .i64 (lng T e : Int)) ∧ Below w.heap.size w W)
    (fun _ => False)
    (OwnFrom.and (Own.from (boxed_own1 _ _ _) _) (ownFrom_below (Nat.le_refl _) (by simp)))
    (fun _ _ _ _ hs _ _ => hs)
    ⟨Boxed.new _ _ _, (Below.refl _ w).alloc (Nat.le_refl _) _⟩
    (fun e => { tmps := #[.pointer (some ⟨sb, 0, none⟩), undef, .int .i64 0, .pointer (some ⟨w.heap.size, 0, none⟩), undef, .int .i64 ((sZ T n e : Int) - (sF T n e : Int)), .pointer (some ⟨sb, 0, none⟩), .func (.func 29) #[.pointer (some ⟨sb, 0, none⟩)] #[], .int .i64 (sF T n e : Int), .int .i64 ((sZ T n e : Int) - (sF T n e : Int)), undef, undef, undef, undef], defers := [] }) ?assign ?body ?done ?stop
  case assign =>
    intro l e W K hK
    unfold sEnc
    gi_wp2
    exact hK
  case body =>
    rintro l e W ⟨hb, hB⟩ ⟨hat, hlt⟩
    have c := hb.cell
    have f := hb.frozen
    obtain ⟨_, k1, _, _, _⟩ := sAt_next hat
    have hs : (lng T (sZ T n e) : Int) = max (lng T e : Int) ((sZ T n e : Int) - (sF T n e : Int)) := by
      have e1 : lng T (sZ T n e) = max (lng T e) (sZ T n e - sF T n e) := lng_step hat.1 hat.2 hlt
      omega
    have hs := Lib.hid hs
    gi_wp2
    exact ⟨(KeepsOthers.setCell _ _ _).from _, (Below.refl w.heap.size W).setCell (p := ⟨w.heap.size, 0, none⟩) (Nat.le_refl _) _, by rw [hs.out]; exact hb.set _, hB.setCell (p := ⟨w.heap.size, 0, none⟩) (Nat.le_refl _) _⟩
  case done =>
    rintro e W ⟨hat, hf⟩ ⟨hb, hB⟩ hK
    have c := hb.cell
    have hs := Lib.hid (lng_end (T := T) hat.1 hf)
    unfold lastMark
    gi_wp2
    refine ⟨by simp, .inl ⟨_, _, rfl, run_takeDeferred hK, ?_⟩⟩
    exact ⟨_, results_tmp rfl _ _ _, by rw [hs.out]; rfl, hB.trans (belowK_b (w := w) (Nat.le_refl _) W _ _ _ (by simp) hK rfl rfl)⟩
  case stop =>
    rintro W h _
    exact h.elim
end Go.Proofs.Ytdjpanmokojpdaa.Frm
