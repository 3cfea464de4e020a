/-
  The two iterators of package frames: stretches (a method value), runs (a closure). Conditions: they read frames that are there, and a round that goes on keeps them.
-/
import Derived.Test.YtdjpanmokojpdaaFRange
import Derived.RangeFuncBound
import Derived.WalkKit
import Derived.BigRegionIn
namespace Go.Proofs.Ytdjpanmokojpdaa.Frm
open Fld
open Go.ChangeShapes Go.WideShapes Go.ChangeAt Go.RowKit Go.Shelf
attribute [local go_sem] Oper.semAt_some
theorem wide_fn (f : Nat) : Fence.wide.fn f := trivial
def sF (T : Nat → Bool) (N e : Nat) : Nat := nxt T N e false
def sZ (T : Nat → Bool) (N e : Nat) : Nat := nxt T N (nxt T N e false) true
def sEnc (T : Nat → Bool) (N e : Nat) : Array Value := #[.int .i64 (sF T N e : Int), .int .i64 ((sZ T N e : Int) - (sF T N e : Int))]
def sAt (T : Nat → Bool) (N e : Nat) : Prop := e ≤ N ∧ (e = 0 ∨ e = N ∨ T e = true)
theorem sAt_next {T : Nat → Bool} {N e : Nat} (h : sAt T N e) : sAt T N (sZ T N e) ∧ sF T N e ≤ sZ T N e ∧ e ≤ sF T N e ∧ sF T N e ≤ N ∧ (sF T N e < N → sF T N e < sZ T N e) := by
  obtain ⟨a1, a2, a3, a4⟩ := nxt_spec (T := T) (v := false) h.1
  obtain ⟨b1, b2, b3, b4⟩ := nxt_spec (T := T) (v := true) (i := nxt T N e false) (N := N) (by omega)
  refine ⟨⟨b2, ?_⟩, b1, a1, a2, fun hf => ?_⟩
  · by_cases h : sZ T N e < N
    · exact .inr (.inr (b4 h))
    · exact .inr (.inl (by unfold sZ at *; omega))
  · have := a4 hf
    unfold sF sZ at *
    by_cases e2 : nxt T N e false = nxt T N (nxt T N e false) true
    · rw [e2, b4 (by omega)] at this; cases this
    · omega
set_option maxRecDepth 100000 in
set_option maxHeartbeats 2000000 in
theorem stretches_iter (n : Nat) {sb bb N n₀ : Nat} {T : Nat → Bool} {fr : Int} (w : World) (h : FrRow w sb bb N T fr) (h1 : sb < n₀) (h2 : bb < n₀) :
    Iter n 29 #[.pointer (some ⟨sb, 0, none⟩)] #[] (sEnc T N) (sZ T N) (fun e => sAt T N e ∧ sF T N e < N) (fun e => sAt T N e ∧ sF T N e = N) 0 n₀ w := by
  intro l J Jx W hW hJd hY h0
  have hle := h.le
  have hfr : FrRow W sb bb N T fr := h.below hW
  refine callsIn_of_wp Try.func29 rfl (wide_fn _) ?_ rfl
  simp only [Try.ntmps29, List.size_toArray, List.length_cons, List.length_nil, Nat.reduceAdd, Nat.reduceSub, Array.replicate_succ, Array.replicate_zero, List.push_toArray, List.append_toArray, List.nil_append, List.cons_append]
  gi_wp2
  gi_loopw [4] (fun i wr => ∃ e : Nat, i = .int .i64 (e : Int) ∧ sAt T N e ∧ J e wr ∧ Below n₀ W wr) (fun i _ => N - (intOf i).toNat)
  case atStart => exact ⟨0, rfl, ⟨Nat.zero_le _, .inl rfl⟩, h0, Below.refl _ _⟩
  case round =>
    obtain ⟨e, rfl, hat, hJs, hbw⟩ := hrel
    have hfw : FrRow wr sb bb N T fr := hfr.same (hbw.block _ h1) (hbw.block _ h2)
    have c0 := hfw.c0
    obtain ⟨hat2, k1, k2, k3, k4⟩ := sAt_next hat
    by_cases hf : sF T N e = N
    · have E1 : nxt T N e false = N := hf
      gi_wp2_with (refine ⟨trivial, fun h => absurd h (by decide), ?_⟩; gi_at_call 37; refine (callsIn_wide.2 (next_any _ _ hat.1 _ hfw)).mono ?_; rintro e w' ⟨rfl, rfl⟩)
      refine ret_none rfl rfl ?_
      exact ⟨⟨_, rfl⟩, .inl ⟨e, ⟨hat, hf⟩, hJs⟩⟩
    · obtain ⟨fn, tmps, assign, body, hy, hR⟩ := hY e wr hJs ⟨hat, by omega⟩
      unfold sEnc at hy
      have e1 : e ≤ N := hat.1
      clear hat h0 hY
      obtain ⟨f, Ef⟩ : ∃ f, sF T N e = f := ⟨_, rfl⟩
      obtain ⟨z, Ez⟩ : ∃ z, sZ T N e = z := ⟨_, rfl⟩
      have E1 : nxt T N e false = f := Ef
      have E2 : nxt T N f true = z := by rw [← E1]; exact Ez
      simp only [Ef, Ez] at hy hf hat2 k1 k2 k3 k4 hR
      clear Ef Ez
      have E1 := Lib.hid E1
      have E2 := Lib.hid E2
      have hlt : f < N := by omega
      have hz := hat2.1
      gi_wp2_with (refine ⟨trivial, fun h => absurd h (by decide), ?_⟩; gi_at_call 37; refine (callsIn_wide.2 (next_any _ _ (by omega) _ hfw)).mono ?_; (first | rw [E1.out] | rw [E2.out]); rintro e w' ⟨rfl, rfl⟩)
      refine ⟨fun h => absurd h (by decide), hR.mono ?_⟩
      rintro e W3 (⟨rfl, hJ3, hk3⟩ | ⟨rfl, hJx3⟩)
      · gi_wp2
        go_roundw
        case rel => exact ⟨z, rfl, hat2, hJ3, hbw.trans hk3⟩
        case measure => simp [intOf]; omega
      · gi_wp2
        refine ret_none rfl rfl ?_
        exact ⟨⟨_, rfl⟩, .inr hJx3⟩
theorem runs_any (p : Option Addr) (k : Int) (w : World) :
    Calls Try.prog 31 #[.pointer p, .int .i64 k] w fun e w' => e = .returned (.func (.func 38) #[] #[.pointer (some ⟨w.heap.size + 1, 0, none⟩), .pointer (some ⟨w.heap.size, 0, none⟩)]) ∧ (w.alloc (.cells #[.pointer p] 23)).alloc (.cells #[.int .i64 k] 3) = w' := by
  go_enter Try.func31, Try.ntmps31
  go_wp2
  go_ret
  exact ⟨rfl, rfl⟩
set_option maxRecDepth 100000 in
set_option maxHeartbeats 2000000 in
theorem runs_iter (n : Nat) {sb bb N n₀ : Nat} {T : Nat → Bool} {fr : Int} (k b1 b2 : Nat) (hk0 : 0 < k) (hk1 : k ≤ 512) (w : World) (h : FrRow w sb bb N T fr) (h1 : sb < n₀) (h2 : bb < n₀) (hn0 : n₀ ≤ w.heap.size) (hb1 : b1 < n₀) (hb2 : b2 < n₀)
    (g1 : w.cell? ⟨b1, 0, none⟩ = some (.int .i64 (k : Int))) (g2 : w.cell? ⟨b2, 0, none⟩ = some (.pointer (some ⟨sb, 0, none⟩))) :
    Iter n 38 #[] #[.pointer (some ⟨b1, 0, none⟩), .pointer (some ⟨b2, 0, none⟩)] (fun j => #[.int .i64 ((j * k : Nat) : Int)]) (fun j => j + 1) (fun j => j * k + k ≤ N) (fun j => N < j * k + k) 0 n₀ w := by
  intro l J Jx W hW hJd hY h0
  have hle := h.le
  have hfr : FrRow W sb bb N T fr := h.below hW
  have g1 := (hW.cell (p := ⟨b1, 0, none⟩) (Nat.lt_of_lt_of_le hb1 hn0)).trans g1
  have g2 := (hW.cell (p := ⟨b2, 0, none⟩) (Nat.lt_of_lt_of_le hb2 hn0)).trans g2
  refine callsIn_of_wp Try.func38 rfl (wide_fn _) ?_ rfl
  simp only [Try.ntmps38, List.size_toArray, List.length_cons, List.length_nil, Nat.reduceAdd, Nat.reduceSub, Array.replicate_succ, Array.replicate_zero, List.push_toArray, List.append_toArray, List.nil_append, List.cons_append]
  gi_wp2
  gi_loopw [4] (fun i wr => ∃ j : Nat, i = .int .i64 ((j * k : Nat) : Int) ∧ j * k ≤ N ∧ J j wr ∧ Below n₀ W wr) (fun i _ => N - (intOf i).toNat)
  case atStart => exact ⟨0, by simp, by simp, h0, Below.refl _ _⟩
  case round =>
    obtain ⟨j, rfl, hj, hJs, hbw⟩ := hrel
    have hfw : FrRow wr sb bb N T fr := hfr.same (hbw.block _ h1) (hbw.block _ h2)
    have c0 := hfw.c0
    have g1w := (hbw.cell (p := ⟨b1, 0, none⟩) hb1).trans g1
    have g2w := (hbw.cell (p := ⟨b2, 0, none⟩) hb2).trans g2
    have hJd' : J j wr.drew := hJd j wr 1 hJs
    have hfd : FrRow wr.drew sb bb N T fr := hfw.drewN 1
    have hbd : Below n₀ W wr.drew := hbw.trans ((Below.refl n₀ wr).drew)
    by_cases hf : N < j * k + k
    · have HF := Lib.hid (show N < j * k + k ∧ J j wr.drew from ⟨hf, hJd'⟩)
      have HG : Hid (∃ s, N < s * k + k ∧ J s wr.drew) := Lib.hid ⟨j, HF.out⟩
      clear HF hY
      generalize j * k = q at *
      gi_wp2
      gi_region
      gi_wp2
      go_end0
      exact ⟨⟨_, rfl⟩, .inl HG.out⟩
    · obtain ⟨fn, tmps, assign, body, hy, hR⟩ := hY j wr.drew hJd' (by omega)
      have hq : (j + 1) * k = j * k + k := Nat.succ_mul j k
      clear hY
      generalize j * k = q at *
      gi_wp2
      gi_region
      gi_wp2
      refine ⟨fun h => absurd h (by decide), hR.mono ?_⟩
      rintro e W3 (⟨rfl, hJ3, hk3⟩ | ⟨rfl, hJx3⟩)
      · have g3 := (hk3.cell (p := ⟨b1, 0, none⟩) hb1).trans (show wr.drew.cell? _ = _ from g1w)
        gi_wp2
        go_roundw
        case rel => exact ⟨j + 1, by rw [hq]; simp, by omega, hJ3, hbd.trans hk3⟩
        case measure => simp [intOf]; omega
      · gi_wp2
        refine ret_none rfl rfl ?_
        exact ⟨⟨_, rfl⟩, .inr hJx3⟩
end Go.Proofs.Ytdjpanmokojpdaa.Frm
