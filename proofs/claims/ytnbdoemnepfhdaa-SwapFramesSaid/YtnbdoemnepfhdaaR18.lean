/-
  Contracts and plain facts: NProg2, NOps, NOps3, NIter. Conditions: each says its own.
-/
import Derived.Test.YtnbdoemnepfhdaaR13
import Derived.Test.YtnbdoemnepfhdaaR17
import Derived.Test.YtnbdoemnepfhdaaR9
import Derived.Deep.RegionHeld3
namespace Go.Proofs.Ytnbdoemnepfhdaa.Ts
open Fld
open Pt (idxI lastI)
open Mem (MemAt MemTo word setW)

open Go.ChangeShapes Go.WideShapes Go.ChangeAt Go.RowKit
set_option maxHeartbeats 2000000
set_option maxRecDepth 100000
theorem empty_any {st sb bm : Nat} {p : Par} {T : Nat → Pl} (w : World) (h : TsbAt w st sb bm p T) {i : Nat} (hi : i < p.n) :
    Calls Try.prog 45 #[.pointer (some ⟨st, 0, none⟩), .int .u64 ((p.b + 16 * i : Nat) : Int)] w fun e w' => e = .returned (.tuple #[]) ∧ TsbTo w w' st sb bm p (setP T i Pl.none) := by
  have C := Lib.hid (putPair_at h.drew hi)
  obtain ⟨c0, c1, c2, c3⟩ := h.row.cells
  generalize p.b + 16 * i = A at *
  clear h
  go_enter Try.func45, Try.ntmps45
  go_region_with (first | (go_at_call 47; refine (tbad_any _).mono ?_; rintro e w' ⟨rfl, rfl⟩) | (go_at_call 46; refine C.out.mono ?_; rintro e w' ⟨rfl, hT⟩))
  all_goals
    go_wp2
    go_end0
    exact ⟨rfl, hT.undrew⟩
end Go.Proofs.Ytnbdoemnepfhdaa.Ts

namespace Go.Proofs.Ytnbdoemnepfhdaa.Ts
open Fld
open Pt (idxI lastI)
open Mem (MemAt MemTo word setW)

open Go.ChangeShapes Go.WideShapes Go.ChangeAt Go.RowKit
set_option maxHeartbeats 2000000
set_option maxRecDepth 100000
/-! ### A call under way: the TSB, and a boxed entry -/
structure KX (w wr : World) (st sb bm : Nat) (p : Par) (T : Nat → Pl) : Prop where
  bel : Below w.heap.size w wr
  tsb : TsbAt wr st sb bm p T
theorem KX.drew {w wr : World} {st sb bm : Nat} {p : Par} {T : Nat → Pl} (h : KX w wr st sb bm p T) : KX w wr.drew st sb bm p T := ⟨h.bel.drew, h.tsb.drew⟩
theorem KX.drewN {w wr : World} {st sb bm : Nat} {p : Par} {T : Nat → Pl} (h : KX w wr st sb bm p T) (n : Nat) : KX w (wr.drewN n) st sb bm p T := ⟨below_drewN h.bel n, h.tsb.drewN n⟩
theorem KX.call {w wr w' : World} {st sb bm : Nat} {p : Par} {T : Nat → Pl} (h : KX w wr st sb bm p T) (hb : Below wr.heap.size wr w') : KX w w' st sb bm p T := ⟨h.bel.trans (hb.mono h.bel.size), h.tsb.low hb⟩
theorem KX.sc {w wr : World} {st sb bm : Nat} {p : Par} {T : Nat → Pl} (h : KX w wr st sb bm p T) : wr.cell? ⟨st, 0, none⟩ = some (.pointer (some ⟨sb, 0, none⟩)) ∧ wr.cell? ⟨st, 2, none⟩ = some (.int .i64 p.s) := ⟨h.tsb.row.cells.1, h.tsb.row.cells.2.2.1⟩
/-- The TSB has turned. -/
structure KY (w wr : World) (st sb bm : Nat) (p : Par) (T : Nat → Pl) : Prop where
  too : TsbTo w wr st sb bm p T
theorem KY.sc {w wr : World} {st sb bm : Nat} {p : Par} {T : Nat → Pl} (h : KY w wr st sb bm p T) : wr.cell? ⟨st, 0, none⟩ = some (.pointer (some ⟨sb, 0, none⟩)) ∧ wr.cell? ⟨st, 2, none⟩ = some (.int .i64 p.s) := by
  obtain ⟨b, ht, _⟩ := h.too
  exact ⟨ht.row.cells.1, ht.row.cells.2.2.1⟩
theorem KX.turn {w wr w' : World} {st sb bm : Nat} {p : Par} {T U : Nat → Pl} (h : KX w wr st sb bm p T) (ht : TsbTo wr w' st sb bm p U) : KY w w' st sb bm p U := ⟨TsbTo.unlow h.bel ht⟩
end Go.Proofs.Ytnbdoemnepfhdaa.Ts

namespace Go.Proofs.Ytnbdoemnepfhdaa.Ts
open Fld
open Pt (idxI lastI)
open Mem (MemAt MemTo word setW)

open Go.ChangeShapes Go.WideShapes Go.ChangeAt Go.RowKit
set_option maxHeartbeats 2000000
set_option maxRecDepth 100000
structure EntU (e : Ent) : Prop where
  v0 : 0 ≤ e.va
  v1 : e.va ≤ 18446744073709551615
  p0 : 0 ≤ e.pa
  p1 : e.pa ≤ 18446744073709551615
end Go.Proofs.Ytnbdoemnepfhdaa.Ts

namespace Go.Proofs.Ytnbdoemnepfhdaa.Ts
open Fld
open Pt (idxI lastI)
open Mem (MemAt MemTo word setW)
open Go.ChangeShapes Go.WideShapes Go.ChangeAt Go.RowKit Go.Shelf
attribute [local go_sem] Oper.semAt_some
set_option maxRecDepth 100000
set_option maxHeartbeats 2000000
def encP (p : Par) (i : Nat) : Array Value := #[.int .i64 (i : Int), .int .u64 ((p.b + 16 * i : Nat) : Int)]
theorem drewN_low (w : World) (m : Nat) : Below w.heap.size w (w.drewN m) := below_drewN (Below.refl _ _) m
theorem places_iter (n : Nat) {st sb : Nat} {p : Par} (hp : p.Ok) : IterN n 44 #[.pointer (some ⟨st, 0, none⟩)] #[] (encP p) (fun _ => True) p.n (fun _ W => RowP W st sb p) := by
  intro l J W hRd hF _ hY h0
  have hnb := hp.n_bd
  have his := hp.is
  have hle := hp.le
  have hrow := hRd 0 W h0
  obtain ⟨c0, c1, c2, c3⟩ := hrow.cells
  have CL := Lib.hid (fun w (h : RowP w st sb p) => len_any hp w h)
  refine callsIn_of_wp Try.func44 rfl (wide_fn _) ?_ rfl
  simp only [Try.ntmps44, List.size_toArray, List.length_cons, List.length_nil, Nat.reduceAdd, Nat.reduceSub, Array.replicate_succ, Array.replicate_zero, List.push_toArray, List.append_toArray, List.nil_append, List.cons_append]
  gi_wp2_with ((first | (refine ⟨trivial, ?_⟩; gi_at_call 10) | (refine ⟨trivial, fun h => absurd h (by decide), ?_⟩; gi_at_call 10)); refine (callsIn_wide.2 (CL.out _ hrow)).mono ?_; rintro e w' ⟨rfl, m, rfl⟩)
  have h1 : J 0 (W.drewN m) := (hF 0).low h0 (drewN_low W m)
  clear h0 c0 c1 c2 c3 hrow CL
  gi_loopw [4, 12] (fun a i wr => ∃ k : Nat, a = .int .u64 ((p.b + 16 * k : Nat) : Int) ∧ i = .int .i64 (k : Int) ∧ k ≤ p.n ∧ J k wr) (fun _ i _ => p.n - (intOf i).toNat)
  case atStart => exact ⟨0, by simp, rfl, Nat.zero_le _, h1⟩
  case round =>
    clear h1
    obtain ⟨k, rfl, rfl, hk, hJ⟩ := hrel
    by_cases hlt : k < p.n
    · obtain ⟨fn, tmps, assign, body, hy, hR⟩ := hY (n - 1) k wr hJ hlt trivial
      unfold encP at hy
      have hlt' : (k : Int) < (p.n : Int) := by omega
      have hw := Lib.hid (show (((p.b + 16 * k : Nat) : Int) + 16) = ((p.b + 16 * (k + 1) : Nat) : Int) by omega)
      have hb : ((p.b + 16 * k : Nat) : Int) + 16 ≤ 18446744073709551615 := by omega
      clear hY
      generalize p.b + 16 * k = A at *
      gi_wp2
      refine ⟨fun h => absurd h (by decide), hR.mono ?_⟩
      rintro e W3 ⟨rfl, hJ3, _⟩
      clear hR hy hJ
      gi_wp2
      go_roundw
      case rel => exact ⟨k + 1, congrArg (Value.int .u64) hw.out, by go_num, by omega, hJ3⟩
      case measure => simp [intOf]; omega
    · obtain rfl : k = p.n := by omega
      clear hY
      gi_wp2
      go_end0
      exact ⟨⟨_, rfl⟩, hJ⟩
end Go.Proofs.Ytnbdoemnepfhdaa.Ts

