/-
  The iterator round of package ctx, and what pass makes of a pool's hand. Conditions: it reads a pool that is there, and a round that goes on keeps the pool's list of owners.
-/
import Derived.Test.YtkbkilkmiigahaaCRange
import Derived.Test.YtkbkilkmiigahaaCProg
import Derived.RangeFuncBound
namespace Go.Proofs.Ytkbkilkmiigahaa.Cx
open Fld
open Go.ChangeShapes Go.WideShapes Go.ChangeAt Go.RowKit Go.Shelf
attribute [local go_sem] Oper.semAt_some
theorem wide_fn (f : Nat) : Fence.wide.fn f := trivial
theorem ret_none {fn : Func} {R : Ending → World → Prop} {a : Act} {w : World} (h : fn.results = #[]) (hd : a.defers = []) (hR : R (.returned (.tuple #[])) w) : bodyPost Try.prog fn R .ret a w := bodyPost_ret (results_none h _ _ _) hd hR
set_option maxRecDepth 100000 in
set_option maxHeartbeats 2000000 in
theorem round_iter (m : Nat) {pb bm ob n h R : Nat} {T M : Nat → Int} (w : World) (H : PoolRow w pb bm ob n T M h R) (h0 : 1 ≤ h) (h1 : 0 < n → h ≤ n) :
    Iter m 34 #[.pointer (some ⟨pb, 0, none⟩)] #[] (fun j => #[.int .i64 (rot n h j : Int)]) (fun j => j + 1) (fun j => j < n) (fun j => j = n) 0 ⟨pb, 1, none⟩ w := by
  intro l J Jx W hW hJd hY hs
  have hle := H.le
  have HW : PoolRow W pb bm ob n T M h R := H.low hW
  obtain ⟨c0, c1, c2, c3⟩ := HW.cells
  refine callsIn_of_wp Try.func34 rfl (wide_fn _) ?_ rfl
  simp only [Try.ntmps34, List.size_toArray, List.length_cons, List.length_nil, Nat.reduceAdd, Nat.reduceSub, Array.replicate_succ, Array.replicate_zero, List.push_toArray, List.append_toArray, List.nil_append, List.cons_append]
  gi_wp2
  gi_loopw [4, 14] (fun k i wr => ∃ j : Nat, j ≤ n ∧ i = .int .i64 (j : Int) ∧ k = .int .i64 (rot n h j : Int) ∧ J j wr ∧ wr.cell? ⟨pb, 1, none⟩ = some (.slice (some ⟨ob, 0, none⟩) n n)) (fun _ i _ => n - (intOf i).toNat)
  case atStart => exact ⟨0, Nat.zero_le _, rfl, rfl, hs, c1⟩
  case round =>
    obtain ⟨j, hj, rfl, rfl, hJs, c1w⟩ := hrel
    clear c0 c1 c2 c3
    by_cases hlt : j < n
    · have rb := rot_bd (by omega) h0 (h1 (by omega)) j
      have hnx : rot n h (j + 1) = rot n h j % n + 1 := rfl
      obtain ⟨fn, tmps, assign, body, hy, hR⟩ := hY j wr hJs hlt
      clear hY
      generalize rot n h j = k at *
      have HN := Lib.hid hnx
      clear hnx
      gi_wp2
      refine ⟨fun h => absurd h (by decide), hR.mono ?_⟩
      rintro e W3 (⟨rfl, hJ3, hc3⟩ | ⟨rfl, hJx3⟩)
      · have c3 := hc3.trans c1w
        gi_wp2_with (refine ⟨trivial, fun h => absurd h (by decide), ?_⟩; gi_at_call 42; refine (callsIn_wide.2 (behind_cell _ c3 hle k rb.1 rb.2)).mono ?_; rintro e w' ⟨rfl, rfl⟩)
        go_roundw
        case rel => exact ⟨j + 1, by omega, by go_num, by rw [HN.out, Int.natCast_add, Int.natCast_emod]; rfl, hJ3, c3⟩
        case measure => simp [intOf]; omega
      · gi_wp2
        refine ret_none rfl rfl ?_
        exact ⟨⟨_, rfl⟩, .inr hJx3⟩
    · obtain rfl : j = n := by omega
      clear hY
      gi_wp2
      go_end0
      exact ⟨⟨_, rfl⟩, .inl ⟨j, rfl, hJs⟩⟩
end Go.Proofs.Ytkbkilkmiigahaa.Cx
