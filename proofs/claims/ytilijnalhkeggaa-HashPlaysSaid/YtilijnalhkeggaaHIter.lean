/-
  The iterator of All of package hash: it yields what its list has, in its row, till a round says to end. Conditions: the list stays.
-/
import Derived.Test.YtilijnalhkeggaaHLong
import Derived.Test.YtilijnalhkeggaaHRange
namespace Go.Proofs.Ytilijnalhkeggaa.Hs
open Fld
open Ts (Stay Soft Firm)
open Go.ChangeShapes Go.WideShapes Go.ChangeAt Go.RowKit Go.Maps
attribute [local go_sem] Oper.semAt_some
set_option maxHeartbeats 2000000
set_option maxRecDepth 100000
def encB (l : List Bk) (i : Nat) : Array Value := #[.agg #[.int .i64 (at_ l i).k.sp, .int .u64 (at_ l i).k.va, .int .i64 (at_ l i).k.sz], .int .i64 (at_ l i).v]
theorem none_ret {fn : Func} {R : Ending → World → Prop} {a : Act} {w : World} (h : fn.results = #[]) (hd : a.defers = []) (hR : R (.returned (.tuple #[])) w) : bodyPost Try.prog fn R .ret a w := bodyPost_ret (results_none h _ _ _) hd hR
theorem ItAt.low {w w' : World} {B xb : Nat} {v : Value} {l : List Bk} (h : ItAt w B xb v l) (hb : Below w.heap.size w w') : ItAt w' B xb v l :=
  ⟨blk_low h.box hb, own_same h.own (fun g hg => hb.block g (h.own.lt g hg).2)⟩
theorem all_iter (n : Nat) {B xb : Nat} {v : Value} {l : List Bk} : IterS n 61 #[] #[.pointer (some ⟨xb, 0, none⟩)] (encB l) l.length (fun _ V => ItAt V B xb v l) := by
  intro lb J Jx W hRd hF hY h0
  have hit := hRd 0 W h0
  have c0 : W.cell? ⟨xb, 0, none⟩ = some v := by have := hit.box; simp [World.cell?, this]
  rcases own_form hit.own with ⟨rfl, hz⟩ | ⟨g, cap, rfl, hgb, hnc, hcm⟩
  · rw [hz] at *
    refine callsIn_of_wp Try.func61 rfl (Ts.wide_fn _) ?_ rfl
    simp only [Try.ntmps61, List.size_toArray, List.length_cons, List.length_nil, Nat.reduceAdd, Nat.reduceSub, Array.replicate_succ, Array.replicate_zero, List.push_toArray, List.append_toArray, List.nil_append, List.cons_append]
    clear hY
    gi_wp2
    gi_loopw [7] (fun i wr => i = .int .i64 0 ∧ J 0 wr) (fun _ _ => 0)
    case atStart => exact ⟨rfl, h0⟩
    case round =>
      obtain ⟨rfl, hJ⟩ := hrel
      gi_wp2
      go_end0
      exact ⟨⟨_, rfl⟩, .inl hJ⟩
  · unfold maxLen at hcm
    refine callsIn_of_wp Try.func61 rfl (Ts.wide_fn _) ?_ rfl
    simp only [Try.ntmps61, List.size_toArray, List.length_cons, List.length_nil, Nat.reduceAdd, Nat.reduceSub, Array.replicate_succ, Array.replicate_zero, List.push_toArray, List.append_toArray, List.nil_append, List.cons_append]
    clear hit
    gi_wp2
    clear c0
    gi_loopw [7] (fun i wr => ∃ j : Nat, i = .int .i64 (j : Int) ∧ j ≤ l.length ∧ J j wr) (fun i _ => l.length - (RowKit.intOf i).toNat)
    case atStart => exact ⟨0, rfl, Nat.zero_le _, h0⟩
    case round =>
      clear h0
      obtain ⟨j, rfl, hj, hJ⟩ := hrel
      by_cases hlt : j < l.length
      · have hit := hRd j wr hJ
        obtain ⟨y0, y1, y2, y3⟩ := own_rowC hit.own hgb hlt
        have hJ1 : J j (wr.alloc (.cells #[.int .i64 (at_ l j).k.sp, .int .u64 (at_ l j).k.va, .int .i64 (at_ l j).k.sz, .int .i64 (at_ l j).v] 83)) := (hF j).low hJ ((Below.refl _ _).alloc (Nat.le_refl _) _)
        obtain ⟨fn, tmps, assign, body, hy, hR⟩ := hY (n - 1) j _ hJ1 hlt
        unfold encB at hy
        have hlt' : (j : Int) < (l.length : Int) := by omega
        clear hY hit hJ hJ1
        gi_wp2
        refine ⟨fun h => absurd h (by decide), hR.mono ?_⟩
        rintro e W3 ⟨_, (⟨rfl, hJ3⟩ | ⟨rfl, hJ3⟩)⟩
        · clear hR hy
          gi_wp2
          go_roundw
          case rel => exact ⟨j + 1, by go_num, by omega, hJ3⟩
          case measure => simp [RowKit.intOf]; omega
        · clear hR hy
          gi_wp2
          refine none_ret rfl rfl ?_
          exact ⟨⟨_, rfl⟩, .inr hJ3⟩
      · obtain rfl : j = l.length := by omega
        clear hY
        gi_wp2
        go_end0
        exact ⟨⟨_, rfl⟩, .inl hJ⟩
end Go.Proofs.Ytilijnalhkeggaa.Hs
