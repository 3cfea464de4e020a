/-
  Contract of maps.Copy at maps of words: the new map has what the other one has. Conditions: the new map is empty, and another one.
-/
import Derived.Test.YtmhgofhclckdpaaMNew
namespace Go.Proofs.Ytmhgofhclckdpaa.Mem
open Go.ChangeShapes Go.WideShapes Go.ChangeAt Go.RowKit Go.Maps
set_option maxHeartbeats 400000
set_option maxRecDepth 100000 in
theorem mcopy_any (b d n : Nat) (D0 : DataW Unit) (w : World) (hown : w.ownsMap Try.prog 22 (plainElem Try.prog 22) b n D0) (hd : w.ownsMap Try.prog 22 (plainElem Try.prog 22) d 0 (.map [] : DataW Unit)) (hne : b ≠ d) (hmax : Maps.size D0 ≤ 274877906944) :
    Calls Try.prog 38 #[.map (some d), .map (some b)] w fun e w' => e = .returned (.tuple #[]) ∧ w'.ownsMap Try.prog 22 (plainElem Try.prog 22) d (Maps.size D0) D0 ∧ w.grownBy w' (some d) := by
  have hbl := hown.lt
  have hdl := hd.lt
  go_enter Try.func38, Try.ntmps38
  go_wp2_with (first
    | (at_range; refine wpList_range_own _ rfl _ 54 rfl 22 22 lawU Try.underlying54 _ b n _ rfl hown ?_; intro w0 hrg0 hg0 hs0)
    | go_in)
  go_frame
  go_loopw [4] (fun _ wr => ∃ (left : Lit → Bool) (cnt : Nat) (Dout : DataW Unit), wr.ranges Try.prog 22 (plainElem Try.prog 22) b w.heap.size n D0 left cnt ∧ cnt ≤ Maps.size D0 ∧
      wr.ownsMap Try.prog 22 (plainElem Try.prog 22) d (Maps.size D0 - cnt) Dout ∧ Agree Dout D0 left ∧ w.grownBy wr (some d))
    (fun _ wr => wr.rangeLeft b w.heap.size)
  case atStart =>
    exact ⟨_, _, .map [], hrg0, Nat.le_refl _, (hd.kept hg0 (by simp)).mono (Nat.zero_le _), agree_start D0, hg0.but _⟩
  case round =>
    obtain ⟨left, cnt, Dout, hrg, hcs, hout, hA, hnx⟩ := hrel
    go_wp2_with (first
      | (at_next; refine wpList_next_ranges_ii _ rfl _ rfl 22 22 .u64 .u64 lawU Try.underlying22 Try.underlying22 b w.heap.size n _ _ _ rfl hrg ?_ ?_)
      | go_in)
    · intro hc0 hl0
      go_wp2
      go_end0
      subst hc0
      have e := agree_end hA hl0 (hout.canon lawU) (hown.canon lawU)
      subst e
      exact ⟨rfl, by simpa using hout, hnx⟩
    · intro x c w1 cnt1 hwx hwc hlx hat hrg1 hlt hg1 hs1 hen
      have hout1 := hout.kept hg1 (fun e => by have := Option.some.inj e; omega)
      go_wp2_with (first
        | (at_mapUpdate; refine wpList_mapUpdate_own _ rfl _ _ _ 54 rfl 22 22 lawU Try.underlying54 _ d _ _ rfl hout1 (by unfold maxLen; omega) _ _ _ rfl rfl (keyOf_int_mk Try.underlying22 hwx) _ [] (plainElem_int Try.underlying22 hwc) ?_; intro w2 hout2 hg2; go_frame)
        | go_in)
      have hrg2 := hrg1.kept hg2 (fun e => by have := Option.some.inj e; omega) (fun e => by have := Option.some.inj e; omega)
      go_roundw
      case rel =>
        exact ⟨_, cnt1, _, hrg2, by omega, hout2.mono (by omega), agree_step hA hout.isMap trivial hat,
          (hnx.andThen hg1 (fun j hj => by cases hj; exact .inl (Nat.le_refl _))).andThen hg2 (fun j hj => by cases hj; exact .inr rfl)⟩
      case measure => rw [hrg2.left_eq, hrg.left_eq]; exact hlt
end Go.Proofs.Ytmhgofhclckdpaa.Mem
