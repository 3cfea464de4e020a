/-
  Contracts of the document's Same at lists that are the same, and of the example that every law of layer 2 asks for at its end. Conditions: none.
-/
import Derived.Test.YtkbkilkmiigahaaPCov
namespace Go.Proofs.Ytkbkilkmiigahaa.Fld
open Go.ChangeShapes Go.WideShapes Go.ChangeAt Go.RowKit
set_option maxHeartbeats 400000
theorem own_some {w : World} {B : Nat} {e : TypeId} {v : Value} {l : List Int} (h : w.ownsRow B e 1 v l.length (intsV l)) (hn : 0 < l.length) :
    ∃ g cap, v = .slice (some ⟨g, 0, none⟩) l.length cap ∧ l.length ≤ cap ∧ cap ≤ maxLen ∧ ∀ j (hj : j < l.length), w.cell? ⟨g, j, none⟩ = some (.int .i64 l[j]) := by
  rcases h.2 with ⟨_, h0⟩ | ⟨g, cap, cur, rfl, _, _, h1, h2, _, _⟩
  · omega
  · refine ⟨g, cap, rfl, h1, h2, fun j hj => ?_⟩
    rw [h.cellAt j (by omega)]
    simp [intsV, hj]
theorem rsame_any (l : List Int) (u v : Value) (B C : Nat) (w : World) (hl : l.length ≤ 1000000) (h1 : w.ownsRow B 3 1 u l.length (intsV l)) (h2 : w.ownsRow C 3 1 v l.length (intsV l)) :
    Calls Try.prog 26 #[u, v] w fun e w' => e = .returned (.bool true) ∧ ∃ n, w' = w.drewN n := by
  by_cases hn : 0 < l.length
  · obtain ⟨g, cap, rfl, c1, c2, hc⟩ := own_some h1 hn
    obtain ⟨g', cap', rfl, c3, c4, hc'⟩ := own_some h2 hn
    clear h1 h2
    go_enter Try.func26, Try.ntmps26
    go_wp2
    go_loopw [5] (fun i wr => ∃ k : Nat, k ≤ l.length ∧ i = .int .i64 (k : Int) ∧ ∃ n, wr = w.drewN n) (fun i _ => l.length - (intOf i).toNat)
    case atStart => exact ⟨0, by omega, rfl, 0, rfl⟩
    case round =>
      obtain ⟨k, hk, rfl, n, rfl⟩ := hrel
      by_cases hlt : k < l.length
      · have a1 := hc k hlt
        have a2 := hc' k hlt
        generalize l[k] = x at *
        go_wp2
        go_quiet (fail)
        go_wp2
        go_roundw
        case rel => exact ⟨k + 1, by omega, by go_num, _, rfl⟩
        case measure => simp [intOf]; omega
      · go_wp2
        go_ret
        exact ⟨rfl, n, rfl⟩
  · obtain ⟨ao, cap, rfl⟩ := own_shape h1
    obtain ⟨ao', cap', rfl⟩ := own_shape h2
    obtain ⟨m, hm⟩ : ∃ m, l.length = m := ⟨_, rfl⟩
    have hz : m = 0 := by omega
    clear h1 h2 hn hl
    subst hz
    rw [hm]
    go_enter Try.func26, Try.ntmps26
    go_wp2
    go_loop [5] (fun i => i = .int .i64 0) (fun _ => 0)
    case atStart => rfl
    case round =>
      obtain rfl := hrel
      go_wp2
      go_ret
      exact ⟨rfl, 0, rfl⟩
theorem cover_ex : coverL 0 81920 = [1, 0, 0] :=
  (cover_end 0 81920 (by kernel_rfl) 3 (by omega) (fun j hj => by
    have : j = 0 ∨ j = 1 ∨ j = 2 := by omega
    rcases this with rfl | rfl | rfl <;> decide) (by decide)).trans (by decide)
theorem hole_ex : holeB 8796093022208 = true := by decide
end Go.Proofs.Ytkbkilkmiigahaa.Fld
