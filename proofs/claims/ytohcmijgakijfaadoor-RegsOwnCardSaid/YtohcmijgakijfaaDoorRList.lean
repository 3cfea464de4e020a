/-
  Contracts of the document's All and Same, and of the example that every law of registers asks for at its end. Conditions: the table stands where it was laid; words are below 2 to the 64.
-/
import Derived.Test.YtohcmijgakijfaaDoorRAll
import Derived.Test.YtohcmijgakijfaaDoorRDoc3
import Derived.Test.YtohcmijgakijfaaDoorROps3
namespace Go.Proofs.YtohcmijgakijfaaDoor.Rg
open Fld
open Go.ChangeShapes Go.WideShapes Go.ChangeAt Go.RowKit Go.Maps
set_option maxHeartbeats 1000000
set_option maxRecDepth 100000
/-- A list of words stands in memory. -/
structure IsU (w : World) (v : Value) (l : List Int) (g cap : Nat) : Prop where
  eq : v = .slice (some ⟨g, 0, none⟩) l.length cap
  le : l.length ≤ cap
  max : cap ≤ maxLen
  at_ : ∀ j (hj : j < l.length), w.cell? ⟨g, j, none⟩ = some (.int .u64 l[j])
theorem own_isU {w : World} {B : Nat} {e : TypeId} {v : Value} {l : List Int} (h : w.ownsRow B e 1 v l.length (vU l)) (hn : 0 < l.length) : ∃ g cap, IsU w v l g cap ∧ B ≤ g := by
  rcases h.2 with ⟨_, h0⟩ | ⟨g, cap, cur, rfl, hB, _, h1, h2, _, _⟩
  · omega
  · refine ⟨g, cap, ⟨rfl, h1, h2, fun j hj => ?_⟩, hB⟩
    rw [h.cellAt j (by omega)]
    simp [vU, hj]
theorem IsU.lt {w : World} {v : Value} {l : List Int} {g cap : Nat} (h : IsU w v l g cap) (hn : 0 < l.length) : g < w.heap.size := by
  have := h.at_ 0 hn
  exact World.block_lt_of_cell? w _ this
theorem IsU.block {w w' : World} {v : Value} {l : List Int} {g cap : Nat} (h : IsU w v l g cap) (hb : w'.heap[g]? = w.heap[g]?) : IsU w' v l g cap :=
  ⟨h.eq, h.le, h.max, fun j hj => (World.cell?_of_block (a := ⟨g, j, none⟩) hb).trans (h.at_ j hj)⟩
theorem IsU.below {w w' : World} {v : Value} {l : List Int} {g cap : Nat} (h : IsU w v l g cap) (hb : Below w.heap.size w w') (hn : 0 < l.length) : IsU w' v l g cap := h.block (hb.block g (h.lt hn))
theorem new_isU (W : World) (l : List Int) (hl : l.length ≤ 1000) (t : TypeId) : IsU (W.alloc (.cells (vU l).toArray t)).drew (.slice (some ⟨W.heap.size, 0, none⟩) l.length l.length) l W.heap.size l.length :=
  ⟨rfl, Nat.le_refl _, by unfold maxLen; omega, fun j hj => by
    show (W.alloc (.cells (vU l).toArray t)).cell? _ = _
    rw [cell_of_row _ _ j _ _ _ (heap_alloc_new W (.cells (vU l).toArray t))]
    simp [vU, hj]⟩
theorem dall_any (R : Reg) (hR : R.Wf) (w : World) :
    Calls Tryd.prog 12 #[.agg #[.int .u64 R.sI, .int .u64 R.tI, .int .u64 R.aI, .int .u64 R.pr, .int .u64 R.se, .int .u64 R.sD, .int .u64 R.ad, .int .u64 R.tD, .int .u64 R.aD]] w fun e w' => ∃ v g cap, e = .returned v ∧ IsU w' v (allL R) g cap ∧ Below w.heap.size w w' := by
  have B1 : Below w.heap.size w (w.alloc (.cells #[.int .u64 R.sI, .int .u64 R.tI, .int .u64 R.aI, .int .u64 R.pr, .int .u64 R.se, .int .u64 R.sD, .int .u64 R.ad, .int .u64 R.tD, .int .u64 R.aD] 27)) := (Below.refl _ _).alloc (Nat.le_refl _) _
  have N1 := nine_cells (heap_alloc_new w (.cells #[.int .u64 R.sI, .int .u64 R.tI, .int .u64 R.aI, .int .u64 R.pr, .int .u64 R.se, .int .u64 R.sD, .int .u64 R.ad, .int .u64 R.tD, .int .u64 R.aD] 27))
  obtain ⟨c0, c1, c2, c3, c4, c5, c6, c7, c8⟩ := N1
  have T1 := Lib.hid hR.aI
  have T2 := Lib.hid hR.aD
  have LT : w.heap.size < (w.alloc (.cells #[.int .u64 R.sI, .int .u64 R.tI, .int .u64 R.aI, .int .u64 R.pr, .int .u64 R.se, .int .u64 R.sD, .int .u64 R.ad, .int .u64 R.tD, .int .u64 R.aD] 27)).heap.size := by simp
  clear hR
  go_enter Tryd.func12, Tryd.ntmps12
  go_wp2_with fail
  generalize World.alloc w _ = W at *
  go_region_held3 (fun w1 => w1.cell? ⟨w.heap.size, 0, none⟩ = some (.int .u64 R.sI) ∧ w1.cell? ⟨w.heap.size, 1, none⟩ = some (.int .u64 R.tI) ∧ w1.cell? ⟨w.heap.size, 2, none⟩ = some (.int .u64 R.aI) ∧ w1.cell? ⟨w.heap.size, 3, none⟩ = some (.int .u64 R.pr) ∧ w1.cell? ⟨w.heap.size, 4, none⟩ = some (.int .u64 R.se) ∧ w1.cell? ⟨w.heap.size, 5, none⟩ = some (.int .u64 R.sD) ∧ w1.cell? ⟨w.heap.size, 6, none⟩ = some (.int .u64 R.ad) ∧ w1.cell? ⟨w.heap.size, 7, none⟩ = some (.int .u64 R.tD) ∧ w1.cell? ⟨w.heap.size, 8, none⟩ = some (.int .u64 R.aD)) (go_keep) (first | (go_at_call 26; (with_reducible refine (dtarget_any _ T1.out _).mono ?_); rintro r w' ⟨rfl, rfl⟩) | (go_at_call 26; (with_reducible refine (dtarget_any _ T2.out _).mono ?_); rintro r w' ⟨rfl, rfl⟩))
  all_goals go_wp2_with fail
  all_goals go_ret
  all_goals exact ⟨_, _, _, rfl, new_isU W (allL R) (by simp [allL]) 25, (B1.alloc (Nat.le_of_lt LT) _).drew⟩
theorem dsame_any (l : List Int) (u v : Value) (g cap g' cap' : Nat) (w : World) (hl : l.length ≤ 1000000) (h1 : IsU w u l g cap) (h2 : IsU w v l g' cap') :
    Calls Tryd.prog 10 #[u, v] w fun e w' => e = .returned (.bool true) ∧ ∃ n, w' = w.drewN n := by
  obtain ⟨rfl, c1, c2, hc⟩ := h1
  obtain ⟨rfl, c3, c4, hc'⟩ := h2
  go_enter Tryd.func10, Tryd.ntmps10
  go_wp2
  go_loopw [5] (fun i wr => ∃ k : Nat, k ≤ l.length ∧ i = .int .i64 (k : Int) ∧ ∃ n, wr = w.drewN n) (fun i _ => l.length - (intOf i).toNat)
  case atStart => exact ⟨0, by omega, rfl, 0, rfl⟩
  case round =>
    obtain ⟨k, hk, rfl, n, rfl⟩ := hrel
    by_cases hlt : k < l.length
    · have a1 := hc k hlt
      have a2 := hc' k hlt
      generalize l[k] = x at *
      go_wp2
      go_quiet (fail)
      go_wp2
      go_roundw
      case rel => exact ⟨k + 1, by omega, by go_num, _, rfl⟩
      case measure => simp [intOf]; omega
    · go_wp2
      go_ret
      exact ⟨rfl, n, rfl⟩
theorem Turn.toBelow {a b : World} {bm B : Nat} (h : Turn a b bm) (hn : B ≤ bm) (hB : B ≤ a.heap.size) : Below B a b := ⟨h.os, h.tape, h.output, h.size, fun k hk => h.block k (by omega) (by omega)⟩
theorem lives_any (w : World) (h : Tab w) :
    Calls Tryd.prog 14 #[] w fun e w' => e = .returned (.bool true) ∧ Below w.heap.size w w' := by
  have C := Lib.hid (new_any w h)
  go_enter Tryd.func14, Tryd.ntmps14
  go_wp2_with fail
  refine C.out.mono ?_; rintro e w1 ⟨rfl, H1, B1⟩
  go_wp2_with fail
  refine (miss_any _ _ Reg.zero 1 4202496 5 (by unfold U; omega) (by omega) (by omega) _ H1).mono ?_; rintro e w2 ⟨rfl, H2, T2⟩
  have B2 := B1.trans (T2.toBelow (Nat.le_refl _) B1.size)
  rw [show misE 1 5 = 0 from rfl]
  clear T2 H1 B1 C
  go_wp2_with fail
  refine (read_any _ _ _ 88 48 (by decide) (by decide) _ H2).mono ?_; rintro e w3 ⟨rfl, b3⟩
  have H3 := H2.below b3 (Nat.le_refl _)
  have B3 := B2.trans (b3.mono B2.size)
  rw [show regV (misR Reg.zero 1 4202496 5) 88 48 = 4202501 from rfl, show regE 88 48 = 0 from rfl]
  clear H2 B2 b3
  go_wp2_with fail
  refine (read_any _ _ _ 88 0 (by decide) (by decide) _ H3).mono ?_; rintro e w4 ⟨rfl, b4⟩
  have H4 := H3.below b4 (Nat.le_refl _)
  have B4 := B3.trans (b4.mono B3.size)
  rw [show regV (misR Reg.zero 1 4202496 5) 88 0 = 1407374883553281 from rfl, show regE 88 0 = 0 from rfl]
  clear H3 B3 b4
  go_wp2_with fail
  refine (all_any _ _ _ _ H4).mono ?_; rintro e w5 ⟨v, rfl, ho, b5⟩
  have B5 := B4.trans (b5.mono B4.size)
  obtain ⟨g, cap, hU, _⟩ := own_isU ho (by decide)
  have he := hU.eq
  rw [show (allL (misR Reg.zero 1 4202496 5)).length = 11 from rfl] at he
  obtain rfl := he
  clear H4 B4 b5 ho hU
  go_wp2_with fail
  go_ret
  exact ⟨rfl, B5⟩
end Go.Proofs.YtohcmijgakijfaaDoor.Rg
